/- What tour.Join and the document's Join answer. -/
import Derived.Test.YtipjaibemhoifaaUCut
namespace Go.Proofs.Ytipjaibemhoifaa
open Go.ChangeShapes Go.WideShapes Go.ChangeAt Go.RowKit

theorem joinL_le (L : List (List Int)) : (joinL L).length ≤ (glue L).length := by unfold joinL; rw [List.length_tail]; omega
theorem join_room {M : List (List Int)} {k : Nat} (hk : k < M.length) : (joinL (M.take k)).length + (M.getD k []).length + 1 ≤ (glue M).length := by
  have h1 := joinL_le (M.take k)
  have h2 : glue M = glue (M.take (k + 1)) ++ glue (M.drop (k + 1)) := by rw [← glue_app, List.take_append_drop]
  rw [h2, take_getD hk, glue_snoc]
  simp only [List.length_append, List.length_cons]
  omega
theorem join_first {M : List (List Int)} (hk : 0 < M.length) : joinL (M.take 1) = M.getD 0 [] := by
  rw [show (1 : Nat) = 0 + 1 from rfl, take_getD hk, joinL_snoc, if_pos (by simp)]
theorem join_next {M : List (List Int)} {k : Nat} (hk : k < M.length) (h0 : 0 < k) : joinL (M.take (k + 1)) = joinL (M.take k) ++ 0 :: M.getD k [] := by
  rw [take_getD hk, joinL_snoc, if_neg (by intro e; have := congrArg List.length e; rw [List.length_take, List.length_nil] at this; omega)]
theorem ord_glue (L : List (List Int)) : (glue (ordL L)).length = sumL L := by
  rw [glue_len (ord_full L), ← sumL_used L]
  exact sumL_perm (stab_sortL (usedL L)).perm
set_option maxRecDepth 1000000 in
set_option maxHeartbeats 4000000 in
theorem join_any {w : World} {v : Value} {L : List (List Int)} (h : IsLL w v L) (hn : L.length ≤ 1000) (hr : ∀ l ∈ L, l.length ≤ 1000000) (hs : sumL L ≤ 1000000) :
    Calls Try.prog 25 #[planV v] w fun e w' => ∃ u, e = .returned u ∧ OwnI w' w.heap.size u (joinL (ordL L)) ∧ Below w.heap.size w w' := by
  have HB0 := Lib.hid ((Below.refl _ w).alloc (Nat.le_refl _) (.cells #[v] 44))
  have H := Lib.hid (h.below ((Below.refl _ w).alloc (Nat.le_refl _) (.cells #[v] 44)))
  have HR := Lib.hid hr
  have HS := Lib.hid hs
  obtain ⟨ad, cap, rfl, hm⟩ := h.form
  clear h hr hs hm
  unfold planV
  go_enter Try.func25, Try.ntmps25
  go_wp2_with fail
  change Calls _ _ #[planV (.slice ad L.length cap)] _ _
  generalize w.alloc (.cells #[.slice ad L.length cap] 44) = W at *
  refine (vsorted_all H.out hn HR.out).mono ?_
  rintro e w2 ⟨u, rfl, hu, hb⟩
  have HB2 := Lib.hid (HB0.out.trans (hb.mono HB0.out.size))
  have HRM := Lib.hid (show ∀ k, k < (ordL L).length → _ from fun k hk => join_room hk)
  have hML : (ordL L).length ≤ 1000 := by have := ordL_len L; omega
  have HGL := Lib.hid (show (glue (ordL L)).length ≤ 1000000 by rw [ord_glue]; exact HS.out)
  obtain ⟨M, hM⟩ : ∃ M, ordL L = M := ⟨_, rfl⟩
  rw [hM] at hu HRM hML HGL
  have HMM := Lib.hid hM
  have HU := Lib.hid hu.is
  obtain ⟨ua, uc, rfl⟩ := hu.shape
  have hM1 : M.length ≤ 9223372036854775807 := by omega
  clear hu hb hM
  have hfld : ∀ W, (Instr.field 44 (.agg #[.slice ua M.length uc]) 0).run Try.prog W = .ok (.slice ua M.length uc) W := fun W => by kernel_rfl
  unfold planV
  go_wp2_with fail
  go_loopw [3, 10] (fun out i wr => ∃ k : Nat, k ≤ M.length ∧ i = .int .i64 k ∧ OwnI wr w2.heap.size out (joinL (M.take k)) ∧ Below w2.heap.size w2 wr) (fun _ i _ => M.length - (intOf i).toNat)
  case atStart => exact ⟨0, Nat.zero_le _, rfl, ownI_nil _ _, Below.refl _ _⟩
  case round =>
    obtain ⟨k, hk, rfl, ho, hbw⟩ := hrel
    have HO := Lib.hid ho
    have HBW := Lib.hid hbw
    by_cases hlt : k < M.length
    · have hlt2 : (k : Int) < (M.length : Int) := by omega
      obtain ⟨tb, off, a1, n1, c1, rfl, htb, hcw, hn1, _, hrow⟩ := ll_at HU.out k hlt
      have hcl := (hbw.cell (p := ⟨tb, off + k, none⟩) htb).trans hcw
      have HRow := Lib.hid hrow
      have HRM1 := Lib.hid (HRM.out k hlt)
      have HF := Lib.hid (fun h => join_first (M := M) h)
      have HN := Lib.hid (fun h => join_next (M := M) (k := k) hlt h)
      have hrl : (M.getD k []).length ≤ 1000000 := by have := HRM.out k hlt; have := HGL.out; omega
      have hjl : (joinL (M.take k)).length ≤ 1000000 := by have := HRM.out k hlt; have := HGL.out; omega
      by_cases hk0 : k = 0
      · subst hk0
        rw [Nat.add_zero] at hcl
        have HJ := Lib.hid (show joinL (M.take 1) = M.getD 0 [] from HF.out hlt)
        have HO1 := Lib.hid (show OwnI wr w2.heap.size u3 [] from HO.out)
        generalize M.getD 0 [] = r at *
        subst hn1
        clear ho hbw hrow hcw htb HF HN HRM1 HO hjl
        go_wp2_with (first | (at_builtin; refine app_ints rfl _ _ rfl w2.heap.size _ [] rfl HO1.out _ r rfl (HRow.out.below HBW.out) (by simp; omega) HBW.out.size ?_))
        intro v' w3 own grown _
        have HO3 := Lib.hid own
        have HB3 := Lib.hid (HBW.out.grown grown HBW.out.size (fun q hq => (World.ownsRow.lt HO1.out q hq).1))
        clear own grown
        go_wp2_with fail
        go_roundw
        case rel => exact ⟨1, by omega, by go_num, by rw [HJ.out]; simpa using HO3.out, HB3.out⟩
        case measure => simp [intOf]; omega
      · have hk1 : (0 : Int) < (k : Int) := by omega
        have HJ := Lib.hid (HN.out (by omega))
        generalize M.getD k [] = r at *
        generalize joinL (M.take k) = J at *
        subst hn1
        clear ho hbw hrow hcw htb HF HN HRM1
        go_wp2_with (first | (at_builtin; refine app_ints rfl _ _ rfl w2.heap.size _ J rfl (HO.out.alloc _) _ [0] rfl (row_newi _ _) (by simp; omega) (by have := HBW.out.size; simp; omega) ?_))
        intro v3 w3 own grown _
        have HO3 := Lib.hid own
        have HB3 := Lib.hid (madei HBW.out HO.out grown)
        clear own grown hcl
        go_wp2_with (first | (at_builtin; refine app_ints rfl _ _ rfl w2.heap.size _ _ rfl HO3.out _ r rfl (HRow.out.below HB3.out) (by simp; omega) HB3.out.size ?_))
        intro v4 w4 own grown _
        have HO4 := Lib.hid own
        have HB4 := Lib.hid (HB3.out.grown grown HB3.out.size (fun q hq => (World.ownsRow.lt HO3.out q hq).1))
        clear own grown
        go_wp2_with fail
        go_roundw
        case rel => exact ⟨k + 1, by omega, by go_num, by rw [HJ.out]; exact HO4.out, HB4.out⟩
        case measure => simp [intOf]; omega
    · obtain rfl : k = M.length := by omega
      have hl2 : ¬ (M.length : Int) < (M.length : Int) := by omega
      have HE := Lib.hid (show OwnI wr w2.heap.size u3 (joinL M) by have := HO.out; rwa [List.take_length] at this)
      clear ho hbw HO
      go_wp2
      go_ret
      exact ⟨_, rfl, by rw [HMM.out]; exact own_less HE.out HB2.out.size, HB2.out.trans (HBW.out.mono HB2.out.size)⟩
end Go.Proofs.Ytipjaibemhoifaa
