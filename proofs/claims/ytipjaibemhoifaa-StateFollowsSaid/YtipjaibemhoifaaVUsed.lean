/- The routes that have stops, in order. -/
import Derived.Test.YtipjaibemhoifaaVStab
import Derived.Test.YtipjaibemhoifaaXRef
import Derived.Test.YtipjaibemhoifaaXPrint
import Derived.Lib.SliceRun
namespace Go.Proofs.Ytipjaibemhoifaa
open Go.ChangeShapes Go.WideShapes Go.ChangeAt Go.RowKit

/-- A plan by value. -/
def planV (v : Value) : Value := .agg #[v]
def boxP (v : Value) : Obj := .cells #[v] 44
/-- The routes that have stops. -/
def usedL (L : List (List Int)) : List (List Int) := L.filter (fun l => !l.isEmpty)
def ordL (L : List (List Int)) : List (List Int) := sortL (usedL L)
theorem usedL_full (L : List (List Int)) : Full (usedL L) := by
  intro l hl
  have := (List.mem_filter.1 hl).2
  cases l with
  | nil => simp at this
  | cons x l => simp
theorem usedL_len (L : List (List Int)) : (usedL L).length ≤ L.length := List.length_filter_le _ _
theorem ordL_len (L : List (List Int)) : (ordL L).length ≤ L.length := by unfold ordL; rw [sortL_len]; exact usedL_len L
theorem ordL_mem (L : List (List Int)) (l : List Int) : l ∈ ordL L ↔ l ∈ L ∧ l ≠ [] := by
  unfold ordL usedL
  rw [sortL_mem, List.mem_filter]
  cases l <;> simp
theorem usedL_snoc (L : List (List Int)) (l : List Int) : usedL (L ++ [l]) = if l = [] then usedL L else usedL L ++ [l] := by
  unfold usedL
  rw [List.filter_append]
  cases l <;> simp
set_option maxRecDepth 1000000 in
set_option maxHeartbeats 1000000 in
theorem clone_any {w : World} {u : Value} {l : List Int} (h : Row w u (ints l)) (hl : l ≠ []) (hlen : l.length ≤ 1000000) :
    Calls Try.prog 98 #[u] w fun e w' => ∃ v, e = .returned v ∧ OwnI w' w.heap.size v l ∧ Below w.heap.size w w' := by
  have H := Lib.hid h
  obtain ⟨tb, off, cap, rfl, _⟩ := row_at (p := 0) h (by rw [ints_len]; exact List.length_pos_iff.2 hl)
  rw [ints_len] at *
  clear h
  have hnil : ∀ (W : World) (a : Option Addr) (n c : Nat), (binOp .eql 34 (.slice a n c) (.slice none 0 0)).run Try.prog W = .ok (.bool a.isNone) W := fun W a n c => Lib.run_eql_slice_nil W _ _ a n c 0 0 Try.underlying34
  go_enter Try.func98, Try.ntmps98
  go_wp2_with (first | (at_builtin; refine app_ints rfl _ _ rfl w.heap.size _ [] rfl (World.ownsRow_made w #[] 0 (Nat.le_refl _) (Nat.zero_le _) (by simp)) _ l rfl (H.out.below ((Below.refl _ _).alloc (Nat.le_refl _) _)) (by simpa using (by omega : l.length ≤ 10000000)) (by simp) ?_))
  intro v' w' own grown _
  have HO := Lib.hid own
  have HB := Lib.hid (((Below.refl _ w).alloc (Nat.le_refl _) (.cells #[] 3)).grown grown (by simp) (by intro k hk; simp [Value.ownBlock] at hk; omega))
  clear own grown
  go_wp2
  go_ret
  exact ⟨_, rfl, by simpa using HO.out, HB.out⟩
theorem take_getD {L : List (List Int)} {k : Nat} (hk : k < L.length) : L.take (k + 1) = L.take k ++ [L.getD k []] := by
  rw [List.take_add_one, List.getD_eq_getElem?_getD, List.getElem?_eq_getElem hk]; rfl
set_option maxRecDepth 1000000 in
set_option maxHeartbeats 4000000 in
theorem used_any {w : World} {v : Value} {L : List (List Int)} (h : IsLL w v L) (hlen : L.length ≤ 1000) (hr : ∀ l ∈ L, l.length ≤ 1000000) :
    Calls Try.prog 77 #[planV v] w fun e w' => ∃ u, e = .returned u ∧ OwnLL w' w.heap.size u (usedL L) ∧ Below w.heap.size w w' := by
  have H := Lib.hid h
  have HR := Lib.hid (show ∀ k, k < L.length → (L.getD k []).length ≤ 1000000 from fun k hk => by
    rw [List.getD_eq_getElem?_getD, List.getElem?_eq_getElem hk]; exact hr _ (List.getElem_mem hk))
  obtain ⟨ad, cap, rfl, _⟩ := h.form
  clear h hr
  unfold planV
  go_enter Try.func77, Try.ntmps77
  go_wp2_with fail
  have HB0 := Lib.hid ((Below.refl _ w).alloc (Nat.le_refl _) (.cells #[.slice ad L.length cap] 44))
  go_loopw [3, 9] (fun out i wr => ∃ (k : Nat), k ≤ L.length ∧ i = .int .i64 k ∧ OwnLL wr w.heap.size out (usedL (L.take k)) ∧ Below w.heap.size w wr) (fun _ i _ => L.length - (intOf i).toNat)
  case atStart => exact ⟨0, Nat.zero_le _, rfl, ownLL_nil _ _, HB0.out⟩
  case round =>
    obtain ⟨k, hk, rfl, ho, hbw⟩ := hrel
    have HO := Lib.hid ho
    have HBW := Lib.hid hbw
    by_cases hlt : k < L.length
    · have hl2 : (k : Int) < (L.length : Int) := by omega
      have hli := H.out.below hbw
      obtain ⟨tb, off, a1, n1, c1, rfl, htb, hc, hn1, hm1, hrow⟩ := ll_at hli k hlt
      have HRow := Lib.hid hrow
      have HLl := Lib.hid (HR.out k hlt)
      have HT := Lib.hid (take_getD hlt)
      have HU := Lib.hid (usedL_len (L.take k))
      generalize L.getD k [] = l at *
      subst hn1
      have hm2 : l.length ≤ 9223372036854775807 := by unfold maxLen at hm1; omega
      clear ho hbw hli hrow hm1 htb
      by_cases he : l = []
      · have hl0 : ¬ (0 : Int) < (l.length : Int) := by rw [he]; simp
        go_wp2_with fail
        go_roundw
        case rel => exact ⟨k + 1, by omega, by go_num, by rw [HT.out, usedL_snoc, if_pos he]; exact HO.out, HBW.out⟩
        case measure => simp [intOf]; omega
      · have hl0 : (0 : Int) < (l.length : Int) := by have := List.length_pos_iff.2 he; omega
        go_wp2_with fail
        refine (clone_any HRow.out he HLl.out).mono ?_
        rintro e w2 ⟨u, rfl, hu, hb⟩
        have HU2 := Lib.hid (hu.less HBW.out.size)
        have HO2 := Lib.hid (HO.out.below hb)
        have HB2 := Lib.hid (HBW.out.trans (hb.mono HBW.out.size))
        clear hu hb
        obtain ⟨ua, uc, rfl⟩ := HU2.out.shape
        have hsz : (usedL (L.take k)).length ≤ 1000000 := by have := HU.out; rw [List.length_take] at this; omega
        go_wp2_with (first | (at_builtin; refine app_line rfl _ _ rfl w.heap.size _ _ rfl w2 _ rfl HO2.out l rfl HU2.out hsz HB2.out.size ?_))
        intro v' w3 own grown
        have HO3 := Lib.hid own
        have HB3 := Lib.hid (madeL HB2.out HO2.out grown)
        clear own grown
        go_wp2_with fail
        go_roundw
        case rel => exact ⟨k + 1, by omega, by go_num, by rw [HT.out, usedL_snoc, if_neg he]; exact HO3.out, HB3.out⟩
        case measure => simp [intOf]; omega
    · obtain rfl : k = L.length := by omega
      clear ho hbw
      have hl2 : ¬ (L.length : Int) < (L.length : Int) := by omega
      go_wp2
      go_ret
      exact ⟨_, rfl, by have := HO.out; rw [List.take_length] at this; exact this, HBW.out⟩
end Go.Proofs.Ytipjaibemhoifaa
