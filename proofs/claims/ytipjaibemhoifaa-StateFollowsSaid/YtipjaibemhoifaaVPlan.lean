/- What Sorted and Print answer. -/
import Derived.Test.YtipjaibemhoifaaVUsed
import Derived.Deep.CutRange
namespace Go.Proofs.Ytipjaibemhoifaa
open Go.ChangeShapes Go.WideShapes Go.ChangeAt Go.RowKit

set_option maxRecDepth 1000000 in
theorem insertion_nil (w : World) : Calls Try.prog 109 #[.slice none 0 0, .int .i64 0, .int .i64 0, .func (.func 79) #[] #[]] w fun e w' => e = .returned (.tuple #[]) ∧ w' = w := by
  go_enter Try.func109, Try.ntmps109
  go_wp2_with fail
  go_loopw [8] (fun i wr => i = .int .i64 1 ∧ wr = w) (fun _ _ => 0)
  case atStart => exact ⟨rfl, rfl⟩
  case round =>
    obtain ⟨rfl, rfl⟩ := hrel
    go_wp2
    go_end0
    exact ⟨rfl, rfl⟩
set_option maxRecDepth 1000000 in
theorem stable_nil (w : World) : Calls Try.prog 99 #[.slice none 0 0, .int .i64 0, .func (.func 79) #[] #[]] w fun e w' => e = .returned (.tuple #[]) ∧ w' = w := by
  go_enter Try.func99, Try.ntmps99
  go_wp2_with fail
  go_loopw [7, 8] (fun i j wr => i = .int .i64 0 ∧ j = .int .i64 20 ∧ wr = w) (fun _ _ _ => 0)
  case atStart => exact ⟨rfl, rfl, rfl⟩
  case round =>
    obtain ⟨rfl, rfl, rfl⟩ := hrel
    obtain ⟨wo, hwo⟩ : ∃ wo, wo = wr := ⟨_, rfl⟩
    subst hwo
    go_wp2_with fail
    refine (insertion_nil _).mono ?_
    rintro e w' ⟨rfl, rfl⟩
    go_wp2_with fail
    go_loopw [6] (fun i wr => i = .int .i64 20 ∧ wr = w') (fun _ _ => 0)
    case atStart => exact ⟨rfl, rfl⟩
    case round =>
      obtain ⟨rfl, rfl⟩ := hrel
      go_wp2
      go_end0
      exact ⟨rfl, rfl⟩
set_option maxRecDepth 1000000 in
theorem sortStable_any {w : World} {B : Nat} {u : Value} {L : List (List Int)} (h : OwnLL w B u L) (hf : Full L) (hlen : L.length ≤ 1000000) :
    Calls Try.prog 78 #[u, .func (.func 79) #[] #[]] w fun e w' => e = .returned (.tuple #[]) ∧ OwnLL w' B u (sortL L) ∧ Below B w w' := by
  have hform : (u = .slice none 0 0 ∧ L = []) ∨ ∃ g cap, u = .slice (some ⟨g, 0, none⟩) L.length cap := by
    obtain ⟨vs, h1, h2⟩ := h
    rcases h1.2 with ⟨rfl, hn⟩ | ⟨g, cap, cur, rfl, _⟩
    · exact .inl ⟨rfl, by have := h2.in.len; exact List.eq_nil_of_length_eq_zero (by omega)⟩
    · exact .inr ⟨g, cap, by rw [h2.in.len]⟩
  rcases hform with ⟨rfl, rfl⟩ | ⟨g, cap, rfl⟩
  · have H := Lib.hid h
    clear h
    go_enter Try.func78, Try.ntmps78
    go_wp2_with fail
    refine (stable_nil _).mono ?_
    rintro e w' ⟨rfl, rfl⟩
    go_wp2
    go_end0
    exact ⟨rfl, H.out, Below.refl _ _⟩
  · have hlen2 : L.length ≤ 9223372036854775807 := by omega
    have HS := Lib.hid (stable_any hf h hlen)
    clear h hf
    go_enter Try.func78, Try.ntmps78
    go_wp2_with fail
    refine HS.out.mono ?_
    rintro e w' ⟨rfl, ho, hb⟩
    have HO := Lib.hid ho
    have HB := Lib.hid hb
    clear ho hb HS
    go_wp2
    go_end0
    exact ⟨rfl, HO.out, HB.out⟩
set_option maxRecDepth 1000000 in
set_option maxHeartbeats 1000000 in
theorem vsorted_all {w : World} {v : Value} {L : List (List Int)} (h : IsLL w v L) (hlen : L.length ≤ 1000) (hr : ∀ l ∈ L, l.length ≤ 1000000) :
    Calls Try.prog 45 #[planV v] w fun e w' => ∃ u, e = .returned (planV u) ∧ OwnLL w' w.heap.size u (ordL L) ∧ Below w.heap.size w w' := by
  have HR := Lib.hid hr
  have HL := Lib.hid (show (usedL L).length ≤ 1000000 by have := usedL_len L; omega)
  have HN := Lib.hid (show ordL L = sortL (usedL L) from rfl)
  have HB0 := Lib.hid (((Below.refl _ w).alloc (Nat.le_refl _) (.cells #[v] 44)).alloc (by simp) (.cells #[.slice none 0 0] 44))
  have H := Lib.hid (h.below (((Below.refl _ w).alloc (Nat.le_refl _) (.cells #[v] 44)).alloc (by simp) (.cells #[.slice none 0 0] 44)))
  obtain ⟨ad, cap, rfl, _⟩ := h.form
  clear h hr
  unfold planV
  go_enter Try.func45, Try.ntmps45
  go_wp2_with fail
  have hb1 : ((w.alloc (.cells #[.slice ad L.length cap] 44)).alloc (.cells #[.slice none 0 0] 44)).heap[w.heap.size + 1]? = some (.cells #[.slice none 0 0] 44 (0, 0)) := by
    have := heap_alloc_new (w.alloc (.cells #[.slice ad L.length cap] 44)) (.cells #[.slice none 0 0] 44)
    simpa using this
  have HZ := Lib.hid hb1
  have hsz : w.heap.size + 2 = ((w.alloc (.cells #[.slice ad L.length cap] 44)).alloc (.cells #[.slice none 0 0] 44)).heap.size := by simp
  have HSZ := Lib.hid hsz
  clear hb1 hsz
  change Calls _ _ #[planV (.slice ad L.length cap)] _ _
  generalize (w.alloc (.cells #[.slice ad L.length cap] 44)).alloc (.cells #[.slice none 0 0] 44) = W at *
  refine (used_any H.out (by omega) HR.out).mono ?_
  rintro e w2 ⟨u, rfl, hu, hb⟩
  have HU := Lib.hid hu
  have HB2 := Lib.hid hb
  clear hu hb
  go_wp2_with fail
  refine (sortStable_any HU.out (usedL_full L) HL.out).mono ?_
  rintro e w3 ⟨rfl, ho, hb⟩
  have HO := Lib.hid ho
  have HB3 := Lib.hid (HB2.out.trans hb)
  have HZ3 := Lib.hid (show w3.heap[w.heap.size + 1]? = some (.cells #[.slice none 0 0] 44 (0, 0)) by rw [(HB2.out.trans hb).block _ (by have := HSZ.out; omega)]; exact HZ.out)
  clear ho hb
  obtain ⟨ua, uc, rfl⟩ := (show ∃ a c, u = .slice a (usedL L).length c from by
    obtain ⟨vs, h1, h2⟩ := HU.out
    rw [← h2.in.len]; exact own_shape h1)
  have z0 : w3.cell? ⟨w.heap.size + 1, 0, none⟩ = some (.slice none 0 0) := by rw [cell_of_row w3 _ 0 _ _ _ HZ3.out]; rfl
  have f0 := frozen_of_row w3 (w.heap.size + 1) 0 _ _ HZ3.out
  generalize hn : (usedL L).length = nu at *
  have HNu := Lib.hid hn
  clear hn
  go_wp2_with fail
  have hgr : w3.grownBy (w3.setCell ⟨w.heap.size + 1, 0, none⟩ (.slice ua nu uc)) (some (w.heap.size + 1)) := ⟨rfl, rfl, rfl, by simp [World.setCell], fun k _ hk => heap_setCell_other w3 ⟨w.heap.size + 1, 0, none⟩ k _ (fun e => hk (by rw [e]))⟩
  have HO4 := Lib.hid ((HO.out.later hgr (fun g hg => by simp at hg; have := HSZ.out; omega)).less (B' := w.heap.size) (by have := HSZ.out; omega))
  have HB4 := Lib.hid ((HB0.out.trans (HB3.out.mono HB0.out.size)).setCell (p := ⟨w.heap.size + 1, 0, none⟩) (Nat.le_succ _) (.slice ua nu uc))
  exact bodyPost_ret (v := .agg #[.slice ua nu uc]) (by simp [results, Try.results45, go_sem, z0]) rfl ⟨_, rfl, by rw [HN.out]; exact HO4.out, HB4.out⟩
theorem vsorted_any {w : World} {v : Value} {L : List (List Int)} (h : IsLL w v L) (hlen : L.length ≤ 40) (hr : ∀ l ∈ L, l.length ≤ 1000000) :
    Calls Try.prog 45 #[planV v] w fun e w' => ∃ u, e = .returned (planV u) ∧ OwnLL w' w.heap.size u (ordL L) ∧ Below w.heap.size w w' := vsorted_all h (by omega) hr
/-- At most forty routes, of at most a hundred stops each. -/
def FewP (L : List (List Int)) : Prop := L.length ≤ 40 ∧ ∀ l ∈ L, l.length ≤ 100
instance (L : List (List Int)) : Decidable (FewP L) := by unfold FewP; infer_instance
theorem FewP.rows {L : List (List Int)} (h : FewP L) : ∀ l ∈ L, l.length ≤ 1000000 := fun l hl => by have := h.2 l hl; omega
theorem cnt_few : ∀ (L : List (List Int)), (∀ l ∈ L, l.length ≤ 100) → cnt L ≤ 100 * L.length
  | [], _ => by simp [cnt]
  | l :: L, h => by
    have := cnt_few L (fun x hx => h x (by simp [hx]))
    have := h l (by simp)
    simp [cnt]; omega
theorem fits_ord {L : List (List Int)} (hf : Fits L) : Fits (ordL L) := fun l hl => hf l ((ordL_mem L l).1 hl).1
theorem few_ord {L : List (List Int)} (h : FewP L) : FewP (ordL L) := ⟨Nat.le_trans (ordL_len L) h.1, fun l hl => h.2 l ((ordL_mem L l).1 hl).1⟩
theorem few_text {L : List (List Int)} (h : FewP L) (hf : Fits L) : (textOf L).length ≤ 5000000 := by
  have h1 := textOf_len L (fun l hl n hn => by have := hf l hl n hn; omega)
  have h2 := cnt_few L h.2
  have := h.1
  omega
theorem planV_fits {w : World} {v : Value} {L : List (List Int)} (h : IsLL w v L) (i : Nat) (hi : i < L.length) : (L.getD i []).length ≤ maxLen := by
  obtain ⟨a, cap, rfl, _⟩ := h.form
  obtain ⟨_, _, _, _, _, _, _, _, rfl, hm, _⟩ := ll_at h i hi
  exact hm
theorem fewp_step {L : List (List Int)} {k : Nat} (hk : k < L.length) (h : ∀ l ∈ L.take k, l.length ≤ 100) (hc : (L.getD k []).length ≤ 100) : ∀ l ∈ L.take (k + 1), l.length ≤ 100 := by
  intro l hl
  rw [take_getD hk] at hl
  simp only [List.mem_append, List.mem_singleton] at hl
  rcases hl with hl | rfl
  · exact h l hl
  · exact hc
set_option maxRecDepth 1000000 in
set_option maxHeartbeats 1000000 in
theorem vfew_any {w : World} {v : Value} {L : List (List Int)} (h : IsLL w v L) : Calls Try.prog 23 #[planV v] w fun e w' => e = .returned (.bool (decide (FewP L))) ∧ Below w.heap.size w w' := by
  have HB0 := Lib.hid ((Below.refl _ w).alloc (Nat.le_refl _) (.cells #[v] 44))
  have H := Lib.hid h
  obtain ⟨ad, cap, rfl, hm⟩ := h.form
  have hm1 : L.length ≤ 9223372036854775807 := by unfold maxLen at hm; omega
  clear h hm
  unfold planV
  by_cases hl : 40 < L.length
  · have hl2 : (40 : Int) < (L.length : Int) := by omega
    have HD := Lib.hid (show decide (FewP L) = false from decide_eq_false (fun h => by have := h.1; omega))
    go_enter Try.func23, Try.ntmps23
    go_wp2
    go_ret
    exact ⟨by rw [HD.out]; rfl, HB0.out⟩
  · have hl2 : ¬ (40 : Int) < (L.length : Int) := by omega
    go_enter Try.func23, Try.ntmps23
    go_upto_region 1 with fail
    have hx : (w.alloc (.cells #[.slice ad L.length cap] 44)).cell? ⟨w.heap.size, 0, none⟩ = some (.slice ad L.length cap) := by rw [cell_of_row _ _ _ _ _ _ (heap_alloc_new w _)]; rfl
    have HH := Lib.hid (H.out.below ((Below.refl _ w).alloc (Nat.le_refl _) (.cells #[.slice ad L.length cap] 44)))
    generalize w.alloc (.cells #[.slice ad L.length cap] 44) = W at *
    go_wp2_with fail
    go_loop [3] (fun i => ∃ k : Nat, k ≤ L.length ∧ i = .int .i64 k ∧ ∀ l ∈ L.take k, l.length ≤ 100) (fun i => L.length - (intOf i).toNat)
    case atStart => exact ⟨0, Nat.zero_le _, rfl, by simp⟩
    case round =>
      obtain ⟨k, hk, rfl, hall⟩ := hrel
      have HA := Lib.hid hall
      clear hall
      by_cases hlt : k < L.length
      · obtain ⟨tb, off, a1, n1, c1, rfl, _, hc, hn1, _, r1⟩ := ll_at HH.out k hlt
        have HN := Lib.hid hn1
        clear hn1 r1
        by_cases h1 : 100 < n1
        · have hd1 : (100 : Int) < (n1 : Int) := by omega
          have HD := Lib.hid (show decide (FewP L) = false from decide_eq_false (fun h => by
            have := h.2 (L.getD k []) (by rw [List.getD_eq_getElem?_getD, List.getElem?_eq_getElem hlt]; exact List.getElem_mem hlt)
            rw [← HN.out] at this; omega))
          go_wp2
          go_ret
          exact ⟨ret_bool HD.out.symm, HB0.out⟩
        · have hd1 : ¬ (100 : Int) < (n1 : Int) := by omega
          have HS := Lib.hid (fewp_step hlt HA.out (by rw [← HN.out]; omega))
          go_wp2
          go_round
          case rel => exact ⟨k + 1, by omega, by go_num, HS.out⟩
          case measure => simp [intOf]; omega
      · obtain rfl : k = L.length := by omega
        rw [List.take_length] at HA
        have HD := Lib.hid (show decide (FewP L) = true from decide_eq_true ⟨by omega, HA.out⟩)
        clear hlt hk
        go_wp2
        go_ret
        exact ⟨ret_bool HD.out.symm, HB0.out⟩
end Go.Proofs.Ytipjaibemhoifaa
