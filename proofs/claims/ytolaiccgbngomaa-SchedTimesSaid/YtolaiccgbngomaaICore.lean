/- What the small functions answer: within, yardMay, stopsMay, demandsMay; the document's in and stop. -/
import Derived.Test.YtolaiccgbngomaaIMem
import Derived.StillTailTactics
namespace Go.Proofs.Ytolaiccgbngomaa
open Go.ChangeShapes Go.WideShapes Go.ChangeAt Go.RowKit

def inAll (a b : Int) (l : List Int) : Bool := decide (∀ n ∈ l, inb a b n = true)
theorem inAll_take {a b : Int} {l : List Int} {k : Nat} (hk : k < l.length) (h : inAll a b (l.take k) = true) (hx : inb a b (l.getD k 0) = true) : inAll a b (l.take (k + 1)) = true := by
  unfold inAll at *
  rw [decide_eq_true_iff] at *
  intro n hn
  rw [List.take_add_one, List.getElem?_eq_getElem hk] at hn
  simp only [List.mem_append, Option.toList_some, List.mem_singleton] at hn
  rcases hn with hn | rfl
  · exact h n hn
  · rw [List.getD_eq_getElem?_getD, List.getElem?_eq_getElem hk] at hx; exact hx
theorem inAll_not {a b : Int} {l : List Int} {k : Nat} (hk : k < l.length) (hx : inb a b (l.getD k 0) = false) : inAll a b l = false := by
  unfold inAll
  rw [decide_eq_false_iff_not]
  intro h
  have := h (l.getD k 0) (by rw [List.getD_eq_getElem?_getD, List.getElem?_eq_getElem hk]; simp)
  rw [hx] at this; simp at this
set_option maxRecDepth 100000 in
theorem within_any {w : World} {v : Value} (a b : Int) (l : List Int) (h : Row w v (ints l)) :
    Calls Try.prog 29 #[.int .i64 a, .int .i64 b, v] w fun e w' => e = .returned (.bool (inAll a b l)) ∧ w' = w := by
  have H := Lib.hid h
  obtain ⟨ad, cap, rfl, hm⟩ := h.form
  simp only [ints_len] at *
  have hm1 : l.length ≤ 9223372036854775807 := by unfold maxLen at hm; omega
  clear h hm
  go_enter Try.func29, Try.ntmps29
  go_wp2
  go_loop [8, 11] (fun _ i => ∃ k : Nat, k ≤ l.length ∧ i = .int .i64 k ∧ inAll a b (l.take k) = true) (fun _ i => l.length - (intOf i).toNat)
  case atStart => exact ⟨0, Nat.zero_le _, rfl, by simp [inAll]⟩
  case round =>
    obtain ⟨k, hk, rfl, hall⟩ := hrel
    have HA := Lib.hid hall
    clear hall
    by_cases hlt : k < l.length
    · obtain ⟨tb, off, rfl, hc, _⟩ := row_cell H.out k (by rw [ints_len]; exact hlt)
      rw [ints_at _ _ hlt] at hc
      obtain ⟨n, hn⟩ : ∃ n, l.getD k 0 = n := ⟨_, rfl⟩
      rw [hn] at hc
      by_cases hin : a ≤ n ∧ n ≤ b
      · have d1 : decide (n < a) = false := decide_eq_false (by omega)
        have d2 : decide (b < n) = false := decide_eq_false (by omega)
        have HS := Lib.hid (inAll_take hlt HA.out (by rw [hn]; exact (inb_iff _ _ _).2 hin))
        clear hn hin
        go_wp2
        go_round
        case rel => exact ⟨k + 1, by omega, by go_num, HS.out⟩
        case measure => simp [intOf]; omega
      · have HD := Lib.hid (inAll_not (a := a) (b := b) hlt (by rw [hn]; unfold inb; exact decide_eq_false hin))
        have key : decide (n < a) = true ∨ (decide (n < a) = false ∧ decide (b < n) = true) := by simp only [decide_eq_true_eq, decide_eq_false_iff_not]; omega
        clear hn hin
        rcases key with d1 | ⟨d1, d2⟩
        all_goals
          go_wp2
          go_ret
          exact ⟨ret_bool HD.out.symm, rfl⟩
    · obtain rfl : k = l.length := by omega
      rw [List.take_length] at HA
      clear hlt hk
      go_wp2
      go_ret
      exact ⟨ret_bool HA.out.symm, rfl⟩
theorem inAll_one (a b n : Int) : inAll a b [n] = inb a b n := by unfold inAll; simp
theorem inAll_two (a b n m : Int) : inAll a b [n, m] = (inb a b n && inb a b m) := by
  unfold inAll
  by_cases h1 : inb a b n = true <;> by_cases h2 : inb a b m = true <;> simp [h1, h2]
/-- Of one number, of two, in a list that has just been made. -/
theorem within1 {w : World} (g : Nat) (a b n : Int) (h : w.cell? ⟨g, 0, none⟩ = some (.int .i64 n)) :
    Calls Try.prog 29 #[.int .i64 a, .int .i64 b, .slice (some ⟨g, 0, none⟩) 1 1] w fun e w' => e = .returned (.bool (inb a b n)) ∧ w' = w := by
  rw [← inAll_one]
  refine within_any a b [n] ⟨by simp [ints, maxLen], _, _, rfl, by simp [ints], ⟨by simp [maxLen], by simp⟩, .inr ⟨g, 0, rfl, fun i hi => ?_⟩⟩
  have : i = 0 := by simp [ints] at hi; omega
  subst this
  exact h
theorem within2 {w : World} (g : Nat) (a b n m : Int) (h : w.cell? ⟨g, 0, none⟩ = some (.int .i64 n)) (h1 : w.cell? ⟨g, 1, none⟩ = some (.int .i64 m)) :
    Calls Try.prog 29 #[.int .i64 a, .int .i64 b, .slice (some ⟨g, 0, none⟩) 2 2] w fun e w' => e = .returned (.bool (inb a b n && inb a b m)) ∧ w' = w := by
  rw [← inAll_two]
  refine within_any a b [n, m] ⟨by simp [ints, maxLen], _, _, rfl, by simp [ints], ⟨by simp [maxLen], by simp⟩, .inr ⟨g, 0, rfl, fun i hi => ?_⟩⟩
  have : i = 0 ∨ i = 1 := by simp [ints] at hi; omega
  rcases this with rfl | rfl
  · exact h
  · exact h1
set_option maxRecDepth 100000 in
theorem yard_any (t : Stp) (w : World) : Calls Try.prog 31 #[stopV t] w fun e w' => e = .returned (.bool (yardOk t)) ∧ Below w.heap.size w w' := by
  unfold stopV
  go_enter Try.func31, Try.ntmps31
  go_wp2_with fail
  refine (within2 _ 0 0 t.d t.s (by go_simp) (by go_simp)).mono ?_
  rintro e w' ⟨rfl, rfl⟩
  go_wp2
  go_ret
  exact ⟨rfl, ((Below.refl _ w).alloc (Nat.le_refl _) _).alloc (by simp) _⟩
theorem in_any (n a b : Int) (w : World) : Calls Try.prog 42 #[.int .i64 n, .int .i64 a, .int .i64 b] w fun e w' => e = .returned (.bool (inb a b n)) ∧ w' = w := by
  have key : (decide (a ≤ n) = true ∧ decide (n ≤ b) = true ∧ inb a b n = true) ∨ (decide (a ≤ n) = true ∧ decide (n ≤ b) = false ∧ inb a b n = false) ∨ (decide (a ≤ n) = false ∧ inb a b n = false) := by
    unfold inb
    simp only [decide_eq_true_eq, decide_eq_false_iff_not]; omega
  rcases key with ⟨d1, d2, d3⟩ | ⟨d1, d2, d3⟩ | ⟨d1, d3⟩
  all_goals
    rw [d3]
    clear d3
    go_enter Try.func42, Try.ntmps42
    go_wp2
    go_ret
    exact ⟨rfl, rfl⟩
set_option maxRecDepth 100000 in
set_option maxHeartbeats 1000000 in
theorem stop_any (t : Stp) (w : World) : Calls Try.prog 43 #[stopV t] w fun e w' => e = .returned (.bool (stopOk t)) ∧ Below w.heap.size w w' := by
  have HS := Lib.hid (show stopOk t = (inb 0 10000 t.x && (inb 0 10000 t.y && (inb 0 1048576 t.r && (inb t.r 1048576 t.u && inb 0 1000 t.s)))) from rfl)
  unfold stopV
  go_enter Try.func43, Try.ntmps43
  go_wp2_with fail
  refine (in_any _ _ _ _).mono ?_
  rintro e w' ⟨rfl, rfl⟩
  go_wp2_with fail
  refine (in_any _ _ _ _).mono ?_
  rintro e w' ⟨rfl, rfl⟩
  go_wp2_with fail
  refine (in_any _ _ _ _).mono ?_
  rintro e w' ⟨rfl, rfl⟩
  go_wp2_with fail
  refine (in_any _ _ _ _).mono ?_
  rintro e w' ⟨rfl, rfl⟩
  go_wp2_with fail
  refine (in_any _ _ _ _).mono ?_
  rintro e w' ⟨rfl, rfl⟩
  generalize inb 0 10000 t.x = b1 at HS ⊢
  generalize inb 0 10000 t.y = b2 at HS ⊢
  generalize inb 0 1048576 t.r = b3 at HS ⊢
  generalize inb t.r 1048576 t.u = b4 at HS ⊢
  generalize inb 0 1000 t.s = b5 at HS ⊢
  have HB := Lib.hid ((Below.refl _ w).alloc (Nat.le_refl _) (.cells #[.int .i64 t.x, .int .i64 t.y, .int .i64 t.d, .int .i64 t.r, .int .i64 t.u, .int .i64 t.s] 38))
  cases b1
  · go_wp2; go_ret; exact ⟨ret_bool HS.out.symm, HB.out⟩
  cases b2
  · go_wp2; go_ret; exact ⟨ret_bool HS.out.symm, HB.out⟩
  cases b3
  · go_wp2; go_ret; exact ⟨ret_bool HS.out.symm, HB.out⟩
  cases b4
  · go_wp2; go_ret; exact ⟨ret_bool HS.out.symm, HB.out⟩
  · go_wp2; go_ret; exact ⟨ret_bool HS.out.symm, HB.out⟩
end Go.Proofs.Ytolaiccgbngomaa
