/- PlaneMoves where its numbers are out of their bounds: it answers true at once. -/
import Derived.Test.YtpgbbnmflnhlbaaXPCore
namespace Go.Proofs.Ytpgbbnmflnhlbaa
open Go.ChangeShapes Go.WideShapes Go.ChangeAt Go.RowKit

set_option maxRecDepth 1000000 in
set_option maxHeartbeats 8000000 in
theorem moves_a (s0 s1 : Stp) (a2 a3 : Int) (w : World) (hN : ¬ (0 ≤ s0.x ∧ 0 ≤ s1.x ∧ 0 ≤ s0.y ∧ 0 ≤ s1.y ∧ 0 ≤ a2 ∧ 0 ≤ a3 ∧ a2 ≤ 10000 ∧ a3 ≤ 10000)) :
    Calls Try.prog 5 #[stopV s0, stopV s1, .int .i64 a2, .int .i64 a3] w fun e w' => e = .returned (.bool true) ∧ Below w.heap.size w w' := by
  unfold stopV
  go_enter Try.func5, Try.ntmps5
  go_wp2_with fail
  change Calls _ _ _ ((w.alloc (boxS s0)).alloc (boxS s1)) _
  have HB0 := Lib.hid (((Below.refl _ w).alloc (Nat.le_refl _) (boxS s0)).alloc (by simp) (boxS s1))
  have HS0 := Lib.hid (holdsP2 w s0 s1)
  have hlt0 := Lib.hid (show Lows ((w.alloc (boxS s0)).alloc (boxS s1)).heap.size _ from lowsP2 (a := s0) (b := s1) (N := w.heap.size) (by simp))
  generalize (w.alloc (boxS s0)).alloc (boxS s1) = W at *
  refine (pawake_any _).mono ?_
  rintro e w1 ⟨rfl, hb⟩
  have HW1 := Lib.hid hb
  have hc := Holds.below hb HS0.out hlt0.out
  clear hb
  simp only [cellsP, List.cons_append, List.nil_append, Holds] at hc
  obtain ⟨c0, c1, c2, c3, c4, c5, c6, c7, c8, c9, c10, c11, _⟩ := hc
  by_cases h0 : s0.x < 0
  · have d0 := decide_eq_true h0
    clear hN h0
    go_wp2
    go_ret
    exact ⟨rfl, HB0.out.trans (HW1.out.mono HB0.out.size)⟩
  have d0 := decide_eq_false h0
  by_cases h1 : s1.x < 0
  · have d1 := decide_eq_true h1
    clear hN h0 h1
    go_wp2
    go_ret
    exact ⟨rfl, HB0.out.trans (HW1.out.mono HB0.out.size)⟩
  have d1 := decide_eq_false h1
  by_cases h2 : s0.y < 0
  · have d2 := decide_eq_true h2
    clear hN h0 h1 h2
    go_wp2
    go_ret
    exact ⟨rfl, HB0.out.trans (HW1.out.mono HB0.out.size)⟩
  have d2 := decide_eq_false h2
  by_cases h3 : s1.y < 0
  · have d3 := decide_eq_true h3
    clear hN h0 h1 h2 h3
    go_wp2
    go_ret
    exact ⟨rfl, HB0.out.trans (HW1.out.mono HB0.out.size)⟩
  have d3 := decide_eq_false h3
  by_cases h4 : a2 < 0
  · have d4 := decide_eq_true h4
    clear hN h0 h1 h2 h3 h4
    go_wp2
    go_ret
    exact ⟨rfl, HB0.out.trans (HW1.out.mono HB0.out.size)⟩
  have d4 := decide_eq_false h4
  by_cases h5 : a3 < 0
  · have d5 := decide_eq_true h5
    clear hN h0 h1 h2 h3 h4 h5
    go_wp2
    go_ret
    exact ⟨rfl, HB0.out.trans (HW1.out.mono HB0.out.size)⟩
  have d5 := decide_eq_false h5
  by_cases h6 : 10000 < a2
  · have d6 := decide_eq_true h6
    clear hN h0 h1 h2 h3 h4 h5 h6
    go_wp2
    go_ret
    exact ⟨rfl, HB0.out.trans (HW1.out.mono HB0.out.size)⟩
  have d6 := decide_eq_false h6
  by_cases h7 : 10000 < a3
  · have d7 := decide_eq_true h7
    clear hN h0 h1 h2 h3 h4 h5 h6 h7
    go_wp2
    go_ret
    exact ⟨rfl, HB0.out.trans (HW1.out.mono HB0.out.size)⟩
  have d7 := decide_eq_false h7
  exact absurd ⟨Int.not_lt.1 h0, Int.not_lt.1 h1, Int.not_lt.1 h2, Int.not_lt.1 h3, Int.not_lt.1 h4, Int.not_lt.1 h5, Int.not_lt.1 h6, Int.not_lt.1 h7⟩ hN
end Go.Proofs.Ytpgbbnmflnhlbaa
