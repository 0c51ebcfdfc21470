/- PlaneMoves where its numbers are out of their bounds: it answers true at once. -/
import Derived.Test.YtpgbbnmflnhlbaaXPCore
namespace Go.Proofs.Ytpgbbnmflnhlbaa
open Go.ChangeShapes Go.WideShapes Go.ChangeAt Go.RowKit

set_option maxRecDepth 1000000 in
set_option maxHeartbeats 8000000 in
theorem moves_b (s0 s1 : Stp) (a2 a3 : Int) (w : World) (hG : 0 ≤ s0.x ∧ 0 ≤ s1.x ∧ 0 ≤ s0.y ∧ 0 ≤ s1.y ∧ 0 ≤ a2 ∧ 0 ≤ a3 ∧ a2 ≤ 10000 ∧ a3 ≤ 10000) (hN : ¬ (s0.x ≤ 10000 ∧ s1.x ≤ 10000 ∧ s0.y ≤ 10000 ∧ s1.y ≤ 10000)) :
    Calls Try.prog 5 #[stopV s0, stopV s1, .int .i64 a2, .int .i64 a3] w fun e w' => e = .returned (.bool true) ∧ Below w.heap.size w w' := by
  unfold stopV
  go_enter Try.func5, Try.ntmps5
  go_wp2_with fail
  change Calls _ _ _ ((w.alloc (boxS s0)).alloc (boxS s1)) _
  have HB0 := Lib.hid (((Below.refl _ w).alloc (Nat.le_refl _) (boxS s0)).alloc (by simp) (boxS s1))
  have HS0 := Lib.hid (holdsP2 w s0 s1)
  have hlt0 := Lib.hid (show Lows ((w.alloc (boxS s0)).alloc (boxS s1)).heap.size _ from lowsP2 (a := s0) (b := s1) (N := w.heap.size) (by simp))
  generalize (w.alloc (boxS s0)).alloc (boxS s1) = W at *
  refine (pawake_any _).mono ?_
  rintro e w1 ⟨rfl, hb⟩
  have HW1 := Lib.hid hb
  have hc := Holds.below hb HS0.out hlt0.out
  clear hb
  simp only [cellsP, List.cons_append, List.nil_append, Holds] at hc
  obtain ⟨c0, c1, c2, c3, c4, c5, c6, c7, c8, c9, c10, c11, _⟩ := hc
  obtain ⟨g0, g1, g2, g3, g4, g5, g6, g7⟩ := hG
  have d0 : decide (s0.x < 0) = false := decide_eq_false (by omega)
  have d1 : decide (s1.x < 0) = false := decide_eq_false (by omega)
  have d2 : decide (s0.y < 0) = false := decide_eq_false (by omega)
  have d3 : decide (s1.y < 0) = false := decide_eq_false (by omega)
  have d4 : decide (a2 < 0) = false := decide_eq_false (by omega)
  have d5 : decide (a3 < 0) = false := decide_eq_false (by omega)
  have d6 : decide (10000 < a2) = false := decide_eq_false (by omega)
  have d7 : decide (10000 < a3) = false := decide_eq_false (by omega)
  by_cases h8 : 10000 < s0.x
  · have d8 := decide_eq_true h8
    clear hN h8
    go_wp2
    go_ret
    exact ⟨rfl, HB0.out.trans (HW1.out.mono HB0.out.size)⟩
  have d8 := decide_eq_false h8
  by_cases h9 : 10000 < s1.x
  · have d9 := decide_eq_true h9
    clear hN h8 h9
    go_wp2
    go_ret
    exact ⟨rfl, HB0.out.trans (HW1.out.mono HB0.out.size)⟩
  have d9 := decide_eq_false h9
  by_cases h10 : 10000 < s0.y
  · have d10 := decide_eq_true h10
    clear hN h8 h9 h10
    go_wp2
    go_ret
    exact ⟨rfl, HB0.out.trans (HW1.out.mono HB0.out.size)⟩
  have d10 := decide_eq_false h10
  by_cases h11 : 10000 < s1.y
  · have d11 := decide_eq_true h11
    clear hN h8 h9 h10 h11
    go_wp2
    go_ret
    exact ⟨rfl, HB0.out.trans (HW1.out.mono HB0.out.size)⟩
  have d11 := decide_eq_false h11
  exact absurd ⟨Int.not_lt.1 h8, Int.not_lt.1 h9, Int.not_lt.1 h10, Int.not_lt.1 h11⟩ hN
set_option maxRecDepth 1000000 in
set_option maxHeartbeats 8000000 in
theorem moves_c (s0 s1 : Stp) (a2 a3 : Int) (w : World) (hG : 0 ≤ s0.x ∧ 0 ≤ s1.x ∧ 0 ≤ s0.y ∧ 0 ≤ s1.y ∧ 0 ≤ a2 ∧ 0 ≤ a3 ∧ a2 ≤ 10000 ∧ a3 ≤ 10000 ∧ s0.x ≤ 10000 ∧ s1.x ≤ 10000 ∧ s0.y ≤ 10000 ∧ s1.y ≤ 10000) (hN : ¬ (s0.x + a2 ≤ 10000 ∧ s1.x + a2 ≤ 10000 ∧ s0.y + a3 ≤ 10000 ∧ s1.y + a3 ≤ 10000)) :
    Calls Try.prog 5 #[stopV s0, stopV s1, .int .i64 a2, .int .i64 a3] w fun e w' => e = .returned (.bool true) ∧ Below w.heap.size w w' := by
  unfold stopV
  go_enter Try.func5, Try.ntmps5
  go_wp2_with fail
  change Calls _ _ _ ((w.alloc (boxS s0)).alloc (boxS s1)) _
  have HB0 := Lib.hid (((Below.refl _ w).alloc (Nat.le_refl _) (boxS s0)).alloc (by simp) (boxS s1))
  have HS0 := Lib.hid (holdsP2 w s0 s1)
  have hlt0 := Lib.hid (show Lows ((w.alloc (boxS s0)).alloc (boxS s1)).heap.size _ from lowsP2 (a := s0) (b := s1) (N := w.heap.size) (by simp))
  generalize (w.alloc (boxS s0)).alloc (boxS s1) = W at *
  refine (pawake_any _).mono ?_
  rintro e w1 ⟨rfl, hb⟩
  have HW1 := Lib.hid hb
  have hc := Holds.below hb HS0.out hlt0.out
  clear hb
  simp only [cellsP, List.cons_append, List.nil_append, Holds] at hc
  obtain ⟨c0, c1, c2, c3, c4, c5, c6, c7, c8, c9, c10, c11, _⟩ := hc
  obtain ⟨g0, g1, g2, g3, g4, g5, g6, g7, g8, g9, g10, g11⟩ := hG
  have d0 : decide (s0.x < 0) = false := decide_eq_false (by omega)
  have d1 : decide (s1.x < 0) = false := decide_eq_false (by omega)
  have d2 : decide (s0.y < 0) = false := decide_eq_false (by omega)
  have d3 : decide (s1.y < 0) = false := decide_eq_false (by omega)
  have d4 : decide (a2 < 0) = false := decide_eq_false (by omega)
  have d5 : decide (a3 < 0) = false := decide_eq_false (by omega)
  have d6 : decide (10000 < a2) = false := decide_eq_false (by omega)
  have d7 : decide (10000 < a3) = false := decide_eq_false (by omega)
  have d8 : decide (10000 < s0.x) = false := decide_eq_false (by omega)
  have d9 : decide (10000 < s1.x) = false := decide_eq_false (by omega)
  have d10 : decide (10000 < s0.y) = false := decide_eq_false (by omega)
  have d11 : decide (10000 < s1.y) = false := decide_eq_false (by omega)
  have e0 : IntKind.i64.wrap (s0.x + a2) = s0.x + a2 := IntWalk.i64_in _ (by omega)
  have e1 : IntKind.i64.wrap (s1.x + a2) = s1.x + a2 := IntWalk.i64_in _ (by omega)
  have e2 : IntKind.i64.wrap (s0.y + a3) = s0.y + a3 := IntWalk.i64_in _ (by omega)
  have e3 : IntKind.i64.wrap (s1.y + a3) = s1.y + a3 := IntWalk.i64_in _ (by omega)
  clear g0 g1 g2 g3 g4 g5 g6 g7 g8 g9 g10 g11
  by_cases h12 : 10000 < s0.x + a2
  · have d12 := decide_eq_true h12
    clear hN h12
    go_wp2
    go_ret
    exact ⟨rfl, HB0.out.trans (HW1.out.mono HB0.out.size)⟩
  have d12 := decide_eq_false h12
  by_cases h13 : 10000 < s1.x + a2
  · have d13 := decide_eq_true h13
    clear hN h12 h13
    go_wp2
    go_ret
    exact ⟨rfl, HB0.out.trans (HW1.out.mono HB0.out.size)⟩
  have d13 := decide_eq_false h13
  by_cases h14 : 10000 < s0.y + a3
  · have d14 := decide_eq_true h14
    clear hN h12 h13 h14
    go_wp2
    go_ret
    exact ⟨rfl, HB0.out.trans (HW1.out.mono HB0.out.size)⟩
  have d14 := decide_eq_false h14
  by_cases h15 : 10000 < s1.y + a3
  · have d15 := decide_eq_true h15
    clear hN h12 h13 h14 h15
    go_wp2
    go_ret
    exact ⟨rfl, HB0.out.trans (HW1.out.mono HB0.out.size)⟩
  have d15 := decide_eq_false h15
  exact absurd ⟨Int.not_lt.1 h12, Int.not_lt.1 h13, Int.not_lt.1 h14, Int.not_lt.1 h15⟩ hN
end Go.Proofs.Ytpgbbnmflnhlbaa
