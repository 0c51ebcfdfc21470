/- Which of the two below an entry is first. -/
import Derived.Test.YtljgglmaglmceaaSwap
import Derived.StillTailTactics
namespace Go.Proofs.Ytljgglmaglmceaa
open Go.ChangeShapes Go.WideShapes Go.ChangeAt Go.RowKit

theorem meth_ahead (x0 x1 x2 x3 : Value) (w : World) : (method 178 51 (.agg #[x0, x1, x2, x3]) "haulier/heap.ahead").run Try.prog w = .ok (44, .agg #[x0, x1, x2, x3]) w := by kernel_rfl
theorem fb_world {w w2 w' : World} (h : w.drew = w2) (h' : Below w2.heap.size w2 w') : Below w.heap.size w w' := by
  subst h
  exact ((Below.refl _ _).drew).trans h'

set_option maxRecDepth 1000000 in
set_option maxHeartbeats 1000000 in
theorem fb_in {w : World} {B b g cap : Nat} {o : Int} {l : List Ent} (h : HeapAt w B b o (.slice (some ⟨g, 0, none⟩) l.length cap) l) (t : Nat) (hn : l.length ≤ 1000) (ht : 2 * t + 2 < l.length) :
    Calls Try.prog 28 #[.pointer (some ⟨b, 1, none⟩), .int .i64 t] w fun e w' => e = .returned (.int .i64 (below o l t)) ∧ Below w.heap.size w w' := by
  have hq := h.items
  obtain ⟨a0, a1, a2, a3⟩ := h.ent (2 * t + 2) ht
  obtain ⟨c0, c1, c2, c3⟩ := h.ent (2 * t + 1) (by omega)
  clear h
  have HB := Lib.hid (show below o l t = if lt o (nth l (2 * t + 2)) (nth l (2 * t + 1)) = true then 2 * t + 2 else 2 * t + 1 by unfold below; simp [ht])
  generalize hx : nth l (2 * t + 2) = x at *
  generalize hy : nth l (2 * t + 1) = y at *
  generalize l.length = n at *
  clear hx hy
  have i1 : 2 * (t : Int) + 2 < (n : Int) := by omega
  have i2 : (2 * (t : Int) + 2).toNat = 2 * t + 2 := by omega
  have i3 : 2 * (t : Int) + 1 < (n : Int) := by omega
  have i4 : (2 * (t : Int) + 1).toNat = 2 * t + 1 := by omega
  have i5 : (0 : Int) ≤ 2 * (t : Int) + 2 := by omega
  have i6 : (0 : Int) ≤ 2 * (t : Int) + 1 := by omega
  have i7 : decide (2 * (t : Int) + 2 < (n : Int)) = true := decide_eq_true i1
  go_enter Try.func28, Try.ntmps28
  go_wp2_with fail
  go_still_tail 23, (by kernel_rfl)
  change wpList _ _ _ _ _ w.drew
  generalize hw2 : w.drew = w2
  have HW := Lib.hid hw2
  clear hw2
  have hm := meth_ahead
  go_wp2_with fail
  refine (ahead_any o o x y _).mono ?_
  rintro e w' ⟨rfl, hb⟩
  have HB2 := Lib.hid (fb_world HW.out hb)
  clear hb
  go_wp2
  all_goals go_ret
  all_goals refine ⟨ret_int ?_, HB2.out⟩
  all_goals rw [HB.out]
  · rw [if_pos ‹_›]; omega
  · rw [if_neg (by simp [*])]; omega
theorem fb_out (t : Nat) (w : World) (b g n cap : Nat) (o : Int) (l : List Ent) (hl : l.length = n) (hq : w.cell? ⟨b, 1, none⟩ = some (.slice (some ⟨g, 0, none⟩) n cap)) (ht : t ≤ 1000) (ht2 : n ≤ 2 * t + 2) :
    Calls Try.prog 28 #[.pointer (some ⟨b, 1, none⟩), .int .i64 t] w fun e w' => e = .returned (.int .i64 (below o l t)) ∧ Below w.heap.size w w' := by
  have HB := Lib.hid (show below o l t = 2 * t + 1 by unfold below; rw [if_neg (by omega)])
  clear hl
  have i1 : decide (2 * (t : Int) + 2 < (n : Int)) = false := decide_eq_false (by omega)
  go_enter Try.func28, Try.ntmps28
  go_wp2_with fail
  go_quiet (fail)
  go_wp2
  go_ret
  refine ⟨ret_int ?_, below_drewN (Below.refl _ _) _⟩
  rw [HB.out]
  omega
theorem fb_any {w : World} {B b g cap : Nat} {o : Int} {l : List Ent} (h : HeapAt w B b o (.slice (some ⟨g, 0, none⟩) l.length cap) l) (t : Nat) (hn : l.length ≤ 1000) (ht : t ≤ 1000) :
    Calls Try.prog 28 #[.pointer (some ⟨b, 1, none⟩), .int .i64 t] w fun e w' => e = .returned (.int .i64 (below o l t)) ∧ Below w.heap.size w w' := by
  by_cases c : 2 * t + 2 < l.length
  · exact fb_in h t hn c
  · exact fb_out t w b g l.length cap o l rfl h.items ht (by omega)
end Go.Proofs.Ytljgglmaglmceaa
