/- inst.Same, and the document's. -/
import Derived.Test.YtolaiccgbngomaaIEq
import Derived.Test.YtolaiccgbngomaaIMay
namespace Go.Proofs.Ytolaiccgbngomaa
open Go.ChangeShapes Go.WideShapes Go.ChangeAt Go.RowKit

theorem headEq_iff (I J : Ins) : decide (I = J) = (decide (I.p = J.p ∧ I.c = J.c ∧ I.r = J.r) && decide (I.l = J.l)) := by
  rw [Bool.eq_iff_iff]
  simp only [Bool.and_eq_true, decide_eq_true_iff, ← Ins.eq_iff I J]
  constructor
  · rintro ⟨a, b, c, d⟩; exact ⟨⟨a, b, c⟩, d⟩
  · rintro ⟨⟨a, b, c⟩, d⟩; exact ⟨a, b, c, d⟩
def cellsTwo (N M : Nat) (I J : Ins) (v u : Value) : List (Addr × Value) := [(⟨N, 0, none⟩, .int .i64 I.p), (⟨N, 1, none⟩, .int .i64 I.c), (⟨N, 2, none⟩, .int .i64 I.r), (⟨N, 3, none⟩, v), (⟨M, 0, none⟩, .int .i64 J.p), (⟨M, 1, none⟩, .int .i64 J.c), (⟨M, 2, none⟩, .int .i64 J.r), (⟨M, 3, none⟩, u)]
theorem holds_two (w : World) (I J : Ins) (v u : Value) : Holds (cellsTwo w.heap.size (w.heap.size + 1) I J v u) ((w.alloc (boxI I v)).alloc (boxI J u)) := by
  have h1 := Holds.below (M := w.heap.size + 1) (((Below.refl _ (w.alloc (boxI I v))).alloc (by simp) (boxI J u))) (holds_box w I v) ⟨by simp, by simp, by simp, by simp, trivial⟩
  have h2 := holds_box (w.alloc (boxI I v)) J u
  rw [show (w.alloc (boxI I v)).heap.size = w.heap.size + 1 by simp] at h2
  simp only [cellsI, Holds] at h1 h2
  obtain ⟨a0, a1, a2, a3, _⟩ := h1
  obtain ⟨b0, b1, b2, b3, _⟩ := h2
  exact ⟨a0, a1, a2, a3, b0, b1, b2, b3, trivial⟩
theorem lows_two {M N K : Nat} {I J : Ins} {v u : Value} (h1 : N < M) (h2 : K < M) : Lows M (cellsTwo N K I J v u) := ⟨h1, h1, h1, h1, h2, h2, h2, h2, trivial⟩
end Go.Proofs.Ytolaiccgbngomaa
