/- Stops that a law is handed; what a law's own boxes hold. -/
import Derived.Test.YtolaiccgbngomaaPCore
namespace Go.Proofs.Ytolaiccgbngomaa
open Go.ChangeShapes Go.WideShapes Go.ChangeAt Go.RowKit

section
variable {H : Type} {enc : TypeId × Value → H} {w : World} {base : Nat} {spare : Nat → Bool} {held : Bool}
/-- A stop by value. -/
theorem open_stop {r : Reach} {b0 : Nat} {v : Value} {d : DataW H} {p : List MemPlace} (hv : Value.okWide Try.prog w r b0 38 v) (h : DataW.Trod enc Try.prog w base spare held 38 v d p) : ∃ t : Stp, v = stopV t ∧ FitS t := by
  obtain ⟨cs, rfl, _⟩ := okWide_struct Try.underlying38 hv
  obtain ⟨fuel, hf⟩ := h
  obtain ⟨t, he, hft⟩ := stop_cells hf
  refine ⟨t, ?_, hft⟩
  obtain ⟨l⟩ := cs
  simp [Value.cells] at he
  rw [he]; rfl
end
/-- Two boxes, three boxes. -/
theorem holdsP2 (w : World) (a b : Stp) : Holds (cellsP w.heap.size a ++ cellsP (w.heap.size + 1) b) ((w.alloc (boxS a)).alloc (boxS b)) := Holds.app.2
  ⟨Holds.below (M := (w.alloc (boxS a)).heap.size) ((Below.refl _ (w.alloc (boxS a))).alloc (Nat.le_refl _) (boxS b)) (holds_boxS w a) (lows_P (by simp)), by have := holds_boxS (w.alloc (boxS a)) b; rw [show (w.alloc (boxS a)).heap.size = w.heap.size + 1 by simp] at this; exact this⟩
theorem holdsP3 (w : World) (a b c : Stp) : Holds (cellsP w.heap.size a ++ cellsP (w.heap.size + 1) b ++ cellsP (w.heap.size + 2) c) (((w.alloc (boxS a)).alloc (boxS b)).alloc (boxS c)) := Holds.app.2
  ⟨Holds.below (M := ((w.alloc (boxS a)).alloc (boxS b)).heap.size) ((Below.refl _ ((w.alloc (boxS a)).alloc (boxS b))).alloc (Nat.le_refl _) (boxS c)) (holdsP2 w a b) (Lows.app (lows_P (by simp; omega)) (lows_P (by simp))), by have := holds_boxS ((w.alloc (boxS a)).alloc (boxS b)) c; rw [show ((w.alloc (boxS a)).alloc (boxS b)).heap.size = w.heap.size + 2 by simp] at this; exact this⟩
theorem lowsP2 {M N : Nat} {a b : Stp} (h : N + 1 < M) : Lows M (cellsP N a ++ cellsP (N + 1) b) := Lows.app (lows_P (by omega)) (lows_P h)
theorem lowsP3 {M N : Nat} {a b c : Stp} (h : N + 2 < M) : Lows M (cellsP N a ++ cellsP (N + 1) b ++ cellsP (N + 2) c) := Lows.app (lowsP2 (by omega)) (lows_P h)
end Go.Proofs.Ytolaiccgbngomaa
