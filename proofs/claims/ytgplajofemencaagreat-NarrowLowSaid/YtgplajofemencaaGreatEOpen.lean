/- Nodes by value, with all that their numbers are. -/
import Derived.Test.YtgplajofemencaaGreatXN
namespace Go.Proofs.YtgplajofemencaaGreat
open Go.ChangeShapes Go.WideShapes Go.ChangeAt Go.RowKit

section
variable {H : Type} {enc : TypeId × Value → H} {w : World} {base : Nat} {spare : Nat → Bool} {held : Bool}
set_option maxRecDepth 1000000 in
theorem open_nodeF {r : Reach} {b0 : Nat} {v : Value} {d : DataW H} {p : List MemPlace} (hv : Value.okWide Tryz.prog w r b0 30 v) (h : DataW.Trod enc Tryz.prog w base spare held 30 v d p) :
    ∃ (s : Sta) (c : Int) (u : Value) (l : List Int), v = nodeV s c u ∧ SetsOk s ∧ FitSt s ∧ Fit c ∧ Row w u (ints l) := by
  obtain ⟨cs, rfl, _⟩ := okWide_struct Tryz.underlying30 hv
  obtain ⟨fuel, hf⟩ := h
  obtain ⟨s, c, u, l, he, h1, h2, h3, h4, _⟩ := node_cells hf
  refine ⟨s, c, u, l, ?_, h2, h1, h3, h4⟩
  obtain ⟨l⟩ := cs
  simp [Value.cells] at he
  rw [he]; rfl
end
end Go.Proofs.YtgplajofemencaaGreat
