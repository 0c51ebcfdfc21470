/- Rows of numbers that a law is handed. -/
import Derived.Test.YtolaiccgbngomaaPArgs
namespace Go.Proofs.Ytolaiccgbngomaa
open Go.ChangeShapes Go.WideShapes Go.ChangeAt Go.RowKit

section
variable {H : Type} {enc : TypeId × Value → H} {w : World} {base : Nat} {spare : Nat → Bool} {held : Bool}
theorem open_row {a : Option Addr} {len cap : Nat} {d : DataW H} {p : List MemPlace} (h : DataW.Trod enc Try.prog w base spare held 25 (.slice a len cap) d p) :
    ∃ l : List Int, Row w (.slice a len cap) (ints l) ∧ ∀ n ∈ l, Fit n := by
  obtain ⟨fuel, hf⟩ := h
  obtain ⟨v, l, hcs, hr, hfit⟩ := open_nums hf
  simp [Value.cells] at hcs
  subst hcs
  exact ⟨l, hr, hfit⟩
end
end Go.Proofs.Ytolaiccgbngomaa
