/- The plain mathematics of what a plan costs. -/
import Derived.Test.YtkljmnfekdoocaaGreatXTSched
import Derived.Test.YtkljmnfekdoocaaGreatXVB
namespace Go.Proofs.YtkljmnfekdoocaaGreat

/-- What is wrong with a route by itself. -/
def errR (I : Ins) (l : List Int) : Int := if l = [] then 1 else errT I l
theorem errR_zero {I : Ins} {l : List Int} (h : errR I l = 0) : l ≠ [] ∧ errT I l = 0 := by
  unfold errR at h
  by_cases hl : l = []
  · rw [if_pos hl] at h; simp at h
  · rw [if_neg hl] at h; exact ⟨hl, h⟩
/-- How far all go. -/
def farS (I : Ins) : List (List Int) → Int
  | [] => 0
  | l :: L => farT I l + farS I L
end Go.Proofs.YtkljmnfekdoocaaGreat
/- Plans in another order. -/
namespace Go.Proofs.YtkljmnfekdoocaaGreat
open Go.ChangeShapes Go.WideShapes Go.ChangeAt Go.RowKit

end Go.Proofs.YtkljmnfekdoocaaGreat
