/- The routes that have stops, in order. -/
import Derived.Test.YtkljmnfekdoocaaGreatXVA
import Derived.Test.YtkljmnfekdoocaaGreatXRef
import Derived.Test.YtkljmnfekdoocaaGreatXPrint
import Derived.Lib.SliceRun
import Derived.Deep.CutRange
import Derived.Test.YtkljmnfekdoocaaGreatXIOwn
namespace Go.Proofs.YtkljmnfekdoocaaGreat
open Go.ChangeShapes Go.WideShapes Go.ChangeAt Go.RowKit

end Go.Proofs.YtkljmnfekdoocaaGreat
/- What Sorted and Print answer. -/
namespace Go.Proofs.YtkljmnfekdoocaaGreat
open Go.ChangeShapes Go.WideShapes Go.ChangeAt Go.RowKit

/-- At most forty routes, of at most a hundred stops each. -/
def FewP (L : List (List Int)) : Prop := L.length ≤ 40 ∧ ∀ l ∈ L, l.length ≤ 100
instance (L : List (List Int)) : Decidable (FewP L) := by unfold FewP; infer_instance
theorem FewP.rows {L : List (List Int)} (h : FewP L) : ∀ l ∈ L, l.length ≤ 1000000 := fun l hl => by have := h.2 l hl; omega
end Go.Proofs.YtkljmnfekdoocaaGreat
/- How plans come in. -/
namespace Go.Proofs.YtkljmnfekdoocaaGreat
open Go.ChangeShapes Go.WideShapes Go.ChangeAt Go.RowKit

section
variable {H : Type} {enc : TypeId × Value → H} {w : World} {base : Nat} {spare : Nat → Bool} {held : Bool}
end
end Go.Proofs.YtkljmnfekdoocaaGreat
/- A plan in its own block; orders of plans. -/
namespace Go.Proofs.YtkljmnfekdoocaaGreat
open Go.ChangeShapes Go.WideShapes Go.ChangeAt Go.RowKit

section
variable {w w' : World} {N : Nat} {v : Value}
end
end Go.Proofs.YtkljmnfekdoocaaGreat
