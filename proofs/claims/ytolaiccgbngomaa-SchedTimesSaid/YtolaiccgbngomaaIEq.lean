/- Whether two instances are the same: slices.Equal, Same, the document's Same. -/
import Derived.Test.YtolaiccgbngomaaIHead
namespace Go.Proofs.Ytolaiccgbngomaa
open Go.ChangeShapes Go.WideShapes Go.ChangeAt Go.RowKit

theorem nth_take_on {A B : List Stp} {k : Nat} (hk : k < A.length) (hl : A.length = B.length) (h : A.take k = B.take k) (hx : nth A k = nth B k) : A.take (k + 1) = B.take (k + 1) :=
  take_on (d := (⟨0, 0, 0, 0, 0, 0⟩ : Stp)) hl hk h hx
end Go.Proofs.Ytolaiccgbngomaa
