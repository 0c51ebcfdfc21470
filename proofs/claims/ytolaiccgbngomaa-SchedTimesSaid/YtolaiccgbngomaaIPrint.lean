/- What Print answers. -/
import Derived.Test.YtolaiccgbngomaaILin
import Derived.Test.YtolaiccgbngomaaIMay
namespace Go.Proofs.Ytolaiccgbngomaa
open Go.ChangeShapes Go.WideShapes Go.ChangeAt Go.RowKit

theorem may_fits {I : Ins} (h : mayB I = true) : Fits (linesI I) := fun l hl n hn => by
  have := may_tiny h l hl n hn
  omega
/-- The answer of Print: nothing, or the text. -/
def Printed (w w' : World) (I : Ins) (e : Ending) : Prop :=
  (mayB I = false ∧ e = .returned (.tuple #[.slice none 0 0, .int .i64 1]) ∧ Below w.heap.size w w') ∨
  (mayB I = true ∧ ∃ v, e = .returned (.tuple #[v, .int .i64 0]) ∧ OwnB w' w.heap.size v (textOf (linesI I)) ∧ Below w.heap.size w w')
end Go.Proofs.Ytolaiccgbngomaa
