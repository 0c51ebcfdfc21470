/- How the way of a car, as the program goes it, is the document's: bounds, what is wrong with a stop, what is wrong with the yard. -/
import Derived.Test.YtkljmnfekdoocaaGreatXTCar
import Derived.Test.YtkljmnfekdoocaaGreatXTVisit
import Derived.Deep.WholeRow
import Derived.Test.YtkljmnfekdoocaaGreatXIOwn
namespace Go.Proofs.YtkljmnfekdoocaaGreat

section
variable {I : Ins} {l : List Int} {e : Int} {s : TS}
end
end Go.Proofs.YtkljmnfekdoocaaGreat
/- What a car's follow answers: the whole way. -/
namespace Go.Proofs.YtkljmnfekdoocaaGreat
open Go.ChangeShapes Go.WideShapes Go.ChangeAt Go.RowKit

end Go.Proofs.YtkljmnfekdoocaaGreat
/- What sched's Times and Loads answer. -/
namespace Go.Proofs.YtkljmnfekdoocaaGreat
open Go.ChangeShapes Go.WideShapes Go.ChangeAt Go.RowKit

end Go.Proofs.YtkljmnfekdoocaaGreat
/- The chapter's example. -/
namespace Go.Proofs.YtkljmnfekdoocaaGreat
open Go.ChangeShapes Go.WideShapes Go.ChangeAt Go.RowKit

theorem small_f1 : farF (nth smallI.l 0) (stp smallI 1) = 3 := rootOf_eq 9 3 (by decide) (by decide) ⟨by decide, by decide, by decide⟩
/-- Two numbers in a list made on the spot. -/
theorem row_two (w : World) (a b : Int) : Row (w.alloc (.cells #[.int .i64 a, .int .i64 b] 3)) (.slice (some ⟨w.heap.size, 0, none⟩) 2 2) (ints [a, b]) := by
  refine ⟨by simp [ints, maxLen], _, _, rfl, by simp [ints], ⟨by simp [maxLen], by simp⟩, .inr ⟨_, _, rfl, fun i hi => ?_⟩⟩
  rw [cell_of_row _ _ _ _ _ _ (heap_alloc_new w _), Nat.zero_add]
  simp [ints]
end Go.Proofs.YtkljmnfekdoocaaGreat
