/- How the way of a car, as the program goes it, is the document's: bounds, what is wrong with a stop, what is wrong with the yard. -/
import Derived.Test.YtaaljploegiihaaGreatXTCar
import Derived.Test.YtaaljploegiihaaGreatXTVisit
import Derived.Deep.WholeRow
import Derived.Test.YtaaljploegiihaaGreatYB
namespace Go.Proofs.YtaaljploegiihaaGreat

section
variable {I : Ins} {l : List Int} {e : Int} {s : TS}
end
end Go.Proofs.YtaaljploegiihaaGreat
/- What a car's follow answers: the whole way. -/
namespace Go.Proofs.YtaaljploegiihaaGreat
open Go.ChangeShapes Go.WideShapes Go.ChangeAt Go.RowKit

/-- A car on its way behind some stops. -/
structure OnWay (w0 : World) (b : Nat) (I : Ins) (sv : Value) (s : TS) (w : World) : Prop where
  lies : ∃ (a : Nat) (tv lv : Value), a < I.l.length ∧ s.last = stp I a ∧ CarB w b I sv a s.now s.far (heldL I s.seen) (seenB s.seen) tv lv ∧ OwnT w w0.heap.size tv s.out ∧ OwnI w w0.heap.size lv (loadsL I s.seen)
  bel : Below w0.heap.size w0 w
theorem OnWay.later {w0 w w' : World} {b : Nat} {I : Ins} {sv : Value} {s : TS} (h : OnWay w0 b I sv s w) (hb : Below w.heap.size w w') : OnWay w0 b I sv s w' := by
  obtain ⟨⟨a, tv, lv, h1, h2, h3, h4, h5⟩, h6⟩ := h
  exact ⟨⟨a, tv, lv, h1, h2, h3.later hb, h4.below hb, h5.below hb⟩, h6.trans (hb.mono h6.size)⟩
theorem CarB.there {w : World} {b : Nat} {I : Ins} {sv : Value} {a n g h : Int} {S : List Bool} {tv lv : Value} (k : CarB w b I sv a n g h S tv lv) : w.there b 0 43 := fun j hj => by
  rw [Nat.zero_add]
  refine ⟨?_, k.free j⟩
  rw [k.cell, List.getElem?_eq_getElem (by rw [carC_len k.1]; exact hj)]
  rfl
end Go.Proofs.YtaaljploegiihaaGreat
/- What sched's Times and Loads answer. -/
namespace Go.Proofs.YtaaljploegiihaaGreat
open Go.ChangeShapes Go.WideShapes Go.ChangeAt Go.RowKit

end Go.Proofs.YtaaljploegiihaaGreat
/- The chapter's example. -/
namespace Go.Proofs.YtaaljploegiihaaGreat
open Go.ChangeShapes Go.WideShapes Go.ChangeAt Go.RowKit

theorem small_f1 : farF (nth smallI.l 0) (stp smallI 1) = 3 := rootOf_eq 9 3 (by decide) (by decide) ⟨by decide, by decide, by decide⟩
theorem small_f2 : farF (stp smallI 1) (stp smallI 2) = 5 := rootOf_eq 25 5 (by decide) (by decide) ⟨by decide, by decide, by decide⟩
theorem small_f3 : farF (stp smallI 2) (nth smallI.l 0) = 4 := rootOf_eq 16 4 (by decide) (by decide) ⟨by decide, by decide, by decide⟩
/-- Two numbers in a list made on the spot. -/
theorem row_two (w : World) (a b : Int) : Row (w.alloc (.cells #[.int .i64 a, .int .i64 b] 3)) (.slice (some ⟨w.heap.size, 0, none⟩) 2 2) (ints [a, b]) := by
  refine ⟨by simp [ints, maxLen], _, _, rfl, by simp [ints], ⟨by simp [maxLen], by simp⟩, .inr ⟨_, _, rfl, fun i hi => ?_⟩⟩
  rw [cell_of_row _ _ _ _ _ _ (heap_alloc_new w _), Nat.zero_add]
  simp [ints]
end Go.Proofs.YtaaljploegiihaaGreat
