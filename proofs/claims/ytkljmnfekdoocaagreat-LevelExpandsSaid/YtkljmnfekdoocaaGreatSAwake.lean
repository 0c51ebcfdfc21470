/- The chapter's example. -/
import Derived.Test.YtkljmnfekdoocaaGreatXSMove
import Derived.Test.YtkljmnfekdoocaaGreatSArgs
import Derived.Test.YtkljmnfekdoocaaGreatXTSched
namespace Go.Proofs.YtkljmnfekdoocaaGreat
open Go.ChangeShapes Go.WideShapes Go.ChangeAt Go.RowKit

def sg0 : Sta := ⟨0, 1, 0, 0, 0, 0, 0, 0⟩
def sg1 : Sta := ⟨1, 1, 4, 2, 1, 2, 2, 2⟩
theorem sg_may : mayB smallI = true := small_ok.2.2.1
theorem sg_root : rootS smallI = sg0 := root_may sg_may
theorem sg_go0 : GoOn smallI sg0 := ⟨sg_may, by decide, by decide, by decide, by decide⟩
theorem sg_beg1 : begS smallI sg0 1 = 3 := by
  unfold begS comeS
  rw [show farF (stp smallI sg0.pos) (stp smallI 1) = 3 from small_f1]; rfl
theorem sg_can1 : Can smallI sg0 1 := ⟨sg_go0, .inl ⟨by decide, by decide +kernel, by decide, by rw [sg_beg1]; decide, fun _ => by decide⟩⟩
theorem sg_not0 : ¬ Can smallI sg0 0 := fun h => (can_zero h).2.1 rfl
theorem sg_not2 : ¬ Can smallI sg0 2 := fun h => by
  rcases h.2 with h | h | h
  · have := h.1.2; revert this; decide
  · exact h.2.1 rfl
  · have := h.1; revert this; decide
theorem sg_next1 : nextS smallI sg0 1 = sg1 := by
  unfold nextS visitS
  rw [sg_beg1]
  decide +kernel
theorem sg_moves : movesS smallI (rootS smallI) = [1] := by
  rw [sg_root]
  show movesN smallI sg0 3 = [1]
  rw [movesN_succ, if_neg (by exact sg_not2), movesN_succ, if_pos (by exact sg_can1), movesN_succ, if_neg (by exact sg_not0), movesN_zero]; rfl
/-- The boxes of a law's instance and state. -/
theorem boxes_two (w : World) (I : Ins) (v : Value) (s : Sta) : YBox ((w.alloc (boxI I v)).alloc (boxSt s)) w.heap.size I v ∧ StB ((w.alloc (boxI I v)).alloc (boxSt s)) (w.heap.size + 1) s ∧ Below w.heap.size w ((w.alloc (boxI I v)).alloc (boxSt s)) := by
  have h1 : (w.alloc (boxI I v)).heap.size = w.heap.size + 1 := by simp
  have a1 := st_new (w.alloc (boxI I v)) s
  rw [h1] at a1
  exact ⟨(ybox_new w I v).later ((Below.refl _ _).alloc (Nat.le_refl _) _), a1, ((Below.refl w.heap.size w).alloc (Nat.le_refl _) _).alloc (by rw [h1]; omega) _⟩
end Go.Proofs.YtkljmnfekdoocaaGreat
