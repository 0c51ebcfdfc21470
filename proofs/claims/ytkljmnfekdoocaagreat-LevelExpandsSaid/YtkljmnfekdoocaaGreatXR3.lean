/- The document's sets of what both have, of what one has, and all of a set. -/
import Derived.Test.YtkljmnfekdoocaaGreatXE
import Derived.Test.YtkljmnfekdoocaaGreatXRef
import Derived.Test.YtkljmnfekdoocaaGreatXR2
import Derived.Test.YtkljmnfekdoocaaGreatXSNext
import Derived.Test.YtkljmnfekdoocaaGreatXTCar
import Derived.Test.YtkljmnfekdoocaaGreatXSDoc
import Derived.Test.YtkljmnfekdoocaaGreatXTSched
namespace Go.Proofs.YtkljmnfekdoocaaGreat
open Go.ChangeShapes Go.WideShapes Go.ChangeAt Go.RowKit

end Go.Proofs.YtkljmnfekdoocaaGreat
/- States thrown together: the document's answer. -/
namespace Go.Proofs.YtkljmnfekdoocaaGreat
open Go.ChangeShapes Go.WideShapes Go.ChangeAt Go.RowKit

end Go.Proofs.YtkljmnfekdoocaaGreat
/- The chapter's example. -/
namespace Go.Proofs.YtkljmnfekdoocaaGreat
open Go.ChangeShapes Go.WideShapes Go.ChangeAt Go.RowKit

end Go.Proofs.YtkljmnfekdoocaaGreat
/- A row's state, as a drawn region holds it. -/
namespace Go.Proofs.YtkljmnfekdoocaaGreat
open Go.ChangeShapes Go.WideShapes Go.ChangeAt Go.RowKit

end Go.Proofs.YtkljmnfekdoocaaGreat
/- A whole state stored over another one: what else stays. -/
namespace Go.Proofs.YtkljmnfekdoocaaGreat
open Go.ChangeShapes Go.WideShapes Go.ChangeAt Go.RowKit

theorem StB.same {w w' : World} {b : Nat} {s : Sta} (k : StB w b s) (h : w'.heap[b]? = w.heap[b]?) : StB w' b s := by unfold StB; rw [h]; exact k
end Go.Proofs.YtkljmnfekdoocaaGreat
/- Rows of structs put behind a row that a call has made, at a step of a drawn region; parts of a row of states. -/
namespace Go.Proofs.YtkljmnfekdoocaaGreat
open Go.ChangeShapes Go.WideShapes Go.ChangeAt Go.RowKit

theorem ARow.head {w : World} {b off n cap : Nat} {l : List Sta} (h : ARow w (.slice (some ⟨b, off, none⟩) n cap) l) (c : Nat) (hc : c ≤ l.length) : ARow w (.slice (some ⟨b, off, none⟩) c cap) (l.take c) := by
  have := GRow.part h 0 c (Nat.zero_le _) hc (some ⟨b, off, none⟩) (by split <;> simp)
  rw [List.drop_zero, Nat.sub_zero, Nat.sub_zero] at this
  exact this
theorem ARow.tail {w : World} {b off n cap : Nat} {l : List Sta} (h : ARow w (.slice (some ⟨b, off, none⟩) n cap) l) (c : Nat) (hc : c ≤ l.length) (a : Option Addr) (ha : a = (if cap = c then some ⟨b, off, none⟩ else some ⟨b, off + c * 8, none⟩)) : ARow w (.slice a (l.length - c) (cap - c)) (l.drop c) := by
  have := GRow.part h c l.length hc (Nat.le_refl _) a ha
  rw [List.take_of_length_le (by simp)] at this
  exact this
end Go.Proofs.YtkljmnfekdoocaaGreat
