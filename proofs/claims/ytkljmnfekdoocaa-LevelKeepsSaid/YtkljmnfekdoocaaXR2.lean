/- Whether a state covers another one: the program's answer, and the document's. -/
import Derived.Test.YtkljmnfekdoocaaXR1
import Derived.Test.YtkljmnfekdoocaaXE
import Derived.BigRegion
import Derived.Test.YtkljmnfekdoocaaXSNext
namespace Go.Proofs.Ytkljmnfekdoocaa
open Go.ChangeShapes Go.WideShapes Go.ChangeAt Go.RowKit

theorem covers_eq (a b : Sta) : decide (Covers a b) = (decide (a.pos = b.pos) && (decide (a.car ≤ b.car) && (decide (a.time ≤ b.time) && (decide (a.load ≤ b.load) && (decide (a.first ≤ b.first) && (within a.must b.must && (within a.on b.on && within b.may a.may))))))) := by
  rw [Bool.eq_iff_iff]
  simp only [decide_eq_true_eq, Bool.and_eq_true]
  rfl
end Go.Proofs.Ytkljmnfekdoocaa
/- A state is added to what was thrown together. -/
namespace Go.Proofs.Ytkljmnfekdoocaa
open Go.ChangeShapes Go.WideShapes Go.ChangeAt Go.RowKit

theorem mn_eq (a b : Int) : (if a < b then a else b) = min b a := by omega
end Go.Proofs.Ytkljmnfekdoocaa
/- States thrown together: the program's answer. -/
namespace Go.Proofs.Ytkljmnfekdoocaa
open Go.ChangeShapes Go.WideShapes Go.ChangeAt Go.RowKit

theorem joinF_append : ∀ (a b : List Sta) (s : Sta), joinF s (a ++ b) = (joinF s a).bind (fun u => joinF u b)
  | [], b, s => rfl
  | x :: a, b, s => by
    rw [List.cons_append, joinF, joinF]
    split
    · exact joinF_append a b _
    · rfl
theorem join2_self (s : Sta) : join2 s s = s := by
  unfold join2
  simp
theorem joinF_self (s : Sta) (l : List Sta) : joinF s (s :: l) = joinF s l := by rw [joinF, if_pos rfl, join2_self]
theorem join_sets {s t : Sta} (hs : SetsOk s) (ht : SetsOk t) : SetsOk (join2 s t) := of_fits (fits_join (fits_of hs) (fits_of ht))
theorem joinF_take {m u : Sta} {l : List Sta} {k : Nat} {s : Sta} (h : joinF m (l.take k) = some u) (hs : l[k]? = some s) : joinF m (l.take (k + 1)) = if s.pos = u.pos then some (join2 u s) else none := by
  obtain ⟨hk, he⟩ := List.getElem?_eq_some_iff.1 hs
  rw [List.take_succ_eq_append_getElem hk, he, joinF_snoc, h]
  rfl
theorem joinF_fail {m : Sta} {l : List Sta} {k : Nat} (h : joinF m (l.take k) = none) : joinF m l = none := by
  rw [← List.take_append_drop k l, joinF_append, h]; rfl
/-- What is answered where nothing can be thrown together: noughts. -/
def jOf (l : List Sta) : Sta := (joinS l).getD noughtS
theorem jOf_some {l : List Sta} {u : Sta} (h : joinS l = some u) : jOf l = u := by unfold jOf; rw [h]; rfl
theorem jOf_none {l : List Sta} (h : joinS l = none) : jOf l = noughtS := by unfold jOf; rw [h]; rfl
end Go.Proofs.Ytkljmnfekdoocaa
