/- What a car's visit leaves. -/
import Derived.Test.YtkljmnfekdoocaaXTCar
import Derived.Deep.Cut
import Derived.Deep.AppendLies
namespace Go.Proofs.Ytkljmnfekdoocaa
open Go.ChangeShapes Go.WideShapes Go.ChangeAt Go.RowKit

def cellsZ (z : Nat) (t : Tm) : List (Addr × Value) := [(⟨z, 0, none⟩, .int .i64 t.come), (⟨z, 1, none⟩, .int .i64 t.begn), (⟨z, 2, none⟩, .int .i64 t.leave)]
section
variable {w0 w w' : World} {b z : Nat} {I : Ins} {sv : Value} {a n g h : Int} {S : List Bool} {tb lb tv lv : Value} {T : List Tm} {Q : List Int} {t : Tm}
def cellsV (b z : Nat) (h : Int) (tb lb : Value) (t : Tm) : List (Addr × Value) := [(⟨b, 7, none⟩, .int .i64 h), (⟨b, 41, none⟩, tb), (⟨b, 42, none⟩, lb), (⟨z, 0, none⟩, .int .i64 t.come), (⟨z, 1, none⟩, .int .i64 t.begn), (⟨z, 2, none⟩, .int .i64 t.leave)]
end
theorem ownI_more {w : World} {B g n cp : Nat} {l : List Int} {x : Int} (h : w.ownsRow B 3 1 (.slice (some ⟨g, 0, none⟩) n cp) (l.length + 1) (ints l ++ [.int .i64 x])) : OwnI w B (.slice (some ⟨g, 0, none⟩) n cp) (l ++ [x]) := by
  unfold OwnI
  rw [List.length_append, show ints (l ++ [x]) = ints l ++ [.int .i64 x] by simp [ints]]
  exact h
theorem rowT_one (t : Tm) : ∀ u ∈ rowT t, u.oneCell' = true := fun u hu => flatT_one [t] u (by rw [flatT]; simp [hu])
end Go.Proofs.Ytkljmnfekdoocaa
/- What a car's visit leaves: the walk. -/
namespace Go.Proofs.Ytkljmnfekdoocaa
open Go.ChangeShapes Go.WideShapes Go.ChangeAt Go.RowKit

end Go.Proofs.Ytkljmnfekdoocaa
