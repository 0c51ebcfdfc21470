/- Whether a node leaves another one without use: the document's answer; few nodes. -/
import Derived.Test.YtgplajofemencaaGreatXN
import Derived.Test.YtgplajofemencaaGreatYG
import Derived.Test.YtgplajofemencaaGreatYC
namespace Go.Proofs.YtgplajofemencaaGreat
open Go.ChangeShapes Go.WideShapes Go.ChangeAt Go.RowKit

theorem boxes_nn (w : World) (s t : Sta) (c d : Int) (u v : Value) : NodB ((w.alloc (boxN s c u)).alloc (boxN t d v)) w.heap.size s c u ∧ NodB ((w.alloc (boxN s c u)).alloc (boxN t d v)) (w.heap.size + 1) t d v ∧ Below w.heap.size w ((w.alloc (boxN s c u)).alloc (boxN t d v)) := by
  have h1 : (w.alloc (boxN s c u)).heap.size = w.heap.size + 1 := by simp
  have a1 := nod_new (w.alloc (boxN s c u)) t d v
  rw [h1] at a1
  exact ⟨(nod_new w s c u).later ((Below.refl _ _).alloc (Nat.le_refl _) _), a1, ((Below.refl w.heap.size w).alloc (Nat.le_refl _) _).alloc (by rw [h1]; omega) _⟩
/-- At most 60 nodes, of at most 100 moves each. -/
def FewN (l : List Nod) : Prop := l.length ≤ 60 ∧ ∀ n ∈ l, n.path.length ≤ 100
instance (l : List Nod) : Decidable (FewN l) := by unfold FewN; infer_instance
theorem nodAt_is {l : List Nod} {k : Nat} (hk : k < l.length) : l[k]? = some (nodAt l k) := by
  unfold nodAt; rw [List.getD_eq_getElem?_getD, List.getElem?_eq_getElem hk]; rfl
end Go.Proofs.YtgplajofemencaaGreat
/- Which nodes are left: the document's answer. -/
namespace Go.Proofs.YtgplajofemencaaGreat
open Go.ChangeShapes Go.WideShapes Go.ChangeAt Go.RowKit

end Go.Proofs.YtgplajofemencaaGreat
/- Whether two lists of nodes are the same. -/
namespace Go.Proofs.YtgplajofemencaaGreat
open Go.ChangeShapes Go.WideShapes Go.ChangeAt Go.RowKit

end Go.Proofs.YtgplajofemencaaGreat
