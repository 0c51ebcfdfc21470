/- A plan in its own block; orders of plans. -/
import Derived.Test.YtipjaibemhoifaaVArgs
namespace Go.Proofs.Ytipjaibemhoifaa
open Go.ChangeShapes Go.WideShapes Go.ChangeAt Go.RowKit

def PBox (w : World) (N : Nat) (v : Value) : Prop := w.heap[N]? = some (.cells #[v] 44 (0, 0))
section
variable {w w' : World} {N : Nat} {v : Value}
theorem pbox_new (w : World) (v : Value) : PBox (w.alloc (.cells #[v] 44)) w.heap.size v := heap_alloc_new w _
theorem PBox.lt (h : PBox w N v) : N < w.heap.size := (Array.getElem?_eq_some_iff.1 h).1
theorem PBox.cell (h : PBox w N v) : w.cell? ⟨N, 0, none⟩ = some v := by rw [cell_of_row w N 0 _ _ _ h]; rfl
theorem PBox.free (h : PBox w N v) (i : Nat) : w.frozen? ⟨N, i, none⟩ = false := frozen_of_row w N i _ _ h
theorem PBox.below {M : Nat} (h : PBox w N v) (hN : N < M) (hb : Below M w w') : PBox w' N v := by unfold PBox; rw [hb.block N hN]; exact h
theorem PBox.later (h : PBox w N v) (hb : Below w.heap.size w w') : PBox w' N v := h.below h.lt hb
theorem PBox.stored (h : PBox w N v) (u : Value) : PBox (w.setCell ⟨N, 0, none⟩ u) N u := by unfold PBox; rw [heap_setCell_same w N 0 _ _ _ h]; rfl
theorem PBox.other (h : PBox w N v) (a : Addr) (x : Value) (ha : a.block ≠ N) : PBox (w.setCell a x) N v := by unfold PBox; rw [heap_setCell_other w a N x (fun e => ha e.symm)]; exact h
end
theorem ord_full (L : List (List Int)) : Full (ordL L) := fun l hl => ((ordL_mem L l).1 hl).2
theorem used_self {L : List (List Int)} (h : Full L) : usedL L = L := by
  unfold usedL
  rw [List.filter_eq_self]
  intro l hl
  have := h l hl
  cases l with
  | nil => exact absurd rfl this
  | cons x l => rfl
/-- Sorted once more it is the same. -/
theorem ord_idem (L : List (List Int)) : ordL (ordL L) = ordL L := by
  rw [show ordL (ordL L) = sortL (usedL (ordL L)) from rfl, used_self (ord_full L)]
  exact sortL_self (stab_sortL _).1
theorem ord_perm {L : List (List Int)} (h : Full L) : (ordL L).Perm L := by
  have := (stab_sortL (usedL L)).perm
  rw [used_self h] at this
  rw [show ordL L = sortL (usedL L) from rfl, used_self h]
  exact this
theorem getD_mem' {l : List Int} {i : Nat} (h : i < l.length) : l.getD i 0 ∈ l := by
  rw [List.getD_eq_getElem?_getD, List.getElem?_eq_getElem h]; exact List.getElem_mem h
theorem all_at {l : List Int} {p : Int → Prop} (h : ∀ i, i < l.length → p (l.getD i 0)) : ∀ n ∈ l, p n := by
  intro n hn
  obtain ⟨i, hi, rfl⟩ := List.getElem_of_mem hn
  have := h i hi
  rw [List.getD_eq_getElem?_getD, List.getElem?_eq_getElem hi] at this
  exact this
theorem all_atL {L : List (List Int)} {p : List Int → Prop} (h : ∀ i, i < L.length → p (L.getD i [])) : ∀ l ∈ L, p l := by
  intro n hn
  obtain ⟨i, hi, rfl⟩ := List.getElem_of_mem hn
  have := h i hi
  rw [List.getD_eq_getElem?_getD, List.getElem?_eq_getElem hi] at this
  exact this
end Go.Proofs.Ytipjaibemhoifaa
