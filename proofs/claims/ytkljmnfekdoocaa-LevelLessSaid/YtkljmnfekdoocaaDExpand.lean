/- All moves of some nodes: the document's answer. -/
import Derived.Test.YtkljmnfekdoocaaDOnce
import Derived.Test.YtkljmnfekdoocaaDBOf
import Derived.Test.YtkljmnfekdoocaaXSDoc
namespace Go.Proofs.Ytkljmnfekdoocaa
open Go.ChangeShapes Go.WideShapes Go.ChangeAt Go.RowKit

theorem row_oneI (w : World) (a : Int) : Row (w.alloc (.cells #[.int .i64 a] 3)) (.slice (some ⟨w.heap.size, 0, none⟩) 1 1) (ints [a]) := by
  refine ⟨by simp [ints, maxLen], _, _, rfl, by simp [ints], ⟨by simp [maxLen], by simp⟩, .inr ⟨_, _, rfl, fun i hi => ?_⟩⟩
  rw [cell_of_row _ _ _ _ _ _ (heap_alloc_new w _), Nat.zero_add]
  simp [ints]
theorem OwnI.lt {w : World} {B : Nat} {v : Value} {l : List Int} (h : OwnI w B v l) (g : Nat) (hg : v.ownBlock = some g) : B ≤ g ∧ g < w.heap.size := World.ownsRow.lt (show w.ownsRow B 3 1 v l.length (ints l) from h) g hg
theorem moves_len (I : Ins) (s : Sta) : (movesS I s).length ≤ 33 := by
  by_cases h : movesS I s = []
  · rw [h]; simp
  · obtain ⟨j, hj⟩ := List.exists_mem_of_ne_nil _ h
    have hm := (mem_moves.1 hj).1.1
    have h1 := (fine_of hm).p1
    unfold movesS movesN
    refine Nat.le_trans (List.length_filter_le _ _) ?_
    rw [List.length_map, List.length_range]
    omega
theorem take_at {l : List Nod} {k : Nat} (hk : k < l.length) : l.take (k + 1) = l.take k ++ [nodAt l k] := by
  rw [List.take_succ_eq_append_getElem hk]
  unfold nodAt
  rw [List.getD_eq_getElem?_getD, List.getElem?_eq_getElem hk]; rfl
/-- Those of a node's children that may cost less than up, of its first i moves. -/
def kidsI (I : Ins) (up : Int) (n : Nod) (i : Nat) : List Nod := (((movesS I n.s).take i).map (childN I n)).filter (fun c => decide (ofB I c < up))
theorem kidsI_next {I : Ins} {up : Int} {n : Nod} {i : Nat} (hi : i < (movesS I n.s).length) : kidsI I up n (i + 1) = if ofB I (childN I n ((movesS I n.s).getD i 0)) < up then kidsI I up n i ++ [childN I n ((movesS I n.s).getD i 0)] else kidsI I up n i := by
  unfold kidsI
  rw [List.take_succ_eq_append_getElem hi, List.map_append, List.filter_append, List.getD_eq_getElem?_getD, List.getElem?_eq_getElem hi]
  simp only [Option.getD_some]
  by_cases h : ofB I (childN I n ((movesS I n.s)[i])) < up
  · rw [if_pos h]; simp [h]
  · rw [if_neg h]; simp [h]
theorem kids_next {I : Ins} {up : Int} {l : List Nod} {k : Nat} (hk : k < l.length) : kidsL I up (l.take (k + 1)) = kidsL I up (l.take k) ++ kidsI I up (nodAt l k) (movesS I (nodAt l k).s).length := by
  unfold kidsL kidsI
  rw [take_at hk, List.flatMap_append, List.filter_append, List.take_length]
  simp [kidsN]
theorem kidsI_len (I : Ins) (up : Int) (n : Nod) (i : Nat) : (kidsI I up n i).length ≤ 33 := by
  unfold kidsI
  refine Nat.le_trans (List.length_filter_le _ _) ?_
  rw [List.length_map, List.length_take]
  have := moves_len I n.s
  omega
theorem kids_len (I : Ins) (up : Int) (l : List Nod) : ∀ k, k ≤ l.length → (kidsL I up (l.take k)).length ≤ 33 * k
  | 0, _ => by simp [kidsL]
  | k + 1, h => by
    rw [kids_next (by omega), List.length_append]
    have := kids_len I up l k (by omega)
    have := kidsI_len I up (nodAt l k) (movesS I (nodAt l k).s).length
    omega
theorem best_next {I : Ins} {l : List Nod} {k : Nat} (hk : k < l.length) : bestL I (l.take (k + 1)) = bestStep I (bestL I (l.take k)) (nodAt l k) := by
  rw [take_at hk, bestL_snoc]
/-- The best one, or noughts. -/
def bestV (o : Option Nod) : Nod := o.getD nod0
theorem best_step {I : Ins} (o : Option Nod) (n : Nod) : bestStep I o n = if (decide (EndS I n.s) && (!o.isSome || decide ((endN I n).cost < (bestV o).cost))) = true then some (endN I n) else o := by
  unfold bestStep
  by_cases he : EndS I n.s
  · rw [if_pos he, decide_eq_true he]
    cases o with
    | none => rfl
    | some b =>
      show (if (endN I n).cost < b.cost then some (endN I n) else some b) = _
      by_cases hc : (endN I n).cost < b.cost
      · rw [if_pos hc, if_pos]
        show (true && (!true || decide ((endN I n).cost < b.cost))) = true
        rw [decide_eq_true hc]; rfl
      · rw [if_neg hc, if_neg]
        show ¬ (true && (!true || decide ((endN I n).cost < b.cost))) = true
        rw [decide_eq_false hc]; decide
  · rw [if_neg he, decide_eq_false he, if_neg (by simp)]
theorem boxes_inn (w : World) (I : Ins) (v : Value) : YBox (((w.alloc (boxI I v)).alloc (boxN noughtS 0 (.slice none 0 0))).alloc (boxN noughtS 0 (.slice none 0 0))) w.heap.size I v ∧ NodB (((w.alloc (boxI I v)).alloc (boxN noughtS 0 (.slice none 0 0))).alloc (boxN noughtS 0 (.slice none 0 0))) (w.heap.size + 1) noughtS 0 (.slice none 0 0) ∧
    NodB (((w.alloc (boxI I v)).alloc (boxN noughtS 0 (.slice none 0 0))).alloc (boxN noughtS 0 (.slice none 0 0))) (w.heap.size + 2) noughtS 0 (.slice none 0 0) ∧ Below w.heap.size w (((w.alloc (boxI I v)).alloc (boxN noughtS 0 (.slice none 0 0))).alloc (boxN noughtS 0 (.slice none 0 0))) := by
  obtain ⟨h1, h2, h3⟩ := boxes_in w I v noughtS 0 (.slice none 0 0)
  have e1 : ((w.alloc (boxI I v)).alloc (boxN noughtS 0 (.slice none 0 0))).heap.size = w.heap.size + 2 := by simp
  have a3 := nod_new ((w.alloc (boxI I v)).alloc (boxN noughtS 0 (.slice none 0 0))) noughtS 0 (.slice none 0 0)
  rw [e1] at a3
  exact ⟨h1.later ((Below.refl _ _).alloc (Nat.le_refl _) _), h2.later ((Below.refl _ _).alloc (Nat.le_refl _) _), a3, h3.alloc (by rw [e1]; omega) _⟩
end Go.Proofs.Ytkljmnfekdoocaa
