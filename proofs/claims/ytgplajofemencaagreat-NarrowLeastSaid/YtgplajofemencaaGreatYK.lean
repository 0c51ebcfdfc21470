/- Nodes once of each state: the document's answer. -/
import Derived.Test.YtgplajofemencaaGreatYJ
import Derived.Test.YtgplajofemencaaGreatXN
import Derived.Test.YtgplajofemencaaGreatXB
import Derived.Test.YtgplajofemencaaGreatYG
import Derived.Test.YtgplajofemencaaGreatYI
import Derived.Test.YtgplajofemencaaGreatXSDoc
namespace Go.Proofs.YtgplajofemencaaGreat
open Go.ChangeShapes Go.WideShapes Go.ChangeAt Go.RowKit

/-- The last place ahead of m at which this state stands; less than 0: none. -/
def atN (out : List Nod) (s : Sta) : Nat → Int
  | 0 => -1
  | m + 1 => if (nodAt out m).s = s then (m : Int) else atN out s m
theorem atN_is {out : List Nod} {s : Sta} : ∀ m, (atN out s m = -1 ∧ ∀ i, i < m → (nodAt out i).s ≠ s) ∨ (∃ j : Nat, atN out s m = j ∧ j < m ∧ (nodAt out j).s = s)
  | 0 => .inl ⟨rfl, fun i h => absurd h (Nat.not_lt_zero _)⟩
  | m + 1 => by
    rw [atN]
    by_cases h : (nodAt out m).s = s
    · rw [if_pos h]; exact .inr ⟨m, rfl, by omega, h⟩
    · rw [if_neg h]
      rcases atN_is (out := out) (s := s) m with ⟨h1, h2⟩ | ⟨j, h1, h2, h3⟩
      · exact .inl ⟨h1, fun i hi => by
          by_cases e : i = m
          · subst e; exact h
          · exact h2 i (by omega)⟩
      · exact .inr ⟨j, h1, by omega, h3⟩
theorem put_not {x : Nod} : ∀ {out : List Nod}, (∀ i, i < out.length → (nodAt out i).s ≠ x.s) → putOnce x out = out ++ [x]
  | [], _ => rfl
  | y :: out, h => by
    rw [putOnce, if_neg (show ¬ y.s = x.s from h 0 (by simp)), put_not (fun i hi => h (i + 1) (by simp; omega))]; rfl
theorem put_at {x : Nod} : ∀ {out : List Nod} (j : Nat), j < out.length → (nodAt out j).s = x.s → out.Pairwise (fun a b => a.s ≠ b.s) → putOnce x out = if x.cost < (nodAt out j).cost then out.set j x else out
  | [], j, h, _, _ => by simp at h
  | y :: out, 0, _, hs, _ => by
    have hs' : y.s = x.s := hs
    rw [putOnce, if_pos hs']
    show (if x.cost < y.cost then x else y) :: out = if x.cost < y.cost then x :: out else y :: out
    split <;> rfl
  | y :: out, j + 1, h, hs, hp => by
    have hj : j < out.length := by simpa using h
    have hs' : (nodAt out j).s = x.s := hs
    have hne : y.s ≠ x.s := by
      rw [← hs']
      exact (List.pairwise_cons.1 hp).1 _ (nodAt_mem hj)
    rw [putOnce, if_neg hne, put_at j hj hs' (List.pairwise_cons.1 hp).2]
    show y :: (if x.cost < (nodAt out j).cost then out.set j x else out) = if x.cost < (nodAt out j).cost then y :: out.set j x else y :: out
    split <;> rfl
end Go.Proofs.YtgplajofemencaaGreat
/- Nodes by what they cost at least: the document's answer. -/
namespace Go.Proofs.YtgplajofemencaaGreat
open Go.ChangeShapes Go.WideShapes Go.ChangeAt Go.RowKit

theorem sort_take {f : Nod → Int} {l : List Nod} {k : Nat} (hk : k < l.length) : sortG f (l.take (k + 1)) = insG f (nodAt l k) (sortG f (l.take k)) := by
  rw [List.take_succ_eq_append_getElem hk, sortG_snoc]
  unfold nodAt
  rw [List.getD_eq_getElem?_getD, List.getElem?_eq_getElem hk]; rfl
end Go.Proofs.YtgplajofemencaaGreat
/- All moves of some nodes: the document's answer. -/
namespace Go.Proofs.YtgplajofemencaaGreat
open Go.ChangeShapes Go.WideShapes Go.ChangeAt Go.RowKit

theorem row_oneI (w : World) (a : Int) : Row (w.alloc (.cells #[.int .i64 a] 3)) (.slice (some ⟨w.heap.size, 0, none⟩) 1 1) (ints [a]) := by
  refine ⟨by simp [ints, maxLen], _, _, rfl, by simp [ints], ⟨by simp [maxLen], by simp⟩, .inr ⟨_, _, rfl, fun i hi => ?_⟩⟩
  rw [cell_of_row _ _ _ _ _ _ (heap_alloc_new w _), Nat.zero_add]
  simp [ints]
theorem OwnI.lt {w : World} {B : Nat} {v : Value} {l : List Int} (h : OwnI w B v l) (g : Nat) (hg : v.ownBlock = some g) : B ≤ g ∧ g < w.heap.size := World.ownsRow.lt (show w.ownsRow B 3 1 v l.length (ints l) from h) g hg
theorem moves_len (I : Ins) (s : Sta) : (movesS I s).length ≤ 33 := by
  by_cases h : movesS I s = []
  · rw [h]; simp
  · obtain ⟨j, hj⟩ := List.exists_mem_of_ne_nil _ h
    have hm := (mem_moves.1 hj).1.1
    have h1 := (fine_of hm).p1
    unfold movesS movesN
    refine Nat.le_trans (List.length_filter_le _ _) ?_
    rw [List.length_map, List.length_range]
    omega
theorem take_at {l : List Nod} {k : Nat} (hk : k < l.length) : l.take (k + 1) = l.take k ++ [nodAt l k] := by
  rw [List.take_succ_eq_append_getElem hk]
  unfold nodAt
  rw [List.getD_eq_getElem?_getD, List.getElem?_eq_getElem hk]; rfl
/-- Those of a node's children that may cost less than up, of its first i moves. -/
def kidsI (I : Ins) (up : Int) (n : Nod) (i : Nat) : List Nod := (((movesS I n.s).take i).map (childN I n)).filter (fun c => decide (ofB I c < up))
theorem kids_next {I : Ins} {up : Int} {l : List Nod} {k : Nat} (hk : k < l.length) : kidsL I up (l.take (k + 1)) = kidsL I up (l.take k) ++ kidsI I up (nodAt l k) (movesS I (nodAt l k).s).length := by
  unfold kidsL kidsI
  rw [take_at hk, List.flatMap_append, List.filter_append, List.take_length]
  simp [kidsN]
theorem kidsI_len (I : Ins) (up : Int) (n : Nod) (i : Nat) : (kidsI I up n i).length ≤ 33 := by
  unfold kidsI
  refine Nat.le_trans (List.length_filter_le _ _) ?_
  rw [List.length_map, List.length_take]
  have := moves_len I n.s
  omega
theorem kids_len (I : Ins) (up : Int) (l : List Nod) : ∀ k, k ≤ l.length → (kidsL I up (l.take k)).length ≤ 33 * k
  | 0, _ => by simp [kidsL]
  | k + 1, h => by
    rw [kids_next (by omega), List.length_append]
    have := kids_len I up l k (by omega)
    have := kidsI_len I up (nodAt l k) (movesS I (nodAt l k).s).length
    omega
theorem best_next {I : Ins} {l : List Nod} {k : Nat} (hk : k < l.length) : bestL I (l.take (k + 1)) = bestStep I (bestL I (l.take k)) (nodAt l k) := by
  rw [take_at hk, bestL_snoc]
/-- The best one, or noughts. -/
def bestV (o : Option Nod) : Nod := o.getD nod0
theorem best_step {I : Ins} (o : Option Nod) (n : Nod) : bestStep I o n = if (decide (EndS I n.s) && (!o.isSome || decide ((endN I n).cost < (bestV o).cost))) = true then some (endN I n) else o := by
  unfold bestStep
  by_cases he : EndS I n.s
  · rw [if_pos he, decide_eq_true he]
    cases o with
    | none => rfl
    | some b =>
      show (if (endN I n).cost < b.cost then some (endN I n) else some b) = _
      by_cases hc : (endN I n).cost < b.cost
      · rw [if_pos hc, if_pos]
        show (true && (!true || decide ((endN I n).cost < b.cost))) = true
        rw [decide_eq_true hc]; rfl
      · rw [if_neg hc, if_neg]
        show ¬ (true && (!true || decide ((endN I n).cost < b.cost))) = true
        rw [decide_eq_false hc]; decide
  · rw [if_neg he, decide_eq_false he, if_neg (by simp)]
theorem boxes_inn (w : World) (I : Ins) (v : Value) : YBox (((w.alloc (boxI I v)).alloc (boxN noughtS 0 (.slice none 0 0))).alloc (boxN noughtS 0 (.slice none 0 0))) w.heap.size I v ∧ NodB (((w.alloc (boxI I v)).alloc (boxN noughtS 0 (.slice none 0 0))).alloc (boxN noughtS 0 (.slice none 0 0))) (w.heap.size + 1) noughtS 0 (.slice none 0 0) ∧
    NodB (((w.alloc (boxI I v)).alloc (boxN noughtS 0 (.slice none 0 0))).alloc (boxN noughtS 0 (.slice none 0 0))) (w.heap.size + 2) noughtS 0 (.slice none 0 0) ∧ Below w.heap.size w (((w.alloc (boxI I v)).alloc (boxN noughtS 0 (.slice none 0 0))).alloc (boxN noughtS 0 (.slice none 0 0))) := by
  obtain ⟨h1, h2, h3⟩ := boxes_in w I v noughtS 0 (.slice none 0 0)
  have e1 : ((w.alloc (boxI I v)).alloc (boxN noughtS 0 (.slice none 0 0))).heap.size = w.heap.size + 2 := by simp
  have a3 := nod_new ((w.alloc (boxI I v)).alloc (boxN noughtS 0 (.slice none 0 0))) noughtS 0 (.slice none 0 0)
  rw [e1] at a3
  exact ⟨h1.later ((Below.refl _ _).alloc (Nat.le_refl _) _), h2.later ((Below.refl _ _).alloc (Nat.le_refl _) _), a3, h3.alloc (by rw [e1]; omega) _⟩
end Go.Proofs.YtgplajofemencaaGreat
