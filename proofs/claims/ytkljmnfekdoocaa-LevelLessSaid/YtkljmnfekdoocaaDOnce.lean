/- Nodes once of each state: the document's answer. -/
import Derived.Test.YtkljmnfekdoocaaGThan
import Derived.Test.YtkljmnfekdoocaaXN
import Derived.Test.YtkljmnfekdoocaaXB
import Derived.Test.YtkljmnfekdoocaaXR3
namespace Go.Proofs.Ytkljmnfekdoocaa
open Go.ChangeShapes Go.WideShapes Go.ChangeAt Go.RowKit

/-- The last place ahead of m at which this state stands; less than 0: none. -/
def atN (out : List Nod) (s : Sta) : Nat → Int
  | 0 => -1
  | m + 1 => if (nodAt out m).s = s then (m : Int) else atN out s m
theorem atN_is {out : List Nod} {s : Sta} : ∀ m, (atN out s m = -1 ∧ ∀ i, i < m → (nodAt out i).s ≠ s) ∨ (∃ j : Nat, atN out s m = j ∧ j < m ∧ (nodAt out j).s = s)
  | 0 => .inl ⟨rfl, fun i h => absurd h (Nat.not_lt_zero _)⟩
  | m + 1 => by
    rw [atN]
    by_cases h : (nodAt out m).s = s
    · rw [if_pos h]; exact .inr ⟨m, rfl, by omega, h⟩
    · rw [if_neg h]
      rcases atN_is (out := out) (s := s) m with ⟨h1, h2⟩ | ⟨j, h1, h2, h3⟩
      · exact .inl ⟨h1, fun i hi => by
          by_cases e : i = m
          · subst e; exact h
          · exact h2 i (by omega)⟩
      · exact .inr ⟨j, h1, by omega, h3⟩
theorem put_not {x : Nod} : ∀ {out : List Nod}, (∀ i, i < out.length → (nodAt out i).s ≠ x.s) → putOnce x out = out ++ [x]
  | [], _ => rfl
  | y :: out, h => by
    rw [putOnce, if_neg (show ¬ y.s = x.s from h 0 (by simp)), put_not (fun i hi => h (i + 1) (by simp; omega))]; rfl
theorem put_at {x : Nod} : ∀ {out : List Nod} (j : Nat), j < out.length → (nodAt out j).s = x.s → out.Pairwise (fun a b => a.s ≠ b.s) → putOnce x out = if x.cost < (nodAt out j).cost then out.set j x else out
  | [], j, h, _, _ => by simp at h
  | y :: out, 0, _, hs, _ => by
    have hs' : y.s = x.s := hs
    rw [putOnce, if_pos hs']
    show (if x.cost < y.cost then x else y) :: out = if x.cost < y.cost then x :: out else y :: out
    split <;> rfl
  | y :: out, j + 1, h, hs, hp => by
    have hj : j < out.length := by simpa using h
    have hs' : (nodAt out j).s = x.s := hs
    have hne : y.s ≠ x.s := by
      rw [← hs']
      exact (List.pairwise_cons.1 hp).1 _ (nodAt_mem hj)
    rw [putOnce, if_neg hne, put_at j hj hs' (List.pairwise_cons.1 hp).2]
    show y :: (if x.cost < (nodAt out j).cost then out.set j x else out) = if x.cost < (nodAt out j).cost then y :: out.set j x else y :: out
    split <;> rfl
theorem once_take {l : List Nod} {k : Nat} (hk : k < l.length) : onceL (l.take (k + 1)) = putOnce (nodAt l k) (onceL (l.take k)) := by
  rw [List.take_succ_eq_append_getElem hk, onceL_snoc]
  unfold nodAt
  rw [List.getD_eq_getElem?_getD, List.getElem?_eq_getElem hk]; rfl
end Go.Proofs.Ytkljmnfekdoocaa
