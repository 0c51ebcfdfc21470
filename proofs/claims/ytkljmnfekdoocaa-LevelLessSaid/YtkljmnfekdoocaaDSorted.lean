/- Nodes by what they cost at least: the document's answer. -/
import Derived.Test.YtkljmnfekdoocaaGThan
import Derived.Test.YtkljmnfekdoocaaXN
import Derived.Test.YtkljmnfekdoocaaXB
import Derived.Test.YtkljmnfekdoocaaXR3
import Derived.Test.YtkljmnfekdoocaaDBOf
namespace Go.Proofs.Ytkljmnfekdoocaa
open Go.ChangeShapes Go.WideShapes Go.ChangeAt Go.RowKit

/-- Where one is put in, told from the back. -/
theorem ins_at {f : Nod → Int} {O : List Nod} (ho : OrdG f O) {x : Nod} {q : Nat} (hq : q ≤ O.length) (h1 : ∀ i, q ≤ i → i < O.length → f x < f (nodAt O i)) (h2 : q = 0 ∨ ¬ f x < f (nodAt O (q - 1))) : insG f x O = O.take q ++ [x] ++ O.drop q := by
  obtain ⟨a, b, rfl, he, ha, hb⟩ := insG_split (f := f) x ho
  have hab : (a ++ b).length = a.length + b.length := List.length_append
  have e : q = a.length := by
    rcases Nat.lt_trichotomy q a.length with h | h | h
    · have h3 := h1 q (Nat.le_refl _) (by omega)
      rw [nodAt_left h] at h3
      have := ha _ (nodAt_mem h)
      omega
    · exact h
    · rcases h2 with h2 | h2
      · omega
      · exfalso
        obtain ⟨i, hi⟩ : ∃ i, q - 1 = a.length + i := ⟨q - 1 - a.length, by omega⟩
        rw [hi, nodAt_right] at h2
        exact h2 (hb _ (nodAt_mem (by omega)))
  subst e
  rw [he, List.take_left, List.drop_left, List.append_assoc]; rfl
theorem sort_take {f : Nod → Int} {l : List Nod} {k : Nat} (hk : k < l.length) : sortG f (l.take (k + 1)) = insG f (nodAt l k) (sortG f (l.take k)) := by
  rw [List.take_succ_eq_append_getElem hk, sortG_snoc]
  unfold nodAt
  rw [List.getD_eq_getElem?_getD, List.getElem?_eq_getElem hk]; rfl
end Go.Proofs.Ytkljmnfekdoocaa
