/- What the document's word, line and Lines answer. -/
import Derived.Test.YtolaiccgbngomaaArgs
namespace Go.Proofs.Ytolaiccgbngomaa
open Go.ChangeShapes Go.WideShapes Go.ChangeAt Go.RowKit

theorem digs_bd : ∀ (d : List Int) (n m : Int) (k : Nat), 0 ≤ n → n < 10 ^ k → digs n d = some m → m < 10 ^ (k + d.length)
  | [], n, m, k, _, h, e => by simp [digs] at e; subst e; simpa using h
  | c :: r, n, m, k, h0, h, e => by
    unfold digs at e
    split at e
    · simp at e
    · have := digs_bd r (10 * n + (c - 48)) m (k + 1) (by omega) (by rw [Int.pow_succ]; omega) e
      rw [show k + (c :: r).length = k + 1 + r.length by simp; omega]
      exact this
/-- What is known of the digits gone over. -/
def DigJ (d : List Int) (k : Nat) (n : Int) : Prop := digs 0 d = digs n (d.drop k) ∧ 0 ≤ n ∧ n < 10 ^ k
theorem digJ_step {d : List Int} {k : Nat} {n c : Int} (h : DigJ d k n) (hk : k < d.length) (hc : d.getD k 0 = c) (h1 : 48 ≤ c) (h2 : c ≤ 57) : DigJ d (k + 1) (10 * n + (c - 48)) := by
  obtain ⟨e, h3, h4⟩ := h
  refine ⟨?_, by omega, by rw [Int.pow_succ]; omega⟩
  rw [e, drop_at d k hk c hc]
  show (if c < 48 ∨ 57 < c then none else digs (10 * n + (c - 48)) (d.drop (k + 1))) = _
  rw [if_neg (by omega)]
theorem digJ_bad {d : List Int} {k : Nat} {n c : Int} (h : DigJ d k n) (hk : k < d.length) (hc : d.getD k 0 = c) (h1 : c < 48 ∨ 57 < c) : digs 0 d = none := by
  rw [h.1, drop_at d k hk c hc]
  show (if c < 48 ∨ 57 < c then none else digs (10 * n + (c - 48)) (d.drop (k + 1))) = _
  rw [if_pos h1]
theorem digJ_end {d : List Int} {n : Int} (h : DigJ d d.length n) : digs 0 d = some n := by rw [h.1]; simp [digs]
theorem digJ_small {d : List Int} {k : Nat} {n : Int} (h : DigJ d k n) (hk : k ≤ 12) : n < 1000000000000 := by
  have h1 : (10 : Int) ^ k ≤ 10 ^ 12 := by
    have := Nat.pow_le_pow_right (n := 10) (by decide) hk
    exact_mod_cast this
  have := h.2.2
  omega
/-- What word answers, told by the number of bytes and the sign. -/
theorem word_plain (b : List Int) (h : b.head? ≠ some 45) : wordS b = if b.length < 1 ∨ 12 < b.length then none else digs 0 b := by unfold wordS; rw [if_neg h]
theorem word_minus (r : List Int) : wordS (45 :: r) = if r.length < 1 ∨ 12 < r.length then none else (digs 0 r).map (fun n => -n) := by unfold wordS; simp

end Go.Proofs.Ytolaiccgbngomaa
