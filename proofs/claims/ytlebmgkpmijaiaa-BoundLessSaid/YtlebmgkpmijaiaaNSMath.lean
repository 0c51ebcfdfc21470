/- Costs together: plain mathematics. -/
import Derived.RowKit
namespace Go.Proofs.Ytlebmgkpmijaiaa

/-- One cost as it counts, and costs together as long as there is no end to them. -/
def clamp (c : Int) : Int := min (max c 0) 1152921504606846976
def total : List Int → Int
  | [] => 0
  | c :: l => clamp c + total l
def sumOf (l : List Int) : Int := min (total l) 1152921504606846976
theorem clamp_bd (c : Int) : 0 ≤ clamp c ∧ clamp c ≤ 1152921504606846976 := by unfold clamp; omega
theorem total_nn (l : List Int) : 0 ≤ total l := by
  induction l with
  | nil => exact Int.le_refl _
  | cons c l ih => have := clamp_bd c; unfold total; omega
theorem total_app (l r : List Int) : total (l ++ r) = total l + total r := by
  induction l with
  | nil => simp [total]
  | cons c l ih => simp only [List.cons_append, total, ih]; omega
theorem total_rev (l : List Int) : total l.reverse = total l := by
  induction l with
  | nil => rfl
  | cons c l ih => simp only [List.reverse_cons, total_app, ih, total]; omega
theorem sumOf_bd (l : List Int) : 0 ≤ sumOf l ∧ sumOf l ≤ 1152921504606846976 := by have := total_nn l; unfold sumOf; omega
theorem sumOf_snoc (l : List Int) (c : Int) : sumOf (l ++ [c]) = min (sumOf l + clamp c) 1152921504606846976 := by
  have := clamp_bd c
  have := total_nn l
  unfold sumOf
  rw [total_app]
  simp only [total]
  omega
theorem sum_two (a b : Int) : sumOf [a, b] = min (clamp a + clamp b) 1152921504606846976 := by unfold sumOf; simp [total]
theorem sum_add {a b : Int} (ha : 0 ≤ a) (hb : 0 ≤ b) (h : a + b ≤ 1152921504606846976) : sumOf [a, b] = a + b := by rw [sum_two]; unfold clamp; omega
theorem sum_mono {a b a' b' : Int} (ha : a ≤ a') (hb : b ≤ b') : sumOf [a, b] ≤ sumOf [a', b'] := by rw [sum_two, sum_two]; unfold clamp; omega
theorem sum_le {a b : Int} (ha : 0 ≤ a) (hb : 0 ≤ b) : sumOf [a, b] ≤ a + b := by rw [sum_two]; unfold clamp; omega
theorem sum_nn (a b : Int) : 0 ≤ sumOf [a, b] := (sumOf_bd _).1
end Go.Proofs.Ytlebmgkpmijaiaa
