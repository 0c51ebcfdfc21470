/- What the document's Split answers. -/
import Derived.Test.YtipjaibemhoifaaUSplit
namespace Go.Proofs.Ytipjaibemhoifaa
open Go.ChangeShapes Go.WideShapes Go.ChangeAt Go.RowKit

theorem bad_low {t : List Int} {i : Nat} (h : t.getD i 0 < 0) : badAt t i = true := by unfold badAt; rw [decide_eq_true h]; rfl
theorem bad_zero {t : List Int} {i : Nat} (h : t.getD i 0 = 0) (h2 : i = 0 ∨ i = t.length - 1 ∨ t.getD (i - 1) 0 = 0) : badAt t i = true := by
  unfold badAt
  rw [Bool.or_eq_true, Bool.and_eq_true, Bool.or_eq_true, Bool.or_eq_true, decide_eq_true_eq, decide_eq_true_eq, decide_eq_true_eq, decide_eq_true_eq, decide_eq_true_eq]
  refine .inr ⟨h, ?_⟩
  rcases h2 with h2 | h2 | h2
  · exact .inl (.inl h2)
  · exact .inl (.inr h2)
  · exact .inr h2
theorem bad_not {t : List Int} {i : Nat} (h : ¬ t.getD i 0 < 0) (h2 : t.getD i 0 = 0 → i ≠ 0 ∧ i ≠ t.length - 1 ∧ t.getD (i - 1) 0 ≠ 0) : badAt t i = false := by
  unfold badAt
  by_cases h0 : t.getD i 0 = 0
  · obtain ⟨a, b, c⟩ := h2 h0
    rw [decide_eq_false h, decide_eq_false a, decide_eq_false b, decide_eq_false c]; simp
  · rw [decide_eq_false h, decide_eq_false h0]; simp
theorem form_bad {t : List Int} {i : Nat} (hi : i < t.length) (h : badAt t i = true) : ¬ FormT t := fun hF => by rw [hF i hi] at h; cases h
def cutS (t : List Int) (i : Nat) : List (List Int) × List Int := if i ≤ t.length then cutP (t.take i) else (cutL t, [])
theorem cutS_zero (t : List Int) : cutS t 0 = ([], []) := by unfold cutS; rw [if_pos (Nat.zero_le _)]; rfl
theorem take_snocI {t : List Int} {i : Nat} (h : i < t.length) : t.take (i + 1) = t.take i ++ [t.getD i 0] := by
  rw [List.take_add_one, List.getD_eq_getElem?_getD, List.getElem?_eq_getElem h]; rfl
theorem cutS_on {t : List Int} {i : Nat} (hi : i < t.length) (hx : 0 < t.getD i 0) : cutS t (i + 1) = ((cutS t i).1, (cutS t i).2 ++ [t.getD i 0]) := by
  unfold cutS
  rw [if_pos (by omega), if_pos (by omega), take_snocI hi, cutP_snoc]
  unfold cutStep; rw [if_pos hx]
theorem cutS_push {t : List Int} {i : Nat} (hi : i < t.length) (hx : ¬ 0 < t.getD i 0) : cutS t (i + 1) = ((cutS t i).1 ++ [(cutS t i).2], []) := by
  unfold cutS
  rw [if_pos (by omega), if_pos (by omega), take_snocI hi, cutP_snoc]
  unfold cutStep; rw [if_neg hx]
theorem cutS_last (t : List Int) : cutS t (t.length + 1) = ((cutS t t.length).1 ++ [(cutS t t.length).2], []) := by
  unfold cutS
  rw [if_neg (by omega), if_pos (Nat.le_refl _), List.take_length]; rfl
theorem cutS_end (t : List Int) : (cutS t (t.length + 1)).1 = cutL t := by unfold cutS; rw [if_neg (by omega)]
theorem cutP_len (t : List Int) : (cutP t).1.length + (cutP t).2.length ≤ t.length := by
  refine snoc_ind (P := fun t => (cutP t).1.length + (cutP t).2.length ≤ t.length) (Nat.le_refl _) ?_ t
  intro t x h
  rw [cutP_snoc]
  unfold cutStep
  by_cases hx : 0 < x
  · rw [if_pos hx]; simp; omega
  · rw [if_neg hx]; simp; omega
theorem cutS_len (t : List Int) (i : Nat) : (cutS t i).1.length ≤ t.length + 1 ∧ (cutS t i).2.length ≤ t.length := by
  unfold cutS
  by_cases hi : i ≤ t.length
  · rw [if_pos hi]
    have := cutP_len (t.take i)
    rw [List.length_take] at this
    omega
  · rw [if_neg hi]
    have := cutP_len t
    unfold cutL
    rw [List.length_append]
    simp
    omega
end Go.Proofs.Ytipjaibemhoifaa
