/- What the document's own Matrix and Near answer. -/
import Derived.Test.YtkljmnfekdoocaaPNear
namespace Go.Proofs.Ytkljmnfekdoocaa
open Go.ChangeShapes Go.WideShapes Go.ChangeAt Go.RowKit

theorem rowF_take (l : List Stp) (t : Stp) (k : Nat) (hk : k < l.length) : (rowF l t).take (k + 1) = (rowF l t).take k ++ [farF t (nth l k)] := by
  have hl := rowF_len l t
  have := rowF_at l t k hk
  rw [List.getD_eq_getElem?_getD] at this
  rw [List.take_add_one]
  rw [List.getElem?_eq_getElem (by omega)] at this ⊢
  simp only [Option.getD_some] at this
  rw [this]; rfl
theorem matF_take (l : List Stp) (k : Nat) (hk : k < l.length) : (matF l).take (k + 1) = (matF l).take k ++ [rowF l (nth l k)] := by
  have hl := matF_len l
  have := matF_at l k hk
  rw [List.getD_eq_getElem?_getD] at this
  rw [List.take_add_one]
  rw [List.getElem?_eq_getElem (by omega)] at this ⊢
  simp only [Option.getD_some] at this
  rw [this]; rfl
/-! ### The document's Near -/
def colL (M : List (List Int)) (k : Nat) : List Int := M.map (fun r => r.getD k 0)
theorem colL_len (M : List (List Int)) (k : Nat) : (colL M k).length = M.length := by simp [colL]
theorem colL_at (M : List (List Int)) (k i : Nat) (hi : i < M.length) : (colL M k).getD i 0 = (M.getD i []).getD k 0 := by
  unfold colL
  rw [List.getD_eq_getElem?_getD, List.getElem?_map, List.getD_eq_getElem?_getD (l := M), List.getElem?_eq_getElem hi]
  rfl
theorem colF (l : List Stp) (k : Nat) (hk : k < l.length) : colL (matF l) k = (matF l).getD k [] := by
  rw [matF_at l k hk]
  apply List.ext_getElem
  · rw [colL_len, matF_len, rowF_len]
  · intro i h1 h2
    rw [colL_len, matF_len] at h1
    have a := colL_at (matF l) k i (by rw [matF_len]; exact h1)
    rw [matF_at l i h1, rowF_at l _ k hk, farF_comm, ← rowF_at l _ i h1, List.getD_eq_getElem?_getD, List.getD_eq_getElem?_getD, List.getElem?_eq_getElem (by rw [colL_len, matF_len]; exact h1), List.getElem?_eq_getElem h2] at a
    simpa using a
/-- What has been seen of a row, less the one at its own place. -/
def seen (c : List Int) (i k : Nat) : List Int := (c.take i).eraseIdx k
theorem seen_skip (c : List Int) (k : Nat) (hk : k < c.length) : seen c (k + 1) k = seen c k k := by
  unfold seen
  have hl : (c.take k).length = k := by rw [List.length_take]; omega
  have e : (c.take k ++ [c[k]]).eraseIdx k = c.take k := by
    rw [List.eraseIdx_append_of_length_le (by omega), hl, Nat.sub_self]; simp
  rw [List.take_add_one, List.getElem?_eq_getElem hk, show (some c[k]).toList = [c[k]] from rfl, e, List.eraseIdx_of_length_le (by omega)]
theorem seen_next (c : List Int) (i k : Nat) (hi : i < c.length) (hn : i ≠ k) : seen c (i + 1) k = seen c i k ++ [c.getD i 0] := by
  unfold seen
  have hl : (c.take i).length = i := by rw [List.length_take]; omega
  rw [List.take_add_one, List.getElem?_eq_getElem hi, List.getD_eq_getElem?_getD, List.getElem?_eq_getElem hi]
  simp only [Option.toList_some, Option.getD_some]
  by_cases h : k < i
  · rw [List.eraseIdx_append_of_lt_length (by omega)]
  · rw [List.eraseIdx_append_of_length_le (by omega), hl, List.eraseIdx_of_length_le (l := c.take i) (by omega), List.eraseIdx_of_length_le (l := [c[i]]) (by simp; omega)]
theorem seen_none (c : List Int) (i k : Nat) (hi : i ≤ c.length) (h : i = 0 ∨ k = 0 ∧ i = 1) : seen c i k = [] := by
  unfold seen
  apply List.eq_nil_of_length_eq_zero
  rw [List.length_eraseIdx, List.length_take, Nat.min_eq_left hi]
  split <;> omega
theorem seen_some (c : List Int) (i k : Nat) (hi : i ≤ c.length) (h0 : i ≠ 0) (h : k ≠ 0 ∨ i ≠ 1) (hn : i ≠ k) : ∃ a r, seen c i k = a :: r := by
  have : (seen c i k).length ≠ 0 := by
    unfold seen
    rw [List.length_eraseIdx, List.length_take, Nat.min_eq_left hi]
    split <;> omega
  match h1 : seen c i k with
  | [] => rw [h1] at this; simp at this
  | a :: r => exact ⟨a, r, rfl⟩
theorem seen_all (c : List Int) (k : Nat) : seen c c.length k = c.eraseIdx k := by unfold seen; rw [List.take_length]
theorem least_first (c : List Int) (i k : Nat) (hi : i < c.length) (hn : i ≠ k) (h : i = 0 ∨ k = 0 ∧ i = 1) : leastL (seen c (i + 1) k) = c.getD i 0 := by
  rw [seen_next c i k hi hn, seen_none c i k (by omega) h]; rfl
theorem least_more (c : List Int) (i k : Nat) (hi : i < c.length) (h0 : i ≠ 0) (h : k ≠ 0 ∨ i ≠ 1) (hn : i ≠ k) : leastL (seen c (i + 1) k) = min (leastL (seen c i k)) (c.getD i 0) := by
  obtain ⟨a, r, e⟩ := seen_some c i k (by omega) h0 h hn
  rw [seen_next c i k hi hn, e]
  exact leastL_snoc a r _
theorem nearK_col (l : List Stp) (k : Nat) (hk : k < l.length) : nearK (matF l) (k + 1) = nearK (matF l) k ++ [leastL ((colL (matF l) k).eraseIdx k)] := by
  rw [nearK_next, colF l k hk]
end Go.Proofs.Ytkljmnfekdoocaa
