/- What wellFormed answers. -/
import Derived.Test.YtiohnjgfpjbjmaaIHead
namespace Go.Proofs.Ytiohnjgfpjbjmaa
open Go.ChangeShapes Go.WideShapes Go.ChangeAt Go.RowKit

theorem wf_first {L : List (List Int)} (h : wf L = true) : 0 < L.length ∧ (L.getD 0 []).length = 3 := by
  unfold wf at h
  rw [decide_eq_true_iff] at h
  exact ⟨List.length_pos_iff.2 h.1, h.2.1⟩
theorem wf_at {L : List (List Int)} (h : wf L = true) (k : Nat) (h1 : 1 ≤ k) (hk : k < L.length) : (L.getD k []).length = 6 := by
  unfold wf at h
  rw [decide_eq_true_iff] at h
  refine h.2.2 _ ?_
  obtain ⟨j, rfl⟩ : ∃ j, k = j + 1 := ⟨k - 1, by omega⟩
  rw [List.getD_eq_getElem?_getD, List.getElem?_eq_getElem hk]
  match L, hk with
  | a :: R, hk => simp
theorem wf_mk {L : List (List Int)} (h0 : 0 < L.length) (h1 : (L.getD 0 []).length = 3) (h2 : ∀ k, 1 ≤ k → k < L.length → (L.getD k []).length = 6) : wf L = true := by
  unfold wf
  rw [decide_eq_true_iff]
  refine ⟨List.length_pos_iff.1 h0, h1, fun l hl => ?_⟩
  obtain ⟨i, hi, rfl⟩ := List.getElem_of_mem hl
  have := h2 (i + 1) (by omega) (by simp at hi; omega)
  rw [List.getD_eq_getElem?_getD, List.getElem?_eq_getElem (by simp at hi; omega)] at this
  simpa using this
theorem wf_no0 {L : List (List Int)} (h : L.length = 0) : wf L = false := by
  cases hw : wf L with
  | false => rfl
  | true => have := wf_first hw; omega
theorem wf_no1 {L : List (List Int)} (h : (L.getD 0 []).length ≠ 3) : wf L = false := by
  cases hw : wf L with
  | false => rfl
  | true => exact absurd (wf_first hw).2 h
theorem wf_no2 {L : List (List Int)} (k : Nat) (h1 : 1 ≤ k) (hk : k < L.length) (h : (L.getD k []).length ≠ 6) : wf L = false := by
  cases hw : wf L with
  | false => rfl
  | true => exact absurd (wf_at hw k h1 hk) h
theorem IsLL.cap {w : World} {a : Option Addr} {n cap : Nat} {L : List (List Int)} (h : IsLL w (.slice a n cap) L) : L.length ≤ cap := by
  obtain ⟨vs, h1, h2⟩ := h
  obtain ⟨_, a', cap', hv, hc', _⟩ := h1
  rw [h2.len] at *
  simp at hv
  omega
end Go.Proofs.Ytiohnjgfpjbjmaa
