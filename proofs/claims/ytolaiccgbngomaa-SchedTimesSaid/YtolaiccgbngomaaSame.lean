/- Whether two lists of lines are the same; the chapter's example. -/
import Derived.Test.YtolaiccgbngomaaLines
import Derived.Lib.SlBytesConst
namespace Go.Proofs.Ytolaiccgbngomaa
open Go.ChangeShapes Go.WideShapes Go.ChangeAt Go.RowKit

theorem row_cell {w : World} {a : Option Addr} {n cap : Nat} {xs : List Value} (h : Row w (.slice a n cap) xs) (p : Nat) (hp : p < xs.length) : ∃ tb off, a = some ⟨tb, off, none⟩ ∧ w.cell? ⟨tb, off + p, none⟩ = xs[p]? ∧ tb < w.heap.size := by
  obtain ⟨tb, off, cap', he, hc, _, hlt⟩ := row_at h hp
  simp at he
  exact ⟨tb, off, he.1, hc, hlt⟩
theorem Row.form {w : World} {v : Value} {xs : List Value} (h : Row w v xs) : ∃ a cap, v = .slice a xs.length cap ∧ xs.length ≤ maxLen := by
  obtain ⟨hm, a, cap, rfl, _⟩ := h
  exact ⟨a, cap, rfl, hm⟩
theorem IsLL.form {w : World} {v : Value} {L : List (List Int)} (h : IsLL w v L) : ∃ a cap, v = .slice a L.length cap ∧ L.length ≤ maxLen := by
  obtain ⟨vs, h1, h2⟩ := h
  obtain ⟨a, cap, rfl, hm⟩ := h1.form
  rw [h2.len] at *
  exact ⟨a, cap, rfl, hm⟩
theorem ll_at {w : World} {a : Option Addr} {n cap : Nat} {L : List (List Int)} (h : IsLL w (.slice a n cap) L) (j : Nat) (hj : j < L.length) :
    ∃ tb off a1 n1 c1, a = some ⟨tb, off, none⟩ ∧ tb < w.heap.size ∧ w.cell? ⟨tb, off + j, none⟩ = some (.slice a1 n1 c1) ∧ n1 = (L.getD j []).length ∧ n1 ≤ maxLen ∧ Row w (.slice a1 n1 c1) (ints (L.getD j [])) := by
  obtain ⟨vs, h1, h2⟩ := h
  obtain ⟨u, hu, hr⟩ := h2.at j hj
  obtain ⟨tb, off, ha, hc, hlt⟩ := row_cell h1 j (by rw [h2.len]; exact hj)
  obtain ⟨a1, c1, rfl, hm⟩ := hr.form
  rw [ints_len] at *
  exact ⟨tb, off, a1, _, c1, ha, hlt, by rw [hc, hu], rfl, hm, hr⟩
theorem take_ne {A B : List (List Int)} {j : Nat} (h : A.getD j [] ≠ B.getD j []) : A ≠ B := fun e => h (by rw [e])
theorem take_on {α : Type} {d : α} {A B : List α} {j : Nat} (hl : A.length = B.length) (hj : j < A.length) (h : A.take j = B.take j) (he : A.getD j d = B.getD j d) : A.take (j + 1) = B.take (j + 1) := by
  rw [List.take_add_one, List.take_add_one, h]
  rw [List.getD_eq_getElem?_getD, List.getD_eq_getElem?_getD, List.getElem?_eq_getElem hj, List.getElem?_eq_getElem (by omega)] at he
  rw [List.getElem?_eq_getElem hj, List.getElem?_eq_getElem (by omega)]
  simp at he
  rw [he]
theorem take_all {α : Type} {A B : List α} (hl : A.length = B.length) (h : A.take A.length = B.take A.length) : A = B := by
  rw [List.take_length, hl, List.take_length] at h; exact h

def egBytes : List Int := [49, 32, 45, 50, 32, 32, 35, 32, 120, 10, 10, 48, 48, 55]
theorem eg_res : errOf egBytes = 0 ∧ resOf egBytes = [[1, -2], [7]] := by decide +kernel
theorem eg_row (w : World) : Row (w.alloc (.cells #[.int .u8 49, .int .u8 32, .int .u8 45, .int .u8 50, .int .u8 32, .int .u8 32, .int .u8 35, .int .u8 32, .int .u8 120, .int .u8 10, .int .u8 10, .int .u8 48, .int .u8 48,  .int .u8 55] 5 (14, 15))) (.slice (some ⟨w.heap.size, 0, none⟩) 14 14) (byts egBytes) := by
  refine ⟨by simp [egBytes, byts, maxLen], _, _, rfl, by simp [egBytes, byts], ⟨by simp [maxLen], by simp⟩, .inr ⟨_, _, rfl, fun i hi => ?_⟩⟩
  rw [Nat.zero_add, World.cell?_alloc_mark]
  simp [egBytes, byts]
end Go.Proofs.Ytolaiccgbngomaa
