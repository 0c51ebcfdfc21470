/- Small facts on slices that read as lists of costs: they stay so behind new memory; one that the call has built reads as what was put in. -/
import Derived.Test.YtgiljnmkakjjmaaAny
import Derived.WalkSpells
namespace Go.Proofs.Ytgiljnmkakjjmaa
open Go.ChangeShapes Go.WideShapes Go.ChangeAt Go.RowKit

theorem reads_later {w w' : World} {a : Option Addr} {zs : List Int} (hb : Below w.heap.size w w') (h : Reads w a zs) : Reads w' a zs := by
  obtain ⟨h1, h2⟩ := h
  refine ⟨h1, ?_⟩
  rcases h2 with rfl | ⟨b, off, rfl, h3⟩
  · exact Or.inl rfl
  · exact Or.inr ⟨b, off, rfl, fun k hk => cell_later hb (h3 k hk)⟩

theorem reads_own {w : World} {B : Nat} {v : Value} {n : Nat} {ys : List Int} (h : w.ownsRow B 3 1 v n (ys.map (Value.int .i64))) :
    ys.length = n ∧ ∃ a cap, v = .slice a n cap ∧ Reads w a ys := by
  obtain ⟨h1, h2⟩ := id h
  have hn : ys.length = n := by simpa using h1
  refine ⟨hn, ?_⟩
  rcases h2 with ⟨rfl, rfl⟩ | ⟨g, cap, cur, rfl, -, -, hnc, hcm, -, -⟩
  · exact ⟨none, 0, rfl, by omega, Or.inl (List.length_eq_zero_iff.1 hn)⟩
  · refine ⟨_, cap, rfl, by unfold maxLen at hcm; omega, Or.inr ⟨g, 0, rfl, fun k hk => ?_⟩⟩
    have := h.cellAt k (by omega)
    rw [Nat.zero_add, this]
    simp [List.getD, hk]

theorem reads_take {w : World} {b off : Nat} {zs : List Int} (c : Nat) (hl : zs.length ≤ 9223372036854775807) (h : ∀ k, k < zs.length → w.cell? ⟨b, off + k, none⟩ = some (.int .i64 (zs.getD k 0))) :
    Reads w (some ⟨b, off, none⟩) (zs.take c) ∧ Reads w (some ⟨b, off + c, none⟩) (zs.drop c) := by
  refine ⟨⟨by rw [List.length_take]; omega, Or.inr ⟨b, off, rfl, fun k hk => ?_⟩⟩, ⟨by rw [List.length_drop]; omega, Or.inr ⟨b, off + c, rfl, fun k hk => ?_⟩⟩⟩
  · rw [List.length_take] at hk
    rw [h k (by omega)]
    simp [List.getD, show k < c by omega]
  · rw [List.length_drop] at hk
    rw [Nat.add_assoc, h (c + k) (by omega)]
    simp [List.getD]

theorem reads_two {w : World} {g : Nat} {x y : Int} (h0 : w.cell? ⟨g, 0, none⟩ = some (.int .i64 x)) (h1 : w.cell? ⟨g, 1, none⟩ = some (.int .i64 y)) : Reads w (some ⟨g, 0, none⟩) [x, y] := by
  refine ⟨by simp, Or.inr ⟨_, _, rfl, ?_⟩⟩
  intro k hk
  have : k = 0 ∨ k = 1 := by simp at hk; omega
  rcases this with rfl | rfl
  · exact h0
  · exact h1

theorem sum_parts (l : List Int) (c : Nat) : sumOf [sumOf (l.take c), sumOf (l.drop c)] = sumOf l := by
  have e : total l = total (l.take c) + total (l.drop c) := by rw [← total_app, List.take_append_drop]
  have h1 := total_nn (l.take c)
  have h2 := total_nn (l.drop c)
  simp only [sumOf, total, clamp, e]
  omega
theorem sum_more (l : List Int) (x : Int) : sumOf l ≤ sumOf [sumOf l, x] := by
  have h := sumOf_bd l
  have := clamp_bd x
  show sumOf l ≤ min (clamp (sumOf l) + (clamp x + 0)) 1152921504606846976
  have : clamp (sumOf l) = sumOf l := by unfold clamp; omega
  omega
theorem sum_inf (l : List Int) : sumOf [sumOf l, 1152921504606846976] = 1152921504606846976 := by
  have h := sumOf_bd l
  simp only [sumOf, total, clamp]
  have := total_nn l
  omega
theorem sum_rev (l : List Int) : sumOf l.reverse = sumOf l := by unfold sumOf; rw [total_rev]
end Go.Proofs.Ytgiljnmkakjjmaa
