/- What is near has a bound; an instance and a state in two boxes. -/
import Derived.Test.YtkljmnfekdoocaaGreatXB
import Derived.Test.YtkljmnfekdoocaaGreatXN
namespace Go.Proofs.YtkljmnfekdoocaaGreat
open Go.ChangeShapes Go.WideShapes Go.ChangeAt Go.RowKit

theorem bound_no {I : Ins} {s : Sta} (h : mayB I = false ∨ I.p = 0) : boundS I s = 0 := by
  unfold boundS
  rw [if_pos]
  rw [near_len]
  by_cases hm : mayB I = true
  · have hl := (fine_of hm).len
    rw [if_pos hm]
    rcases h with h | h
    · rw [h] at hm; cases hm
    · omega
  · rw [if_neg hm]; omega
theorem boxes_is (w : World) (I : Ins) (v : Value) (s : Sta) : YBox ((w.alloc (boxI I v)).alloc (boxSt s)) w.heap.size I v ∧ StB ((w.alloc (boxI I v)).alloc (boxSt s)) (w.heap.size + 1) s ∧ Below w.heap.size w ((w.alloc (boxI I v)).alloc (boxSt s)) := by
  have h1 : (w.alloc (boxI I v)).heap.size = w.heap.size + 1 := by simp
  have a1 := st_new (w.alloc (boxI I v)) s
  rw [h1] at a1
  exact ⟨(ybox_new w I v).later ((Below.refl _ _).alloc (Nat.le_refl _) _), a1, ((Below.refl w.heap.size w).alloc (Nat.le_refl _) _).alloc (by rw [h1]; omega) _⟩
theorem boxes_in (w : World) (I : Ins) (v : Value) (s : Sta) (c : Int) (u : Value) : YBox ((w.alloc (boxI I v)).alloc (boxN s c u)) w.heap.size I v ∧ NodB ((w.alloc (boxI I v)).alloc (boxN s c u)) (w.heap.size + 1) s c u ∧ Below w.heap.size w ((w.alloc (boxI I v)).alloc (boxN s c u)) := by
  have h1 : (w.alloc (boxI I v)).heap.size = w.heap.size + 1 := by simp
  have a1 := nod_new (w.alloc (boxI I v)) s c u
  rw [h1] at a1
  exact ⟨(ybox_new w I v).later ((Below.refl _ _).alloc (Nat.le_refl _) _), a1, ((Below.refl w.heap.size w).alloc (Nat.le_refl _) _).alloc (by rw [h1]; omega) _⟩
/-- The cells of numbers that a call has made, wherever something is told of them. -/
theorem own_cells {w : World} {B : Nat} {v : Value} {l : List Int} (h : OwnI w B v l) (h0 : 0 < l.length) : ∃ g cap, v = .slice (some ⟨g, 0, none⟩) l.length cap ∧ l.length ≤ cap ∧ g < w.heap.size ∧ ∀ i, i < l.length → w.cell? ⟨g, i, none⟩ = some (.int .i64 (l.getD i 0)) := by
  obtain ⟨a, cap, rfl⟩ := h.shape
  have hr := h.row
  obtain ⟨_, a', cap', hv, hc, _, _⟩ := id hr
  simp only [Value.slice.injEq] at hv
  obtain ⟨rfl, hl, rfl⟩ := hv
  rw [ints_len] at hc
  rcases h.2 with ⟨he, hz⟩ | ⟨g, cap2, cur, he, _, hg, _⟩
  · omega
  · simp only [Value.slice.injEq] at he
    obtain ⟨rfl, -, rfl⟩ := he
    exact ⟨g, _, rfl, hc, (Array.getElem?_eq_some_iff.1 hg).1, fun i hi => h.cell i hi⟩
end Go.Proofs.YtkljmnfekdoocaaGreat
