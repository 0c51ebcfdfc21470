/- A number of one stop is changed; what is printed, in one word. -/
import Derived.Test.YtolaiccgbngomaaIArgs
import Derived.Test.YtolaiccgbngomaaISame
namespace Go.Proofs.Ytolaiccgbngomaa
open Go.ChangeShapes Go.WideShapes Go.ChangeAt Go.RowKit

theorem flat_set : ∀ (l : List Stp) (i k : Nat) (t : Stp) (u : Value), i < l.length → k < 6 → (rowV (nth l i)).set k u = rowV t → (flat l).set (i * 6 + k) u = flat (l.set i t)
  | [], i, _, _, _, h, _, _ => by simp at h
  | s :: l, 0, k, t, u, _, hk, h => by
    rw [flat, Nat.zero_mul, Nat.zero_add, List.set_append_left _ _ (by simp [rowV]; omega), List.set_cons_zero, flat]
    rw [show (rowV s).set k u = rowV t from h]
  | s :: l, i + 1, k, t, u, hi, hk, h => by
    rw [flat, List.set_append_right _ _ (by simp [rowV]; omega), List.set_cons_succ, flat]
    congr 1
    rw [show (i + 1) * 6 + k - (rowV s).length = i * 6 + k by simp [rowV]; omega]
    exact flat_set l i k t u (by simpa using hi) hk h
/-- One cell of one stop is stored. -/
theorem OwnS.stored {w : World} {B g n cap : Nat} {l : List Stp} (h : OwnS w B (.slice (some ⟨g, 0, none⟩) n cap) l) (i k : Nat) (t : Stp) (u : Value) (hi : i < l.length) (hk : k < 6) (ht : (rowV (nth l i)).set k u = rowV t) (a : Addr) (ha : a = ⟨g, i * 6 + k, none⟩) :
    OwnS (w.setCell a u) B (.slice (some ⟨g, 0, none⟩) n cap) (l.set i t) ∧ B ≤ g := by
  subst ha
  have hn : n = l.length := by
    obtain ⟨a, c, he⟩ := h.shape
    simp at he; exact he.2.1
  subst hn
  have h' : w.ownsRow B 38 6 (.slice (some ⟨g, 0, none⟩) l.length cap) l.length (flat l) := h
  refine ⟨?_, (World.ownsRow.lt h' g rfl).1⟩
  unfold OwnS
  rw [List.length_set, ← flat_set l i k t u hi hk ht]
  exact (h'.stored (i * 6 + k) u).1
theorem OwnS.at {w : World} {B g n cap : Nat} {l : List Stp} (h : OwnS w B (.slice (some ⟨g, 0, none⟩) n cap) l) (i : Nat) (hi : i < l.length) : At w g (i * 6) (nth l i) ∧ (∀ k, w.frozen? ⟨g, k, none⟩ = false) ∧ g < w.heap.size ∧ B ≤ g := by
  have hn : n = l.length := by
    obtain ⟨a, c, he⟩ := h.shape
    simp at he; exact he.2.1
  subst hn
  have h' : w.ownsRow B 38 6 (.slice (some ⟨g, 0, none⟩) l.length cap) l.length (flat l) := h
  have := srow_here h.row i hi
  rw [Nat.zero_add] at this
  exact ⟨this, fun k => h'.frozenAt k, this.lt, (World.ownsRow.lt h' g rfl).1⟩
theorem OwnS.form {w : World} {B : Nat} {v : Value} {l : List Stp} (h : OwnS w B v l) (hl : 0 < l.length) : ∃ g cap, v = .slice (some ⟨g, 0, none⟩) l.length cap := by
  obtain ⟨g, cap, hv, _⟩ := World.ownsRow.form (show w.ownsRow B 38 6 v l.length (flat l) from h) hl
  exact ⟨g, cap, hv⟩
/-- What Print answers, in one word. -/
def pe (I : Ins) : Int := if mayB I = true then 0 else 1
def pt (I : Ins) : List Int := if mayB I = true then textOf (linesI I) else []
theorem printed_one {w w' : World} {I : Ins} {e : Ending} (h : Printed w w' I e) : ∃ v, e = .returned (.tuple #[v, .int .i64 (pe I)]) ∧ OwnB w' w.heap.size v (pt I) ∧ Below w.heap.size w w' := by
  rcases h with ⟨hm, rfl, hb⟩ | ⟨hm, v, rfl, ho, hb⟩
  · exact ⟨.slice none 0 0, by unfold pe; rw [hm]; rfl, by unfold pt; rw [hm]; exact ownB_nil _ _, hb⟩
  · exact ⟨v, by unfold pe; rw [hm]; rfl, by unfold pt; rw [hm]; exact ho, hb⟩
/-- The instance's box in a later world. -/
theorem box_cells {W w' : World} {N : Nat} {I : Ins} {v : Value} (h : Hid (Holds (cellsI N I v) W)) (hN : N < W.heap.size) (hb : Hid (Below W.heap.size W w')) :
    w'.cell? ⟨N, 0, none⟩ = some (.int .i64 I.p) ∧ w'.cell? ⟨N, 1, none⟩ = some (.int .i64 I.c) ∧ w'.cell? ⟨N, 2, none⟩ = some (.int .i64 I.r) ∧ w'.cell? ⟨N, 3, none⟩ = some v := by
  have := Holds.below hb.out h.out ⟨hN, hN, hN, hN, trivial⟩
  simp only [cellsI, Holds] at this
  exact ⟨this.1, this.2.1, this.2.2.1, this.2.2.2.1⟩
/-- An instance's box, whole. -/
def YBox (w : World) (N : Nat) (I : Ins) (u : Value) : Prop := w.heap[N]? = some (.cells #[.int .i64 I.p, .int .i64 I.c, .int .i64 I.r, u] 24 (0, 0))
section
variable {w w' : World} {N : Nat} {I : Ins} {u : Value}
theorem ybox_new (w : World) (I : Ins) (u : Value) : YBox (w.alloc (boxI I u)) w.heap.size I u := heap_alloc_new w _
theorem YBox.lt (h : YBox w N I u) : N < w.heap.size := (Array.getElem?_eq_some_iff.1 h).1
theorem YBox.cells (h : YBox w N I u) : w.cell? ⟨N, 0, none⟩ = some (.int .i64 I.p) ∧ w.cell? ⟨N, 1, none⟩ = some (.int .i64 I.c) ∧ w.cell? ⟨N, 2, none⟩ = some (.int .i64 I.r) ∧ w.cell? ⟨N, 3, none⟩ = some u := by
  have hc : ∀ i, w.cell? ⟨N, i, none⟩ = [Value.int .i64 I.p, .int .i64 I.c, .int .i64 I.r, u][i]? := fun i => by rw [cell_of_row w N i _ _ _ h]; simp
  exact ⟨hc 0, hc 1, hc 2, hc 3⟩
theorem YBox.free (h : YBox w N I u) (i : Nat) : w.frozen? ⟨N, i, none⟩ = false := frozen_of_row w N i _ _ h
theorem YBox.below {M : Nat} (h : YBox w N I u) (hN : N < M) (hb : Below M w w') : YBox w' N I u := by unfold YBox; rw [hb.block N hN]; exact h
theorem YBox.later (h : YBox w N I u) (hb : Below w.heap.size w w') : YBox w' N I u := h.below h.lt hb
theorem YBox.other (h : YBox w N I u) (a : Addr) (x : Value) (ha : a.block ≠ N) : YBox (w.setCell a x) N I u := by unfold YBox; rw [heap_setCell_other w a N x (fun e => ha e.symm)]; exact h
theorem YBox.stops (h : YBox w N I u) (v : Value) : YBox (w.setCell ⟨N, 3, none⟩ v) N I v := by unfold YBox; rw [heap_setCell_same w N 3 _ _ _ h]; rfl
theorem YBox.room (h : YBox w N I u) (r : Int) : YBox (w.setCell ⟨N, 2, none⟩ (.int .i64 r)) N ⟨I.p, I.c, r, I.l⟩ u := by unfold YBox; rw [heap_setCell_same w N 2 _ _ _ h]; rfl
theorem YBox.cars (h : YBox w N I u) (c : Int) : YBox (w.setCell ⟨N, 1, none⟩ (.int .i64 c)) N ⟨I.p, c, I.r, I.l⟩ u := by unfold YBox; rw [heap_setCell_same w N 1 _ _ _ h]; rfl
theorem YBox.pairs (h : YBox w N I u) (p : Int) : YBox (w.setCell ⟨N, 0, none⟩ (.int .i64 p)) N ⟨p, I.c, I.r, I.l⟩ u := by unfold YBox; rw [heap_setCell_same w N 0 _ _ _ h]; rfl
end
theorem wrap_ne (x : Int) (h : Fit x) : IntKind.i64.wrap (x + 1) ≠ x := by
  obtain ⟨h0, h1⟩ := h
  by_cases e : x = 9223372036854775807
  · subst e; decide
  · rw [IntWalk.i64_in _ (by omega)]; omega
theorem set_ne {l : List Stp} {i : Nat} {t : Stp} (hi : i < l.length) (h : t ≠ nth l i) : l ≠ l.set i t := fun e => by
  have : nth l i = nth (l.set i t) i := congrArg (fun m => nth m i) e
  rw [nth_set l i i t hi, if_pos rfl] at this
  exact h this.symm
end Go.Proofs.Ytolaiccgbngomaa
