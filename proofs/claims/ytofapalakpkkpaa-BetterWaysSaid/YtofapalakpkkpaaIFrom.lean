/- What fromLines answers. -/
import Derived.Test.YtofapalakpkkpaaXIForm
import Derived.Laws.Cover3
import Derived.Deep.AppendLies
namespace Go.Proofs.Ytofapalakpkkpaa
open Go.ChangeShapes Go.WideShapes Go.ChangeAt Go.RowKit

/-- A line of six numbers. -/
theorem line_stop {w : World} {a : Option Addr} {n c : Nat} {l : List Int} (h : Row w (.slice a n c) (ints l)) (h6 : l.length = 6) : ∃ b o, a = some ⟨b, o, none⟩ ∧ At w b o (stpOf l) ∧ b < w.heap.size := by
  obtain ⟨b, o, rfl, _, hlt⟩ := row_cell h 0 (by rw [ints_len]; omega)
  refine ⟨b, o, rfl, at_of (fun k hk => ?_), hlt⟩
  obtain ⟨b', o', he, hc, _⟩ := row_cell h k (by rw [ints_len]; omega)
  simp only [Option.some.injEq, Addr.mk.injEq, and_true] at he
  obtain ⟨rfl, rfl⟩ := he
  rw [hc]
  conv => lhs; rw [← row_stpOf l h6]
  rfl
/-- A round of fromLines, and of the document's Parse: x is in block b, made of p, c, r and the stops v; the answer's block z waits. -/
structure FJ (w : World) (z b : Nat) (p c r : Int) (l : List Stp) (v : Value) (wr : World) : Prop where
  zb : w.heap.size ≤ z ∧ z < b
  zero : wr.heap[z]? = some (.cells #[.int .i64 0, .int .i64 0, .int .i64 0, .slice none 0 0] 37 (0, 0))
  blk : wr.heap[b]? = some (.cells #[.int .i64 p, .int .i64 c, .int .i64 r, v] 37 (0, 0))
  own : OwnS wr (b + 1) v l
  bel : Below w.heap.size w wr
section
variable {w wr : World} {z b : Nat} {p c r : Int} {l : List Stp} {v : Value}
theorem FJ.size (h : FJ w z b p c r l v wr) : b < wr.heap.size := (Array.getElem?_eq_some_iff.1 h.blk).1
theorem FJ.cell (h : FJ w z b p c r l v wr) (i : Nat) : wr.cell? ⟨b, i, none⟩ = [Value.int .i64 p, .int .i64 c, .int .i64 r, v][i]? := by rw [cell_of_row wr b i _ _ _ h.blk]; simp
theorem FJ.free (h : FJ w z b p c r l v wr) (i : Nat) : wr.frozen? ⟨b, i, none⟩ = false := frozen_of_row wr b i _ _ h.blk
theorem FJ.cellz (h : FJ w z b p c r l v wr) (i : Nat) : wr.cell? ⟨z, i, none⟩ = [Value.int .i64 0, .int .i64 0, .int .i64 0, .slice none 0 0][i]? := by rw [cell_of_row wr z i _ _ _ h.zero]; simp
theorem FJ.freez (h : FJ w z b p c r l v wr) (i : Nat) : wr.frozen? ⟨z, i, none⟩ = false := frozen_of_row wr z i _ _ h.zero
/-- What is made beside leaves all. -/
theorem FJ.below (h : FJ w z b p c r l v wr) {w2 : World} (hb : Below wr.heap.size wr w2) : FJ w z b p c r l v w2 :=
  ⟨h.zb, by rw [hb.block _ (by have := h.size; have := h.zb; omega)]; exact h.zero, by rw [hb.block _ h.size]; exact h.blk, h.own.below hb, h.bel.trans (hb.mono h.bel.size)⟩
/-- Behind an append to v. -/
theorem FJ.grown (h : FJ w z b p c r l v wr) {w2 : World} (hg : wr.grownBy w2 v.ownBlock) : w2.cell? ⟨b, 3, none⟩ = some v ∧ w2.frozen? ⟨b, 3, none⟩ = false := by
  have hb : w2.heap[b]? = some (.cells #[.int .i64 p, .int .i64 c, .int .i64 r, v] 37 (0, 0)) := by
    rw [hg.block b h.size (fun e => by have := (World.ownsRow.lt h.own b e.symm).1; omega)]; exact h.blk
  exact ⟨by rw [cell_of_row w2 b 3 _ _ _ hb]; rfl, frozen_of_row w2 b 3 _ _ hb⟩
theorem ownS_more {w : World} {B g n cp : Nat} {l : List Stp} {t : Stp} (h : w.ownsRow B 67 6 (.slice (some ⟨g, 0, none⟩) n cp) (l.length + 1) (flat l ++ rowV t)) : OwnS w B (.slice (some ⟨g, 0, none⟩) n cp) (l ++ [t]) := by
  unfold OwnS
  rw [List.length_append, flat_append]
  simpa [flat] using h
theorem news_row {w : World} (t : Stp) : ∀ j u, (rowV t)[j]? = some u → (w.alloc (.cells #[.int .i64 t.x, .int .i64 t.y, .int .i64 t.d, .int .i64 t.r, .int .i64 t.u, .int .i64 t.s] 67)).cell? ((⟨w.heap.size, 0, none⟩ : Addr).add j) = some u :=
  World.news_of_block (cs := #[.int .i64 t.x, .int .i64 t.y, .int .i64 t.d, .int .i64 t.r, .int .i64 t.u, .int .i64 t.s]) (heap_alloc_new w _)
theorem rowV_one (t : Stp) : ∀ u ∈ rowV t, u.oneCell' = true := by
  intro u hu
  have := flat_one [t] u (by rw [flat]; simp [hu])
  exact this
/-- A stop is put behind, and stored. -/
theorem FJ.next (h : FJ w z b p c r l v wr) {w2 : World} {v' : Value} {l' : List Stp} (hown : OwnS w2 (b + 1) v' l') (hg : wr.grownBy w2 v.ownBlock) : FJ w z b p c r l' v' (w2.setCell ⟨b, 3, none⟩ v') := by
  have hsz := h.size
  have hzb := h.zb
  have hne : ∀ k, k ≤ b → some k ≠ v.ownBlock := fun k hk e => by have := (World.ownsRow.lt h.own k e.symm).1; omega
  have hb : w2.heap[b]? = some (.cells #[.int .i64 p, .int .i64 c, .int .i64 r, v] 37 (0, 0)) := by rw [hg.block b hsz (hne b (Nat.le_refl _))]; exact h.blk
  refine ⟨h.zb, ?_, ?_, ownsRow_setCell_below hown (by simp) _, ?_⟩
  · rw [heap_setCell_other w2 ⟨b, 3, none⟩ z _ (by simp; omega), hg.block z (by omega) (hne z (by omega))]; exact h.zero
  · rw [heap_setCell_same w2 b 3 _ _ _ hb]; rfl
  · exact (h.bel.grown hg (by omega) (fun k hk => by have := (World.ownsRow.lt h.own k hk).1; omega)).setCell (by simp; omega) _
end
theorem stops_map (L : List (List Int)) (k : Nat) (hk : k + 1 < L.length) : (((L.drop 1).take k).map stpOf) ++ [stpOf (L.getD (k + 1) [])] = ((L.drop 1).take (k + 1)).map stpOf := by
  rw [List.take_add_one, List.map_append, List.getElem?_drop, List.getD_eq_getElem?_getD, show 1 + k = k + 1 by omega, List.getElem?_eq_getElem hk]
  rfl
def cellsF (b o : Nat) (t : Stp) : List (Addr × Value) := [(⟨b, o, none⟩, .int .i64 t.x), (⟨b, o + 1, none⟩, .int .i64 t.y), (⟨b, o + 2, none⟩, .int .i64 t.d), (⟨b, o + 3, none⟩, .int .i64 t.r), (⟨b, o + 4, none⟩, .int .i64 t.u), (⟨b, o + 5, none⟩, .int .i64 t.s)]
theorem holds_at {w : World} {b o : Nat} {t : Stp} (h : At w b o t) : Holds (cellsF b o t) w := by
  obtain ⟨h0, h1, h2, h3, h4, h5⟩ := h
  exact ⟨h0, h1, h2, h3, h4, h5, trivial⟩
theorem lows_at {M b o : Nat} {t : Stp} (h : b < M) : Lows M (cellsF b o t) := ⟨h, h, h, h, h, h, trivial⟩
/-- What grows elsewhere leaves cells that lie below. -/
theorem Holds.grown {w w' : World} {M : Nat} {row : Option Nat} (hg : w.grownBy w' row) (hM : M ≤ w.heap.size) (hr : ∀ k, row = some k → M ≤ k) : ∀ {cs : List (Addr × Value)}, Holds cs w → Lows M cs → Holds cs w'
  | [], _, _ => trivial
  | x :: _, h, k => ⟨(hg.cell_far x.1 (by have := k.1; omega) (fun e => by have := hr _ e.symm; have := k.1; omega)).trans h.1, Holds.grown hg hM hr h.2 k.2⟩
theorem Holds.set {w : World} {M : Nat} {a : Addr} {u : Value} (ha : M ≤ a.block) : ∀ {cs : List (Addr × Value)}, Holds cs w → Lows M cs → Holds cs (w.setCell a u)
  | [], _, _ => trivial
  | _ :: _, h, k => ⟨((Below.refl M w).setCell ha u).cell k.1 |>.trans h.1, Holds.set ha h.2 k.2⟩
end Go.Proofs.Ytofapalakpkkpaa
