/- What fromLines answers. -/
import Derived.Test.YtbhgpiohniplbaaXIForm
import Derived.Laws.Cover3
import Derived.Deep.AppendLies
namespace Go.Proofs.Ytbhgpiohniplbaa
open Go.ChangeShapes Go.WideShapes Go.ChangeAt Go.RowKit

/-- A line of six numbers. -/
theorem line_stop {w : World} {a : Option Addr} {n c : Nat} {l : List Int} (h : Row w (.slice a n c) (ints l)) (h6 : l.length = 6) : ∃ b o, a = some ⟨b, o, none⟩ ∧ At w b o (stpOf l) ∧ b < w.heap.size := by
  obtain ⟨b, o, rfl, _, hlt⟩ := row_cell h 0 (by rw [ints_len]; omega)
  refine ⟨b, o, rfl, at_of (fun k hk => ?_), hlt⟩
  obtain ⟨b', o', he, hc, _⟩ := row_cell h k (by rw [ints_len]; omega)
  simp only [Option.some.injEq, Addr.mk.injEq, and_true] at he
  obtain ⟨rfl, rfl⟩ := he
  rw [hc]
  conv => lhs; rw [← row_stpOf l h6]
  rfl
section
variable {w wr : World} {z b : Nat} {p c r : Int} {l : List Stp} {v : Value}
theorem rowV_one (t : Stp) : ∀ u ∈ rowV t, u.oneCell' = true := by
  intro u hu
  have := flat_one [t] u (by rw [flat]; simp [hu])
  exact this
end
theorem stops_map (L : List (List Int)) (k : Nat) (hk : k + 1 < L.length) : (((L.drop 1).take k).map stpOf) ++ [stpOf (L.getD (k + 1) [])] = ((L.drop 1).take (k + 1)).map stpOf := by
  rw [List.take_add_one, List.map_append, List.getElem?_drop, List.getD_eq_getElem?_getD, show 1 + k = k + 1 by omega, List.getElem?_eq_getElem hk]
  rfl
def cellsF (b o : Nat) (t : Stp) : List (Addr × Value) := [(⟨b, o, none⟩, .int .i64 t.x), (⟨b, o + 1, none⟩, .int .i64 t.y), (⟨b, o + 2, none⟩, .int .i64 t.d), (⟨b, o + 3, none⟩, .int .i64 t.r), (⟨b, o + 4, none⟩, .int .i64 t.u), (⟨b, o + 5, none⟩, .int .i64 t.s)]
theorem holds_at {w : World} {b o : Nat} {t : Stp} (h : At w b o t) : Holds (cellsF b o t) w := by
  obtain ⟨h0, h1, h2, h3, h4, h5⟩ := h
  exact ⟨h0, h1, h2, h3, h4, h5, trivial⟩
theorem lows_at {M b o : Nat} {t : Stp} (h : b < M) : Lows M (cellsF b o t) := ⟨h, h, h, h, h, h, trivial⟩
/-- What grows elsewhere leaves cells that lie below. -/
theorem Holds.grown {w w' : World} {M : Nat} {row : Option Nat} (hg : w.grownBy w' row) (hM : M ≤ w.heap.size) (hr : ∀ k, row = some k → M ≤ k) : ∀ {cs : List (Addr × Value)}, Holds cs w → Lows M cs → Holds cs w'
  | [], _, _ => trivial
  | x :: _, h, k => ⟨(hg.cell_far x.1 (by have := k.1; omega) (fun e => by have := hr _ e.symm; have := k.1; omega)).trans h.1, Holds.grown hg hM hr h.2 k.2⟩
theorem Holds.set {w : World} {M : Nat} {a : Addr} {u : Value} (ha : M ≤ a.block) : ∀ {cs : List (Addr × Value)}, Holds cs w → Lows M cs → Holds cs (w.setCell a u)
  | [], _, _ => trivial
  | _ :: _, h, k => ⟨((Below.refl M w).setCell ha u).cell k.1 |>.trans h.1, Holds.set ha h.2 k.2⟩
end Go.Proofs.Ytbhgpiohniplbaa
