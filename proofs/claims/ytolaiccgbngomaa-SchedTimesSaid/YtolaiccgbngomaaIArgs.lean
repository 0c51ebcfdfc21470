/- Instances that a law is handed. -/
import Derived.Test.YtolaiccgbngomaaIAwake
import Derived.Deep.Slices
import Derived.Deep.Fields
namespace Go.Proofs.Ytolaiccgbngomaa
open Go.ChangeShapes Go.WideShapes Go.ChangeAt Go.RowKit

def Fit (n : Int) : Prop := -9223372036854775808 ≤ n ∧ n ≤ 9223372036854775807
def FitS (t : Stp) : Prop := Fit t.x ∧ Fit t.y ∧ Fit t.d ∧ Fit t.r ∧ Fit t.u ∧ Fit t.s
def FitI (I : Ins) : Prop := Fit I.p ∧ Fit I.c ∧ Fit I.r ∧ ∀ i, i < I.l.length → FitS (nth I.l i)
theorem cells_stop : Try.prog.cellsOf 38 = 6 := by kernel_rfl
theorem cells_inst : Try.prog.cellsOf 24 = 4 := by kernel_rfl
theorem cells_stops : Try.prog.cellsOf 22 = 1 := by kernel_rfl
section
variable {H : Type} {enc : TypeId × Value → H} {w : World} {base : Nat} {spare : Nat → Bool} {held : Bool}
theorem int_cells {fuel : Nat} {cs : List Value} {x : Option (DataW H × List MemPlace)} (hx : ∃ y, x = some y) (h : DataW.trod enc Try.prog w base spare held fuel 3 cs = x) : ∃ n, cs = [.int .i64 n] ∧ Fit n := by
  obtain ⟨y, rfl⟩ := hx
  obtain ⟨n, hn, _, hw⟩ := DataW.trod_int Try.underlying3 h
  exact ⟨n, hn, wf_fits hw⟩
theorem stop_cells {fuel : Nat} {cs : List Value} {x : DataW H × List MemPlace} (h : DataW.trod enc Try.prog w base spare held fuel 38 cs = some x) : ∃ t : Stp, cs = rowV t ∧ FitS t := by
  obtain ⟨xs, n, _, _, hlen, hxl, hf⟩ := DataW.trod_struct Try.underlying38 h
  rw [cells_stop] at hlen
  have hxl' : xs.length = 6 := hxl
  have f0 : DataW.trod enc Try.prog w base spare held n 3 ((cs.drop 0).take (Try.prog.cellsOf 3)) = xs[0]? := hf 0 _ rfl
  have f1 : DataW.trod enc Try.prog w base spare held n 3 ((cs.drop 1).take (Try.prog.cellsOf 3)) = xs[1]? := hf 1 _ rfl
  have f2 : DataW.trod enc Try.prog w base spare held n 3 ((cs.drop 2).take (Try.prog.cellsOf 3)) = xs[2]? := hf 2 _ rfl
  have f3 : DataW.trod enc Try.prog w base spare held n 3 ((cs.drop 3).take (Try.prog.cellsOf 3)) = xs[3]? := hf 3 _ rfl
  have f4 : DataW.trod enc Try.prog w base spare held n 3 ((cs.drop 4).take (Try.prog.cellsOf 3)) = xs[4]? := hf 4 _ rfl
  have f5 : DataW.trod enc Try.prog w base spare held n 3 ((cs.drop 5).take (Try.prog.cellsOf 3)) = xs[5]? := hf 5 _ rfl
  rw [cells_int] at f0 f1 f2 f3 f4 f5
  obtain ⟨n0, e0, b0⟩ := int_cells ⟨_, List.getElem?_eq_getElem (by omega)⟩ f0
  obtain ⟨n1, e1, b1⟩ := int_cells ⟨_, List.getElem?_eq_getElem (by omega)⟩ f1
  obtain ⟨n2, e2, b2⟩ := int_cells ⟨_, List.getElem?_eq_getElem (by omega)⟩ f2
  obtain ⟨n3, e3, b3⟩ := int_cells ⟨_, List.getElem?_eq_getElem (by omega)⟩ f3
  obtain ⟨n4, e4, b4⟩ := int_cells ⟨_, List.getElem?_eq_getElem (by omega)⟩ f4
  obtain ⟨n5, e5, b5⟩ := int_cells ⟨_, List.getElem?_eq_getElem (by omega)⟩ f5
  match cs, hlen with
  | [c0, c1, c2, c3, c4, c5], _ =>
    simp at e0 e1 e2 e3 e4 e5
    exact ⟨⟨n0, n1, n2, n3, n4, n5⟩, by rw [e0, e1, e2, e3, e4, e5]; rfl, b0, b1, b2, b3, b4, b5⟩
theorem stops_cells {fuel : Nat} {cs : List Value} {x : DataW H × List MemPlace} (h : DataW.trod enc Try.prog w base spare held fuel 22 cs = some x) : ∃ (v : Value) (l : List Stp), cs = [v] ∧ SRow w v l ∧ ∀ i, i < l.length → FitS (nth l i) := by
  rcases Go.Deep.open_slice Try.underlying22 h with ⟨h0, _⟩ | ⟨ad, ln, cp, m, n, D, Pl, hcs, hb, hl, hm, hmm, hx, hi⟩
  · exact ⟨_, [], h0, srow_nil w, fun i hi => by simp at hi⟩
  · have hlm : ln ≤ m := by rw [hmm]; split <;> omega
    obtain ⟨l, hll, hp⟩ := list_of (⟨0, 0, 0, 0, 0, 0⟩ : Stp) (fun i t => (∀ k, k < 6 → w.cell? ((ad.add (i * 6)).add k) = (rowV t)[k]?) ∧ FitS t) ln (fun i hil => by
      obtain ⟨cs', hc, ht⟩ := hi i (by omega)
      rw [cells_stop] at hc
      obtain ⟨t, rfl, hft⟩ := stop_cells ht
      obtain ⟨_, _, hat⟩ := World.cells?_some hc
      exact ⟨t, fun k hk => hat k hk, hft⟩)
    subst hll
    refine ⟨_, l, hcs, ?_, fun i hi => (hp i hi).2⟩
    refine ⟨by omega, some ad, cp, rfl, hl, ⟨hm, fun h => by simp at h⟩, ?_⟩
    by_cases e : l = []
    · exact .inl e
    · right
      have hpos : 0 < l.length := List.length_pos_iff.2 e
      obtain ⟨b, off, spot⟩ := ad
      have hspot : spot = none := by
        have := World.cell?_spot (show w.cell? (((⟨b, off, spot⟩ : Addr).add (0 * 6)).add 0) = some (.int .i64 (nth l 0).x) from (hp 0 hpos).1 0 (by omega))
        simpa [Addr.add] using this
      subst hspot
      refine ⟨b, off, rfl, fun i hi => at_of (fun k hk => ?_)⟩
      have := (hp i hi).1 k hk
      simp only [add_off] at this
      exact this
theorem inst_cells {fuel : Nat} {cs : List Value} {x : DataW H × List MemPlace} (h : DataW.trod enc Try.prog w base spare held fuel 24 cs = some x) : ∃ (I : Ins) (v : Value), cs = [.int .i64 I.p, .int .i64 I.c, .int .i64 I.r, v] ∧ SRow w v I.l ∧ FitI I := by
  obtain ⟨xs, n, _, _, hlen, hxl, hf⟩ := DataW.trod_struct Try.underlying24 h
  rw [cells_inst] at hlen
  have hxl' : xs.length = 4 := hxl
  have f0 : DataW.trod enc Try.prog w base spare held n 3 ((cs.drop 0).take (Try.prog.cellsOf 3)) = xs[0]? := hf 0 _ rfl
  have f1 : DataW.trod enc Try.prog w base spare held n 3 ((cs.drop 1).take (Try.prog.cellsOf 3)) = xs[1]? := hf 1 _ rfl
  have f2 : DataW.trod enc Try.prog w base spare held n 3 ((cs.drop 2).take (Try.prog.cellsOf 3)) = xs[2]? := hf 2 _ rfl
  have f3 : DataW.trod enc Try.prog w base spare held n 22 ((cs.drop 3).take (Try.prog.cellsOf 22)) = xs[3]? := hf 3 _ rfl
  rw [cells_int] at f0 f1 f2
  rw [cells_stops] at f3
  obtain ⟨n0, e0, b0⟩ := int_cells ⟨_, List.getElem?_eq_getElem (by omega)⟩ f0
  obtain ⟨n1, e1, b1⟩ := int_cells ⟨_, List.getElem?_eq_getElem (by omega)⟩ f1
  obtain ⟨n2, e2, b2⟩ := int_cells ⟨_, List.getElem?_eq_getElem (by omega)⟩ f2
  obtain ⟨v, l, e3, hs, hfl⟩ := stops_cells (f3.trans (List.getElem?_eq_getElem (by omega)))
  match cs, hlen with
  | [c0, c1, c2, c3], _ =>
    simp at e0 e1 e2 e3
    exact ⟨⟨n0, n1, n2, l⟩, v, by rw [e0, e1, e2, e3], hs, b0, b1, b2, hfl⟩
/-- An instance by value. -/
theorem open_inst {r : Reach} {b0 : Nat} {v : Value} {d : DataW H} {p : List MemPlace} (hv : Value.okWide Try.prog w r b0 24 v) (h : DataW.Trod enc Try.prog w base spare held 24 v d p) : ∃ (I : Ins) (u : Value), v = insV I u ∧ SRow w u I.l ∧ FitI I := by
  obtain ⟨cs, rfl, _⟩ := okWide_struct Try.underlying24 hv
  obtain ⟨fuel, hf⟩ := h
  obtain ⟨I, u, he, hs, hfi⟩ := inst_cells hf
  refine ⟨I, u, ?_, hs, hfi⟩
  obtain ⟨l⟩ := cs
  simp [Value.cells] at he
  rw [he]; rfl
end
end Go.Proofs.Ytolaiccgbngomaa
