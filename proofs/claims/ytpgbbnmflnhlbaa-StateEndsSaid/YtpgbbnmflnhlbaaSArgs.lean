/- States that a law is handed. -/
import Derived.Test.YtpgbbnmflnhlbaaXSLeaf
import Derived.Test.YtpgbbnmflnhlbaaXIOwn
namespace Go.Proofs.Ytpgbbnmflnhlbaa
open Go.ChangeShapes Go.WideShapes Go.ChangeAt Go.RowKit

def FitSt (s : Sta) : Prop := Fit s.pos ∧ Fit s.car ∧ Fit s.time ∧ Fit s.load ∧ Fit s.first
theorem cells_u64 : Try.prog.cellsOf 53 = 1 := by kernel_rfl
section
variable {H : Type} {enc : TypeId × Value → H} {w : World} {base : Nat} {spare : Nat → Bool} {held : Bool}
theorem u64_cells {fuel : Nat} {cs : List Value} {x : Option (DataW H × List MemPlace)} (hx : ∃ y, x = some y) (h : DataW.trod enc Try.prog w base spare held fuel 53 cs = x) : ∃ n : Nat, cs = [.int .u64 (n : Nat)] ∧ n < 18446744073709551616 := by
  obtain ⟨y, rfl⟩ := hx
  obtain ⟨n, hn, _, hw⟩ := DataW.trod_int Try.underlying53 h
  obtain ⟨k, rfl, hk⟩ := u64_bd n hw
  exact ⟨k, hn, hk⟩
set_option maxRecDepth 1000000 in
theorem state_cells {fuel : Nat} {cs : List Value} {x : DataW H × List MemPlace} (h : DataW.trod enc Try.prog w base spare held fuel 55 cs = some x) : ∃ s : Sta, cs = [.int .i64 s.pos, .int .i64 s.car, .int .i64 s.time, .int .i64 s.load, .int .i64 s.first, .int .u64 s.must, .int .u64 s.may, .int .u64 s.on] ∧ FitSt s ∧ SetsOk s := by
  obtain ⟨xs, n, _, _, hlen, hxl, hf⟩ := DataW.trod_struct Try.underlying55 h
  rw [cells_state] at hlen
  have hxl' : xs.length = 8 := hxl
  have f0 : DataW.trod enc Try.prog w base spare held n 3 ((cs.drop 0).take (Try.prog.cellsOf 3)) = xs[0]? := hf 0 _ rfl
  have f1 : DataW.trod enc Try.prog w base spare held n 3 ((cs.drop 1).take (Try.prog.cellsOf 3)) = xs[1]? := hf 1 _ rfl
  have f2 : DataW.trod enc Try.prog w base spare held n 3 ((cs.drop 2).take (Try.prog.cellsOf 3)) = xs[2]? := hf 2 _ rfl
  have f3 : DataW.trod enc Try.prog w base spare held n 3 ((cs.drop 3).take (Try.prog.cellsOf 3)) = xs[3]? := hf 3 _ rfl
  have f4 : DataW.trod enc Try.prog w base spare held n 3 ((cs.drop 4).take (Try.prog.cellsOf 3)) = xs[4]? := hf 4 _ rfl
  have f5 : DataW.trod enc Try.prog w base spare held n 53 ((cs.drop 5).take (Try.prog.cellsOf 53)) = xs[5]? := hf 5 _ rfl
  have f6 : DataW.trod enc Try.prog w base spare held n 53 ((cs.drop 6).take (Try.prog.cellsOf 53)) = xs[6]? := hf 6 _ rfl
  have f7 : DataW.trod enc Try.prog w base spare held n 53 ((cs.drop 7).take (Try.prog.cellsOf 53)) = xs[7]? := hf 7 _ rfl
  rw [cells_int] at f0 f1 f2 f3 f4
  rw [cells_u64] at f5 f6 f7
  obtain ⟨n0, e0, b0⟩ := int_cells ⟨_, List.getElem?_eq_getElem (by omega)⟩ f0
  obtain ⟨n1, e1, b1⟩ := int_cells ⟨_, List.getElem?_eq_getElem (by omega)⟩ f1
  obtain ⟨n2, e2, b2⟩ := int_cells ⟨_, List.getElem?_eq_getElem (by omega)⟩ f2
  obtain ⟨n3, e3, b3⟩ := int_cells ⟨_, List.getElem?_eq_getElem (by omega)⟩ f3
  obtain ⟨n4, e4, b4⟩ := int_cells ⟨_, List.getElem?_eq_getElem (by omega)⟩ f4
  obtain ⟨n5, e5, b5⟩ := u64_cells ⟨_, List.getElem?_eq_getElem (by omega)⟩ f5
  obtain ⟨n6, e6, b6⟩ := u64_cells ⟨_, List.getElem?_eq_getElem (by omega)⟩ f6
  obtain ⟨n7, e7, b7⟩ := u64_cells ⟨_, List.getElem?_eq_getElem (by omega)⟩ f7
  match cs, hlen with
  | [c0, c1, c2, c3, c4, c5, c6, c7], _ =>
    simp at e0 e1 e2 e3 e4 e5 e6 e7
    exact ⟨⟨n0, n1, n2, n3, n4, n5, n6, n7⟩, by rw [e0, e1, e2, e3, e4, e5, e6, e7], ⟨b0, b1, b2, b3, b4⟩, b5, b6, b7⟩
set_option maxRecDepth 1000000 in
/-- A state by value. -/
theorem open_state {r : Reach} {b0 : Nat} {v : Value} {d : DataW H} {p : List MemPlace} (hv : Value.okWide Try.prog w r b0 55 v) (h : DataW.Trod enc Try.prog w base spare held 55 v d p) : ∃ s : Sta, v = staV s ∧ FitSt s ∧ SetsOk s := by
  obtain ⟨cs, rfl, _⟩ := okWide_struct Try.underlying55 hv
  obtain ⟨fuel, hf⟩ := h
  obtain ⟨s, he, h1, h2⟩ := state_cells hf
  refine ⟨s, ?_, h1, h2⟩
  obtain ⟨l⟩ := cs
  simp [Value.cells] at he
  rw [he]; rfl
end
end Go.Proofs.Ytpgbbnmflnhlbaa
