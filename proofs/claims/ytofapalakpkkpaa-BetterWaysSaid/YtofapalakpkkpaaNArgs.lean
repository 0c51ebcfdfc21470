/- How a node lies in memory, and nodes that a law is handed. -/
import Derived.Test.YtofapalakpkkpaaSArgs
import Derived.Test.YtofapalakpkkpaaXPrint
namespace Go.Proofs.Ytofapalakpkkpaa
open Go.ChangeShapes Go.WideShapes Go.ChangeAt Go.RowKit

def nodeV (s : Sta) (c : Int) (v : Value) : Value := .agg #[.int .i64 s.pos, .int .i64 s.car, .int .i64 s.time, .int .i64 s.load, .int .i64 s.first, .int .u64 s.must, .int .u64 s.may, .int .u64 s.on, .int .i64 c, v]
def boxN (s : Sta) (c : Int) (v : Value) : Obj := .cells #[.int .i64 s.pos, .int .i64 s.car, .int .i64 s.time, .int .i64 s.load, .int .i64 s.first, .int .u64 s.must, .int .u64 s.may, .int .u64 s.on, .int .i64 c, v] 27
/-- A node in a block of its own. -/
def NodB (w : World) (b : Nat) (s : Sta) (c : Int) (v : Value) : Prop := w.heap[b]? = some (.cells #[.int .i64 s.pos, .int .i64 s.car, .int .i64 s.time, .int .i64 s.load, .int .i64 s.first, .int .u64 s.must, .int .u64 s.may, .int .u64 s.on, .int .i64 c, v] 27 (0, 0))
def cellsN (b : Nat) (s : Sta) (c : Int) (v : Value) : List (Addr × Value) := [(⟨b, 0, none⟩, .int .i64 s.pos), (⟨b, 1, none⟩, .int .i64 s.car), (⟨b, 2, none⟩, .int .i64 s.time), (⟨b, 3, none⟩, .int .i64 s.load), (⟨b, 4, none⟩, .int .i64 s.first), (⟨b, 5, none⟩, .int .u64 s.must), (⟨b, 6, none⟩, .int .u64 s.may), (⟨b, 7, none⟩, .int .u64 s.on), (⟨b, 8, none⟩, .int .i64 c), (⟨b, 9, none⟩, v)]
section
variable {w w' : World} {b : Nat} {s : Sta} {c : Int} {v : Value}
theorem nod_new (w : World) (s : Sta) (c : Int) (v : Value) : NodB (w.alloc (boxN s c v)) w.heap.size s c v := heap_alloc_new w _
theorem NodB.lt (k : NodB w b s c v) : b < w.heap.size := (Array.getElem?_eq_some_iff.1 k).1
theorem NodB.below {M : Nat} (k : NodB w b s c v) (hb : b < M) (hw : Below M w w') : NodB w' b s c v := by unfold NodB; rw [hw.block b hb]; exact k
theorem NodB.later (k : NodB w b s c v) (hw : Below w.heap.size w w') : NodB w' b s c v := k.below k.lt hw
theorem NodB.cell (k : NodB w b s c v) (i : Nat) : w.cell? ⟨b, i, none⟩ = (#[.int .i64 s.pos, .int .i64 s.car, .int .i64 s.time, .int .i64 s.load, .int .i64 s.first, .int .u64 s.must, .int .u64 s.may, .int .u64 s.on, .int .i64 c, v] : Array Value)[i]? := cell_of_row w b i _ _ _ k
theorem NodB.free (k : NodB w b s c v) (i : Nat) : w.frozen? ⟨b, i, none⟩ = false := frozen_of_row w b i _ _ k
theorem NodB.other (k : NodB w b s c v) (p : Addr) (x : Value) (hp : p.block ≠ b) : NodB (w.setCell p x) b s c v := by unfold NodB; rw [heap_setCell_other w p b x (fun e => hp e.symm)]; exact k
theorem NodB.c0 (k : NodB w b s c v) : w.cell? ⟨b, 0, none⟩ = some (.int .i64 s.pos) := k.cell 0
theorem NodB.c1 (k : NodB w b s c v) : w.cell? ⟨b, 1, none⟩ = some (.int .i64 s.car) := k.cell 1
theorem NodB.c2 (k : NodB w b s c v) : w.cell? ⟨b, 2, none⟩ = some (.int .i64 s.time) := k.cell 2
theorem NodB.c3 (k : NodB w b s c v) : w.cell? ⟨b, 3, none⟩ = some (.int .i64 s.load) := k.cell 3
theorem NodB.c4 (k : NodB w b s c v) : w.cell? ⟨b, 4, none⟩ = some (.int .i64 s.first) := k.cell 4
theorem NodB.c5 (k : NodB w b s c v) : w.cell? ⟨b, 5, none⟩ = some (.int .u64 s.must) := k.cell 5
theorem NodB.c6 (k : NodB w b s c v) : w.cell? ⟨b, 6, none⟩ = some (.int .u64 s.may) := k.cell 6
theorem NodB.c7 (k : NodB w b s c v) : w.cell? ⟨b, 7, none⟩ = some (.int .u64 s.on) := k.cell 7
theorem NodB.c8 (k : NodB w b s c v) : w.cell? ⟨b, 8, none⟩ = some (.int .i64 c) := k.cell 8
theorem NodB.c9 (k : NodB w b s c v) : w.cell? ⟨b, 9, none⟩ = some (v) := k.cell 9
theorem NodB.holds (k : NodB w b s c v) : Holds (cellsN b s c v) w := ⟨k.c0, k.c1, k.c2, k.c3, k.c4, k.c5, k.c6, k.c7, k.c8, k.c9, trivial⟩
theorem lows_N {M : Nat} (hb : b < M) : Lows M (cellsN b s c v) := ⟨hb, hb, hb, hb, hb, hb, hb, hb, hb, hb, trivial⟩
end
theorem row_nil (w : World) : Row w (.slice none 0 0) (ints []) := ⟨by simp [ints, maxLen], _, _, rfl, by simp [ints], ⟨by simp [maxLen], by simp⟩, .inl rfl⟩
theorem cells_node : Try.prog.cellsOf 27 = 10 := by kernel_rfl
theorem cells_ints : Try.prog.cellsOf 25 = 1 := by kernel_rfl
section
variable {H : Type} {enc : TypeId × Value → H} {w : World} {base : Nat} {spare : Nat → Bool} {held : Bool}
set_option maxRecDepth 1000000 in
theorem node_cells {fuel : Nat} {cs : List Value} {x : DataW H × List MemPlace} (h : DataW.trod enc Try.prog w base spare held fuel 27 cs = some x) :
    ∃ (s : Sta) (c : Int) (v : Value) (l : List Int), cs = [.int .i64 s.pos, .int .i64 s.car, .int .i64 s.time, .int .i64 s.load, .int .i64 s.first, .int .u64 s.must, .int .u64 s.may, .int .u64 s.on, .int .i64 c, v] ∧ FitSt s ∧ SetsOk s ∧ Fit c ∧ Row w v (ints l) ∧ ∀ n ∈ l, Fit n := by
  obtain ⟨xs, n, _, _, hlen, hxl, hf⟩ := DataW.trod_struct Try.underlying27 h
  rw [cells_node] at hlen
  have hxl' : xs.length = 3 := hxl
  have f0 : DataW.trod enc Try.prog w base spare held n 24 ((cs.drop 0).take (Try.prog.cellsOf 24)) = xs[0]? := hf 0 _ rfl
  have f1 : DataW.trod enc Try.prog w base spare held n 3 ((cs.drop 8).take (Try.prog.cellsOf 3)) = xs[1]? := hf 1 _ rfl
  have f2 : DataW.trod enc Try.prog w base spare held n 25 ((cs.drop 9).take (Try.prog.cellsOf 25)) = xs[2]? := hf 2 _ rfl
  rw [cells_state] at f0
  rw [cells_int] at f1
  rw [cells_ints] at f2
  rw [List.getElem?_eq_getElem (by omega)] at f0 f2
  obtain ⟨s, e0, b0, k0⟩ := state_cells f0
  obtain ⟨c, e1, b1⟩ := int_cells ⟨_, List.getElem?_eq_getElem (by omega)⟩ f1
  obtain ⟨v, l, e2, r2, b2⟩ := open_nums f2
  match cs, hlen with
  | [c0, c1, c2, c3, c4, c5, c6, c7, c8, c9], _ =>
    simp at e0 e1 e2
    obtain ⟨rfl, rfl, rfl, rfl, rfl, rfl, rfl, rfl⟩ := e0
    subst e1 e2
    exact ⟨s, c, _, l, rfl, b0, k0, b1, r2, b2⟩
set_option maxRecDepth 1000000 in
/-- A node by value. -/
theorem open_node {r : Reach} {b0 : Nat} {v : Value} {d : DataW H} {p : List MemPlace} (hv : Value.okWide Try.prog w r b0 27 v) (h : DataW.Trod enc Try.prog w base spare held 27 v d p) :
    ∃ (s : Sta) (c : Int) (u : Value) (l : List Int), v = nodeV s c u ∧ SetsOk s ∧ Fit c ∧ Row w u (ints l) ∧ ∀ n ∈ l, Fit n := by
  obtain ⟨cs, rfl, _⟩ := okWide_struct Try.underlying27 hv
  obtain ⟨fuel, hf⟩ := h
  obtain ⟨s, c, u, l, he, _, h2, h3, h4, h5⟩ := node_cells hf
  refine ⟨s, c, u, l, ?_, h2, h3, h4, h5⟩
  obtain ⟨l⟩ := cs
  simp [Value.cells] at he
  rw [he]; rfl
end
end Go.Proofs.Ytofapalakpkkpaa
