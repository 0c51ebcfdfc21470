/- How a car lies in memory. -/
import Derived.Test.YtolaiccgbngomaaTMem
import Derived.Test.YtolaiccgbngomaaPMat
import Derived.Deep.MidRow
namespace Go.Proofs.Ytolaiccgbngomaa
open Go.ChangeShapes Go.WideShapes Go.ChangeAt Go.RowKit

def seenB (l : List Int) : List Bool := (List.range 33).map (fun i => decide (((i : Nat) : Int) ∈ l))
theorem seenB_len (l : List Int) : (seenB l).length = 33 := by simp [seenB]
theorem seenB_at (l : List Int) (i : Nat) (h : i < 33) : (seenB l).getD i false = decide ((i : Int) ∈ l) := by
  unfold seenB; rw [List.getD_eq_getElem?_getD, List.getElem?_map, List.getElem?_range h]; rfl
theorem seenB_snoc (l : List Int) (i : Nat) : (seenB l).set i true = seenB (l ++ [(i : Int)]) := by
  apply List.ext_getElem (by simp [seenB])
  intro j h1 h2
  have hj : j < 33 := by simpa [seenB] using h1
  rw [List.getElem_set]
  unfold seenB
  simp only [List.getElem_map, List.getElem_range, List.mem_append, List.mem_singleton]
  by_cases e : i = j
  · subst e; simp
  · rw [if_neg e, decide_eq_decide]
    exact ⟨.inl, fun h => h.elim id (fun h => by omega)⟩
theorem seenB_nil : seenB [] = List.replicate 33 false := by decide
def atS (l : List Int) : Int := l.getLastD 0
theorem atS_snoc (l : List Int) (i : Int) : atS (l ++ [i]) = i := by simp [atS]
def loadsL (I : Ins) (l : List Int) : List Int := (List.range l.length).map (fun k => heldL I (l.take (k + 1)))
theorem loadsL_snoc (I : Ins) (l : List Int) (i : Int) : loadsL I (l ++ [i]) = loadsL I l ++ [heldL I (l ++ [i])] := by
  unfold loadsL
  rw [List.length_append, List.length_singleton, List.range_succ, List.map_append]
  congr 1
  · apply List.map_congr_left
    intro k hk
    rw [List.mem_range] at hk
    rw [List.take_append_of_le_length (by omega)]
  · rw [List.map_singleton, List.take_of_length_le (by simp)]
theorem loadsL_len (I : Ins) (l : List Int) : (loadsL I l).length = l.length := by simp [loadsL]
/-- A car's cells. -/
def carC (I : Ins) (sv : Value) (a n g h : Int) (S : List Bool) (tv lv : Value) : List Value :=
  [.int .i64 I.p, .int .i64 I.c, .int .i64 I.r, sv, .int .i64 a, .int .i64 n, .int .i64 g, .int .i64 h] ++ (S.map Value.bool ++ [tv, lv])
def CarB (w : World) (b : Nat) (I : Ins) (sv : Value) (a n g h : Int) (S : List Bool) (tv lv : Value) : Prop :=
  S.length = 33 ∧ w.heap[b]? = some (.cells (carC I sv a n g h S tv lv).toArray 53 (0, 0))
section
variable {w w' : World} {b : Nat} {I : Ins} {sv : Value} {a n g h : Int} {S : List Bool} {tv lv : Value}
theorem CarB.lt (k : CarB w b I sv a n g h S tv lv) : b < w.heap.size := (Array.getElem?_eq_some_iff.1 k.2).1
theorem CarB.cell (k : CarB w b I sv a n g h S tv lv) (i : Nat) : w.cell? ⟨b, i, none⟩ = (carC I sv a n g h S tv lv)[i]? := by rw [cell_of_row w b i _ _ _ k.2]; simp
theorem CarB.free (k : CarB w b I sv a n g h S tv lv) (i : Nat) : w.frozen? ⟨b, i, none⟩ = false := frozen_of_row w b i _ _ k.2
theorem CarB.below {M : Nat} (k : CarB w b I sv a n g h S tv lv) (hb : b < M) (hw : Below M w w') : CarB w' b I sv a n g h S tv lv := ⟨k.1, by rw [hw.block b hb]; exact k.2⟩
theorem CarB.later (k : CarB w b I sv a n g h S tv lv) (hw : Below w.heap.size w w') : CarB w' b I sv a n g h S tv lv := k.below k.lt hw
theorem CarB.other (k : CarB w b I sv a n g h S tv lv) (p : Addr) (x : Value) (hp : p.block ≠ b) : CarB (w.setCell p x) b I sv a n g h S tv lv := ⟨k.1, by rw [heap_setCell_other w p b x (fun e => hp e.symm)]; exact k.2⟩
theorem CarB.grown {row : Option Nat} (k : CarB w b I sv a n g h S tv lv) (hg : w.grownBy w' row) (hr : row ≠ some b) : CarB w' b I sv a n g h S tv lv := ⟨k.1, by rw [hg.block b k.lt (fun e => hr e.symm)]; exact k.2⟩
theorem CarB.c0 (k : CarB w b I sv a n g h S tv lv) : w.cell? ⟨b, 0, none⟩ = some (.int .i64 I.p) := k.cell 0
theorem CarB.c1 (k : CarB w b I sv a n g h S tv lv) : w.cell? ⟨b, 1, none⟩ = some (.int .i64 I.c) := k.cell 1
theorem CarB.c2 (k : CarB w b I sv a n g h S tv lv) : w.cell? ⟨b, 2, none⟩ = some (.int .i64 I.r) := k.cell 2
theorem CarB.c3 (k : CarB w b I sv a n g h S tv lv) : w.cell? ⟨b, 3, none⟩ = some sv := k.cell 3
theorem CarB.c4 (k : CarB w b I sv a n g h S tv lv) : w.cell? ⟨b, 4, none⟩ = some (.int .i64 a) := k.cell 4
theorem CarB.c5 (k : CarB w b I sv a n g h S tv lv) : w.cell? ⟨b, 5, none⟩ = some (.int .i64 n) := k.cell 5
theorem CarB.c6 (k : CarB w b I sv a n g h S tv lv) : w.cell? ⟨b, 6, none⟩ = some (.int .i64 g) := k.cell 6
theorem CarB.c7 (k : CarB w b I sv a n g h S tv lv) : w.cell? ⟨b, 7, none⟩ = some (.int .i64 h) := k.cell 7
theorem CarB.cs (k : CarB w b I sv a n g h S tv lv) (i : Nat) (hi : i < 33) : w.cell? ⟨b, 8 + i, none⟩ = some (.bool (S.getD i false)) := by
  rw [k.cell, carC, List.getElem?_append_right (by simp), List.getElem?_append_left (by simp [k.1]; omega)]
  simp [List.getD_eq_getElem?_getD, k.1, hi]
theorem CarB.ct (k : CarB w b I sv a n g h S tv lv) : w.cell? ⟨b, 41, none⟩ = some tv := by
  rw [k.cell, carC, List.getElem?_append_right (by simp), List.getElem?_append_right (by simp [k.1])]
  simp [k.1]
theorem CarB.cl (k : CarB w b I sv a n g h S tv lv) : w.cell? ⟨b, 42, none⟩ = some lv := by
  rw [k.cell, carC, List.getElem?_append_right (by simp), List.getElem?_append_right (by simp [k.1])]
  simp [k.1]
theorem CarB.set (k : CarB w b I sv a n g h S tv lv) (i : Nat) (x : Value) : (w.setCell ⟨b, i, none⟩ x).heap[b]? = some (.cells ((carC I sv a n g h S tv lv).set i x).toArray 53 (0, 0)) := by
  rw [heap_setCell_same w b i _ _ _ k.2]; simp
theorem CarB.setAt (k : CarB w b I sv a n g h S tv lv) (x : Int) : CarB (w.setCell ⟨b, 4, none⟩ (.int .i64 x)) b I sv x n g h S tv lv := ⟨k.1, by rw [k.set]; rfl⟩
theorem CarB.setLeft (k : CarB w b I sv a n g h S tv lv) (x : Int) : CarB (w.setCell ⟨b, 5, none⟩ (.int .i64 x)) b I sv a x g h S tv lv := ⟨k.1, by rw [k.set]; rfl⟩
theorem CarB.setGone (k : CarB w b I sv a n g h S tv lv) (x : Int) : CarB (w.setCell ⟨b, 6, none⟩ (.int .i64 x)) b I sv a n x h S tv lv := ⟨k.1, by rw [k.set]; rfl⟩
theorem CarB.setLoad (k : CarB w b I sv a n g h S tv lv) (x : Int) : CarB (w.setCell ⟨b, 7, none⟩ (.int .i64 x)) b I sv a n g x S tv lv := ⟨k.1, by rw [k.set]; rfl⟩
theorem CarB.setSeen (k : CarB w b I sv a n g h S tv lv) (i : Nat) (hi : i < 33) : CarB (w.setCell ⟨b, 8 + i, none⟩ (.bool true)) b I sv a n g h (S.set i true) tv lv := by
  refine ⟨by simp [k.1], ?_⟩
  rw [k.set]
  unfold carC
  rw [List.set_append_right _ _ (by simp), List.set_append_left _ _ (by simp [k.1]; omega)]
  simp
theorem CarB.setTimes (k : CarB w b I sv a n g h S tv lv) (x : Value) : CarB (w.setCell ⟨b, 41, none⟩ x) b I sv a n g h S x lv := by
  refine ⟨k.1, ?_⟩
  rw [k.set]
  unfold carC
  rw [List.set_append_right _ _ (by simp), List.set_append_right _ _ (by simp [k.1])]
  simp [k.1]
theorem CarB.setLoads (k : CarB w b I sv a n g h S tv lv) (x : Value) : CarB (w.setCell ⟨b, 42, none⟩ x) b I sv a n g h S tv x := by
  refine ⟨k.1, ?_⟩
  rw [k.set]
  unfold carC
  rw [List.set_append_right _ _ (by simp), List.set_append_right _ _ (by simp [k.1])]
  simp [k.1]
end
theorem infoCar : (Try.prog.info? 53).map (·.size) = some 43 := by kernel_rfl
theorem carC_len {I : Ins} {sv : Value} {a n g h : Int} {S : List Bool} {tv lv : Value} (hS : S.length = 33) : (carC I sv a n g h S tv lv).length = 43 := by simp [carC, hS]
end Go.Proofs.Ytolaiccgbngomaa
