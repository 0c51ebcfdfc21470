/- Rows of numbers that a law is handed. -/
import Derived.Test.YtgplajofemencaaGreatYC
import Derived.Test.YtgplajofemencaaGreatXMath
import Derived.Deep.MidRow
namespace Go.Proofs.YtgplajofemencaaGreat
open Go.ChangeShapes Go.WideShapes Go.ChangeAt Go.RowKit

section
variable {H : Type} {enc : TypeId × Value → H} {w : World} {base : Nat} {spare : Nat → Bool} {held : Bool}
end
end Go.Proofs.YtgplajofemencaaGreat
/- How times lie in memory. -/
namespace Go.Proofs.YtgplajofemencaaGreat
open Go.ChangeShapes Go.WideShapes Go.ChangeAt Go.RowKit

def rowT (t : Tm) : List Value := [.int .i64 t.come, .int .i64 t.begn, .int .i64 t.leave]
def flatT : List Tm → List Value
  | [] => []
  | t :: l => rowT t ++ flatT l
def nthT (l : List Tm) (i : Nat) : Tm := l.getD i ⟨0, 0, 0⟩
theorem flatT_at : ∀ (l : List Tm) (i k : Nat), i < l.length → k < 3 → (flatT l)[i * 3 + k]? = (rowT (nthT l i))[k]?
  | [], i, k, h, _ => by simp at h
  | t :: l, 0, k, _, hk => by rw [flatT, Nat.zero_mul, Nat.zero_add, List.getElem?_append_left (by simp [rowT]; omega)]; rfl
  | t :: l, i + 1, k, h, hk => by
    rw [flatT, List.getElem?_append_right (by simp [rowT]; omega), show (i + 1) * 3 + k - (rowT t).length = i * 3 + k by simp [rowT]; omega, flatT_at l i k (by simpa using h) hk]
    rfl
/-- The three cells of a time. -/
def TAt (w : World) (b o : Nat) (t : Tm) : Prop := w.cell? ⟨b, o, none⟩ = some (.int .i64 t.come) ∧ w.cell? ⟨b, o + 1, none⟩ = some (.int .i64 t.begn) ∧ w.cell? ⟨b, o + 2, none⟩ = some (.int .i64 t.leave)
theorem TAt.lt {w : World} {b o : Nat} {t : Tm} (h : TAt w b o t) : b < w.heap.size := World.block_lt_of_cell? w _ h.1
theorem TAt.below {w w' : World} {b o M : Nat} {t : Tm} (h : TAt w b o t) (hb : b < M) (hw : Below M w w') : TAt w' b o t :=
  ⟨(hw.cell (p := ⟨b, o, none⟩) hb).trans h.1, (hw.cell (p := ⟨b, o + 1, none⟩) hb).trans h.2.1, (hw.cell (p := ⟨b, o + 2, none⟩) hb).trans h.2.2⟩
theorem tat_of {w : World} {b o : Nat} {t : Tm} (h : ∀ k, k < 3 → w.cell? ⟨b, o + k, none⟩ = (rowT t)[k]?) : TAt w b o t := ⟨h 0 (by omega), h 1 (by omega), h 2 (by omega)⟩
theorem TAt.of {w : World} {b o : Nat} {t : Tm} (h : TAt w b o t) (k : Nat) (hk : k < 3) : w.cell? ⟨b, o + k, none⟩ = (rowT t)[k]? := by
  obtain ⟨h0, h1, h2⟩ := h
  match k, hk with
  | 0, _ => exact h0
  | 1, _ => exact h1
  | 2, _ => exact h2
/-- Times that may be read. -/
def TRow (w : World) (v : Value) (l : List Tm) : Prop :=
  l.length ≤ maxLen ∧ ∃ a cap, v = .slice a l.length cap ∧ l.length ≤ cap ∧ (cap ≤ maxLen ∧ (a = none → cap = 0)) ∧ (l = [] ∨ ∃ b off, a = some ⟨b, off, none⟩ ∧ ∀ i, i < l.length → TAt w b (off + i * 3) (nthT l i))
theorem TRow.below {w w' : World} {v : Value} {l : List Tm} (h : TRow w v l) (hb : Below w.heap.size w w') : TRow w' v l := by
  obtain ⟨hm, a, cap, hv, hc, hc2, h⟩ := h
  refine ⟨hm, a, cap, hv, hc, hc2, ?_⟩
  rcases h with h | ⟨b, off, ha, hc⟩
  · exact .inl h
  · exact .inr ⟨b, off, ha, fun i hi => (hc i hi).below (hc i hi).lt hb⟩
theorem trow_nil (w : World) : TRow w (.slice none 0 0) [] := ⟨by simp, none, 0, rfl, by simp, ⟨by simp, fun _ => rfl⟩, .inl rfl⟩
theorem TRow.form {w : World} {v : Value} {l : List Tm} (h : TRow w v l) : ∃ a cap, v = .slice a l.length cap ∧ l.length ≤ maxLen ∧ l.length ≤ cap ∧ cap ≤ maxLen := by
  obtain ⟨hm, a, cap, rfl, hc, hc2, _⟩ := h
  exact ⟨a, cap, rfl, hm, hc, hc2.1⟩
/-- Times that a call has made. -/
def OwnT (w : World) (B : Nat) (v : Value) (l : List Tm) : Prop := w.ownsRow B 179 3 v l.length (flatT l)
theorem OwnT.row {w : World} {B : Nat} {v : Value} {l : List Tm} (h : OwnT w B v l) : TRow w v l := by
  have h' : w.ownsRow B 179 3 v l.length (flatT l) := h
  rcases h'.2 with ⟨rfl, hn⟩ | ⟨g, cap, cur, rfl, hb, hg, hc, hm, hs, ht⟩
  · have : l = [] := List.eq_nil_of_length_eq_zero hn
    subst this
    exact trow_nil _
  · refine ⟨by omega, _, _, rfl, hc, ⟨hm, fun h => by simp at h⟩, .inr ⟨g, 0, rfl, fun i hi => ?_⟩⟩
    refine tat_of (fun k hk => ?_)
    rw [Nat.zero_add, h'.cellAt _ (by omega), flatT_at l i k hi hk]
theorem OwnT.below {w w' : World} {B : Nat} {v : Value} {l : List Tm} (h : OwnT w B v l) (hb : Below w.heap.size w w') : OwnT w' B v l := own_below h hb
theorem OwnT.alloc {w : World} {B : Nat} {v : Value} {l : List Tm} (h : OwnT w B v l) (O : Obj) : OwnT (w.alloc O) B v l := World.ownsRow.alloc h O
theorem OwnT.less {w : World} {B B' : Nat} {v : Value} {l : List Tm} (h : OwnT w B v l) (hB : B' ≤ B) : OwnT w B' v l := own_less (show w.ownsRow B 179 3 v l.length (flatT l) from h) hB
theorem OwnT.kept {w w' : World} {B : Nat} {v : Value} {l : List Tm} {row : Option Nat} (h : OwnT w B v l) (hg : w.grownBy w' row) (hne : v.ownBlock = none ∨ v.ownBlock ≠ row) : OwnT w' B v l := World.ownsRow.kept h hg hne
theorem OwnT.shape {w : World} {B : Nat} {v : Value} {l : List Tm} (h : OwnT w B v l) : ∃ a cap, v = .slice a l.length cap := own_shape (show w.ownsRow B 179 3 v l.length (flatT l) from h)
/-! ### Two times held against each other -/
theorem Tm.eq_iff (a b : Tm) : (a.come = b.come ∧ a.begn = b.begn ∧ a.leave = b.leave) ↔ a = b := by cases a; cases b; simp
end Go.Proofs.YtgplajofemencaaGreat
/- How a car lies in memory. -/
namespace Go.Proofs.YtgplajofemencaaGreat
open Go.ChangeShapes Go.WideShapes Go.ChangeAt Go.RowKit

def seenB (l : List Int) : List Bool := (List.range 33).map (fun i => decide (((i : Nat) : Int) ∈ l))
def atS (l : List Int) : Int := l.getLastD 0
theorem atS_snoc (l : List Int) (i : Int) : atS (l ++ [i]) = i := by simp [atS]
def loadsL (I : Ins) (l : List Int) : List Int := (List.range l.length).map (fun k => heldL I (l.take (k + 1)))
/-- A car's cells. -/
def carC (I : Ins) (sv : Value) (a n g h : Int) (S : List Bool) (tv lv : Value) : List Value :=
  [.int .i64 I.p, .int .i64 I.c, .int .i64 I.r, sv, .int .i64 a, .int .i64 n, .int .i64 g, .int .i64 h] ++ (S.map Value.bool ++ [tv, lv])
def CarB (w : World) (b : Nat) (I : Ins) (sv : Value) (a n g h : Int) (S : List Bool) (tv lv : Value) : Prop :=
  S.length = 33 ∧ w.heap[b]? = some (.cells (carC I sv a n g h S tv lv).toArray 125 (0, 0))
section
variable {w w' : World} {b : Nat} {I : Ins} {sv : Value} {a n g h : Int} {S : List Bool} {tv lv : Value}
theorem CarB.lt (k : CarB w b I sv a n g h S tv lv) : b < w.heap.size := (Array.getElem?_eq_some_iff.1 k.2).1
theorem CarB.cell (k : CarB w b I sv a n g h S tv lv) (i : Nat) : w.cell? ⟨b, i, none⟩ = (carC I sv a n g h S tv lv)[i]? := by rw [cell_of_row w b i _ _ _ k.2]; simp
theorem CarB.free (k : CarB w b I sv a n g h S tv lv) (i : Nat) : w.frozen? ⟨b, i, none⟩ = false := frozen_of_row w b i _ _ k.2
theorem CarB.below {M : Nat} (k : CarB w b I sv a n g h S tv lv) (hb : b < M) (hw : Below M w w') : CarB w' b I sv a n g h S tv lv := ⟨k.1, by rw [hw.block b hb]; exact k.2⟩
theorem CarB.later (k : CarB w b I sv a n g h S tv lv) (hw : Below w.heap.size w w') : CarB w' b I sv a n g h S tv lv := k.below k.lt hw
theorem CarB.other (k : CarB w b I sv a n g h S tv lv) (p : Addr) (x : Value) (hp : p.block ≠ b) : CarB (w.setCell p x) b I sv a n g h S tv lv := ⟨k.1, by rw [heap_setCell_other w p b x (fun e => hp e.symm)]; exact k.2⟩
theorem CarB.grown {row : Option Nat} (k : CarB w b I sv a n g h S tv lv) (hg : w.grownBy w' row) (hr : row ≠ some b) : CarB w' b I sv a n g h S tv lv := ⟨k.1, by rw [hg.block b k.lt (fun e => hr e.symm)]; exact k.2⟩
theorem CarB.c0 (k : CarB w b I sv a n g h S tv lv) : w.cell? ⟨b, 0, none⟩ = some (.int .i64 I.p) := k.cell 0
theorem CarB.c1 (k : CarB w b I sv a n g h S tv lv) : w.cell? ⟨b, 1, none⟩ = some (.int .i64 I.c) := k.cell 1
theorem CarB.c2 (k : CarB w b I sv a n g h S tv lv) : w.cell? ⟨b, 2, none⟩ = some (.int .i64 I.r) := k.cell 2
theorem CarB.c3 (k : CarB w b I sv a n g h S tv lv) : w.cell? ⟨b, 3, none⟩ = some sv := k.cell 3
theorem CarB.c4 (k : CarB w b I sv a n g h S tv lv) : w.cell? ⟨b, 4, none⟩ = some (.int .i64 a) := k.cell 4
theorem CarB.c5 (k : CarB w b I sv a n g h S tv lv) : w.cell? ⟨b, 5, none⟩ = some (.int .i64 n) := k.cell 5
theorem CarB.c6 (k : CarB w b I sv a n g h S tv lv) : w.cell? ⟨b, 6, none⟩ = some (.int .i64 g) := k.cell 6
theorem CarB.c7 (k : CarB w b I sv a n g h S tv lv) : w.cell? ⟨b, 7, none⟩ = some (.int .i64 h) := k.cell 7
theorem CarB.cs (k : CarB w b I sv a n g h S tv lv) (i : Nat) (hi : i < 33) : w.cell? ⟨b, 8 + i, none⟩ = some (.bool (S.getD i false)) := by
  rw [k.cell, carC, List.getElem?_append_right (by simp), List.getElem?_append_left (by simp [k.1]; omega)]
  simp [List.getD_eq_getElem?_getD, k.1, hi]
theorem CarB.cl (k : CarB w b I sv a n g h S tv lv) : w.cell? ⟨b, 42, none⟩ = some lv := by
  rw [k.cell, carC, List.getElem?_append_right (by simp), List.getElem?_append_right (by simp [k.1])]
  simp [k.1]
theorem CarB.set (k : CarB w b I sv a n g h S tv lv) (i : Nat) (x : Value) : (w.setCell ⟨b, i, none⟩ x).heap[b]? = some (.cells ((carC I sv a n g h S tv lv).set i x).toArray 125 (0, 0)) := by
  rw [heap_setCell_same w b i _ _ _ k.2]; simp
theorem CarB.setAt (k : CarB w b I sv a n g h S tv lv) (x : Int) : CarB (w.setCell ⟨b, 4, none⟩ (.int .i64 x)) b I sv x n g h S tv lv := ⟨k.1, by rw [k.set]; rfl⟩
end
theorem carC_len {I : Ins} {sv : Value} {a n g h : Int} {S : List Bool} {tv lv : Value} (hS : S.length = 33) : (carC I sv a n g h S tv lv).length = 43 := by simp [carC, hS]
end Go.Proofs.YtgplajofemencaaGreat
/- What a car's farTo and timeAt answer. -/
namespace Go.Proofs.YtgplajofemencaaGreat
open Go.ChangeShapes Go.WideShapes Go.ChangeAt Go.RowKit

/-- The stop's cells, and the car's. -/
def cellsC (b : Nat) (I : Ins) (sv : Value) (a n g h : Int) : List (Addr × Value) := [(⟨b, 0, none⟩, .int .i64 I.p), (⟨b, 1, none⟩, .int .i64 I.c), (⟨b, 2, none⟩, .int .i64 I.r), (⟨b, 3, none⟩, sv), (⟨b, 4, none⟩, .int .i64 a), (⟨b, 5, none⟩, .int .i64 n), (⟨b, 6, none⟩, .int .i64 g), (⟨b, 7, none⟩, .int .i64 h)]
theorem CarB.holds {w : World} {b : Nat} {I : Ins} {sv : Value} {a n g h : Int} {S : List Bool} {tv lv : Value} (k : CarB w b I sv a n g h S tv lv) : Holds (cellsC b I sv a n g h) w := ⟨k.c0, k.c1, k.c2, k.c3, k.c4, k.c5, k.c6, k.c7, trivial⟩
end Go.Proofs.YtgplajofemencaaGreat
/- What a car's wrongAt and wrongBack answer. -/
namespace Go.Proofs.YtgplajofemencaaGreat
open Go.ChangeShapes Go.WideShapes Go.ChangeAt Go.RowKit

section
variable {I : Ins} {L : List Int} {n : Int} {s : Stp} {i : Int}
end
end Go.Proofs.YtgplajofemencaaGreat
/- A drawn region in which some cells are held until one of its operations (its first store) comes up: what waits not for it is taken while they are held. -/
namespace Go.Proofs.YtgplajofemencaaGreat

section
variable {P : Program} {ops : Array Oper} {Q : Exit → Act → World → Prop} {md : Region.Mode} {S : World → Prop} {m : Nat}
/-- Whatever order is picked from here on; S holds behind each operation till number m comes up. -/
def AnyU (P : Program) (md : Region.Mode) (ops : Array Oper) (Q : Exit → Act → World → Prop) (S : World → Prop) (m : Nat) : Nat → Array Bool → Act → World → Prop
  | 0, l, a, w => Region.ready md ops l = [] ∧ Q .normal a w
  | n + 1, l, a, w => (Region.ready md ops l = [] → Q .normal a w) ∧
    ∀ i ∈ Region.ready md ops l, wpOp P ops Q i (fun a' w' => (i ≠ m → l.getD m true = false → S w') ∧ AnyU P md ops Q S m n (l.setIfInBounds i true) a' w') a w
/-- Each of these comes up next. -/
def NextU (P : Program) (md : Region.Mode) (ops : Array Oper) (Q : Exit → Act → World → Prop) (S : World → Prop) (m n : Nat) (l : Array Bool) (a : Act) (w : World) (rs : List Nat) : Prop :=
  ∀ i ∈ rs, wpOp P ops Q i (fun a' w' => (i ≠ m → l.getD m true = false → S w') ∧ AnyU P md ops Q S m n (l.setIfInBounds i true) a' w') a w
theorem NextU.nil {n : Nat} {l : Array Bool} {a : Act} {w : World} : NextU P md ops Q S m n l a w [] := fun _ h => by cases h
/-- One more, ahead of number m: S is shown anew behind it. -/
theorem NextU.cons {n : Nat} {l : Array Bool} {a : Act} {w : World} {i : Nat} {o : Oper} {rs : List Nat} (ho : ops[i]? = some o)
    (h : ∀ K' : Act → World → Prop, Shut (∀ a w, S w → (S w → AnyU P md ops Q S m n (l.setIfInBounds i true) a w) → K' a w) → if Region.wanted o (yielded ops a.tmps) = true then Oper.wp P o a w K' Q else K' (a.put o.dst undef) w)
    (hs : NextU P md ops Q S m n l a w rs) : NextU P md ops Q S m n l a w (i :: rs) := fun j hj => by
  rcases List.mem_cons.1 hj with rfl | hj
  · exact wpOp_step ho (fun K' hK => h K' (fun a w hS hW => hK a w ⟨fun _ _ => hS, hW hS⟩))
  · exact hs j hj
end
end Go.Proofs.YtgplajofemencaaGreat
