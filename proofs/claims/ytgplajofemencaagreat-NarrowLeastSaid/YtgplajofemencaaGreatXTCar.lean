/- Rows of numbers that a law is handed. -/
import Derived.Test.YtgplajofemencaaGreatYC
import Derived.Test.YtgplajofemencaaGreatXMath
import Derived.Deep.MidRow
namespace Go.Proofs.YtgplajofemencaaGreat
open Go.ChangeShapes Go.WideShapes Go.ChangeAt Go.RowKit

section
variable {H : Type} {enc : TypeId × Value → H} {w : World} {base : Nat} {spare : Nat → Bool} {held : Bool}
end
end Go.Proofs.YtgplajofemencaaGreat
/- How times lie in memory. -/
namespace Go.Proofs.YtgplajofemencaaGreat
open Go.ChangeShapes Go.WideShapes Go.ChangeAt Go.RowKit

def rowT (t : Tm) : List Value := [.int .i64 t.come, .int .i64 t.begn, .int .i64 t.leave]
def timeV (t : Tm) : Value := .agg #[.int .i64 t.come, .int .i64 t.begn, .int .i64 t.leave]
def flatT : List Tm → List Value
  | [] => []
  | t :: l => rowT t ++ flatT l
def nthT (l : List Tm) (i : Nat) : Tm := l.getD i ⟨0, 0, 0⟩
theorem flatT_append : ∀ (a b : List Tm), flatT (a ++ b) = flatT a ++ flatT b
  | [], _ => rfl
  | t :: a, b => by rw [List.cons_append, flatT, flatT, flatT_append a b, List.append_assoc]
theorem flatT_at : ∀ (l : List Tm) (i k : Nat), i < l.length → k < 3 → (flatT l)[i * 3 + k]? = (rowT (nthT l i))[k]?
  | [], i, k, h, _ => by simp at h
  | t :: l, 0, k, _, hk => by rw [flatT, Nat.zero_mul, Nat.zero_add, List.getElem?_append_left (by simp [rowT]; omega)]; rfl
  | t :: l, i + 1, k, h, hk => by
    rw [flatT, List.getElem?_append_right (by simp [rowT]; omega), show (i + 1) * 3 + k - (rowT t).length = i * 3 + k by simp [rowT]; omega, flatT_at l i k (by simpa using h) hk]
    rfl
theorem flatT_one : ∀ (l : List Tm), ∀ u ∈ flatT l, u.oneCell' = true
  | [], u, hu => by simp [flatT] at hu
  | t :: l, u, hu => by
    rw [flatT, List.mem_append] at hu
    rcases hu with hu | hu
    · simp [rowT] at hu
      rcases hu with rfl | rfl | rfl <;> rfl
    · exact flatT_one l u hu
/-- The three cells of a time. -/
def TAt (w : World) (b o : Nat) (t : Tm) : Prop := w.cell? ⟨b, o, none⟩ = some (.int .i64 t.come) ∧ w.cell? ⟨b, o + 1, none⟩ = some (.int .i64 t.begn) ∧ w.cell? ⟨b, o + 2, none⟩ = some (.int .i64 t.leave)
theorem TAt.lt {w : World} {b o : Nat} {t : Tm} (h : TAt w b o t) : b < w.heap.size := World.block_lt_of_cell? w _ h.1
theorem TAt.below {w w' : World} {b o M : Nat} {t : Tm} (h : TAt w b o t) (hb : b < M) (hw : Below M w w') : TAt w' b o t :=
  ⟨(hw.cell (p := ⟨b, o, none⟩) hb).trans h.1, (hw.cell (p := ⟨b, o + 1, none⟩) hb).trans h.2.1, (hw.cell (p := ⟨b, o + 2, none⟩) hb).trans h.2.2⟩
theorem tat_of {w : World} {b o : Nat} {t : Tm} (h : ∀ k, k < 3 → w.cell? ⟨b, o + k, none⟩ = (rowT t)[k]?) : TAt w b o t := ⟨h 0 (by omega), h 1 (by omega), h 2 (by omega)⟩
theorem TAt.of {w : World} {b o : Nat} {t : Tm} (h : TAt w b o t) (k : Nat) (hk : k < 3) : w.cell? ⟨b, o + k, none⟩ = (rowT t)[k]? := by
  obtain ⟨h0, h1, h2⟩ := h
  match k, hk with
  | 0, _ => exact h0
  | 1, _ => exact h1
  | 2, _ => exact h2
/-- Times that may be read. -/
def TRow (w : World) (v : Value) (l : List Tm) : Prop :=
  l.length ≤ maxLen ∧ ∃ a cap, v = .slice a l.length cap ∧ l.length ≤ cap ∧ (cap ≤ maxLen ∧ (a = none → cap = 0)) ∧ (l = [] ∨ ∃ b off, a = some ⟨b, off, none⟩ ∧ ∀ i, i < l.length → TAt w b (off + i * 3) (nthT l i))
theorem TRow.below {w w' : World} {v : Value} {l : List Tm} (h : TRow w v l) (hb : Below w.heap.size w w') : TRow w' v l := by
  obtain ⟨hm, a, cap, hv, hc, hc2, h⟩ := h
  refine ⟨hm, a, cap, hv, hc, hc2, ?_⟩
  rcases h with h | ⟨b, off, ha, hc⟩
  · exact .inl h
  · exact .inr ⟨b, off, ha, fun i hi => (hc i hi).below (hc i hi).lt hb⟩
theorem trow_nil (w : World) : TRow w (.slice none 0 0) [] := ⟨by simp, none, 0, rfl, by simp, ⟨by simp, fun _ => rfl⟩, .inl rfl⟩
theorem TRow.form {w : World} {v : Value} {l : List Tm} (h : TRow w v l) : ∃ a cap, v = .slice a l.length cap ∧ l.length ≤ maxLen ∧ l.length ≤ cap ∧ cap ≤ maxLen := by
  obtain ⟨hm, a, cap, rfl, hc, hc2, _⟩ := h
  exact ⟨a, cap, rfl, hm, hc, hc2.1⟩
/-- Times that a call has made. -/
def OwnT (w : World) (B : Nat) (v : Value) (l : List Tm) : Prop := w.ownsRow B 179 3 v l.length (flatT l)
theorem OwnT.row {w : World} {B : Nat} {v : Value} {l : List Tm} (h : OwnT w B v l) : TRow w v l := by
  have h' : w.ownsRow B 179 3 v l.length (flatT l) := h
  rcases h'.2 with ⟨rfl, hn⟩ | ⟨g, cap, cur, rfl, hb, hg, hc, hm, hs, ht⟩
  · have : l = [] := List.eq_nil_of_length_eq_zero hn
    subst this
    exact trow_nil _
  · refine ⟨by omega, _, _, rfl, hc, ⟨hm, fun h => by simp at h⟩, .inr ⟨g, 0, rfl, fun i hi => ?_⟩⟩
    refine tat_of (fun k hk => ?_)
    rw [Nat.zero_add, h'.cellAt _ (by omega), flatT_at l i k hi hk]
theorem OwnT.below {w w' : World} {B : Nat} {v : Value} {l : List Tm} (h : OwnT w B v l) (hb : Below w.heap.size w w') : OwnT w' B v l := own_below h hb
theorem OwnT.alloc {w : World} {B : Nat} {v : Value} {l : List Tm} (h : OwnT w B v l) (O : Obj) : OwnT (w.alloc O) B v l := World.ownsRow.alloc h O
theorem ownT_nil (w : World) (B : Nat) : OwnT w B (.slice none 0 0) [] := World.ownsRow_nil _ _ _ _
theorem OwnT.less {w : World} {B B' : Nat} {v : Value} {l : List Tm} (h : OwnT w B v l) (hB : B' ≤ B) : OwnT w B' v l := own_less (show w.ownsRow B 179 3 v l.length (flatT l) from h) hB
theorem OwnT.kept {w w' : World} {B : Nat} {v : Value} {l : List Tm} {row : Option Nat} (h : OwnT w B v l) (hg : w.grownBy w' row) (hne : v.ownBlock = none ∨ v.ownBlock ≠ row) : OwnT w' B v l := World.ownsRow.kept h hg hne
theorem OwnT.shape {w : World} {B : Nat} {v : Value} {l : List Tm} (h : OwnT w B v l) : ∃ a cap, v = .slice a l.length cap := own_shape (show w.ownsRow B 179 3 v l.length (flatT l) from h)
theorem infoTime : (Tryz.prog.info? 179).map (fun i => (i.zero, i.size, i.bytes)) = some (some (.agg #[.int .i64 0, .int .i64 0, .int .i64 0]), 3, 24) := by kernel_rfl
/-! ### Two times held against each other -/
theorem Tm.eq_iff (a b : Tm) : (a.come = b.come ∧ a.begn = b.begn ∧ a.leave = b.leave) ↔ a = b := by cases a; cases b; simp
end Go.Proofs.YtgplajofemencaaGreat
/- How a car lies in memory. -/
namespace Go.Proofs.YtgplajofemencaaGreat
open Go.ChangeShapes Go.WideShapes Go.ChangeAt Go.RowKit

def seenB (l : List Int) : List Bool := (List.range 33).map (fun i => decide (((i : Nat) : Int) ∈ l))
theorem seenB_len (l : List Int) : (seenB l).length = 33 := by simp [seenB]
theorem seenB_at (l : List Int) (i : Nat) (h : i < 33) : (seenB l).getD i false = decide ((i : Int) ∈ l) := by
  unfold seenB; rw [List.getD_eq_getElem?_getD, List.getElem?_map, List.getElem?_range h]; rfl
theorem seenB_snoc (l : List Int) (i : Nat) : (seenB l).set i true = seenB (l ++ [(i : Int)]) := by
  apply List.ext_getElem (by simp [seenB])
  intro j h1 h2
  have hj : j < 33 := by simpa [seenB] using h1
  rw [List.getElem_set]
  unfold seenB
  simp only [List.getElem_map, List.getElem_range, List.mem_append, List.mem_singleton]
  by_cases e : i = j
  · subst e; simp
  · rw [if_neg e, decide_eq_decide]
    exact ⟨.inl, fun h => h.elim id (fun h => by omega)⟩
theorem seenB_nil : seenB [] = List.replicate 33 false := by decide
def atS (l : List Int) : Int := l.getLastD 0
theorem atS_snoc (l : List Int) (i : Int) : atS (l ++ [i]) = i := by simp [atS]
def loadsL (I : Ins) (l : List Int) : List Int := (List.range l.length).map (fun k => heldL I (l.take (k + 1)))
theorem loadsL_snoc (I : Ins) (l : List Int) (i : Int) : loadsL I (l ++ [i]) = loadsL I l ++ [heldL I (l ++ [i])] := by
  unfold loadsL
  rw [List.length_append, List.length_singleton, List.range_succ, List.map_append]
  congr 1
  · apply List.map_congr_left
    intro k hk
    rw [List.mem_range] at hk
    rw [List.take_append_of_le_length (by omega)]
  · rw [List.map_singleton, List.take_of_length_le (by simp)]
theorem loadsL_len (I : Ins) (l : List Int) : (loadsL I l).length = l.length := by simp [loadsL]
/-- A car's cells. -/
def carC (I : Ins) (sv : Value) (a n g h : Int) (S : List Bool) (tv lv : Value) : List Value :=
  [.int .i64 I.p, .int .i64 I.c, .int .i64 I.r, sv, .int .i64 a, .int .i64 n, .int .i64 g, .int .i64 h] ++ (S.map Value.bool ++ [tv, lv])
def CarB (w : World) (b : Nat) (I : Ins) (sv : Value) (a n g h : Int) (S : List Bool) (tv lv : Value) : Prop :=
  S.length = 33 ∧ w.heap[b]? = some (.cells (carC I sv a n g h S tv lv).toArray 125 (0, 0))
section
variable {w w' : World} {b : Nat} {I : Ins} {sv : Value} {a n g h : Int} {S : List Bool} {tv lv : Value}
theorem CarB.lt (k : CarB w b I sv a n g h S tv lv) : b < w.heap.size := (Array.getElem?_eq_some_iff.1 k.2).1
theorem CarB.cell (k : CarB w b I sv a n g h S tv lv) (i : Nat) : w.cell? ⟨b, i, none⟩ = (carC I sv a n g h S tv lv)[i]? := by rw [cell_of_row w b i _ _ _ k.2]; simp
theorem CarB.free (k : CarB w b I sv a n g h S tv lv) (i : Nat) : w.frozen? ⟨b, i, none⟩ = false := frozen_of_row w b i _ _ k.2
theorem CarB.below {M : Nat} (k : CarB w b I sv a n g h S tv lv) (hb : b < M) (hw : Below M w w') : CarB w' b I sv a n g h S tv lv := ⟨k.1, by rw [hw.block b hb]; exact k.2⟩
theorem CarB.later (k : CarB w b I sv a n g h S tv lv) (hw : Below w.heap.size w w') : CarB w' b I sv a n g h S tv lv := k.below k.lt hw
theorem CarB.other (k : CarB w b I sv a n g h S tv lv) (p : Addr) (x : Value) (hp : p.block ≠ b) : CarB (w.setCell p x) b I sv a n g h S tv lv := ⟨k.1, by rw [heap_setCell_other w p b x (fun e => hp e.symm)]; exact k.2⟩
theorem CarB.grown {row : Option Nat} (k : CarB w b I sv a n g h S tv lv) (hg : w.grownBy w' row) (hr : row ≠ some b) : CarB w' b I sv a n g h S tv lv := ⟨k.1, by rw [hg.block b k.lt (fun e => hr e.symm)]; exact k.2⟩
theorem CarB.c0 (k : CarB w b I sv a n g h S tv lv) : w.cell? ⟨b, 0, none⟩ = some (.int .i64 I.p) := k.cell 0
theorem CarB.c1 (k : CarB w b I sv a n g h S tv lv) : w.cell? ⟨b, 1, none⟩ = some (.int .i64 I.c) := k.cell 1
theorem CarB.c2 (k : CarB w b I sv a n g h S tv lv) : w.cell? ⟨b, 2, none⟩ = some (.int .i64 I.r) := k.cell 2
theorem CarB.c3 (k : CarB w b I sv a n g h S tv lv) : w.cell? ⟨b, 3, none⟩ = some sv := k.cell 3
theorem CarB.c4 (k : CarB w b I sv a n g h S tv lv) : w.cell? ⟨b, 4, none⟩ = some (.int .i64 a) := k.cell 4
theorem CarB.c5 (k : CarB w b I sv a n g h S tv lv) : w.cell? ⟨b, 5, none⟩ = some (.int .i64 n) := k.cell 5
theorem CarB.c6 (k : CarB w b I sv a n g h S tv lv) : w.cell? ⟨b, 6, none⟩ = some (.int .i64 g) := k.cell 6
theorem CarB.c7 (k : CarB w b I sv a n g h S tv lv) : w.cell? ⟨b, 7, none⟩ = some (.int .i64 h) := k.cell 7
theorem CarB.cs (k : CarB w b I sv a n g h S tv lv) (i : Nat) (hi : i < 33) : w.cell? ⟨b, 8 + i, none⟩ = some (.bool (S.getD i false)) := by
  rw [k.cell, carC, List.getElem?_append_right (by simp), List.getElem?_append_left (by simp [k.1]; omega)]
  simp [List.getD_eq_getElem?_getD, k.1, hi]
theorem CarB.ct (k : CarB w b I sv a n g h S tv lv) : w.cell? ⟨b, 41, none⟩ = some tv := by
  rw [k.cell, carC, List.getElem?_append_right (by simp), List.getElem?_append_right (by simp [k.1])]
  simp [k.1]
theorem CarB.cl (k : CarB w b I sv a n g h S tv lv) : w.cell? ⟨b, 42, none⟩ = some lv := by
  rw [k.cell, carC, List.getElem?_append_right (by simp), List.getElem?_append_right (by simp [k.1])]
  simp [k.1]
theorem CarB.set (k : CarB w b I sv a n g h S tv lv) (i : Nat) (x : Value) : (w.setCell ⟨b, i, none⟩ x).heap[b]? = some (.cells ((carC I sv a n g h S tv lv).set i x).toArray 125 (0, 0)) := by
  rw [heap_setCell_same w b i _ _ _ k.2]; simp
theorem CarB.setAt (k : CarB w b I sv a n g h S tv lv) (x : Int) : CarB (w.setCell ⟨b, 4, none⟩ (.int .i64 x)) b I sv x n g h S tv lv := ⟨k.1, by rw [k.set]; rfl⟩
theorem CarB.setLeft (k : CarB w b I sv a n g h S tv lv) (x : Int) : CarB (w.setCell ⟨b, 5, none⟩ (.int .i64 x)) b I sv a x g h S tv lv := ⟨k.1, by rw [k.set]; rfl⟩
theorem CarB.setGone (k : CarB w b I sv a n g h S tv lv) (x : Int) : CarB (w.setCell ⟨b, 6, none⟩ (.int .i64 x)) b I sv a n x h S tv lv := ⟨k.1, by rw [k.set]; rfl⟩
theorem CarB.setLoad (k : CarB w b I sv a n g h S tv lv) (x : Int) : CarB (w.setCell ⟨b, 7, none⟩ (.int .i64 x)) b I sv a n g x S tv lv := ⟨k.1, by rw [k.set]; rfl⟩
theorem CarB.setSeen (k : CarB w b I sv a n g h S tv lv) (i : Nat) (hi : i < 33) : CarB (w.setCell ⟨b, 8 + i, none⟩ (.bool true)) b I sv a n g h (S.set i true) tv lv := by
  refine ⟨by simp [k.1], ?_⟩
  rw [k.set]
  unfold carC
  rw [List.set_append_right _ _ (by simp), List.set_append_left _ _ (by simp [k.1]; omega)]
  simp
theorem CarB.setTimes (k : CarB w b I sv a n g h S tv lv) (x : Value) : CarB (w.setCell ⟨b, 41, none⟩ x) b I sv a n g h S x lv := by
  refine ⟨k.1, ?_⟩
  rw [k.set]
  unfold carC
  rw [List.set_append_right _ _ (by simp), List.set_append_right _ _ (by simp [k.1])]
  simp [k.1]
theorem CarB.setLoads (k : CarB w b I sv a n g h S tv lv) (x : Value) : CarB (w.setCell ⟨b, 42, none⟩ x) b I sv a n g h S tv x := by
  refine ⟨k.1, ?_⟩
  rw [k.set]
  unfold carC
  rw [List.set_append_right _ _ (by simp), List.set_append_right _ _ (by simp [k.1])]
  simp [k.1]
end
theorem infoCar : (Tryz.prog.info? 125).map (·.size) = some 43 := by kernel_rfl
theorem carC_len {I : Ins} {sv : Value} {a n g h : Int} {S : List Bool} {tv lv : Value} (hS : S.length = 33) : (carC I sv a n g h S tv lv).length = 43 := by simp [carC, hS]
end Go.Proofs.YtgplajofemencaaGreat
/- What a car's farTo and timeAt answer. -/
namespace Go.Proofs.YtgplajofemencaaGreat
open Go.ChangeShapes Go.WideShapes Go.ChangeAt Go.RowKit

/-- The stop's cells, and the car's. -/
def cellsC (b : Nat) (I : Ins) (sv : Value) (a n g h : Int) : List (Addr × Value) := [(⟨b, 0, none⟩, .int .i64 I.p), (⟨b, 1, none⟩, .int .i64 I.c), (⟨b, 2, none⟩, .int .i64 I.r), (⟨b, 3, none⟩, sv), (⟨b, 4, none⟩, .int .i64 a), (⟨b, 5, none⟩, .int .i64 n), (⟨b, 6, none⟩, .int .i64 g), (⟨b, 7, none⟩, .int .i64 h)]
theorem CarB.holds {w : World} {b : Nat} {I : Ins} {sv : Value} {a n g h : Int} {S : List Bool} {tv lv : Value} (k : CarB w b I sv a n g h S tv lv) : Holds (cellsC b I sv a n g h) w := ⟨k.c0, k.c1, k.c2, k.c3, k.c4, k.c5, k.c6, k.c7, trivial⟩
theorem lows_C {M b : Nat} {I : Ins} {sv : Value} {a n g h : Int} (hb : b < M) : Lows M (cellsC b I sv a n g h) := ⟨hb, hb, hb, hb, hb, hb, hb, hb, trivial⟩
set_option maxRecDepth 1000000 in
set_option maxHeartbeats 1000000 in
theorem farTo_any {w : World} {b : Nat} {I : Ins} {sv : Value} {a k : Nat} {n g h : Int} {S : List Bool} {tv lv : Value} (hc : CarB w b I sv a n g h S tv lv) (hr : SRow w sv I.l) (ha : a < I.l.length) (hk : k < I.l.length) :
    Calls Tryz.prog 116 #[.pointer (some ⟨b, 0, none⟩), .int .i64 k] w fun e w' => e = .returned (.int .i64 (farF (stp I a) (stp I k))) ∧ Below w.heap.size w w' := by
  obtain ⟨ad, cap, rfl, hm, _⟩ := hr.form
  obtain ⟨tb, off, rfl, hat, hlt0⟩ := srow_at hr a ha
  have hkt := srow_here hr k hk
  have hF := Lib.hid (show farF (stp I a) (stp I k) = farF (nth I.l a) (nth I.l k) from rfl)
  have hai : (a : Int) < (I.l.length : Int) := by omega
  have hki : (k : Int) < (I.l.length : Int) := by omega
  go_enter Tryz.func116, Tryz.ntmps116
  go_wp2_with fail
  have HB1 := Lib.hid ((Below.refl w.heap.size w).drew)
  have HS0 := Lib.hid (show Holds (cellsC b I (.slice (some ⟨tb, off, none⟩) I.l.length cap) a n g h ++ (cellsF tb (off + a * 6) (nth I.l a) ++ cellsF tb (off + k * 6) (nth I.l k))) w.drew from
    Holds.app.2 ⟨(hc.later ((Below.refl _ w).drew)).holds, Holds.app.2 ⟨holds_at (hat.below hlt0 ((Below.refl _ w).drew)), holds_at (hkt.below hlt0 ((Below.refl _ w).drew))⟩⟩)
  have hlt := Lib.hid (show Lows w.drew.heap.size (cellsC b I (.slice (some ⟨tb, off, none⟩) I.l.length cap) a n g h ++ (cellsF tb (off + a * 6) (nth I.l a) ++ cellsF tb (off + k * 6) (nth I.l k))) from Lows.app (lows_C hc.lt) (Lows.app (lows_at hlt0) (lows_at hlt0)))
  generalize nth I.l a = s at *
  generalize nth I.l k = t at *
  clear hc hr hat hkt
  refine wp_region_held_drew (S := Holds (cellsC b I (.slice (some ⟨tb, off, none⟩) I.l.length cap) a n g h ++ (cellsF tb (off + a * 6) s ++ cellsF tb (off + k * 6) t))) (by kernel_rfl) HS0.out (fun hSn => ?_)
  have Bc := Lib.hid (Below.refl w.drew.heap.size w.drew)
  simp only [cellsC, cellsF, List.cons_append, List.nil_append] at *
  refine tks [0, 1, 2, 3, 4, 5, 6, 7, 8, 9, 10, 11, 12, 13, 14, 15, 16, 17, 18] 19 rfl (by kernel_rfl) (fun _ _ _ _ h => h) (by assumption) (fun KT hKT => ?_)
  iterate 19 (refine tkT (by (simp only [gA, gB, gC]; rfl)) (by rfl) (by (intro w hSw; (simp only [Holds] at hSw); go_simp <;> with_reducible rfl)) ?_; simp only [Act.put, pA, pB, pC])
  refine hKT _ ?_
  clear KT hKT
  refine wpAnyH_ready (rs := [19]) (by kernel_rfl) (by simp) ?_
  refine AllReadyH.cons (o := ?oz40) ?iz40 (fun K hK => ?kz40) AllReadyH.nil
  case iz40 => (simp only [List.getElem?_toArray, List.getElem?_cons_zero, List.getElem?_cons_succ]; rfl)
  go_simp
  change Calls _ _ #[stopV s, stopV t] _ _
  refine (far_any s t _).mono ?_
  rintro e w' ⟨rfl, hb⟩
  refine held_more hK HS0.out hlt (Bc.out.trans (hb.mono Bc.out.size)) (fun Bc hSn => ?_)
  clear hb hK
  refine tks [20] 1 rfl (by kernel_rfl) (fun _ _ _ _ h => h) (by assumption) (fun KT hKT => ?_)
  refine tkT (by (simp only [gA, gB, gC]; rfl)) (by rfl) (by (intro w hSw; (simp only [Holds] at hSw); go_simp <;> with_reducible rfl)) ?_
  simp only [Act.put, pA, pB, pC]
  refine hKT _ ?_
  clear KT hKT
  refine wpAnyH_done (by kernel_rfl) ?_ _
  go_wp2
  go_ret
  exact ⟨ret_int hF.out.symm, HB1.out.trans (Bc.out.mono HB1.out.size)⟩
theorem wrap64_fits {n : Int} (h : -9223372036854775808 ≤ n ∧ n ≤ 9223372036854775807) : wrap64 n = n := IntWalk.wrap64_in n h
def tmN (n : Int) (s t : Stp) : Tm := ⟨n + farF s t, max (n + farF s t) t.r, max (n + farF s t) t.r + t.s⟩
theorem tmAt_eq (s : TS) (t : Stp) : tmAt s t = tmN s.now s.last t := rfl
set_option maxRecDepth 1000000 in
set_option maxHeartbeats 1000000 in
theorem timeAt_any {w : World} {b : Nat} {I : Ins} {sv : Value} {a k : Nat} {n g h : Int} {S : List Bool} {tv lv : Value} (hc : CarB w b I sv a n g h S tv lv) (hr : SRow w sv I.l) (ha : a < I.l.length) (hk : k < I.l.length)
    (hn : 0 ≤ n ∧ n ≤ 2000000) (hs : stopOk (stp I k) = true) :
    Calls Tryz.prog 151 #[.pointer (some ⟨b, 0, none⟩), .int .i64 k] w fun e w' => e = .returned (timeV (tmN n (stp I a) (stp I k))) ∧ Below w.heap.size w w' := by
  have HC := Lib.hid hc
  have HR := Lib.hid hr
  obtain ⟨ad, cap, rfl, hm, _⟩ := hr.form
  obtain ⟨tb, off, rfl, hkt, hlt0⟩ := srow_at hr k hk
  have HKT := Lib.hid (show At w tb (off + k * 6) (stp I k) from hkt)
  obtain ⟨_, _, hr0, hu0, hs0⟩ := stop_in hs
  have hfb := farF_bd (stp I a) (stp I k)
  have hki : (k : Int) < (I.l.length : Int) := by omega
  have HT := Lib.hid (show tmN n (stp I a) (stp I k) = ⟨n + farF (stp I a) (stp I k), max (n + farF (stp I a) (stp I k)) (stp I k).r, max (n + farF (stp I a) (stp I k)) (stp I k).r + (stp I k).s⟩ from rfl)
  have e1 : IntKind.i64.wrap (n + farF (stp I a) (stp I k)) = n + farF (stp I a) (stp I k) := IntWalk.i64_in _ (by omega)
  have e2 : IntKind.i64.wrap ((stp I k).r + (stp I k).s) = (stp I k).r + (stp I k).s := IntWalk.i64_in _ (by omega)
  have e3 : IntKind.i64.wrap (n + farF (stp I a) (stp I k) + (stp I k).s) = n + farF (stp I a) (stp I k) + (stp I k).s := IntWalk.i64_in _ (by omega)
  have e4 : wrap64 ((stp I k).r + (stp I k).s) = (stp I k).r + (stp I k).s := wrap64_fits (by omega)
  have e5 : wrap64 (n + farF (stp I a) (stp I k) + (stp I k).s) = n + farF (stp I a) (stp I k) + (stp I k).s := wrap64_fits (by omega)
  clear hc hr hkt hs hr0 hu0 hs0 hfb hm
  go_enter Tryz.func151, Tryz.ntmps151
  go_wp2_with fail
  have HB1 := Lib.hid ((Below.refl w.heap.size w).alloc (Nat.le_refl _) (.cells #[.int .i64 0, .int .i64 0, .int .i64 0] 179))
  have HZ := Lib.hid (heap_alloc_new w (.cells #[.int .i64 0, .int .i64 0, .int .i64 0] 179))
  have hWs : (w.alloc (.cells #[.int .i64 0, .int .i64 0, .int .i64 0] 179)).heap.size = w.heap.size + 1 := by simp
  have hkn : k < I.l.length := hk
  have han : a < I.l.length := ha
  generalize w.alloc (.cells #[.int .i64 0, .int .i64 0, .int .i64 0] 179) = W at *
  have HC1 := Lib.hid (HC.out.later (HB1.out.drew))
  have HR1 := Lib.hid (HR.out.below (HB1.out.drew))
  have HS0 := Lib.hid (show Holds [(⟨b, 5, none⟩, .int .i64 n)] W.drew from ⟨HC1.out.c5, trivial⟩)
  have hlt := Lib.hid (show Lows W.drew.heap.size [(⟨b, 5, none⟩, .int .i64 n)] from ⟨HC1.out.lt, trivial⟩)
  refine wp_region_held_drew (S := Holds [(⟨b, 5, none⟩, .int .i64 n)]) (by kernel_rfl) HS0.out (fun hSn => ?_)
  have Bc := Lib.hid (Below.refl W.drew.heap.size W.drew)
  refine tks [0, 1, 2, 3, 4, 5] 6 rfl (by kernel_rfl) (fun _ _ _ _ h => h) (by assumption) (fun KT hKT => ?_)
  iterate 6 (refine tkT (by (simp only [gA, gB, gC]; rfl)) (by rfl) (by (intro w hSw; (simp only [Holds] at hSw); go_simp <;> with_reducible rfl)) ?_; simp only [Act.put, pA, pB, pC])
  refine hKT _ ?_
  clear KT hKT
  refine wpAnyH_ready (rs := [6]) (by kernel_rfl) (by simp) ?_
  refine AllReadyH.cons (o := ?oz41) ?iz41 (fun K hK => ?kz41) AllReadyH.nil
  case iz41 => (simp only [List.getElem?_toArray, List.getElem?_cons_zero, List.getElem?_cons_succ]; rfl)
  go_simp
  refine (farTo_any (HC1.out.later Bc.out) (HR1.out.below Bc.out) han hkn).mono ?_
  rintro e w' ⟨rfl, hb⟩
  refine held_more hK HS0.out hlt (Bc.out.trans (hb.mono Bc.out.size)) (fun Bc hSn => ?_)
  clear hb hK
  refine tks [7, 8] 2 rfl (by kernel_rfl) (fun _ _ _ _ h => h) (by assumption) (fun KT hKT => ?_)
  iterate 2 (refine tkT (by (simp only [gA, gB, gC]; rfl)) (by rfl) (by (intro w hSw; (simp only [Holds] at hSw); go_simp <;> with_reducible rfl)) ?_; simp only [Act.put, pA, pB, pC])
  refine hKT _ ?_
  clear KT hKT
  refine wpAnyH_done (by kernel_rfl) ?_ _
  have HB2 := Lib.hid (HB1.out.drew.trans (Bc.out.mono (by show w.heap.size ≤ W.heap.size; omega)))
  have HZ2 := Lib.hid (show w'.heap[w.heap.size]? = some (.cells #[.int .i64 0, .int .i64 0, .int .i64 0] 179 (0, 0)) by rw [Bc.out.block _ (by show w.heap.size < W.heap.size; omega)]; exact HZ.out)
  have b3 := (HC.out.later HB2.out).c3
  obtain ⟨t0, t1, t2, t3, t4, t5⟩ := HKT.out.below HKT.out.lt HB2.out
  have z0 : w'.cell? ⟨w.heap.size, 0, none⟩ = some (.int .i64 0) := by rw [cell_of_row w' _ 0 _ _ _ HZ2.out]; rfl
  have z1 : w'.cell? ⟨w.heap.size, 1, none⟩ = some (.int .i64 0) := by rw [cell_of_row w' _ 1 _ _ _ HZ2.out]; rfl
  have z2 : w'.cell? ⟨w.heap.size, 2, none⟩ = some (.int .i64 0) := by rw [cell_of_row w' _ 2 _ _ _ HZ2.out]; rfl
  have f0 := frozen_of_row w' w.heap.size 0 _ _ HZ2.out
  have f1 := frozen_of_row w' w.heap.size 1 _ _ HZ2.out
  have f2 := frozen_of_row w' w.heap.size 2 _ _ HZ2.out
  have HB3 := Lib.hid (((HB2.out.setCell (p := ⟨w.heap.size, 0, none⟩) (Nat.le_refl _) (.int .i64 (n + farF (stp I a) (stp I k)))).setCell (p := ⟨w.heap.size, 1, none⟩) (Nat.le_refl _) (.int .i64 (stp I k).r)).setCell (p := ⟨w.heap.size, 2, none⟩) (Nat.le_refl _) (.int .i64 ((stp I k).r + (stp I k).s)))
  have HB4 := Lib.hid (((HB2.out.setCell (p := ⟨w.heap.size, 0, none⟩) (Nat.le_refl _) (.int .i64 (n + farF (stp I a) (stp I k)))).setCell (p := ⟨w.heap.size, 1, none⟩) (Nat.le_refl _) (.int .i64 (n + farF (stp I a) (stp I k)))).setCell (p := ⟨w.heap.size, 2, none⟩) (Nat.le_refl _) (.int .i64 (n + farF (stp I a) (stp I k) + (stp I k).s)))
  rcases Int.lt_or_le (n + farF (stp I a) (stp I k)) (stp I k).r with h | h
  · have hmx : max (n + farF (stp I a) (stp I k)) (stp I k).r = (stp I k).r := Int.max_eq_right (Int.le_of_lt h)
    go_wp2
    exact bodyPost_ret (v := .agg #[.int .i64 (n + farF (stp I a) (stp I k)), .int .i64 (stp I k).r, .int .i64 ((stp I k).r + (stp I k).s)]) (by simp [results, Tryz.results151, go_sem, z0, z1, z2]) rfl ⟨by rw [HT.out, Int.max_eq_right (Int.le_of_lt h)]; rfl, HB3.out⟩
  · have hmx : max (n + farF (stp I a) (stp I k)) (stp I k).r = n + farF (stp I a) (stp I k) := Int.max_eq_left h
    go_wp2
    exact bodyPost_ret (v := .agg #[.int .i64 (n + farF (stp I a) (stp I k)), .int .i64 (n + farF (stp I a) (stp I k)), .int .i64 (n + farF (stp I a) (stp I k) + (stp I k).s)]) (by simp [results, Tryz.results151, go_sem, z0, z1, z2]) rfl ⟨by rw [HT.out, Int.max_eq_left h]; rfl, HB4.out⟩
end Go.Proofs.YtgplajofemencaaGreat
/- What a car's wrongAt and wrongBack answer. -/
namespace Go.Proofs.YtgplajofemencaaGreat
open Go.ChangeShapes Go.WideShapes Go.ChangeAt Go.RowKit

/-- What is wrong with a stop as the next one. -/
def nextE (I : Ins) (L : List Int) (n : Int) (s : Stp) (i : Int) : Int := if wrongE I L i ≠ 0 then wrongE I L i else if (stp I i).u < (tmN n s (stp I i)).begn then 7 else 0
theorem fieldT0 (x y z : Int) (w : World) : (Instr.field 179 (.agg #[.int .i64 x, .int .i64 y, .int .i64 z]) 0).run Tryz.prog w = .ok (.int .i64 x) w := by kernel_rfl
theorem fieldT1 (x y z : Int) (w : World) : (Instr.field 179 (.agg #[.int .i64 x, .int .i64 y, .int .i64 z]) 1).run Tryz.prog w = .ok (.int .i64 y) w := by kernel_rfl
section
variable {I : Ins} {L : List Int} {n : Int} {s : Stp} {i : Int}
theorem nextE_arg (h : i < 1 ∨ 2 * I.p < i) : nextE I L n s i = 1 := by
  have : wrongE I L i = 1 := by unfold wrongE; rw [if_pos h]
  unfold nextE; rw [this, if_pos (by decide)]
theorem nextE_twice (h1 : 1 ≤ i ∧ i ≤ 2 * I.p) (h2 : i ∈ L) : nextE I L n s i = 5 := by
  have : wrongE I L i = 5 := by unfold wrongE; rw [if_neg (by omega), if_pos h2]
  unfold nextE; rw [this, if_pos (by decide)]
theorem nextE_order (h1 : 1 ≤ i ∧ i ≤ 2 * I.p) (h2 : i ∉ L) (h3 : I.p < i) (h4 : i - I.p ∉ L) : nextE I L n s i = 8 := by
  have : wrongE I L i = 8 := by unfold wrongE; rw [if_neg (by omega), if_neg h2, if_pos ⟨h3, h4⟩]
  unfold nextE; rw [this, if_pos (by decide)]
theorem nextE_full (h1 : 1 ≤ i ∧ i ≤ 2 * I.p) (h2 : i ∉ L) (h3 : ¬ (I.p < i ∧ i - I.p ∉ L)) (h4 : I.r < heldL I L + (stp I i).d) : nextE I L n s i = 6 := by
  have : wrongE I L i = 6 := by unfold wrongE; rw [if_neg (by omega), if_neg h2, if_neg h3, if_pos h4]
  unfold nextE; rw [this, if_pos (by decide)]
theorem nextE_rest (h1 : 1 ≤ i ∧ i ≤ 2 * I.p) (h2 : i ∉ L) (h3 : ¬ (I.p < i ∧ i - I.p ∉ L)) (h4 : ¬ I.r < heldL I L + (stp I i).d) : nextE I L n s i = if (stp I i).u < (tmN n s (stp I i)).begn then 7 else 0 := by
  have : wrongE I L i = 0 := by unfold wrongE; rw [if_neg (by omega), if_neg h2, if_neg h3, if_neg h4]
  unfold nextE; rw [this, if_neg (by decide)]
end
set_option maxRecDepth 1000000 in
set_option maxHeartbeats 2000000 in
theorem wrongAt_any {w : World} {b : Nat} {I : Ins} {sv : Value} {a : Nat} {i n g : Int} {L : List Int} {tv lv : Value} (hc : CarB w b I sv a n g (heldL I L) (seenB L) tv lv) (hr : SRow w sv I.l) (hm : mayB I = true) (ha : a < I.l.length)
    (hn : 0 ≤ n ∧ n ≤ 2000000) (hh : 0 ≤ heldL I L ∧ heldL I L ≤ 1000) :
    Calls Tryz.prog 113 #[.pointer (some ⟨b, 0, none⟩), .int .i64 i] w fun e w' => e = .returned (.int .i64 (nextE I L n (stp I a) i)) ∧ Below w.heap.size w w' := by
  have HC := Lib.hid hc
  have HR := Lib.hid hr
  have HM := Lib.hid (fine_of hm)
  have hp0 := HM.out.p0
  have hp1 := HM.out.p1
  have hl := HM.out.len
  have q0 := hc.c0
  have e1 : IntKind.i64.wrap (2 * I.p) = 2 * I.p := IntWalk.i64_in _ (by omega)
  clear hc hr hm
  by_cases h1 : i < 1
  · have d1 := decide_eq_true h1
    have HE := Lib.hid (nextE_arg (L := L) (n := n) (s := stp I a) (show i < 1 ∨ 2 * I.p < i from .inl h1))
    clear h1
    go_enter Tryz.func113, Tryz.ntmps113
    go_wp2
    go_ret
    exact ⟨ret_int HE.out.symm, Below.refl _ _⟩
  have d1 := decide_eq_false h1
  by_cases h2 : 2 * I.p < i
  · have d2 := decide_eq_true h2
    have HE := Lib.hid (nextE_arg (L := L) (n := n) (s := stp I a) (show i < 1 ∨ 2 * I.p < i from .inr h2))
    clear h1 h2
    go_enter Tryz.func113, Tryz.ntmps113
    go_wp2
    go_ret
    exact ⟨ret_int HE.out.symm, Below.refl _ _⟩
  have d2 := decide_eq_false h2
  have HI := Lib.hid (show 1 ≤ i ∧ i ≤ 2 * I.p by omega)
  obtain ⟨k, rfl⟩ : ∃ k : Nat, i = (k : Int) := ⟨i.toNat, by omega⟩
  have hk33 : k < 33 := by omega
  have hkl : k < I.l.length := by omega
  clear h1 h2
  have q8 := HC.out.cs k hk33
  rw [seenB_at L k hk33] at q8
  have k33 : (k : Int) < 33 := by omega
  by_cases h3 : (k : Int) ∈ L
  · have HE := Lib.hid (nextE_twice (n := n) (s := stp I a) HI.out h3)
    rw [decide_eq_true h3] at q8
    clear h3
    go_enter Tryz.func113, Tryz.ntmps113
    go_wp2
    go_ret
    exact ⟨ret_int HE.out.symm, Below.refl _ _⟩
  have H3 := Lib.hid h3
  rw [decide_eq_false h3] at q8
  clear h3
  obtain ⟨ad, cap, rfl, _⟩ := HR.out.form
  obtain ⟨tb, off, rfl, hkt, hlt0⟩ := srow_at HR.out k hkl
  have HKT := Lib.hid (show At w tb (off + k * 6) (stp I k) from hkt)
  clear hkt
  have hd : -1000 ≤ (stp I (k : Int)).d ∧ (stp I (k : Int)).d ≤ 1000 := by
    by_cases c : (k : Int) ≤ I.p
    · have := HM.out.take (k : Int) HI.out.1 c; omega
    · have h0 := HM.out.bring (k : Int) (by omega) HI.out.2
      have := HM.out.take ((k : Int) - I.p) (by omega) (by omega); omega
  have hst := HM.out.ok (k : Int) (by omega) HI.out.2
  have e3 : IntKind.i64.wrap (heldL I L + (stp I (k : Int)).d) = heldL I L + (stp I (k : Int)).d := IntWalk.i64_in _ (by omega)
  refine Or.elim (show (I.p < (k : Int) ∧ (k : Int) - I.p ∉ L) ∨ (I.p < (k : Int) ∧ (k : Int) - I.p ∈ L) ∨ ¬ I.p < (k : Int) by
    by_cases c : I.p < (k : Int)
    · by_cases c2 : (k : Int) - I.p ∈ L
      · exact .inr (.inl ⟨c, c2⟩)
      · exact .inl ⟨c, c2⟩
    · exact .inr (.inr c)) (fun h => ?bad) (fun h => Or.elim h (fun h => ?pa) (fun h => ?pb))
  case bad =>
    have HE := Lib.hid (nextE_order (n := n) (s := stp I a) HI.out H3.out h.1 h.2)
    obtain ⟨m, hm⟩ : ∃ m : Nat, (k : Int) - I.p = (m : Int) := ⟨((k : Int) - I.p).toNat, by omega⟩
    have hm33 : m < 33 := by omega
    have q9 := HC.out.cs m hm33
    rw [seenB_at L m hm33, ← hm, decide_eq_false h.2] at q9
    have e2 : IntKind.i64.wrap ((k : Int) - I.p) = (m : Int) := by rw [← hm]; exact IntWalk.i64_in _ (by omega)
    have m33 : (m : Int) < 33 := by omega
    have d3 := decide_eq_true h.1
    clear h hm
    go_enter Tryz.func113, Tryz.ntmps113
    go_wp2_with fail
    go_quiet (fail)
    go_wp2
    go_ret
    exact ⟨ret_int HE.out.symm, below_drewN (Below.refl _ _) nq⟩
  case' pa =>
    have HO := Lib.hid (show ¬ (I.p < (k : Int) ∧ (k : Int) - I.p ∉ L) from fun x => x.2 h.2)
    obtain ⟨m, hm⟩ : ∃ m : Nat, (k : Int) - I.p = (m : Int) := ⟨((k : Int) - I.p).toNat, by omega⟩
    have hm33 : m < 33 := by omega
    have q9 := HC.out.cs m hm33
    rw [seenB_at L m hm33, ← hm, decide_eq_true h.2] at q9
    have e2 : IntKind.i64.wrap ((k : Int) - I.p) = (m : Int) := by rw [← hm]; exact IntWalk.i64_in _ (by omega)
    have m33 : (m : Int) < 33 := by omega
    have d3 := decide_eq_true h.1
    clear h hm
    go_enter Tryz.func113, Tryz.ntmps113
    go_wp2_with fail
    go_quiet (fail)
    clear d3 q9 e2 m33 hm33
  case' pb =>
    have HO := Lib.hid (show ¬ (I.p < (k : Int) ∧ (k : Int) - I.p ∉ L) from fun x => h x.1)
    have d3 := decide_eq_false h
    clear h
    go_enter Tryz.func113, Tryz.ntmps113
    go_wp2_with fail
    go_quiet (fail)
    clear d3
  all_goals
    have HW := Lib.hid (below_drewN (Below.refl w.heap.size w) nq)
    generalize w.drewN nq = w1 at *
    clear q0 q8
    have q2 := (HC.out.later HW.out).c2
    have q3 := (HC.out.later HW.out).c3
    have q7 := (HC.out.later HW.out).c7
    obtain ⟨t0, t1, t2, t3, t4, t5⟩ := HKT.out.below hlt0 HW.out
    by_cases h6 : I.r < heldL I L + (stp I (k : Int)).d
    · have HE := Lib.hid (nextE_full (n := n) (s := stp I a) HI.out H3.out HO.out h6)
      have d4 := decide_eq_true h6
      clear h6
      go_wp2_with fail
      go_quiet (fail)
      go_wp2
      go_ret
      exact ⟨ret_int HE.out.symm, below_drewN HW.out nq⟩
    have HE := Lib.hid (nextE_rest (n := n) (s := stp I a) HI.out H3.out HO.out h6)
    have d4 := decide_eq_false h6
    clear h6
    go_wp2_with fail
    go_quiet (fail)
    have HW2 := Lib.hid ((below_drewN HW.out nq).drew)
    generalize w1.drewN nq = w2 at *
    clear d4 q2 q3 q7 t0 t1 t2 t3 t4 t5 e1 d1 d2 e3
    go_wp2_with fail
  · have HC2 := Lib.hid (HC.out.later HW2.out)
    have HR2 := Lib.hid (HR.out.below HW2.out)
    have hb2 : b < w2.drew.heap.size := HC2.out.lt
    have htb2 : tb < w2.drew.heap.size := Nat.lt_of_lt_of_le hlt0 HW2.out.size
    have HS0 := Lib.hid (show Holds ((⟨b, 3, none⟩, .slice (some ⟨tb, off, none⟩) I.l.length cap) :: cellsF tb (off + k * 6) (stp I (k : Int))) w2.drew from ⟨HC2.out.c3, holds_at (HKT.out.below hlt0 HW2.out)⟩)
    have hlt := Lib.hid (show Lows w2.drew.heap.size ((⟨b, 3, none⟩, .slice (some ⟨tb, off, none⟩) I.l.length cap) :: cellsF tb (off + k * 6) (stp I (k : Int))) from ⟨hb2, lows_at htb2⟩)
    refine wp_region_held_drew (S := Holds ((⟨b, 3, none⟩, .slice (some ⟨tb, off, none⟩) I.l.length cap) :: cellsF tb (off + k * 6) (stp I (k : Int)))) (by kernel_rfl) HS0.out (fun hSn => ?_)
    have Bc := Lib.hid (Below.refl w2.drew.heap.size w2.drew)
    unfold cellsF at *
    have hki : (k : Int) < (I.l.length : Int) := by omega
    clear hl
    refine tks [0, 1, 4, 5, 6, 7, 8, 9, 10, 11, 12] 11 rfl (by kernel_rfl) (fun _ _ _ _ h => h) (by assumption) (fun KT hKT => ?_)
    iterate 11 (refine tkT (by (simp only [gA, gB, gC]; rfl)) (by rfl) (by (intro w hSw; (simp only [Holds] at hSw); go_simp <;> with_reducible rfl)) ?_; simp only [Act.put, pA, pB, pC])
    refine hKT _ ?_
    clear KT hKT
    refine wpAnyH_ready (rs := [2]) (by kernel_rfl) (by simp) ?_
    refine AllReadyH.cons (o := ?oz42) ?iz42 (fun K hK => ?kz42) AllReadyH.nil
    case iz42 => (simp only [List.getElem?_toArray, List.getElem?_cons_zero, List.getElem?_cons_succ]; rfl)
    go_simp
    refine (timeAt_any (HC2.out.later Bc.out) (HR2.out.below Bc.out) ha hkl hn hst).mono ?_
    rintro e w' ⟨rfl, hb⟩
    refine held_more hK HS0.out hlt (Bc.out.trans (hb.mono Bc.out.size)) (fun Bc hSn => ?_)
    clear hb hK
    have HBB := Lib.hid (HW2.out.trans (Bc.out.mono HW2.out.size))
    have HE2 := Lib.hid HE.out
    by_cases h7 : (stp I (k : Int)).u < (tmN n (stp I a) (stp I (k : Int))).begn
    · have HE2 := Lib.hid (HE.out.trans (if_pos h7))
      have d7 := decide_eq_true h7
      clear h7
      unfold timeV
      have hfl := fieldT1
      refine tks [3, 13, 14] 3 rfl (by kernel_rfl) (fun _ _ _ _ h => h) (by assumption) (fun KT hKT => ?_)
      iterate 3 (refine tkT (by (simp only [gA, gB, gC]; rfl)) (by rfl) (by (intro w hSw; (simp only [Holds] at hSw); go_simp <;> with_reducible rfl)) ?_; simp only [Act.put, pA, pB, pC])
      refine hKT _ ?_
      clear KT hKT
      refine wpAnyH_done (by kernel_rfl) ?_ _
      go_wp2
      go_ret
      exact ⟨ret_int HE2.out.symm, HBB.out⟩
    · have HE2 := Lib.hid (HE.out.trans (if_neg h7))
      have d7 := decide_eq_false h7
      clear h7
      unfold timeV
      have hfl := fieldT1
      refine tks [3, 13, 14] 3 rfl (by kernel_rfl) (fun _ _ _ _ h => h) (by assumption) (fun KT hKT => ?_)
      iterate 3 (refine tkT (by (simp only [gA, gB, gC]; rfl)) (by rfl) (by (intro w hSw; (simp only [Holds] at hSw); go_simp <;> with_reducible rfl)) ?_; simp only [Act.put, pA, pB, pC])
      refine hKT _ ?_
      clear KT hKT
      refine wpAnyH_done (by kernel_rfl) ?_ _
      go_wp2
      go_ret
      exact ⟨ret_int HE2.out.symm, HBB.out⟩
  · have HC2 := Lib.hid (HC.out.later HW2.out)
    have HR2 := Lib.hid (HR.out.below HW2.out)
    have hb2 : b < w2.drew.heap.size := HC2.out.lt
    have htb2 : tb < w2.drew.heap.size := Nat.lt_of_lt_of_le hlt0 HW2.out.size
    have HS0 := Lib.hid (show Holds ((⟨b, 3, none⟩, .slice (some ⟨tb, off, none⟩) I.l.length cap) :: cellsF tb (off + k * 6) (stp I (k : Int))) w2.drew from ⟨HC2.out.c3, holds_at (HKT.out.below hlt0 HW2.out)⟩)
    have hlt := Lib.hid (show Lows w2.drew.heap.size ((⟨b, 3, none⟩, .slice (some ⟨tb, off, none⟩) I.l.length cap) :: cellsF tb (off + k * 6) (stp I (k : Int))) from ⟨hb2, lows_at htb2⟩)
    refine wp_region_held_drew (S := Holds ((⟨b, 3, none⟩, .slice (some ⟨tb, off, none⟩) I.l.length cap) :: cellsF tb (off + k * 6) (stp I (k : Int)))) (by kernel_rfl) HS0.out (fun hSn => ?_)
    have Bc := Lib.hid (Below.refl w2.drew.heap.size w2.drew)
    unfold cellsF at *
    have hki : (k : Int) < (I.l.length : Int) := by omega
    clear hl
    refine tks [0, 1, 4, 5, 6, 7, 8, 9, 10, 11, 12] 11 rfl (by kernel_rfl) (fun _ _ _ _ h => h) (by assumption) (fun KT hKT => ?_)
    iterate 11 (refine tkT (by (simp only [gA, gB, gC]; rfl)) (by rfl) (by (intro w hSw; (simp only [Holds] at hSw); go_simp <;> with_reducible rfl)) ?_; simp only [Act.put, pA, pB, pC])
    refine hKT _ ?_
    clear KT hKT
    refine wpAnyH_ready (rs := [2]) (by kernel_rfl) (by simp) ?_
    refine AllReadyH.cons (o := ?oz43) ?iz43 (fun K hK => ?kz43) AllReadyH.nil
    case iz43 => (simp only [List.getElem?_toArray, List.getElem?_cons_zero, List.getElem?_cons_succ]; rfl)
    go_simp
    refine (timeAt_any (HC2.out.later Bc.out) (HR2.out.below Bc.out) ha hkl hn hst).mono ?_
    rintro e w' ⟨rfl, hb⟩
    refine held_more hK HS0.out hlt (Bc.out.trans (hb.mono Bc.out.size)) (fun Bc hSn => ?_)
    clear hb hK
    have HBB := Lib.hid (HW2.out.trans (Bc.out.mono HW2.out.size))
    have HE2 := Lib.hid HE.out
    by_cases h7 : (stp I (k : Int)).u < (tmN n (stp I a) (stp I (k : Int))).begn
    · have HE2 := Lib.hid (HE.out.trans (if_pos h7))
      have d7 := decide_eq_true h7
      clear h7
      unfold timeV
      have hfl := fieldT1
      refine tks [3, 13, 14] 3 rfl (by kernel_rfl) (fun _ _ _ _ h => h) (by assumption) (fun KT hKT => ?_)
      iterate 3 (refine tkT (by (simp only [gA, gB, gC]; rfl)) (by rfl) (by (intro w hSw; (simp only [Holds] at hSw); go_simp <;> with_reducible rfl)) ?_; simp only [Act.put, pA, pB, pC])
      refine hKT _ ?_
      clear KT hKT
      refine wpAnyH_done (by kernel_rfl) ?_ _
      go_wp2
      go_ret
      exact ⟨ret_int HE2.out.symm, HBB.out⟩
    · have HE2 := Lib.hid (HE.out.trans (if_neg h7))
      have d7 := decide_eq_false h7
      clear h7
      unfold timeV
      have hfl := fieldT1
      refine tks [3, 13, 14] 3 rfl (by kernel_rfl) (fun _ _ _ _ h => h) (by assumption) (fun KT hKT => ?_)
      iterate 3 (refine tkT (by (simp only [gA, gB, gC]; rfl)) (by rfl) (by (intro w hSw; (simp only [Holds] at hSw); go_simp <;> with_reducible rfl)) ?_; simp only [Act.put, pA, pB, pC])
      refine hKT _ ?_
      clear KT hKT
      refine wpAnyH_done (by kernel_rfl) ?_ _
      go_wp2
      go_ret
      exact ⟨ret_int HE2.out.symm, HBB.out⟩
/-- What is wrong with the yard as the next one. -/
def backE (h : Int) (I : Ins) (n : Int) (s : Stp) : Int := if 0 < h then 8 else if (nth I.l 0).u < n + farF s (nth I.l 0) then 7 else 0
set_option maxRecDepth 1000000 in
set_option maxHeartbeats 2000000 in
theorem wrongBack_any {w : World} {b : Nat} {I : Ins} {sv : Value} {a : Nat} {n g h : Int} {S : List Bool} {tv lv : Value} (hc : CarB w b I sv a n g h S tv lv) (hr : SRow w sv I.l) (hm : mayB I = true) (ha : a < I.l.length)
    (hn : 0 ≤ n ∧ n ≤ 2000000) :
    Calls Tryz.prog 115 #[.pointer (some ⟨b, 0, none⟩)] w fun e w' => e = .returned (.int .i64 (backE h I n (stp I a))) ∧ Below w.heap.size w w' := by
  have HC := Lib.hid hc
  have HR := Lib.hid hr
  have hl0 : 0 < I.l.length := (pmay_len hm).1
  have hst := (fine_of hm).ok 0 (Int.le_refl _) (by have := (fine_of hm).p0; omega)
  have q7 := hc.c7
  clear hc hr hm
  by_cases h1 : 0 < h
  · have HE := Lib.hid (show backE h I n (stp I a) = 8 from if_pos h1)
    have d1 := decide_eq_true h1
    clear h1
    go_enter Tryz.func115, Tryz.ntmps115
    go_wp2
    go_ret
    exact ⟨ret_int HE.out.symm, Below.refl _ _⟩
  have HE := Lib.hid (show backE h I n (stp I a) = if (stp I 0).u < n + farF (stp I a) (stp I 0) then 7 else 0 from if_neg h1)
  have d1 := decide_eq_false h1
  clear h1
  obtain ⟨ad, cap, rfl, _⟩ := HR.out.form
  obtain ⟨tb, off, rfl, hkt, hlt0⟩ := srow_at HR.out 0 hl0
  have HKT := Lib.hid (show At w tb off (stp I 0) by have h0 := hkt; rw [Nat.zero_mul, Nat.add_zero] at h0; exact h0)
  clear hkt
  go_enter Tryz.func115, Tryz.ntmps115
  go_wp2_with fail
  have HW2 := Lib.hid ((Below.refl w.heap.size w).drew)
  clear d1
  have HC2 := Lib.hid (HC.out.later HW2.out)
  have HR2 := Lib.hid (HR.out.below HW2.out)
  have hb2 : b < w.drew.heap.size := HC2.out.lt
  have htb2 : tb < w.drew.heap.size := Nat.lt_of_lt_of_le hlt0 HW2.out.size
  have HS0 := Lib.hid (show Holds ((⟨b, 3, none⟩, .slice (some ⟨tb, off, none⟩) I.l.length cap) :: cellsF tb off (stp I 0)) w.drew from ⟨HC2.out.c3, holds_at (HKT.out.below hlt0 HW2.out)⟩)
  have hlt := Lib.hid (show Lows w.drew.heap.size ((⟨b, 3, none⟩, .slice (some ⟨tb, off, none⟩) I.l.length cap) :: cellsF tb off (stp I 0)) from ⟨hb2, lows_at htb2⟩)
  refine wp_region_held_drew (S := Holds ((⟨b, 3, none⟩, .slice (some ⟨tb, off, none⟩) I.l.length cap) :: cellsF tb off (stp I 0))) (by kernel_rfl) HS0.out (fun hSn => ?_)
  have Bc := Lib.hid (Below.refl w.drew.heap.size w.drew)
  unfold cellsF at *
  have hki : (0 : Int) < (I.l.length : Int) := by omega
  refine tks [0, 3, 4, 5, 6, 7, 8, 9, 10] 9 rfl (by kernel_rfl) (fun _ _ _ _ h => h) (by assumption) (fun KT hKT => ?_)
  iterate 9 (refine tkT (by (simp only [gA, gB, gC]; rfl)) (by rfl) (by (intro w hSw; (simp only [Holds] at hSw); go_simp <;> with_reducible rfl)) ?_; simp only [Act.put, pA, pB, pC])
  refine hKT _ ?_
  clear KT hKT
  refine wpAnyH_ready (rs := [1]) (by kernel_rfl) (by simp) ?_
  refine AllReadyH.cons (o := ?oz44) ?iz44 (fun K hK => ?kz44) AllReadyH.nil
  case iz44 => (simp only [List.getElem?_toArray, List.getElem?_cons_zero, List.getElem?_cons_succ]; rfl)
  go_simp
  refine (timeAt_any (k := 0) (HC2.out.later Bc.out) (HR2.out.below Bc.out) ha hl0 hn hst).mono ?_
  rintro e w' ⟨rfl, hb⟩
  refine held_more hK HS0.out hlt (Bc.out.trans (hb.mono Bc.out.size)) (fun Bc hSn => ?_)
  clear hb hK
  have HBB := Lib.hid (HW2.out.trans (Bc.out.mono HW2.out.size))
  rw [show tmN n (stp I a) (stp I ((0 : Nat) : Int)) = ⟨n + farF (stp I a) (stp I 0), max (n + farF (stp I a) (stp I 0)) (stp I 0).r, max (n + farF (stp I a) (stp I 0)) (stp I 0).r + (stp I 0).s⟩ from rfl]
  by_cases h7 : (stp I 0).u < n + farF (stp I a) (stp I 0)
  · have HE2 := Lib.hid (HE.out.trans (if_pos h7))
    have d7 := decide_eq_true h7
    clear h7
    unfold timeV
    have hfl := fieldT0
    refine tks [2, 11, 12] 3 rfl (by kernel_rfl) (fun _ _ _ _ h => h) (by assumption) (fun KT hKT => ?_)
    iterate 3 (refine tkT (by (simp only [gA, gB, gC]; rfl)) (by rfl) (by (intro w hSw; (simp only [Holds] at hSw); go_simp <;> with_reducible rfl)) ?_; simp only [Act.put, pA, pB, pC])
    refine hKT _ ?_
    clear KT hKT
    refine wpAnyH_done (by kernel_rfl) ?_ _
    go_wp2
    go_ret
    exact ⟨ret_int HE2.out.symm, HBB.out⟩
  · have HE2 := Lib.hid (HE.out.trans (if_neg h7))
    have d7 := decide_eq_false h7
    clear h7
    unfold timeV
    have hfl := fieldT0
    refine tks [2, 11, 12] 3 rfl (by kernel_rfl) (fun _ _ _ _ h => h) (by assumption) (fun KT hKT => ?_)
    iterate 3 (refine tkT (by (simp only [gA, gB, gC]; rfl)) (by rfl) (by (intro w hSw; (simp only [Holds] at hSw); go_simp <;> with_reducible rfl)) ?_; simp only [Act.put, pA, pB, pC])
    refine hKT _ ?_
    clear KT hKT
    refine wpAnyH_done (by kernel_rfl) ?_ _
    go_wp2
    go_ret
    exact ⟨ret_int HE2.out.symm, HBB.out⟩
end Go.Proofs.YtgplajofemencaaGreat
/- A drawn region in which some cells are held until one of its operations (its first store) comes up: what waits not for it is taken while they are held. -/
namespace Go.Proofs.YtgplajofemencaaGreat

section
variable {P : Program} {ops : Array Oper} {Q : Exit → Act → World → Prop} {md : Region.Mode} {S : World → Prop} {m : Nat}
/-- Whatever order is picked from here on; S holds behind each operation till number m comes up. -/
def AnyU (P : Program) (md : Region.Mode) (ops : Array Oper) (Q : Exit → Act → World → Prop) (S : World → Prop) (m : Nat) : Nat → Array Bool → Act → World → Prop
  | 0, l, a, w => Region.ready md ops l = [] ∧ Q .normal a w
  | n + 1, l, a, w => (Region.ready md ops l = [] → Q .normal a w) ∧
    ∀ i ∈ Region.ready md ops l, wpOp P ops Q i (fun a' w' => (i ≠ m → l.getD m true = false → S w') ∧ AnyU P md ops Q S m n (l.setIfInBounds i true) a' w') a w
theorem any_of_until : ∀ (n : Nat) (l : Array Bool) (a : Act) (w : World), AnyU P md ops Q S m n l a w → wpAny P md ops Q n l a w
  | 0, _, _, _, h => h
  | n + 1, _, _, _, h => ⟨h.1, fun i hi => wpOp_mono (fun _ _ k => any_of_until n _ _ _ k.2) (h.2 i hi)⟩
/-- Number m waits for number i. -/
def waitsFor (md : Region.Mode) (ops : Array Oper) (m i : Nat) : Bool := (ops[m]?).any (fun o => o.after.any (fun e => Region.binds md e && e.on == i))
theorem not_ready {i : Nat} {l : Array Bool} (hw : waitsFor md ops m i = true) (hi : l.getD i true = false) : m ∉ Region.ready md ops l := by
  intro hr
  obtain ⟨_, o, ho, hall⟩ := mem_ready.1 hr
  unfold waitsFor at hw
  rw [ho] at hw
  obtain ⟨e, he, hb⟩ := Array.any_eq_true'.1 (show o.after.any _ = true from hw)
  simp only [Bool.and_eq_true, beq_iff_eq] at hb
  have h1 := hall e he hb.1
  rw [hb.2] at h1
  rcases Nat.lt_or_ge i l.size with c | c
  · simp [c] at h1 hi; rw [hi] at h1; cases h1
  · simp [Array.getElem?_eq_none c] at h1
/-- What number m waits for may be taken first, if it yields its value in every world that meets S. -/
theorem until_first {i : Nat} {oi : Oper} {v : Value} (hi : ops[i]? = some oi) (hsel : Region.noSelect ops = true) (hQ : ∀ c a w, Q (.panic c) (a.put oi.dst v) w → Q (.panic c) a w) (hw : waitsFor md ops m i = true) :
    ∀ (n : Nat) (l : Array Bool) (a : Act) (w : World), (∀ j oj, ops[j]? = some oj → j ≠ i → l.getD j true = false → (∀ e ∈ oj.after, Region.binds md e = true → e.on ≠ i) → oi.apart ops oj = true) →
      i ∈ Region.ready md ops l → l.getD m true = false → YieldsIf P ops S oi v a → S w → AnyU P md ops Q S m n (l.setIfInBounds i true) (a.put oi.dst v) w → AnyU P md ops Q S m (n + 1) l a w := by
  intro n
  have hse := Region.noSelect_spec hsel
  induction n with
  | zero =>
    intro l a w _ hr hm hy hS k
    refine ⟨fun h0 => absurd hr (by rw [h0]; exact List.not_mem_nil), fun j hj => ?_⟩
    by_cases e : j = i
    · subst e; exact hy.wpOp hi hS ⟨fun _ _ => hS, k⟩
    · exact absurd (ready_mono hj e) (by rw [k.1]; exact List.not_mem_nil)
  | succ n ih =>
    intro l a w hf hr hm hy hS k
    have hil := (mem_ready.1 hr).1
    refine ⟨fun h0 => absurd hr (by rw [h0]; exact List.not_mem_nil), fun j hj => ?_⟩
    by_cases e : j = i
    · subst e; exact hy.wpOp hi hS ⟨fun _ _ => hS, k⟩
    · have ejm : j ≠ m := fun e2 => not_ready hw hil (e2 ▸ hj)
      have k1 := k.2 j (ready_mono hj e)
      obtain ⟨hju, oj, ho, hall⟩ := mem_ready.1 hj
      have hno : ∀ x ∈ oj.after, Region.binds md x = true → x.on ≠ i := fun x hx hb he => by
        have c1 := hall x hx hb
        rw [he] at c1
        rcases Nat.lt_or_ge i l.size with c | c
        · simp [c] at c1 hil; rw [hil] at c1; cases c1
        · simp [Array.getElem?_eq_none c] at c1
      have k2 := wpOp_putIf ho (hf j oj ho e hju hno) (fun cs b => hse i oi cs b hi) (fun cs b => hse j oj cs b ho) hQ hy k1
      have hmi : m ≠ i → (l.setIfInBounds i true).getD m true = false := fun h => by rw [getD_set_ne true (Ne.symm h)]; exact hm
      have hmj : (l.setIfInBounds j true).getD m true = false := by rw [getD_set_ne true ejm]; exact hm
      have hmne : m ≠ i := fun h => not_ready hw hil (by rw [h]; exact hr)
      refine wpOp_mono (fun a' w' k3 => ?_) k2
      have hS' := k3.2.1 ejm (hmi hmne)
      refine ⟨fun _ _ => hS', ih (l.setIfInBounds j true) a' w' (fun x ox hx hxi hxu hxo => hf x ox hx hxi ?_ hxo) (ready_mono hr (Ne.symm e)) hmj k3.1 hS' ?_⟩
      · by_cases c : j = x
        · subst c; exact hju
        · rw [getD_set_ne true c] at hxu; exact hxu
      · rw [Array.setIfInBounds_comm _ _ e]
        exact k3.2.2
theorem until_take {i : Nat} {oi : Oper} {v : Value} {n : Nat} {l : Array Bool} {a : Act} {w : World} (hi : ops[i]? = some oi) (hs : Region.noSelect ops = true) (hf : Region.free md ops l i = true)
    (hr : (Region.ready md ops l).contains i = true) (hw : waitsFor md ops m i = true) (hm : l.getD m true = false) (hQ : ∀ c a w, Q (.panic c) (a.put oi.dst v) w → Q (.panic c) a w) (hy : YieldsIf P ops S oi v a) (hS : S w)
    (h : AnyU P md ops Q S m n (l.setIfInBounds i true) (a.put oi.dst v) w) : AnyU P md ops Q S m (n + 1) l a w :=
  until_first hi hs hQ hw n l a w (Region.free_spec hi hf) (by simpa using hr) hm hy hS h
/-- What yields its value in whatever world may be taken first at any time. -/
theorem anyhow_first {i : Nat} {oi : Oper} {v : Value} (hi : ops[i]? = some oi) (hsel : Region.noSelect ops = true) (hQ : ∀ c a w, Q (.panic c) (a.put oi.dst v) w → Q (.panic c) a w) (him : i ≠ m) :
    ∀ (n : Nat) (l : Array Bool) (a : Act) (w : World), (∀ j oj, ops[j]? = some oj → j ≠ i → l.getD j true = false → (∀ e ∈ oj.after, Region.binds md e = true → e.on ≠ i) → oi.apart ops oj = true) →
      i ∈ Region.ready md ops l → YieldsIf P ops (fun _ => True) oi v a → (l.getD m true = false → S w) → AnyU P md ops Q S m n (l.setIfInBounds i true) (a.put oi.dst v) w → AnyU P md ops Q S m (n + 1) l a w := by
  intro n
  have hse := Region.noSelect_spec hsel
  induction n with
  | zero =>
    intro l a w _ hr hy hS k
    refine ⟨fun h0 => absurd hr (by rw [h0]; exact List.not_mem_nil), fun j hj => ?_⟩
    by_cases e : j = i
    · subst e; exact hy.wpOp hi trivial ⟨fun _ hm => hS hm, k⟩
    · exact absurd (ready_mono hj e) (by rw [k.1]; exact List.not_mem_nil)
  | succ n ih =>
    intro l a w hf hr hy hS k
    have hil := (mem_ready.1 hr).1
    refine ⟨fun h0 => absurd hr (by rw [h0]; exact List.not_mem_nil), fun j hj => ?_⟩
    by_cases e : j = i
    · subst e; exact hy.wpOp hi trivial ⟨fun _ hm => hS hm, k⟩
    · have k1 := k.2 j (ready_mono hj e)
      obtain ⟨hju, oj, ho, hall⟩ := mem_ready.1 hj
      have hno : ∀ x ∈ oj.after, Region.binds md x = true → x.on ≠ i := fun x hx hb he => by
        have c1 := hall x hx hb
        rw [he] at c1
        rcases Nat.lt_or_ge i l.size with c | c
        · simp [c] at c1 hil; rw [hil] at c1; cases c1
        · simp [Array.getElem?_eq_none c] at c1
      have k2 := wpOp_putIf ho (hf j oj ho e hju hno) (fun cs b => hse i oi cs b hi) (fun cs b => hse j oj cs b ho) hQ hy k1
      refine wpOp_mono (fun a' w' k3 => ?_) k2
      have hgi : (l.setIfInBounds i true).getD m true = l.getD m true := getD_set_ne true him
      have hS' : j ≠ m → l.getD m true = false → S w' := fun h1 h2 => k3.2.1 h1 (hgi.trans h2)
      refine ⟨hS', ih (l.setIfInBounds j true) a' w' (fun x ox hx hxi hxu hxo => hf x ox hx hxi ?_ hxo) (ready_mono hr (Ne.symm e)) k3.1 (fun h1 => ?_) ?_⟩
      · by_cases c : j = x
        · subst c; exact hju
        · rw [getD_set_ne true c] at hxu; exact hxu
      · by_cases c : j = m
        · subst c
          have : j < l.size := by
            rcases Nat.lt_or_ge j l.size with c2 | c2
            · exact c2
            · simp [Array.getElem?_eq_none c2] at hju
          simp [this] at h1
        · rw [getD_set_ne true c] at h1; exact hS' c h1
      · rw [Array.setIfInBounds_comm _ _ e]
        exact k3.2.2
theorem anyhow_take {i : Nat} {oi : Oper} {v : Value} {n : Nat} {l : Array Bool} {a : Act} {w : World} (hi : ops[i]? = some oi) (hs : Region.noSelect ops = true) (hf : Region.free md ops l i = true)
    (hr : (Region.ready md ops l).contains i = true) (him : i ≠ m) (hQ : ∀ c a w, Q (.panic c) (a.put oi.dst v) w → Q (.panic c) a w) (hy : YieldsIf P ops (fun _ => True) oi v a) (hS : l.getD m true = true ∨ S w)
    (h : AnyU P md ops Q S m n (l.setIfInBounds i true) (a.put oi.dst v) w) : AnyU P md ops Q S m (n + 1) l a w :=
  anyhow_first hi hs hQ him n l a w (Region.free_spec hi hf) (by simpa using hr) hy (fun hm => hS.elim (fun h1 => by rw [h1] at hm; cases hm) id) h
/-- Each of these comes up next. -/
def NextU (P : Program) (md : Region.Mode) (ops : Array Oper) (Q : Exit → Act → World → Prop) (S : World → Prop) (m n : Nat) (l : Array Bool) (a : Act) (w : World) (rs : List Nat) : Prop :=
  ∀ i ∈ rs, wpOp P ops Q i (fun a' w' => (i ≠ m → l.getD m true = false → S w') ∧ AnyU P md ops Q S m n (l.setIfInBounds i true) a' w') a w
theorem NextU.nil {n : Nat} {l : Array Bool} {a : Act} {w : World} : NextU P md ops Q S m n l a w [] := fun _ h => by cases h
/-- One more, ahead of number m: S is shown anew behind it. -/
theorem NextU.cons {n : Nat} {l : Array Bool} {a : Act} {w : World} {i : Nat} {o : Oper} {rs : List Nat} (ho : ops[i]? = some o)
    (h : ∀ K' : Act → World → Prop, Shut (∀ a w, S w → (S w → AnyU P md ops Q S m n (l.setIfInBounds i true) a w) → K' a w) → if Region.wanted o (yielded ops a.tmps) = true then Oper.wp P o a w K' Q else K' (a.put o.dst undef) w)
    (hs : NextU P md ops Q S m n l a w rs) : NextU P md ops Q S m n l a w (i :: rs) := fun j hj => by
  rcases List.mem_cons.1 hj with rfl | hj
  · exact wpOp_step ho (fun K' hK => h K' (fun a w hS hW => hK a w ⟨fun _ _ => hS, hW hS⟩))
  · exact hs j hj
/-- One more, number m itself or behind it: nothing is asked any more. -/
theorem NextU.late {n : Nat} {l : Array Bool} {a : Act} {w : World} {i : Nat} {o : Oper} {rs : List Nat} (ho : ops[i]? = some o) (hm : i = m ∨ l.getD m true = true)
    (h : ∀ K' : Act → World → Prop, Shut (∀ a w, AnyU P md ops Q S m n (l.setIfInBounds i true) a w → K' a w) → if Region.wanted o (yielded ops a.tmps) = true then Oper.wp P o a w K' Q else K' (a.put o.dst undef) w)
    (hs : NextU P md ops Q S m n l a w rs) : NextU P md ops Q S m n l a w (i :: rs) := fun j hj => by
  rcases List.mem_cons.1 hj with rfl | hj
  · exact wpOp_step ho (fun K' hK => h K' (fun a w hW => hK a w ⟨fun h1 h2 => hm.elim (fun e => absurd e h1) (fun e => by rw [e] at h2; cases h2), hW⟩))
  · exact hs j hj
theorem until_ready {rs : List Nat} {n : Nat} {l : Array Bool} {a : Act} {w : World} (hr : Region.ready md ops l = rs) (hne : rs ≠ []) (h : NextU P md ops Q S m n l a w rs) : AnyU P md ops Q S m (n + 1) l a w :=
  ⟨fun h0 => absurd (hr ▸ h0) hne, hr ▸ h⟩
theorem until_done {l : Array Bool} {a : Act} {w : World} (hr : Region.ready md ops l = []) (h : Q .normal a w) : ∀ n, AnyU P md ops Q S m n l a w
  | 0 => ⟨hr, h⟩
  | _ + 1 => ⟨fun _ => h, by rw [hr]; simp⟩
theorem wp_until {id : Nat} {a : Act} {w : World} (hm : P.follows .mixedOrders = true) (h : AnyU P .any ops Q S m ops.size (Array.replicate ops.size false) a w.drew) : (Code.region id ops true).wp P Q a w :=
  wp_region_any hm (any_of_until _ _ _ _ h)
end
end Go.Proofs.YtgplajofemencaaGreat
