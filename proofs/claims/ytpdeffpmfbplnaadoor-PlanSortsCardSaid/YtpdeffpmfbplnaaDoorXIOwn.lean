/- The chapter's example. -/
import Derived.Test.YtpdeffpmfbplnaaDoorXIParse
import Derived.Lib.ConvBytes
import Derived.Deep.Slices
import Derived.Deep.Fields
import Derived.Test.YtpdeffpmfbplnaaDoorXIForm
namespace Go.Proofs.YtpdeffpmfbplnaaDoor
open Go.ChangeShapes Go.WideShapes Go.ChangeAt Go.RowKit

def smallB : List Int := [49, 32, 49, 32, 53, 10, 48, 32, 48, 32, 48, 32, 48, 32, 49, 48, 48, 32, 48, 10, 51, 32, 48, 32, 50, 32, 48, 32, 53, 48, 32, 49, 10, 48, 32, 52, 32, 45, 50, 32, 48, 32, 57, 48, 32, 49, 10]
def smallI : Ins := ⟨1, 1, 5, [⟨0, 0, 0, 0, 100, 0⟩, ⟨3, 0, 2, 0, 50, 1⟩, ⟨0, 4, -2, 0, 90, 1⟩]⟩
theorem small_ok : perr smallB = 0 ∧ pins smallB = smallI ∧ mayB smallI = true ∧ textOf (linesI smallI) = smallB := by decide +kernel
theorem small_any (w : World) : Calls Tryd.prog 25 #[] w fun e w' => e = .returned (.string (strOfNums smallB)) ∧ w = w' := by
  go_enter Tryd.func25, Tryd.ntmps25
  go_wp2
  go_ret
  exact ⟨by congr 2, rfl⟩
/-- A text made of a string. -/
theorem conv_back {w : World} {s : ByteArray} {xs : List Int} (hs : s = strOfNums xs) (hx : ∀ c ∈ xs, 0 ≤ c ∧ c ≤ 255) (hl : xs.length ≤ 1000000) :
    Row (Lib.bytesWorld w 5 s) (.slice (some ⟨w.heap.size, 0, none⟩) s.size (grownCap w s.size 0 5)) (byts xs) := by
  subst hs
  rw [strOfNums_size]
  refine ⟨by rw [byts_len]; unfold maxLen; omega, _, _, by rw [byts_len], by rw [byts_len]; exact grownCap_ge _ _ _ _, ⟨grownCap_le_maxLen _ _ _ _ (by unfold maxLen; omega), by simp⟩, .inr ⟨w.heap.size, 0, rfl, fun i hi => ?_⟩⟩
  rw [byts_len] at hi
  rw [Nat.zero_add, Lib.bytesWorld_cell w 5 _ i (by rw [strOfNums_size]; exact hi), byts_at _ _ hi]
  have hc := hx (xs.getD i 0) (by rw [List.getD_eq_getElem?_getD, List.getElem?_eq_getElem hi]; simp)
  have hn : (strOfNums xs).data.toList.getD i 0 = UInt8.ofNat (xs.getD i 0).toNat := by
    simp [strOfNums, List.getD_eq_getElem?_getD, hi]
  rw [hn]
  have : ((UInt8.ofNat (xs.getD i 0).toNat).toNat : Int) = xs.getD i 0 := by
    simp only [UInt8.toNat_ofNat']
    omega
  rw [this]
theorem conv_below (w : World) (s : ByteArray) : Below w.heap.size w (Lib.bytesWorld w 5 s) :=
  ⟨rfl, rfl, rfl, by rw [Lib.bytesWorld_size]; omega, fun k hk => Lib.bytesWorld_at_old w 5 s k hk⟩
end Go.Proofs.YtpdeffpmfbplnaaDoor
/- Instances that a law is handed. -/
namespace Go.Proofs.YtpdeffpmfbplnaaDoor
open Go.ChangeShapes Go.WideShapes Go.ChangeAt Go.RowKit

def Fit (n : Int) : Prop := -9223372036854775808 ≤ n ∧ n ≤ 9223372036854775807
def FitS (t : Stp) : Prop := Fit t.x ∧ Fit t.y ∧ Fit t.d ∧ Fit t.r ∧ Fit t.u ∧ Fit t.s
def FitI (I : Ins) : Prop := Fit I.p ∧ Fit I.c ∧ Fit I.r ∧ ∀ i, i < I.l.length → FitS (nth I.l i)
theorem cells_stop : Tryd.prog.cellsOf 76 = 6 := by kernel_rfl
theorem cells_inst : Tryd.prog.cellsOf 24 = 4 := by kernel_rfl
theorem cells_stops : Tryd.prog.cellsOf 22 = 1 := by kernel_rfl
section
variable {H : Type} {enc : TypeId × Value → H} {w : World} {base : Nat} {spare : Nat → Bool} {held : Bool}
theorem int_cells {fuel : Nat} {cs : List Value} {x : Option (DataW H × List MemPlace)} (hx : ∃ y, x = some y) (h : DataW.trod enc Tryd.prog w base spare held fuel 3 cs = x) : ∃ n, cs = [.int .i64 n] ∧ Fit n := by
  obtain ⟨y, rfl⟩ := hx
  obtain ⟨n, hn, _, hw⟩ := DataW.trod_int Tryd.underlying3 h
  exact ⟨n, hn, wf_fits hw⟩
set_option maxRecDepth 100000 in
theorem stop_cells {fuel : Nat} {cs : List Value} {x : DataW H × List MemPlace} (h : DataW.trod enc Tryd.prog w base spare held fuel 76 cs = some x) : ∃ t : Stp, cs = rowV t ∧ FitS t := by
  obtain ⟨xs, n, _, _, hlen, hxl, hf⟩ := DataW.trod_struct Tryd.underlying76 h
  rw [cells_stop] at hlen
  have hxl' : xs.length = 6 := hxl
  have f0 : DataW.trod enc Tryd.prog w base spare held n 3 ((cs.drop 0).take (Tryd.prog.cellsOf 3)) = xs[0]? := hf 0 _ rfl
  have f1 : DataW.trod enc Tryd.prog w base spare held n 3 ((cs.drop 1).take (Tryd.prog.cellsOf 3)) = xs[1]? := hf 1 _ rfl
  have f2 : DataW.trod enc Tryd.prog w base spare held n 3 ((cs.drop 2).take (Tryd.prog.cellsOf 3)) = xs[2]? := hf 2 _ rfl
  have f3 : DataW.trod enc Tryd.prog w base spare held n 3 ((cs.drop 3).take (Tryd.prog.cellsOf 3)) = xs[3]? := hf 3 _ rfl
  have f4 : DataW.trod enc Tryd.prog w base spare held n 3 ((cs.drop 4).take (Tryd.prog.cellsOf 3)) = xs[4]? := hf 4 _ rfl
  have f5 : DataW.trod enc Tryd.prog w base spare held n 3 ((cs.drop 5).take (Tryd.prog.cellsOf 3)) = xs[5]? := hf 5 _ rfl
  rw [cells_int] at f0 f1 f2 f3 f4 f5
  obtain ⟨n0, e0, b0⟩ := int_cells ⟨_, List.getElem?_eq_getElem (by omega)⟩ f0
  obtain ⟨n1, e1, b1⟩ := int_cells ⟨_, List.getElem?_eq_getElem (by omega)⟩ f1
  obtain ⟨n2, e2, b2⟩ := int_cells ⟨_, List.getElem?_eq_getElem (by omega)⟩ f2
  obtain ⟨n3, e3, b3⟩ := int_cells ⟨_, List.getElem?_eq_getElem (by omega)⟩ f3
  obtain ⟨n4, e4, b4⟩ := int_cells ⟨_, List.getElem?_eq_getElem (by omega)⟩ f4
  obtain ⟨n5, e5, b5⟩ := int_cells ⟨_, List.getElem?_eq_getElem (by omega)⟩ f5
  match cs, hlen with
  | [c0, c1, c2, c3, c4, c5], _ =>
    simp at e0 e1 e2 e3 e4 e5
    exact ⟨⟨n0, n1, n2, n3, n4, n5⟩, by rw [e0, e1, e2, e3, e4, e5]; rfl, b0, b1, b2, b3, b4, b5⟩
set_option maxRecDepth 100000 in
theorem stops_cells {fuel : Nat} {cs : List Value} {x : DataW H × List MemPlace} (h : DataW.trod enc Tryd.prog w base spare held fuel 22 cs = some x) : ∃ (v : Value) (l : List Stp), cs = [v] ∧ SRow w v l ∧ ∀ i, i < l.length → FitS (nth l i) := by
  rcases Go.Deep.open_slice Tryd.underlying22 h with ⟨h0, _⟩ | ⟨ad, ln, cp, m, n, D, Pl, hcs, hb, hl, hm, hmm, hx, hi⟩
  · exact ⟨_, [], h0, srow_nil w, fun i hi => by simp at hi⟩
  · have hlm : ln ≤ m := by rw [hmm]; split <;> omega
    obtain ⟨l, hll, hp⟩ := list_of (⟨0, 0, 0, 0, 0, 0⟩ : Stp) (fun i t => (∀ k, k < 6 → w.cell? ((ad.add (i * 6)).add k) = (rowV t)[k]?) ∧ FitS t) ln (fun i hil => by
      obtain ⟨cs', hc, ht⟩ := hi i (by omega)
      rw [cells_stop] at hc
      obtain ⟨t, rfl, hft⟩ := stop_cells ht
      obtain ⟨_, _, hat⟩ := World.cells?_some hc
      exact ⟨t, fun k hk => hat k hk, hft⟩)
    subst hll
    refine ⟨_, l, hcs, ?_, fun i hi => (hp i hi).2⟩
    refine ⟨by omega, some ad, cp, rfl, hl, ⟨hm, fun h => by simp at h⟩, ?_⟩
    by_cases e : l = []
    · exact .inl e
    · right
      have hpos : 0 < l.length := List.length_pos_iff.2 e
      obtain ⟨b, off, spot⟩ := ad
      have hspot : spot = none := by
        have := World.cell?_spot (show w.cell? (((⟨b, off, spot⟩ : Addr).add (0 * 6)).add 0) = some (.int .i64 (nth l 0).x) from (hp 0 hpos).1 0 (by omega))
        simpa [Addr.add] using this
      subst hspot
      refine ⟨b, off, rfl, fun i hi => at_of (fun k hk => ?_)⟩
      have := (hp i hi).1 k hk
      simp only [add_off] at this
      exact this
set_option maxRecDepth 100000 in
theorem inst_cells {fuel : Nat} {cs : List Value} {x : DataW H × List MemPlace} (h : DataW.trod enc Tryd.prog w base spare held fuel 24 cs = some x) : ∃ (I : Ins) (v : Value), cs = [.int .i64 I.p, .int .i64 I.c, .int .i64 I.r, v] ∧ SRow w v I.l ∧ FitI I := by
  obtain ⟨xs, n, _, _, hlen, hxl, hf⟩ := DataW.trod_struct Tryd.underlying24 h
  rw [cells_inst] at hlen
  have hxl' : xs.length = 4 := hxl
  have f0 : DataW.trod enc Tryd.prog w base spare held n 3 ((cs.drop 0).take (Tryd.prog.cellsOf 3)) = xs[0]? := hf 0 _ rfl
  have f1 : DataW.trod enc Tryd.prog w base spare held n 3 ((cs.drop 1).take (Tryd.prog.cellsOf 3)) = xs[1]? := hf 1 _ rfl
  have f2 : DataW.trod enc Tryd.prog w base spare held n 3 ((cs.drop 2).take (Tryd.prog.cellsOf 3)) = xs[2]? := hf 2 _ rfl
  have f3 : DataW.trod enc Tryd.prog w base spare held n 22 ((cs.drop 3).take (Tryd.prog.cellsOf 22)) = xs[3]? := hf 3 _ rfl
  rw [cells_int] at f0 f1 f2
  rw [cells_stops] at f3
  obtain ⟨n0, e0, b0⟩ := int_cells ⟨_, List.getElem?_eq_getElem (by omega)⟩ f0
  obtain ⟨n1, e1, b1⟩ := int_cells ⟨_, List.getElem?_eq_getElem (by omega)⟩ f1
  obtain ⟨n2, e2, b2⟩ := int_cells ⟨_, List.getElem?_eq_getElem (by omega)⟩ f2
  obtain ⟨v, l, e3, hs, hfl⟩ := stops_cells (f3.trans (List.getElem?_eq_getElem (by omega)))
  match cs, hlen with
  | [c0, c1, c2, c3], _ =>
    simp at e0 e1 e2 e3
    exact ⟨⟨n0, n1, n2, l⟩, v, by rw [e0, e1, e2, e3], hs, b0, b1, b2, hfl⟩
set_option maxRecDepth 100000 in
/-- An instance by value. -/
theorem open_inst {r : Reach} {b0 : Nat} {v : Value} {d : DataW H} {p : List MemPlace} (hv : Value.okWide Tryd.prog w r b0 24 v) (h : DataW.Trod enc Tryd.prog w base spare held 24 v d p) : ∃ (I : Ins) (u : Value), v = insV I u ∧ SRow w u I.l ∧ FitI I := by
  obtain ⟨cs, rfl, _⟩ := okWide_struct Tryd.underlying24 hv
  obtain ⟨fuel, hf⟩ := h
  obtain ⟨I, u, he, hs, hfi⟩ := inst_cells hf
  refine ⟨I, u, ?_, hs, hfi⟩
  obtain ⟨l⟩ := cs
  simp [Value.cells] at he
  rw [he]; rfl
end
end Go.Proofs.YtpdeffpmfbplnaaDoor
/- A number of one stop is changed; what is printed, in one word. -/
namespace Go.Proofs.YtpdeffpmfbplnaaDoor
open Go.ChangeShapes Go.WideShapes Go.ChangeAt Go.RowKit

theorem flat_set : ∀ (l : List Stp) (i k : Nat) (t : Stp) (u : Value), i < l.length → k < 6 → (rowV (nth l i)).set k u = rowV t → (flat l).set (i * 6 + k) u = flat (l.set i t)
  | [], i, _, _, _, h, _, _ => by simp at h
  | s :: l, 0, k, t, u, _, hk, h => by
    rw [flat, Nat.zero_mul, Nat.zero_add, List.set_append_left _ _ (by simp [rowV]; omega), List.set_cons_zero, flat]
    rw [show (rowV s).set k u = rowV t from h]
  | s :: l, i + 1, k, t, u, hi, hk, h => by
    rw [flat, List.set_append_right _ _ (by simp [rowV]; omega), List.set_cons_succ, flat]
    congr 1
    rw [show (i + 1) * 6 + k - (rowV s).length = i * 6 + k by simp [rowV]; omega]
    exact flat_set l i k t u (by simpa using hi) hk h
/-- One cell of one stop is stored. -/
theorem OwnS.stored {w : World} {B g n cap : Nat} {l : List Stp} (h : OwnS w B (.slice (some ⟨g, 0, none⟩) n cap) l) (i k : Nat) (t : Stp) (u : Value) (hi : i < l.length) (hk : k < 6) (ht : (rowV (nth l i)).set k u = rowV t) (a : Addr) (ha : a = ⟨g, i * 6 + k, none⟩) :
    OwnS (w.setCell a u) B (.slice (some ⟨g, 0, none⟩) n cap) (l.set i t) ∧ B ≤ g := by
  subst ha
  have hn : n = l.length := by
    obtain ⟨a, c, he⟩ := h.shape
    simp at he; exact he.2.1
  subst hn
  have h' : w.ownsRow B 76 6 (.slice (some ⟨g, 0, none⟩) l.length cap) l.length (flat l) := h
  refine ⟨?_, (World.ownsRow.lt h' g rfl).1⟩
  unfold OwnS
  rw [List.length_set, ← flat_set l i k t u hi hk ht]
  exact (h'.stored (i * 6 + k) u).1
theorem OwnS.at {w : World} {B g n cap : Nat} {l : List Stp} (h : OwnS w B (.slice (some ⟨g, 0, none⟩) n cap) l) (i : Nat) (hi : i < l.length) : At w g (i * 6) (nth l i) ∧ (∀ k, w.frozen? ⟨g, k, none⟩ = false) ∧ g < w.heap.size ∧ B ≤ g := by
  have hn : n = l.length := by
    obtain ⟨a, c, he⟩ := h.shape
    simp at he; exact he.2.1
  subst hn
  have h' : w.ownsRow B 76 6 (.slice (some ⟨g, 0, none⟩) l.length cap) l.length (flat l) := h
  have := srow_here h.row i hi
  rw [Nat.zero_add] at this
  exact ⟨this, fun k => h'.frozenAt k, this.lt, (World.ownsRow.lt h' g rfl).1⟩
theorem OwnS.form {w : World} {B : Nat} {v : Value} {l : List Stp} (h : OwnS w B v l) (hl : 0 < l.length) : ∃ g cap, v = .slice (some ⟨g, 0, none⟩) l.length cap := by
  obtain ⟨g, cap, hv, _⟩ := World.ownsRow.form (show w.ownsRow B 76 6 v l.length (flat l) from h) hl
  exact ⟨g, cap, hv⟩
/-- What Print answers, in one word. -/
def pe (I : Ins) : Int := if mayB I = true then 0 else 1
def pt (I : Ins) : List Int := if mayB I = true then textOf (linesI I) else []
theorem printed_one {w w' : World} {I : Ins} {e : Ending} (h : Printed w w' I e) : ∃ v, e = .returned (.tuple #[v, .int .i64 (pe I)]) ∧ OwnB w' w.heap.size v (pt I) ∧ Below w.heap.size w w' := by
  rcases h with ⟨hm, rfl, hb⟩ | ⟨hm, v, rfl, ho, hb⟩
  · exact ⟨.slice none 0 0, by unfold pe; rw [hm]; rfl, by unfold pt; rw [hm]; exact ownB_nil _ _, hb⟩
  · exact ⟨v, by unfold pe; rw [hm]; rfl, by unfold pt; rw [hm]; exact ho, hb⟩
/-- The instance's box in a later world. -/
theorem box_cells {W w' : World} {N : Nat} {I : Ins} {v : Value} (h : Hid (Holds (cellsI N I v) W)) (hN : N < W.heap.size) (hb : Hid (Below W.heap.size W w')) :
    w'.cell? ⟨N, 0, none⟩ = some (.int .i64 I.p) ∧ w'.cell? ⟨N, 1, none⟩ = some (.int .i64 I.c) ∧ w'.cell? ⟨N, 2, none⟩ = some (.int .i64 I.r) ∧ w'.cell? ⟨N, 3, none⟩ = some v := by
  have := Holds.below hb.out h.out ⟨hN, hN, hN, hN, trivial⟩
  simp only [cellsI, Holds] at this
  exact ⟨this.1, this.2.1, this.2.2.1, this.2.2.2.1⟩
/-- An instance's box, whole. -/
def YBox (w : World) (N : Nat) (I : Ins) (u : Value) : Prop := w.heap[N]? = some (.cells #[.int .i64 I.p, .int .i64 I.c, .int .i64 I.r, u] 24 (0, 0))
section
variable {w w' : World} {N : Nat} {I : Ins} {u : Value}
theorem ybox_new (w : World) (I : Ins) (u : Value) : YBox (w.alloc (boxI I u)) w.heap.size I u := heap_alloc_new w _
theorem YBox.lt (h : YBox w N I u) : N < w.heap.size := (Array.getElem?_eq_some_iff.1 h).1
theorem YBox.cells (h : YBox w N I u) : w.cell? ⟨N, 0, none⟩ = some (.int .i64 I.p) ∧ w.cell? ⟨N, 1, none⟩ = some (.int .i64 I.c) ∧ w.cell? ⟨N, 2, none⟩ = some (.int .i64 I.r) ∧ w.cell? ⟨N, 3, none⟩ = some u := by
  have hc : ∀ i, w.cell? ⟨N, i, none⟩ = [Value.int .i64 I.p, .int .i64 I.c, .int .i64 I.r, u][i]? := fun i => by rw [cell_of_row w N i _ _ _ h]; simp
  exact ⟨hc 0, hc 1, hc 2, hc 3⟩
theorem YBox.free (h : YBox w N I u) (i : Nat) : w.frozen? ⟨N, i, none⟩ = false := frozen_of_row w N i _ _ h
theorem YBox.below {M : Nat} (h : YBox w N I u) (hN : N < M) (hb : Below M w w') : YBox w' N I u := by unfold YBox; rw [hb.block N hN]; exact h
theorem YBox.later (h : YBox w N I u) (hb : Below w.heap.size w w') : YBox w' N I u := h.below h.lt hb
theorem YBox.other (h : YBox w N I u) (a : Addr) (x : Value) (ha : a.block ≠ N) : YBox (w.setCell a x) N I u := by unfold YBox; rw [heap_setCell_other w a N x (fun e => ha e.symm)]; exact h
theorem YBox.stops (h : YBox w N I u) (v : Value) : YBox (w.setCell ⟨N, 3, none⟩ v) N I v := by unfold YBox; rw [heap_setCell_same w N 3 _ _ _ h]; rfl
theorem YBox.room (h : YBox w N I u) (r : Int) : YBox (w.setCell ⟨N, 2, none⟩ (.int .i64 r)) N ⟨I.p, I.c, r, I.l⟩ u := by unfold YBox; rw [heap_setCell_same w N 2 _ _ _ h]; rfl
theorem YBox.cars (h : YBox w N I u) (c : Int) : YBox (w.setCell ⟨N, 1, none⟩ (.int .i64 c)) N ⟨I.p, c, I.r, I.l⟩ u := by unfold YBox; rw [heap_setCell_same w N 1 _ _ _ h]; rfl
theorem YBox.pairs (h : YBox w N I u) (p : Int) : YBox (w.setCell ⟨N, 0, none⟩ (.int .i64 p)) N ⟨p, I.c, I.r, I.l⟩ u := by unfold YBox; rw [heap_setCell_same w N 0 _ _ _ h]; rfl
end
theorem wrap_ne (x : Int) (h : Fit x) : IntKind.i64.wrap (x + 1) ≠ x := by
  obtain ⟨h0, h1⟩ := h
  by_cases e : x = 9223372036854775807
  · subst e; decide
  · rw [IntWalk.i64_in _ (by omega)]; omega
theorem set_ne {l : List Stp} {i : Nat} {t : Stp} (hi : i < l.length) (h : t ≠ nth l i) : l ≠ l.set i t := fun e => by
  have : nth l i = nth (l.set i t) i := congrArg (fun m => nth m i) e
  rw [nth_set l i i t hi, if_pos rfl] at this
  exact h this.symm
end Go.Proofs.YtpdeffpmfbplnaaDoor
