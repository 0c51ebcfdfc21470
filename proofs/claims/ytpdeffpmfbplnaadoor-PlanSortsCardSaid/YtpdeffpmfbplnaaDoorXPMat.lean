/- Rows of numbers: a part of one, one number stored, one line stored; append of a make; what slices.Min, Grow, Concat and plane.least answer. -/
import Derived.Test.YtpdeffpmfbplnaaDoorXPCore
import Derived.Test.YtpdeffpmfbplnaaDoorXIForm
namespace Go.Proofs.YtpdeffpmfbplnaaDoor
open Go.ChangeShapes Go.WideShapes Go.ChangeAt Go.RowKit

/-- A part of a row: from k on, up to h. -/
theorem Row.part {w : World} {b off n cap : Nat} {xs : List Value} (hs : Row w (.slice (some ⟨b, off, none⟩) n cap) xs) (k h : Nat) (hk : k ≤ h) (hh : h ≤ xs.length) (a : Option Addr) (ha : a = (if cap = k then some ⟨b, off, none⟩ else some ⟨b, off + k, none⟩)) :
    Row w (.slice a (h - k) (cap - k)) ((xs.drop k).take (h - k)) := by
  obtain ⟨hm, a', cap', hv, hc, ⟨hc2, _⟩, hcell⟩ := hs
  simp at hv
  obtain ⟨rfl, rfl, rfl⟩ := hv
  have hl : ((xs.drop k).take (h - k)).length = h - k := by simp; omega
  refine ⟨by omega, a, cap - k, by rw [hl], by omega, ⟨by omega, fun h0 => by rw [h0] at ha; split at ha <;> simp at ha⟩, ?_⟩
  by_cases h0 : h = k
  · left
    subst h0
    simp
  · right
    rw [if_neg (by omega)] at ha
    refine ⟨b, off + k, ha, fun i hi => ?_⟩
    rw [hl] at hi
    rcases hcell with hn | ⟨b', off', he, hcc⟩
    · subst hn; simp at hh; omega
    · simp at he
      obtain ⟨rfl, rfl⟩ := he
      rw [List.getElem?_take_of_lt hi, List.getElem?_drop]
      have := hcc (k + i) (by omega)
      rw [show off + (k + i) = off + k + i by omega] at this
      exact this
theorem ints_drop (l : List Int) (k : Nat) : (ints l).drop k = ints (l.drop k) := by simp [ints]
theorem ints_take (l : List Int) (k : Nat) : (ints l).take k = ints (l.take k) := by simp [ints]
theorem ints_set (l : List Int) (k : Nat) (x : Int) : (ints l).set k (.int .i64 x) = ints (l.set k x) := by simp [ints]
/-- A part of a row of numbers, whatever its slice. -/
theorem Row.partI {w : World} {ad : Option Addr} {n cap : Nat} {l : List Int} (hs : Row w (.slice ad n cap) (ints l)) (k h : Nat) (hk : k ≤ h) (hh : h ≤ l.length) (a : Option Addr) (ha : ∀ b off, ad = some ⟨b, off, none⟩ → a = (if cap = k then some ⟨b, off, none⟩ else some ⟨b, off + k, none⟩)) (hp : 0 < l.length) :
    Row w (.slice a (h - k) (cap - k)) (ints ((l.drop k).take (h - k))) := by
  obtain ⟨b, off, e, _⟩ := row_cell hs 0 (by rw [ints_len]; exact hp)
  subst e
  have := Row.part hs k h hk (by rw [ints_len]; exact hh) a (ha b off rfl)
  rw [ints_drop, ints_take] at this
  exact this
/-- One number of a row that the call has made is stored. -/
theorem OwnI.stored {w : World} {B g n cap : Nat} {l : List Int} (h : OwnI w B (.slice (some ⟨g, 0, none⟩) n cap) l) (i : Nat) (x : Int) :
    OwnI (w.setCell ⟨g, i, none⟩ (.int .i64 x)) B (.slice (some ⟨g, 0, none⟩) n cap) (l.set i x) ∧ B ≤ g ∧ g < w.heap.size ∧ w.frozen? ⟨g, i, none⟩ = false := by
  have hn : n = l.length := by
    obtain ⟨a, c, he⟩ := h.shape
    simp at he; exact he.2.1
  subst hn
  have h' : w.ownsRow B 3 1 (.slice (some ⟨g, 0, none⟩) l.length cap) l.length (ints l) := h
  refine ⟨?_, (World.ownsRow.lt h' g rfl).1, (World.ownsRow.lt h' g rfl).2, h'.frozenAt i⟩
  unfold OwnI
  rw [List.length_set, ← ints_set]
  exact (h'.stored i (.int .i64 x)).1
theorem OwnIn.set {w : World} {B : Nat} {u : Value} {l : List Int} (hu : w.ownsRow B 3 1 u l.length (ints l)) : ∀ {vs : List Value} {L : List (List Int)} (k : Nat), OwnIn w B vs L → OwnIn w B (vs.set k u) (L.set k l)
  | [], [], _, _ => trivial
  | _ :: _, _ :: _, 0, h => ⟨hu, h.2⟩
  | _ :: _, _ :: _, k + 1, h => ⟨h.1, OwnIn.set hu k h.2⟩
  | [], _ :: _, _, h => h.elim
  | _ :: _, [], _, h => h.elim
theorem OwnLL.shape {w : World} {B : Nat} {v : Value} {L : List (List Int)} (h : OwnLL w B v L) : ∃ a cap, v = .slice a L.length cap := by
  obtain ⟨vs, h1, h2⟩ := h
  rw [← h2.in.len]
  exact own_shape h1
/-- One line is stored where lines lie that the call has made. -/
theorem OwnLL.stored {w : World} {B g n cap : Nat} {L : List (List Int)} (h : OwnLL w B (.slice (some ⟨g, 0, none⟩) n cap) L) (i : Nat) (u : Value) (l : List Int) (hu : OwnI w B u l) :
    OwnLL (w.setCell ⟨g, i, none⟩ u) B (.slice (some ⟨g, 0, none⟩) n cap) (L.set i l) ∧ B ≤ g ∧ g < w.heap.size ∧ w.frozen? ⟨g, i, none⟩ = false := by
  obtain ⟨vs, h1, h2⟩ := h
  have hn : n = vs.length := by
    obtain ⟨a, c, he⟩ := own_shape h1
    simp at he; exact he.2.1
  subst hn
  refine ⟨?_, (World.ownsRow.lt h1 g rfl).1, (World.ownsRow.lt h1 g rfl).2, h1.frozenAt i⟩
  have hg : w.grownBy (w.setCell ⟨g, i, none⟩ u) (some g) := ⟨rfl, rfl, rfl, by simp [World.setCell], fun k _ hk => heap_setCell_other w ⟨g, i, none⟩ k _ (fun e => hk (by rw [e]))⟩
  have hne : ∀ z ∈ vs.set i u, z.ownBlock = none ∨ z.ownBlock ≠ some g := by
    intro z hz
    rcases h1.2 with ⟨e, _⟩ | ⟨g', cap', cur, e, _, hgg, _⟩
    · simp at e
    · simp at e
      obtain ⟨rfl, rfl⟩ := e
      exact .inr ((OwnIn.set hu i h2).ne hgg (by decide) z hz)
  refine ⟨vs.set i u, ?_, (OwnIn.set hu i h2).kept hg hne⟩
  rw [List.length_set]
  exact (h1.stored i u).1
/-- A row of noughts, lines of which none holds anything, as make lays them. -/
theorem made_zeros (n : Nat) : (madeCells (Value.int .i64 0).cells (n * 1)).toList = ints (List.replicate n 0) := by
  rw [show (Value.int .i64 0).cells = #[Value.int .i64 0] from rfl, Nat.mul_one, toList_madeCells_one]
  simp [ints]
theorem made_nils (n : Nat) : (madeCells (Value.slice none 0 0).cells (n * 1)).toList = List.replicate n (.slice none 0 0) := by
  rw [show (Value.slice none 0 0).cells = #[Value.slice none 0 0] from rfl, Nat.mul_one, toList_madeCells_one]
theorem ownIn_nils (w : World) (B : Nat) : ∀ n, OwnIn w B (List.replicate n (.slice none 0 0)) (List.replicate n [])
  | 0 => trivial
  | n + 1 => ⟨World.ownsRow_nil _ _ _ _, ownIn_nils w B n⟩
/-- make of a row of numbers, of lines. -/
theorem make_ints {w : World} {ops : Array Oper} {rest : List Oper} {o : Oper} {a : Act} {Q : Exit → Act → World → Prop} (hgd : o.guard = none) (l c : Operand) (ho : o.op = Op.makeSlice 42 l c)
    (B n : Nat) (hl : a.eval l = .int .i64 (n : Int)) (hc : a.eval c = .int .i64 (n : Int)) (hn : n ≤ 1000000) (hB : B ≤ w.heap.size)
    (h : ∀ w', OwnI w' B (.slice (some ⟨w.heap.size, 0, none⟩) n n) (List.replicate n 0) → w.grownBy w' none → wpList Tryd.prog ops Q rest (a.put o.dst (.slice (some ⟨w.heap.size, 0, none⟩) n n)) w') : wpList Tryd.prog ops Q (o :: rest) a w := by
  obtain ⟨i0, hi, hz0, hz1, hz2⟩ := info_parts infoInt
  refine wpList_make_full w hgd l c 42 ho B 3 i0 _ 1 Tryd.underlying42 hi hz0 hz1 .i64 .i64 _ _ n hl hc rfl rfl (by rw [hz2]; omega) (by unfold maxLen; omega) hB ?_
  intro w' h1 h2
  refine h w' ?_ h2
  unfold OwnI
  rw [List.length_replicate, ← made_zeros]
  exact h1
theorem make_lines {w : World} {ops : Array Oper} {rest : List Oper} {o : Oper} {a : Act} {Q : Exit → Act → World → Prop} (hgd : o.guard = none) (l c : Operand) (ho : o.op = Op.makeSlice 25 l c)
    (B n : Nat) (hl : a.eval l = .int .i64 (n : Int)) (hc : a.eval c = .int .i64 (n : Int)) (hn : n ≤ 1000000) (hB : B ≤ w.heap.size)
    (h : ∀ w', OwnLL w' B (.slice (some ⟨w.heap.size, 0, none⟩) n n) (List.replicate n []) → w.grownBy w' none → wpList Tryd.prog ops Q rest (a.put o.dst (.slice (some ⟨w.heap.size, 0, none⟩) n n)) w') : wpList Tryd.prog ops Q (o :: rest) a w := by
  obtain ⟨i0, hi, hz0, hz1, hz2⟩ := info_parts infoInts
  refine wpList_make_full w hgd l c 25 ho B 42 i0 _ 1 Tryd.underlying25 hi hz0 hz1 .i64 .i64 _ _ n hl hc rfl rfl (by rw [hz2]; omega) (by unfold maxLen; omega) hB ?_
  intro w' h1 h2
  refine h w' ⟨List.replicate n (.slice none 0 0), ?_, ownIn_nils w' B n⟩ h2
  rw [List.length_replicate, ← made_nils]
  exact h1
/-- append of a make to nothing at all: there is room, and nothing in it that counts. -/
theorem run_append_make (w : World) (ty : TypeId) (n : Nat) (h0 : 0 < n) (hn : n ≤ 1000000) :
    (Builtin.append_ #[42, 3] ty #[.slice none 0 0, .int .i64 (n : Int)]).run Tryd.prog w =
      .ok (.slice (some ⟨w.heap.size, 0, none⟩) n (grownCap w n 0 3)) (w.drew.alloc (.cells (Builtin.zeroCells #[.int .i64 0] n ++ Builtin.zeroCells #[.int .i64 0] (grownCap w n 0 3 - n)) 3)) := by
  obtain ⟨i0, hi, hz0, hz1, hz2⟩ := info_parts infoInt
  have hw : IntKind.i64.wrap (n : Int) = (n : Int) := IntWalk.i64_in _ (by omega)
  have n0 : n ≠ 0 := by omega
  have n1 : ¬ ((n : Int) < 0) := by omega
  have n2 : ¬ (281474976710656 < (n : Int) * 8) := by omega
  have n3 : ¬ (9223372036854775807 < (n : Int)) := by omega
  have n4 : ¬ (281474976710656 < Builtin.nextslicecap n 0 * 8) := by rw [nextslicecap_zero h0]; omega
  simp [Builtin.append_, run_underlying Tryd.underlying42, run_underlying Tryd.underlying3, sizeOf, typeInfo, zeroValue, hi, hz0, hz1, hz2, asInt, asIntOf, hw, n0, n1, n2, n3, n4, Question.forced, run_firstCells_none, newRow, grownCap, Value.cells]
theorem app_make {w : World} {ops : Array Oper} {rest : List Oper} {o : Oper} {a : Act} {Q : Exit → Act → World → Prop} (hgd : o.guard = none) (s x : Operand)
    (ho : o.op = .call { callee := .builtin .append, args := #[s, x], argTypes := #[42, 3] }) (B n : Nat) (hs : a.eval s = .slice none 0 0) (hx : a.eval x = .int .i64 (n : Int)) (h0 : 0 < n) (hn : n ≤ 1000000) (hB : B ≤ w.heap.size)
    (h : ∀ cap w', n ≤ cap → OwnI w' B (.slice (some ⟨w.heap.size, 0, none⟩) 0 cap) [] → w.grownBy w' none → wpList Tryd.prog ops Q rest (a.put o.dst (.slice (some ⟨w.heap.size, 0, none⟩) n cap)) w') : wpList Tryd.prog ops Q (o :: rest) a w := by
  refine wpList_plain hgd fun K hK => ?_
  have hr := run_append_make w o.type n h0 hn
  have hge := grownCap_ge w n 0 3
  have hcm : grownCap w n 0 3 ≤ maxLen := grownCap_le_maxLen w n 0 3 (by unfold maxLen; omega)
  generalize grownCap w n 0 3 = cap at *
  unfold Oper.wp execOp
  simp only [ho, resolve, invoke, builtin, Sem.run_bind, Sem.run_pure, Result.andThen_ok, List.map_toArray, List.map_cons, List.map_nil, hs, hx, hr]
  refine hK _ _ (h cap _ hge ?_ ⟨rfl, rfl, rfl, by simp, fun k hk _ => heap_alloc_old w.drew _ hk⟩)
  refine ⟨rfl, .inr ⟨w.heap.size, cap, _, rfl, hB, heap_alloc_new w.drew _, Nat.zero_le _, hcm, ?_, by simp [ints]⟩⟩
  simp only [Array.size_append, size_zeroCells]
  simp
  omega
/-- The first part of a row. -/
theorem Row.head {w : World} {b off n cap : Nat} {l : List Int} (hs : Row w (.slice (some ⟨b, off, none⟩) n cap) (ints l)) (k : Nat) (hk : k ≤ l.length) :
    Row w (.slice (some ⟨b, off, none⟩) k cap) (ints (l.take k)) := by
  have := Row.part hs 0 k (Nat.zero_le _) (by rw [ints_len]; exact hk) (some ⟨b, off, none⟩) (by split <;> rfl)
  rw [List.drop_zero, Nat.sub_zero, ints_take] at this
  exact this
/-- The last part of a row. -/
theorem Row.tail {w : World} {b off n cap : Nat} {l : List Int} (hs : Row w (.slice (some ⟨b, off, none⟩) n cap) (ints l)) (k : Nat) (hk : k ≤ l.length) (a : Option Addr) (ha : a = (if cap = k then some ⟨b, off, none⟩ else some ⟨b, off + k, none⟩)) :
    Row w (.slice a (l.length - k) (cap - k)) (ints (l.drop k)) := by
  have := Row.part hs k l.length hk (by rw [ints_len]; exact Nat.le_refl _) a ha
  rw [ints_drop, ints_take, List.take_of_length_le (by simp)] at this
  exact this
theorem isLL_two (w : World) (u1 u2 : Value) (l1 l2 : List Int) (h1 : Row w u1 (ints l1)) (h2 : Row w u2 (ints l2)) :
    IsLL (w.alloc (.cells #[u1, u2] 42)) (.slice (some ⟨w.heap.size, 0, none⟩) 2 2) [l1, l2] := by
  have hb := (Below.refl w.heap.size w).alloc (Nat.le_refl _) (.cells #[u1, u2] 42)
  refine ⟨[u1, u2], ⟨by simp [maxLen], _, _, rfl, by simp, ⟨by simp [maxLen], by simp⟩, .inr ⟨w.heap.size, 0, rfl, fun i hi => ?_⟩⟩, h1.below hb, h2.below hb, trivial⟩
  rw [Nat.zero_add, cell_of_row _ _ _ _ _ _ (heap_alloc_new w _)]
  simp
end Go.Proofs.YtpdeffpmfbplnaaDoor
/- What slices.Min, Grow and Concat, plane.least and the document's Same of two rows answer. -/
namespace Go.Proofs.YtpdeffpmfbplnaaDoor
open Go.ChangeShapes Go.WideShapes Go.ChangeAt Go.RowKit

/-- The least of some numbers; 0 of none. -/
def leastL : List Int → Int
  | [] => 0
  | a :: r => r.foldl min a
theorem leastL_snoc (a : Int) (r : List Int) (x : Int) : leastL ((a :: r) ++ [x]) = min (leastL (a :: r)) x := by
  simp [leastL, List.foldl_append]
theorem leastL_take {l : List Int} {k : Nat} (h0 : 1 ≤ k) (hk : k < l.length) : leastL (l.take (k + 1)) = min (leastL (l.take k)) (l.getD k 0) := by
  rw [List.take_add_one, List.getElem?_eq_getElem hk, List.getD_eq_getElem?_getD, List.getElem?_eq_getElem hk]
  simp only [Option.toList_some, Option.getD_some]
  obtain ⟨a, r, e⟩ : ∃ a r, l.take k = a :: r := by
    match l, k with
    | a :: r, k + 1 => exact ⟨a, r.take k, rfl⟩
  rw [e]
  exact leastL_snoc a r _
theorem leastL_one {l : List Int} (h : 0 < l.length) : leastL (l.take 1) = l.getD 0 0 := by
  match l with
  | a :: r => rfl
theorem flat_take {L : List (List Int)} {k : Nat} (hk : k < L.length) : (L.take (k + 1)).flatten = (L.take k).flatten ++ L.getD k [] := by
  rw [List.take_add_one, List.getElem?_eq_getElem hk, List.getD_eq_getElem?_getD, List.getElem?_eq_getElem hk, List.flatten_append]
  congr 1
  simp
theorem flat_mono (L : List (List Int)) (k : Nat) : (L.take k).flatten.length ≤ L.flatten.length := by
  conv => rhs; rw [← List.take_append_drop k L]
  rw [List.flatten_append, List.length_append]
  omega
end Go.Proofs.YtpdeffpmfbplnaaDoor
/- What plane's row and Matrix answer. -/
namespace Go.Proofs.YtpdeffpmfbplnaaDoor
open Go.ChangeShapes Go.WideShapes Go.ChangeAt Go.RowKit

/-- A list of which the first ones are as they should be. -/
def Fill {α : Type} (d : α) (k n : Nat) (f : Nat → α) (ys : List α) : Prop := ys.length = n ∧ ∀ i, i < k → ys.getD i d = f i
theorem Fill.none {α : Type} (d x : α) (n : Nat) (f : Nat → α) : Fill d 0 n f (List.replicate n x) := ⟨by simp, fun i hi => by omega⟩
theorem Fill.next {α : Type} {d : α} {k n : Nat} {f : Nat → α} {ys : List α} (h : Fill d k n f ys) (hk : k < n) {x : α} (hx : x = f k) : Fill d (k + 1) n f (ys.set k x) := by
  refine ⟨by rw [List.length_set]; exact h.1, fun i hi => ?_⟩
  by_cases c : i = k
  · subst c
    rw [List.getD_eq_getElem?_getD, List.getElem?_set_self (by rw [h.1]; exact hk), hx]
    rfl
  · rw [List.getD_eq_getElem?_getD, List.getElem?_set_ne (fun e => c e.symm), ← List.getD_eq_getElem?_getD]
    exact h.2 i (by omega)
theorem Fill.all {α : Type} {d : α} {n : Nat} {f : Nat → α} {ys : List α} (h : Fill d n n f ys) : ys = (List.range n).map f := by
  apply List.ext_getElem
  · simp [h.1]
  · intro i h1 h2
    have := h.2 i (by rw [← h.1]; exact h1)
    rw [List.getD_eq_getElem?_getD, List.getElem?_eq_getElem h1] at this
    simpa using this
/-- How far it is from a stop to each; from each to each. -/
def rowF (l : List Stp) (t : Stp) : List Int := (List.range l.length).map (fun i => farF t (nth l i))
def matF (l : List Stp) : List (List Int) := (List.range l.length).map (fun i => rowF l (nth l i))
def matI (I : Ins) : List (List Int) := if mayB I = true then matF I.l else []
theorem rowF_len (l : List Stp) (t : Stp) : (rowF l t).length = l.length := by simp [rowF]
theorem matF_len (l : List Stp) : (matF l).length = l.length := by simp [matF]
theorem rowF_at (l : List Stp) (t : Stp) (i : Nat) (hi : i < l.length) : (rowF l t).getD i 0 = farF t (nth l i) := by
  unfold rowF
  rw [List.getD_eq_getElem?_getD, List.getElem?_map, List.getElem?_range hi]; rfl
theorem matF_at (l : List Stp) (i : Nat) (hi : i < l.length) : (matF l).getD i [] = rowF l (nth l i) := by
  unfold matF
  rw [List.getD_eq_getElem?_getD, List.getElem?_map, List.getElem?_range hi]; rfl
theorem pmay_len {I : Ins} (h : mayB I = true) : 0 < I.l.length ∧ I.l.length ≤ 33 := by
  have h1 := (may_iff I).1 h
  have h2 := (inb_iff _ _ _).1 h1.1
  have h3 := h1.2.2.2.1
  unfold lenOk at h3
  have := decide_eq_true_iff.1 h3
  omega
theorem OwnI.cell {w : World} {B g n cap : Nat} {l : List Int} (h : OwnI w B (.slice (some ⟨g, 0, none⟩) n cap) l) (i : Nat) (hi : i < l.length) : w.cell? ⟨g, i, none⟩ = some (.int .i64 (l.getD i 0)) := by
  have hn : n = l.length := by
    obtain ⟨a, c, he⟩ := h.shape
    simp at he; exact he.2.1
  subst hn
  rw [(show w.ownsRow B 3 1 (.slice (some ⟨g, 0, none⟩) l.length cap) l.length (ints l) from h).cellAt i (by omega)]
  exact ints_at l i hi
theorem OwnLL.cell {w : World} {B g n cap : Nat} {L : List (List Int)} (h : OwnLL w B (.slice (some ⟨g, 0, none⟩) n cap) L) (i : Nat) (hi : i < L.length) : ∃ x, w.cell? ⟨g, i, none⟩ = some x := by
  obtain ⟨vs, h1, h2⟩ := h
  have hl := h2.in.len
  have hn : n = vs.length := by
    obtain ⟨a, c, he⟩ := own_shape h1
    simp at he; exact he.2.1
  subst hn
  rw [h1.cellAt i (by omega)]
  exact ⟨_, List.getElem?_eq_getElem (by omega)⟩
end Go.Proofs.YtpdeffpmfbplnaaDoor
