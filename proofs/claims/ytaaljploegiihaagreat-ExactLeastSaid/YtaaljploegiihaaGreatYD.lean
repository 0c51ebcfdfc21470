/- The plain mathematics of a stable order: rows in the order of their first numbers, those that are equal as they were. -/
import Derived.Test.YtaaljploegiihaaGreatYA
import Derived.BigRegion
import Derived.StillTailTactics
import Derived.WalkMore
import Derived.Deep.CutRange
import Derived.Deep.CutBlock
import Derived.Lib.SliceRun
import Derived.Test.YtaaljploegiihaaGreatYB
namespace Go.Proofs.YtaaljploegiihaaGreat

/-- A row's first number. -/
def key (l : List Int) : Int := l.getD 0 0
/-- What has a first number. -/
def atKey (k : Int) (X : List (List Int)) : List (List Int) := X.filter (fun l => key l = k)
def SortedK (X : List (List Int)) : Prop := X.Pairwise (fun a b => key a ≤ key b)
/-- Y is X in order, what is equal as it was. -/
def Stab (X Y : List (List Int)) : Prop := SortedK Y ∧ ∀ k, atKey k Y = atKey k X
theorem atKey_append (k : Int) (X Y : List (List Int)) : atKey k (X ++ Y) = atKey k X ++ atKey k Y := by simp [atKey]
theorem atKey_cons (k : Int) (x : List Int) (Y : List (List Int)) : atKey k (x :: Y) = (if key x = k then [x] else []) ++ atKey k Y := by
  by_cases h : key x = k <;> simp [atKey, h]
theorem mem_atKey {x : List Int} {X : List (List Int)} : x ∈ X ↔ x ∈ atKey (key x) X := by simp [atKey]
theorem same_mem {X Y : List (List Int)} (h : ∀ k, atKey k Y = atKey k X) (x : List Int) : x ∈ Y ↔ x ∈ X := by
  rw [mem_atKey, h, ← mem_atKey]
theorem Stab.mem {X Y : List (List Int)} (h : Stab X Y) (x : List Int) : x ∈ Y ↔ x ∈ X := same_mem h.2 x
theorem Stab.perm {X Y : List (List Int)} (h : Stab X Y) : Y.Perm X := by
  rw [List.perm_iff_count]
  intro x
  have key' : ∀ Z : List (List Int), Z.count x = (atKey (key x) Z).count x := fun Z => by
    induction Z with
    | nil => rfl
    | cons z Z ih =>
      rw [atKey_cons, List.count_append, List.count_cons, ih]
      by_cases hz : z = x
      · subst hz; simp; omega
      · by_cases hk : key z = key x
        · rw [if_pos hk]; simp [hz]
        · rw [if_neg hk]; simp [hz]
  rw [key' Y, h.2, ← key' X]
theorem Stab.len {X Y : List (List Int)} (h : Stab X Y) : Y.length = X.length := h.perm.length_eq
theorem stab_self {X : List (List Int)} (h : SortedK X) : Stab X X := ⟨h, fun _ => rfl⟩
theorem stab_nil : Stab [] [] := stab_self List.Pairwise.nil
theorem atKey_none {k : Int} {X : List (List Int)} (h : ∀ x ∈ X, key x ≠ k) : atKey k X = [] := by
  simp only [atKey, List.filter_eq_nil_iff]
  exact fun x hx => by simpa using h x hx
/-- Two runs that are merged: what of the first run's end stands behind the second run's beginning is above it. -/
theorem stab_merge {A1 A2 B1 B2 Y1 Y2 : List (List Int)} (h1 : Stab (A1 ++ B1) Y1) (h2 : Stab (A2 ++ B2) Y2)
    (hA : ∀ x ∈ A1, ∀ y ∈ A2, key x ≤ key y) (hB : ∀ x ∈ B1, ∀ y ∈ B2, key x ≤ key y) (hAB : ∀ x ∈ A1, ∀ y ∈ B2, key x ≤ key y) (hBA : ∀ x ∈ B1, ∀ y ∈ A2, key x < key y) :
    Stab ((A1 ++ A2) ++ (B1 ++ B2)) (Y1 ++ Y2) := by
  constructor
  · refine List.pairwise_append.2 ⟨h1.1, h2.1, fun x hx y hy => ?_⟩
    have hx := (h1.mem x).1 hx
    have hy := (h2.mem y).1 hy
    simp only [List.mem_append] at hx hy
    rcases hx with hx | hx <;> rcases hy with hy | hy
    · exact hA x hx y hy
    · exact hAB x hx y hy
    · exact Int.le_of_lt (hBA x hx y hy)
    · exact hB x hx y hy
  · intro k
    have e : atKey k B1 ++ atKey k A2 = atKey k A2 ++ atKey k B1 := by
      by_cases hb : ∃ x ∈ B1, key x = k
      · obtain ⟨x, hx, hk⟩ := hb
        rw [atKey_none (X := A2) (fun y hy e => by have := hBA x hx y hy; omega)]; simp
      · rw [atKey_none (X := B1) (fun y hy e => hb ⟨y, hy, e⟩)]; simp
    rw [atKey_append, h1.2, h2.2]
    simp only [atKey_append, List.append_assoc]
    rw [← List.append_assoc (atKey k B1), e, List.append_assoc]
/-- One more behind: it goes behind all that is not above it. -/
theorem stab_snoc {X Y1 Y2 : List (List Int)} {x : List Int} (h : Stab X (Y1 ++ Y2)) (h1 : ∀ y ∈ Y1, key y ≤ key x) (h2 : ∀ y ∈ Y2, key x < key y) : Stab (X ++ [x]) (Y1 ++ x :: Y2) := by
  have hs := List.pairwise_append.1 h.1
  have m := stab_merge (A1 := Y1) (A2 := Y2) (B1 := [x]) (B2 := []) (Y1 := Y1 ++ [x]) (Y2 := Y2) (stab_self (List.pairwise_append.2 ⟨hs.1, by simp, fun a ha b hb => by simp at hb; subst hb; exact h1 a ha⟩))
    (by rw [List.append_nil]; exact stab_self hs.2.1) hs.2.2 (by simp) (by simp) (by simpa using h2)
  refine ⟨by have := m.1; simpa using this, fun k => ?_⟩
  have := m.2 k
  simp only [List.append_assoc, List.cons_append, List.nil_append, List.append_nil] at this
  rw [this, atKey_append k X, ← h.2 k, ← atKey_append]; simp
def insL (r : List Int) : List (List Int) → List (List Int)
  | [] => [r]
  | x :: l => if key r < key x then r :: x :: l else x :: insL r l
def sortL (X : List (List Int)) : List (List Int) := X.foldl (fun s r => insL r s) []
theorem insL_split (r : List Int) : ∀ {l : List (List Int)}, SortedK l → ∃ a b, l = a ++ b ∧ insL r l = a ++ r :: b ∧ (∀ y ∈ a, key y ≤ key r) ∧ ∀ y ∈ b, key r < key y
  | [], _ => ⟨[], [], rfl, rfl, by simp, by simp⟩
  | x :: l, h => by
    have h' := List.pairwise_cons.1 h
    by_cases hx : key r < key x
    · refine ⟨[], x :: l, rfl, by simp [insL, hx], by simp, fun y hy => ?_⟩
      simp only [List.mem_cons] at hy
      rcases hy with rfl | hy
      · exact hx
      · exact Int.lt_of_lt_of_le hx (h'.1 y hy)
    · obtain ⟨a, b, e, e2, h1, h2⟩ := insL_split r h'.2
      refine ⟨x :: a, b, by simp [e], by rw [insL, if_neg hx, e2]; rfl, fun y hy => ?_, h2⟩
      simp only [List.mem_cons] at hy
      rcases hy with rfl | hy
      · omega
      · exact h1 y hy
theorem stab_ins {X Y : List (List Int)} (r : List Int) (h : Stab X Y) : Stab (X ++ [r]) (insL r Y) := by
  obtain ⟨a, b, e, e2, h1, h2⟩ := insL_split r h.1
  rw [e2]; subst e
  exact stab_snoc h h1 h2
theorem stab_fold : ∀ (Z : List (List Int)) {X Y : List (List Int)}, Stab X Y → Stab (X ++ Z) (Z.foldl (fun s r => insL r s) Y)
  | [], X, Y, h => by simpa using h
  | z :: Z, X, Y, h => by
    have := stab_fold Z (stab_ins z h)
    simpa using this
theorem stab_sortL (X : List (List Int)) : Stab X (sortL X) := by have := stab_fold X stab_nil; rwa [List.nil_append] at this
end Go.Proofs.YtaaljploegiihaaGreat
/- What comes first; rows that are exchanged, and turned. -/
namespace Go.Proofs.YtaaljploegiihaaGreat
open Go.ChangeShapes Go.WideShapes Go.ChangeAt Go.RowKit

end Go.Proofs.YtaaljploegiihaaGreat
/- Rows that are exchanged, and turned. -/
namespace Go.Proofs.YtaaljploegiihaaGreat
open Go.ChangeShapes Go.WideShapes Go.ChangeAt Go.RowKit

theorem OwnIn.at {w : World} {B : Nat} : ∀ {vs : List Value} {L : List (List Int)}, OwnIn w B vs L → ∀ i, i < L.length → ∃ v, vs[i]? = some v ∧ w.ownsRow B 3 1 v (L.getD i []).length (ints (L.getD i []))
  | [], [], _, i, h => by simp at h
  | v :: _, l :: _, h, 0, _ => ⟨v, rfl, h.1⟩
  | _ :: vs, _ :: L, h, i + 1, hi => by
    obtain ⟨v, h1, h2⟩ := OwnIn.at h.2 i (by simpa using hi)
    exact ⟨v, by simpa using h1, by simpa using h2⟩
  | [], _ :: _, h, _, _ => h.elim
  | _ :: _, [], h, _, _ => h.elim
section
variable {w : World} {B g n cap : Nat} {L : List (List Int)}
theorem OwnLL.num (h : OwnLL w B (.slice (some ⟨g, 0, none⟩) n cap) L) : n = L.length := by
  obtain ⟨vs, h1, h2⟩ := h
  obtain ⟨a, c, he⟩ := own_shape h1
  simp at he
  rw [he.2.1, h2.in.len]
theorem OwnLL.free (h : OwnLL w B (.slice (some ⟨g, 0, none⟩) n cap) L) (i : Nat) : w.frozen? ⟨g, i, none⟩ = false := by
  have hn := h.num
  obtain ⟨vs, h1, h2⟩ := h
  have : n = vs.length := by rw [hn, h2.in.len]
  subst this
  exact h1.frozenAt i
/-- The row that lies at a place. -/
theorem OwnLL.has (h : OwnLL w B (.slice (some ⟨g, 0, none⟩) n cap) L) (i : Nat) (hi : i < L.length) : ∃ u, w.cell? ⟨g, i, none⟩ = some u ∧ Row w u (ints (L.getD i [])) := by
  have hn := h.num
  obtain ⟨vs, h1, h2⟩ := h
  have : n = vs.length := by rw [hn, h2.in.len]
  subst this
  obtain ⟨u, hu, ho⟩ := h2.at i hi
  exact ⟨u, (h1.cellAt i (by rw [hn]; omega)).trans hu, own_row ho⟩
end
theorem OwnLL.drew {w : World} {B : Nat} {v : Value} {L : List (List Int)} (h : OwnLL w B v L) (n : Nat) : OwnLL (w.drewN n) B v L := h.below (below_drewN (Below.refl _ w) n)
end Go.Proofs.YtaaljploegiihaaGreat
/- Two runs change places. -/
namespace Go.Proofs.YtaaljploegiihaaGreat
open Go.ChangeShapes Go.WideShapes Go.ChangeAt Go.RowKit

end Go.Proofs.YtaaljploegiihaaGreat
/- The insertion of rows, one by one. -/
namespace Go.Proofs.YtaaljploegiihaaGreat
open Go.ChangeShapes Go.WideShapes Go.ChangeAt Go.RowKit

/-- No row is empty. -/
def Full (L : List (List Int)) : Prop := ∀ l ∈ L, l ≠ []
theorem Full.at {L : List (List Int)} (h : Full L) {i : Nat} (hi : i < L.length) : L.getD i [] ≠ [] := by
  rw [List.getD_eq_getElem?_getD, List.getElem?_eq_getElem hi]
  exact h _ (List.getElem_mem hi)
end Go.Proofs.YtaaljploegiihaaGreat
/- Two runs are merged, one of which is one row. -/
namespace Go.Proofs.YtaaljploegiihaaGreat
open Go.ChangeShapes Go.WideShapes Go.ChangeAt Go.RowKit

theorem split_at (D : List (List Int)) (t : Nat) (ht : t < D.length) : D = D.take t ++ D.getD t [] :: D.drop (t + 1) := by
  rw [List.getD_eq_getElem?_getD, List.getElem?_eq_getElem ht]
  simp
theorem SortedK.take {D : List (List Int)} (h : SortedK D) (t : Nat) : SortedK (D.take t) := List.Pairwise.sublist (List.take_sublist t D) h
theorem SortedK.drop {D : List (List Int)} (h : SortedK D) (t : Nat) : SortedK (D.drop t) := List.Pairwise.sublist (List.drop_sublist t D) h
end Go.Proofs.YtaaljploegiihaaGreat
/- Two runs are merged, the second of which is one row. -/
namespace Go.Proofs.YtaaljploegiihaaGreat
open Go.ChangeShapes Go.WideShapes Go.ChangeAt Go.RowKit

end Go.Proofs.YtaaljploegiihaaGreat
/- Two runs are merged. -/
namespace Go.Proofs.YtaaljploegiihaaGreat
open Go.ChangeShapes Go.WideShapes Go.ChangeAt Go.RowKit

end Go.Proofs.YtaaljploegiihaaGreat
/- Rows are put in order, those that are equal as they were. -/
namespace Go.Proofs.YtaaljploegiihaaGreat
open Go.ChangeShapes Go.WideShapes Go.ChangeAt Go.RowKit

/-- The same rows for each first number, in the same order. -/
def SameK (X Y : List (List Int)) : Prop := ∀ k, atKey k Y = atKey k X
theorem SameK.full {X Y : List (List Int)} (h : SameK X Y) (hf : Full X) : Full Y := fun l hl => hf l ((same_mem h l).1 hl)
end Go.Proofs.YtaaljploegiihaaGreat
/- The routes that have stops, in order. -/
namespace Go.Proofs.YtaaljploegiihaaGreat
open Go.ChangeShapes Go.WideShapes Go.ChangeAt Go.RowKit

/-- A plan by value. -/
def planV (v : Value) : Value := .agg #[v]
def boxP (v : Value) : Obj := .cells #[v] 39
/-- The routes that have stops. -/
def usedL (L : List (List Int)) : List (List Int) := L.filter (fun l => !l.isEmpty)
def ordL (L : List (List Int)) : List (List Int) := sortL (usedL L)
theorem usedL_full (L : List (List Int)) : Full (usedL L) := by
  intro l hl
  have := (List.mem_filter.1 hl).2
  cases l with
  | nil => simp at this
  | cons x l => simp
theorem take_getD {L : List (List Int)} {k : Nat} (hk : k < L.length) : L.take (k + 1) = L.take k ++ [L.getD k []] := by
  rw [List.take_add_one, List.getD_eq_getElem?_getD, List.getElem?_eq_getElem hk]; rfl
end Go.Proofs.YtaaljploegiihaaGreat
/- What Sorted and Print answer. -/
namespace Go.Proofs.YtaaljploegiihaaGreat
open Go.ChangeShapes Go.WideShapes Go.ChangeAt Go.RowKit

/-- At most forty routes, of at most a hundred stops each. -/
def FewP (L : List (List Int)) : Prop := L.length ≤ 40 ∧ ∀ l ∈ L, l.length ≤ 100
instance (L : List (List Int)) : Decidable (FewP L) := by unfold FewP; infer_instance
theorem FewP.rows {L : List (List Int)} (h : FewP L) : ∀ l ∈ L, l.length ≤ 1000000 := fun l hl => by have := h.2 l hl; omega
end Go.Proofs.YtaaljploegiihaaGreat
/- How plans come in. -/
namespace Go.Proofs.YtaaljploegiihaaGreat
open Go.ChangeShapes Go.WideShapes Go.ChangeAt Go.RowKit

theorem cells_plan : Tryz.prog.cellsOf 39 = 1 := by kernel_rfl
theorem cells_lines : Tryz.prog.cellsOf 37 = 1 := by kernel_rfl
section
variable {H : Type} {enc : TypeId × Value → H} {w : World} {base : Nat} {spare : Nat → Bool} {held : Bool}
set_option maxRecDepth 100000 in
/-- A plan by value. -/
theorem open_plan {r : Reach} {b0 : Nat} {v : Value} {d : DataW H} {p : List MemPlace} (hv : Value.okWide Tryz.prog w r b0 39 v) (h : DataW.Trod enc Tryz.prog w base spare held 39 v d p) : ∃ (u : Value) (L : List (List Int)), v = planV u ∧ IsLL w u L ∧ Fits L := by
  obtain ⟨cs, rfl, _⟩ := okWide_struct Tryz.underlying39 hv
  obtain ⟨fuel, hf⟩ := h
  obtain ⟨l⟩ := cs
  obtain ⟨xs, n, _, _, hlen, hxl, hf⟩ := DataW.trod_struct Tryz.underlying39 hf
  rw [cells_plan] at hlen
  have hxl' : xs.length = 1 := hxl
  have hl : l.length = 1 := by simpa [Value.cells] using hlen
  have f0 : DataW.trod enc Tryz.prog w base spare held n 37 ((l.drop 0).take (Tryz.prog.cellsOf 37)) = xs[0]? := by simpa [Value.cells] using hf 0 _ rfl
  rw [cells_lines, List.getElem?_eq_getElem (by omega)] at f0
  match l, hl with
  | [c0], _ =>
    simp only [List.drop_zero, List.take_succ_cons, List.take_zero] at f0
    rcases Go.Deep.open_slice Tryz.underlying37 f0 with ⟨h0, _⟩ | ⟨ad, ln, cp, m, n', D, Pl, hcs, hb, hl, hm, hmm, hx, hi⟩
    · simp at h0
      subst h0
      obtain ⟨L, h1, h2⟩ := open_lines (w := w) (⟨n, f0⟩ : DataW.Trod enc Tryz.prog w base spare held 37 (.slice none 0 0) _ _)
      exact ⟨_, L, rfl, h1, h2⟩
    · simp at hcs
      subst hcs
      obtain ⟨L, h1, h2⟩ := open_lines (w := w) (⟨n, f0⟩ : DataW.Trod enc Tryz.prog w base spare held 37 (.slice (some ad) ln cp) _ _)
      exact ⟨_, L, rfl, h1, h2⟩
end
end Go.Proofs.YtaaljploegiihaaGreat
/- A plan in its own block; orders of plans. -/
namespace Go.Proofs.YtaaljploegiihaaGreat
open Go.ChangeShapes Go.WideShapes Go.ChangeAt Go.RowKit

def PBox (w : World) (N : Nat) (v : Value) : Prop := w.heap[N]? = some (.cells #[v] 39 (0, 0))
section
variable {w w' : World} {N : Nat} {v : Value}
theorem pbox_new (w : World) (v : Value) : PBox (w.alloc (.cells #[v] 39)) w.heap.size v := heap_alloc_new w _
theorem PBox.lt (h : PBox w N v) : N < w.heap.size := (Array.getElem?_eq_some_iff.1 h).1
theorem PBox.cell (h : PBox w N v) : w.cell? ⟨N, 0, none⟩ = some v := by rw [cell_of_row w N 0 _ _ _ h]; rfl
theorem PBox.free (h : PBox w N v) (i : Nat) : w.frozen? ⟨N, i, none⟩ = false := frozen_of_row w N i _ _ h
theorem PBox.below {M : Nat} (h : PBox w N v) (hN : N < M) (hb : Below M w w') : PBox w' N v := by unfold PBox; rw [hb.block N hN]; exact h
theorem PBox.later (h : PBox w N v) (hb : Below w.heap.size w w') : PBox w' N v := h.below h.lt hb
theorem PBox.stored (h : PBox w N v) (u : Value) : PBox (w.setCell ⟨N, 0, none⟩ u) N u := by unfold PBox; rw [heap_setCell_same w N 0 _ _ _ h]; rfl
theorem PBox.other (h : PBox w N v) (a : Addr) (x : Value) (ha : a.block ≠ N) : PBox (w.setCell a x) N v := by unfold PBox; rw [heap_setCell_other w a N x (fun e => ha e.symm)]; exact h
end
theorem used_self {L : List (List Int)} (h : Full L) : usedL L = L := by
  unfold usedL
  rw [List.filter_eq_self]
  intro l hl
  have := h l hl
  cases l with
  | nil => exact absurd rfl this
  | cons x l => rfl
theorem ord_perm {L : List (List Int)} (h : Full L) : (ordL L).Perm L := by
  have := (stab_sortL (usedL L)).perm
  rw [used_self h] at this
  rw [show ordL L = sortL (usedL L) from rfl, used_self h]
  exact this
end Go.Proofs.YtaaljploegiihaaGreat
