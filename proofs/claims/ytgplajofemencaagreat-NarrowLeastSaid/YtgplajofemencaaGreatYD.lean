/- The plain mathematics of a stable order: rows in the order of their first numbers, those that are equal as they were. -/
import Derived.Test.YtgplajofemencaaGreatYA
import Derived.BigRegion
import Derived.StillTailTactics
import Derived.WalkMore
import Derived.Deep.CutRange
import Derived.Deep.CutBlock
import Derived.Lib.SliceRun
import Derived.Test.YtgplajofemencaaGreatYB
namespace Go.Proofs.YtgplajofemencaaGreat

/-- A row's first number. -/
def key (l : List Int) : Int := l.getD 0 0
/-- What has a first number. -/
def atKey (k : Int) (X : List (List Int)) : List (List Int) := X.filter (fun l => key l = k)
def SortedK (X : List (List Int)) : Prop := X.Pairwise (fun a b => key a ≤ key b)
/-- Y is X in order, what is equal as it was. -/
def Stab (X Y : List (List Int)) : Prop := SortedK Y ∧ ∀ k, atKey k Y = atKey k X
theorem atKey_cons (k : Int) (x : List Int) (Y : List (List Int)) : atKey k (x :: Y) = (if key x = k then [x] else []) ++ atKey k Y := by
  by_cases h : key x = k <;> simp [atKey, h]
theorem mem_atKey {x : List Int} {X : List (List Int)} : x ∈ X ↔ x ∈ atKey (key x) X := by simp [atKey]
theorem same_mem {X Y : List (List Int)} (h : ∀ k, atKey k Y = atKey k X) (x : List Int) : x ∈ Y ↔ x ∈ X := by
  rw [mem_atKey, h, ← mem_atKey]
theorem Stab.perm {X Y : List (List Int)} (h : Stab X Y) : Y.Perm X := by
  rw [List.perm_iff_count]
  intro x
  have key' : ∀ Z : List (List Int), Z.count x = (atKey (key x) Z).count x := fun Z => by
    induction Z with
    | nil => rfl
    | cons z Z ih =>
      rw [atKey_cons, List.count_append, List.count_cons, ih]
      by_cases hz : z = x
      · subst hz; simp; omega
      · by_cases hk : key z = key x
        · rw [if_pos hk]; simp [hz]
        · rw [if_neg hk]; simp [hz]
  rw [key' Y, h.2, ← key' X]
theorem Stab.len {X Y : List (List Int)} (h : Stab X Y) : Y.length = X.length := h.perm.length_eq
end Go.Proofs.YtgplajofemencaaGreat
/- What comes first; rows that are exchanged, and turned. -/
namespace Go.Proofs.YtgplajofemencaaGreat
open Go.ChangeShapes Go.WideShapes Go.ChangeAt Go.RowKit

/-- As cmp has it. -/
def cmpI (x y : Int) : Int := if x < y then -1 else if y < x then 1 else 0
set_option maxRecDepth 1000000 in
theorem isNaN_any (x : Int) (w : World) : Calls Tryz.prog 100 #[.int .i64 x] w fun e w' => e = .returned (.bool false) ∧ w' = w := by
  go_enter Tryz.func100, Tryz.ntmps100
  go_wp2
  go_ret
  exact ⟨by simp, rfl⟩
set_option maxRecDepth 1000000 in
theorem compare_any (x y : Int) (w : World) : Calls Tryz.prog 71 #[.int .i64 x, .int .i64 y] w fun e w' => e = .returned (.int .i64 (cmpI x y)) ∧ w' = w := by
  unfold cmpI
  by_cases h : x < y
  · rw [if_pos h]
    go_enter Tryz.func71, Tryz.ntmps71
    go_wp2_with (first | (go_at_call 100; refine (isNaN_any _ _).mono ?_; rintro e w' ⟨rfl, rfl⟩))
    go_ret
    exact ⟨rfl, rfl⟩
  · rw [if_neg h]
    by_cases k : y < x
    · rw [if_pos k]
      go_enter Tryz.func71, Tryz.ntmps71
      go_wp2_with (first | (go_at_call 100; refine (isNaN_any _ _).mono ?_; rintro e w' ⟨rfl, rfl⟩))
      go_ret
      exact ⟨rfl, rfl⟩
    · rw [if_neg k]
      go_enter Tryz.func71, Tryz.ntmps71
      go_wp2_with (first | (go_at_call 100; refine (isNaN_any _ _).mono ?_; rintro e w' ⟨rfl, rfl⟩))
      go_ret
      exact ⟨rfl, rfl⟩
end Go.Proofs.YtgplajofemencaaGreat
/- Rows that are exchanged, and turned. -/
namespace Go.Proofs.YtgplajofemencaaGreat
open Go.ChangeShapes Go.WideShapes Go.ChangeAt Go.RowKit

theorem OwnIn.at {w : World} {B : Nat} : ∀ {vs : List Value} {L : List (List Int)}, OwnIn w B vs L → ∀ i, i < L.length → ∃ v, vs[i]? = some v ∧ w.ownsRow B 3 1 v (L.getD i []).length (ints (L.getD i []))
  | [], [], _, i, h => by simp at h
  | v :: _, l :: _, h, 0, _ => ⟨v, rfl, h.1⟩
  | _ :: vs, _ :: L, h, i + 1, hi => by
    obtain ⟨v, h1, h2⟩ := OwnIn.at h.2 i (by simpa using hi)
    exact ⟨v, by simpa using h1, by simpa using h2⟩
  | [], _ :: _, h, _, _ => h.elim
  | _ :: _, [], h, _, _ => h.elim
section
variable {w : World} {B g n cap : Nat} {L : List (List Int)}
theorem OwnLL.num (h : OwnLL w B (.slice (some ⟨g, 0, none⟩) n cap) L) : n = L.length := by
  obtain ⟨vs, h1, h2⟩ := h
  obtain ⟨a, c, he⟩ := own_shape h1
  simp at he
  rw [he.2.1, h2.in.len]
theorem OwnLL.free (h : OwnLL w B (.slice (some ⟨g, 0, none⟩) n cap) L) (i : Nat) : w.frozen? ⟨g, i, none⟩ = false := by
  have hn := h.num
  obtain ⟨vs, h1, h2⟩ := h
  have : n = vs.length := by rw [hn, h2.in.len]
  subst this
  exact h1.frozenAt i
/-- The row that lies at a place. -/
theorem OwnLL.has (h : OwnLL w B (.slice (some ⟨g, 0, none⟩) n cap) L) (i : Nat) (hi : i < L.length) : ∃ u, w.cell? ⟨g, i, none⟩ = some u ∧ Row w u (ints (L.getD i [])) := by
  have hn := h.num
  obtain ⟨vs, h1, h2⟩ := h
  have : n = vs.length := by rw [hn, h2.in.len]
  subst this
  obtain ⟨u, hu, ho⟩ := h2.at i hi
  exact ⟨u, (h1.cellAt i (by rw [hn]; omega)).trans hu, own_row ho⟩
end
theorem OwnLL.drew {w : World} {B : Nat} {v : Value} {L : List (List Int)} (h : OwnLL w B v L) (n : Nat) : OwnLL (w.drewN n) B v L := h.below (below_drewN (Below.refl _ w) n)
end Go.Proofs.YtgplajofemencaaGreat
/- Two runs change places. -/
namespace Go.Proofs.YtgplajofemencaaGreat
open Go.ChangeShapes Go.WideShapes Go.ChangeAt Go.RowKit

end Go.Proofs.YtgplajofemencaaGreat
/- The insertion of rows, one by one. -/
namespace Go.Proofs.YtgplajofemencaaGreat
open Go.ChangeShapes Go.WideShapes Go.ChangeAt Go.RowKit

/-- No row is empty. -/
def Full (L : List (List Int)) : Prop := ∀ l ∈ L, l ≠ []
theorem Full.at {L : List (List Int)} (h : Full L) {i : Nat} (hi : i < L.length) : L.getD i [] ≠ [] := by
  rw [List.getD_eq_getElem?_getD, List.getElem?_eq_getElem hi]
  exact h _ (List.getElem_mem hi)
end Go.Proofs.YtgplajofemencaaGreat
/- Two runs are merged, one of which is one row. -/
namespace Go.Proofs.YtgplajofemencaaGreat
open Go.ChangeShapes Go.WideShapes Go.ChangeAt Go.RowKit

theorem split_at (D : List (List Int)) (t : Nat) (ht : t < D.length) : D = D.take t ++ D.getD t [] :: D.drop (t + 1) := by
  rw [List.getD_eq_getElem?_getD, List.getElem?_eq_getElem ht]
  simp
theorem SortedK.take {D : List (List Int)} (h : SortedK D) (t : Nat) : SortedK (D.take t) := List.Pairwise.sublist (List.take_sublist t D) h
theorem SortedK.drop {D : List (List Int)} (h : SortedK D) (t : Nat) : SortedK (D.drop t) := List.Pairwise.sublist (List.drop_sublist t D) h
end Go.Proofs.YtgplajofemencaaGreat
/- Two runs are merged, the second of which is one row. -/
namespace Go.Proofs.YtgplajofemencaaGreat
open Go.ChangeShapes Go.WideShapes Go.ChangeAt Go.RowKit

end Go.Proofs.YtgplajofemencaaGreat
/- Two runs are merged. -/
namespace Go.Proofs.YtgplajofemencaaGreat
open Go.ChangeShapes Go.WideShapes Go.ChangeAt Go.RowKit

end Go.Proofs.YtgplajofemencaaGreat
/- Rows are put in order, those that are equal as they were. -/
namespace Go.Proofs.YtgplajofemencaaGreat
open Go.ChangeShapes Go.WideShapes Go.ChangeAt Go.RowKit

/-- The same rows for each first number, in the same order. -/
def SameK (X Y : List (List Int)) : Prop := ∀ k, atKey k Y = atKey k X
theorem SameK.full {X Y : List (List Int)} (h : SameK X Y) (hf : Full X) : Full Y := fun l hl => hf l ((same_mem h l).1 hl)
end Go.Proofs.YtgplajofemencaaGreat
/- The routes that have stops, in order. -/
namespace Go.Proofs.YtgplajofemencaaGreat
open Go.ChangeShapes Go.WideShapes Go.ChangeAt Go.RowKit

/-- A plan by value. -/
def planV (v : Value) : Value := .agg #[v]
def boxP (v : Value) : Obj := .cells #[v] 41
theorem take_getD {L : List (List Int)} {k : Nat} (hk : k < L.length) : L.take (k + 1) = L.take k ++ [L.getD k []] := by
  rw [List.take_add_one, List.getD_eq_getElem?_getD, List.getElem?_eq_getElem hk]; rfl
end Go.Proofs.YtgplajofemencaaGreat
/- What Sorted and Print answer. -/
namespace Go.Proofs.YtgplajofemencaaGreat
open Go.ChangeShapes Go.WideShapes Go.ChangeAt Go.RowKit

/-- At most forty routes, of at most a hundred stops each. -/
def FewP (L : List (List Int)) : Prop := L.length ≤ 40 ∧ ∀ l ∈ L, l.length ≤ 100
instance (L : List (List Int)) : Decidable (FewP L) := by unfold FewP; infer_instance
theorem FewP.rows {L : List (List Int)} (h : FewP L) : ∀ l ∈ L, l.length ≤ 1000000 := fun l hl => by have := h.2 l hl; omega
end Go.Proofs.YtgplajofemencaaGreat
/- How plans come in. -/
namespace Go.Proofs.YtgplajofemencaaGreat
open Go.ChangeShapes Go.WideShapes Go.ChangeAt Go.RowKit

section
variable {H : Type} {enc : TypeId × Value → H} {w : World} {base : Nat} {spare : Nat → Bool} {held : Bool}
end
end Go.Proofs.YtgplajofemencaaGreat
/- A plan in its own block; orders of plans. -/
namespace Go.Proofs.YtgplajofemencaaGreat
open Go.ChangeShapes Go.WideShapes Go.ChangeAt Go.RowKit

def PBox (w : World) (N : Nat) (v : Value) : Prop := w.heap[N]? = some (.cells #[v] 41 (0, 0))
section
variable {w w' : World} {N : Nat} {v : Value}
theorem pbox_new (w : World) (v : Value) : PBox (w.alloc (.cells #[v] 41)) w.heap.size v := heap_alloc_new w _
theorem PBox.lt (h : PBox w N v) : N < w.heap.size := (Array.getElem?_eq_some_iff.1 h).1
theorem PBox.cell (h : PBox w N v) : w.cell? ⟨N, 0, none⟩ = some v := by rw [cell_of_row w N 0 _ _ _ h]; rfl
theorem PBox.free (h : PBox w N v) (i : Nat) : w.frozen? ⟨N, i, none⟩ = false := frozen_of_row w N i _ _ h
theorem PBox.below {M : Nat} (h : PBox w N v) (hN : N < M) (hb : Below M w w') : PBox w' N v := by unfold PBox; rw [hb.block N hN]; exact h
theorem PBox.later (h : PBox w N v) (hb : Below w.heap.size w w') : PBox w' N v := h.below h.lt hb
theorem PBox.stored (h : PBox w N v) (u : Value) : PBox (w.setCell ⟨N, 0, none⟩ u) N u := by unfold PBox; rw [heap_setCell_same w N 0 _ _ _ h]; rfl
theorem PBox.other (h : PBox w N v) (a : Addr) (x : Value) (ha : a.block ≠ N) : PBox (w.setCell a x) N v := by unfold PBox; rw [heap_setCell_other w a N x (fun e => ha e.symm)]; exact h
end
end Go.Proofs.YtgplajofemencaaGreat
