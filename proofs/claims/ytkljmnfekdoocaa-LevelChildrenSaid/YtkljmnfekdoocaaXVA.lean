/- The plain mathematics of a stable order: rows in the order of their first numbers, those that are equal as they were. -/
import Derived.Test.YtkljmnfekdoocaaXSame
import Derived.BigRegion
import Derived.StillTailTactics
import Derived.WalkMore
import Derived.Deep.CutRange
import Derived.Deep.CutBlock
namespace Go.Proofs.Ytkljmnfekdoocaa

/-- A row's first number. -/
def key (l : List Int) : Int := l.getD 0 0
/-- What has a first number. -/
def atKey (k : Int) (X : List (List Int)) : List (List Int) := X.filter (fun l => key l = k)
def SortedK (X : List (List Int)) : Prop := X.Pairwise (fun a b => key a ≤ key b)
/-- Y is X in order, what is equal as it was. -/
def Stab (X Y : List (List Int)) : Prop := SortedK Y ∧ ∀ k, atKey k Y = atKey k X
theorem atKey_append (k : Int) (X Y : List (List Int)) : atKey k (X ++ Y) = atKey k X ++ atKey k Y := by simp [atKey]
theorem atKey_cons (k : Int) (x : List Int) (Y : List (List Int)) : atKey k (x :: Y) = (if key x = k then [x] else []) ++ atKey k Y := by
  by_cases h : key x = k <;> simp [atKey, h]
theorem mem_atKey {x : List Int} {X : List (List Int)} : x ∈ X ↔ x ∈ atKey (key x) X := by simp [atKey]
theorem mem_atKey' {x : List Int} {X : List (List Int)} {k : Int} (h : x ∈ atKey k X) : x ∈ X ∧ key x = k := by simpa [atKey] using h
theorem same_mem {X Y : List (List Int)} (h : ∀ k, atKey k Y = atKey k X) (x : List Int) : x ∈ Y ↔ x ∈ X := by
  rw [mem_atKey, h, ← mem_atKey]
theorem sorted_eq : ∀ {Y Z : List (List Int)}, SortedK Y → SortedK Z → (∀ k, atKey k Y = atKey k Z) → Y = Z
  | [], Z, _, _, h => by
    cases Z with
    | nil => rfl
    | cons z Z => have := (same_mem (fun k => (h k).symm) z).1 (by simp); simp at this
  | y :: Y, [], _, _, h => by have := (same_mem h y).1 (by simp); simp at this
  | y :: Y, z :: Z, hy, hz, h => by
    have hy' := List.pairwise_cons.1 hy
    have hz' := List.pairwise_cons.1 hz
    have h1 : key z ≤ key y := by
      have := (same_mem h y).1 (by simp)
      simp only [List.mem_cons] at this
      rcases this with rfl | this
      · exact Int.le_refl _
      · exact hz'.1 y this
    have h2 : key y ≤ key z := by
      have := (same_mem (fun k => (h k).symm) z).1 (by simp)
      simp only [List.mem_cons] at this
      rcases this with rfl | this
      · exact Int.le_refl _
      · exact hy'.1 z this
    have hk : key y = key z := by omega
    have h3 := h (key y)
    rw [atKey_cons, atKey_cons, if_pos rfl, if_pos hk.symm] at h3
    simp only [List.cons_append, List.nil_append, List.cons.injEq] at h3
    obtain ⟨rfl, h3⟩ := h3
    congr 1
    refine sorted_eq hy'.2 hz'.2 (fun k => ?_)
    have h4 := h k
    rw [atKey_cons, atKey_cons] at h4
    exact List.append_cancel_left h4
theorem Stab.eq {X Y Z : List (List Int)} (h : Stab X Y) (k : Stab X Z) : Y = Z := sorted_eq h.1 k.1 (fun i => (h.2 i).trans (k.2 i).symm)
theorem Stab.mem {X Y : List (List Int)} (h : Stab X Y) (x : List Int) : x ∈ Y ↔ x ∈ X := same_mem h.2 x
theorem Stab.perm {X Y : List (List Int)} (h : Stab X Y) : Y.Perm X := by
  rw [List.perm_iff_count]
  intro x
  have key' : ∀ Z : List (List Int), Z.count x = (atKey (key x) Z).count x := fun Z => by
    induction Z with
    | nil => rfl
    | cons z Z ih =>
      rw [atKey_cons, List.count_append, List.count_cons, ih]
      by_cases hz : z = x
      · subst hz; simp; omega
      · by_cases hk : key z = key x
        · rw [if_pos hk]; simp [hz]
        · rw [if_neg hk]; simp [hz]
  rw [key' Y, h.2, ← key' X]
theorem Stab.len {X Y : List (List Int)} (h : Stab X Y) : Y.length = X.length := h.perm.length_eq
theorem stab_self {X : List (List Int)} (h : SortedK X) : Stab X X := ⟨h, fun _ => rfl⟩
theorem stab_nil : Stab [] [] := stab_self List.Pairwise.nil
theorem stab_one (x : List Int) : Stab [x] [x] := stab_self (by simp [SortedK])
theorem atKey_none {k : Int} {X : List (List Int)} (h : ∀ x ∈ X, key x ≠ k) : atKey k X = [] := by
  simp only [atKey, List.filter_eq_nil_iff]
  exact fun x hx => by simpa using h x hx
/-- Two runs that are merged: what of the first run's end stands behind the second run's beginning is above it. -/
theorem stab_merge {A1 A2 B1 B2 Y1 Y2 : List (List Int)} (h1 : Stab (A1 ++ B1) Y1) (h2 : Stab (A2 ++ B2) Y2)
    (hA : ∀ x ∈ A1, ∀ y ∈ A2, key x ≤ key y) (hB : ∀ x ∈ B1, ∀ y ∈ B2, key x ≤ key y) (hAB : ∀ x ∈ A1, ∀ y ∈ B2, key x ≤ key y) (hBA : ∀ x ∈ B1, ∀ y ∈ A2, key x < key y) :
    Stab ((A1 ++ A2) ++ (B1 ++ B2)) (Y1 ++ Y2) := by
  constructor
  · refine List.pairwise_append.2 ⟨h1.1, h2.1, fun x hx y hy => ?_⟩
    have hx := (h1.mem x).1 hx
    have hy := (h2.mem y).1 hy
    simp only [List.mem_append] at hx hy
    rcases hx with hx | hx <;> rcases hy with hy | hy
    · exact hA x hx y hy
    · exact hAB x hx y hy
    · exact Int.le_of_lt (hBA x hx y hy)
    · exact hB x hx y hy
  · intro k
    have e : atKey k B1 ++ atKey k A2 = atKey k A2 ++ atKey k B1 := by
      by_cases hb : ∃ x ∈ B1, key x = k
      · obtain ⟨x, hx, hk⟩ := hb
        rw [atKey_none (X := A2) (fun y hy e => by have := hBA x hx y hy; omega)]; simp
      · rw [atKey_none (X := B1) (fun y hy e => hb ⟨y, hy, e⟩)]; simp
    rw [atKey_append, h1.2, h2.2]
    simp only [atKey_append, List.append_assoc]
    rw [← List.append_assoc (atKey k B1), e, List.append_assoc]
/-- One more behind: it goes behind all that is not above it. -/
theorem stab_snoc {X Y1 Y2 : List (List Int)} {x : List Int} (h : Stab X (Y1 ++ Y2)) (h1 : ∀ y ∈ Y1, key y ≤ key x) (h2 : ∀ y ∈ Y2, key x < key y) : Stab (X ++ [x]) (Y1 ++ x :: Y2) := by
  have hs := List.pairwise_append.1 h.1
  have m := stab_merge (A1 := Y1) (A2 := Y2) (B1 := [x]) (B2 := []) (Y1 := Y1 ++ [x]) (Y2 := Y2) (stab_self (List.pairwise_append.2 ⟨hs.1, by simp, fun a ha b hb => by simp at hb; subst hb; exact h1 a ha⟩))
    (by rw [List.append_nil]; exact stab_self hs.2.1) hs.2.2 (by simp) (by simp) (by simpa using h2)
  refine ⟨by have := m.1; simpa using this, fun k => ?_⟩
  have := m.2 k
  simp only [List.append_assoc, List.cons_append, List.nil_append, List.append_nil] at this
  rw [this, atKey_append k X, ← h.2 k, ← atKey_append]; simp
def insL (r : List Int) : List (List Int) → List (List Int)
  | [] => [r]
  | x :: l => if key r < key x then r :: x :: l else x :: insL r l
def sortL (X : List (List Int)) : List (List Int) := X.foldl (fun s r => insL r s) []
theorem insL_split (r : List Int) : ∀ {l : List (List Int)}, SortedK l → ∃ a b, l = a ++ b ∧ insL r l = a ++ r :: b ∧ (∀ y ∈ a, key y ≤ key r) ∧ ∀ y ∈ b, key r < key y
  | [], _ => ⟨[], [], rfl, rfl, by simp, by simp⟩
  | x :: l, h => by
    have h' := List.pairwise_cons.1 h
    by_cases hx : key r < key x
    · refine ⟨[], x :: l, rfl, by simp [insL, hx], by simp, fun y hy => ?_⟩
      simp only [List.mem_cons] at hy
      rcases hy with rfl | hy
      · exact hx
      · exact Int.lt_of_lt_of_le hx (h'.1 y hy)
    · obtain ⟨a, b, e, e2, h1, h2⟩ := insL_split r h'.2
      refine ⟨x :: a, b, by simp [e], by rw [insL, if_neg hx, e2]; rfl, fun y hy => ?_, h2⟩
      simp only [List.mem_cons] at hy
      rcases hy with rfl | hy
      · omega
      · exact h1 y hy
theorem stab_ins {X Y : List (List Int)} (r : List Int) (h : Stab X Y) : Stab (X ++ [r]) (insL r Y) := by
  obtain ⟨a, b, e, e2, h1, h2⟩ := insL_split r h.1
  rw [e2]; subst e
  exact stab_snoc h h1 h2
theorem stab_fold : ∀ (Z : List (List Int)) {X Y : List (List Int)}, Stab X Y → Stab (X ++ Z) (Z.foldl (fun s r => insL r s) Y)
  | [], X, Y, h => by simpa using h
  | z :: Z, X, Y, h => by
    have := stab_fold Z (stab_ins z h)
    simpa using this
theorem stab_sortL (X : List (List Int)) : Stab X (sortL X) := by have := stab_fold X stab_nil; rwa [List.nil_append] at this
theorem sortL_eq {X Y : List (List Int)} (h : Stab X Y) : sortL X = Y := (stab_sortL X).eq h
theorem sortL_snoc (X : List (List Int)) (r : List Int) : sortL (X ++ [r]) = insL r (sortL X) := by simp [sortL]
theorem sortL_len (X : List (List Int)) : (sortL X).length = X.length := (stab_sortL X).len
theorem sortL_mem (X : List (List Int)) (x : List Int) : x ∈ sortL X ↔ x ∈ X := (stab_sortL X).mem x
theorem sortL_self {X : List (List Int)} (h : SortedK X) : sortL X = X := sortL_eq (stab_self h)
/-- Two orders of rows no two of which begin alike. -/
theorem sortL_perm {X Y : List (List Int)} (h : X.Perm Y) (hd : X.Pairwise (fun a b => key a ≠ key b)) : sortL X = sortL Y := by
  refine sorted_eq (stab_sortL X).1 (stab_sortL Y).1 (fun k => ?_)
  rw [(stab_sortL X).2, (stab_sortL Y).2]
  have hp : (atKey k X).Perm (atKey k Y) := h.filter _
  have hl : (atKey k X).length ≤ 1 := by
    have hd' : (atKey k X).Pairwise (fun a b => key a ≠ key b) := hd.filter _
    match hm : atKey k X, hd' with
    | [], _ => simp
    | [_], _ => simp
    | a :: b :: r, hd' =>
      have ha := (mem_atKey' (by rw [hm]; simp : a ∈ atKey k X)).2
      have hb := (mem_atKey' (by rw [hm]; simp : b ∈ atKey k X)).2
      have := (List.pairwise_cons.1 hd').1 b (by simp)
      omega
  match hm : atKey k X, hl with
  | [], _ => rw [hm] at hp; exact (List.nil_perm.1 hp).symm
  | [a], _ => rw [hm] at hp; exact List.singleton_perm.1 hp
  | a :: b :: r, hl => simp at hl
end Go.Proofs.Ytkljmnfekdoocaa
/- What comes first; rows that are exchanged, and turned. -/
namespace Go.Proofs.Ytkljmnfekdoocaa
open Go.ChangeShapes Go.WideShapes Go.ChangeAt Go.RowKit

/-- As cmp has it. -/
def cmpI (x y : Int) : Int := if x < y then -1 else if y < x then 1 else 0
theorem cmpI_neg (x y : Int) : decide (cmpI x y < 0) = decide (x < y) := by
  unfold cmpI
  by_cases h : x < y
  · simp [h]
  · rw [if_neg h]
    by_cases k : y < x
    · simp [k, h]
    · simp [k, h]
end Go.Proofs.Ytkljmnfekdoocaa
/- Rows that are exchanged, and turned. -/
namespace Go.Proofs.Ytkljmnfekdoocaa
open Go.ChangeShapes Go.WideShapes Go.ChangeAt Go.RowKit

/-- Two rows exchanged. -/
def swapL (L : List (List Int)) (i j : Nat) : List (List Int) := (L.set i (L.getD j [])).set j (L.getD i [])
theorem swapL_len (L : List (List Int)) (i j : Nat) : (swapL L i j).length = L.length := by simp [swapL]
theorem swap_split (A C D : List (List Int)) (x y : List Int) (i j : Nat) (hi : i = A.length) (hj : j = A.length + 1 + C.length) : swapL (A ++ x :: (C ++ y :: D)) i j = A ++ y :: (C ++ x :: D) := by
  subst hi hj
  have e1 : (A ++ x :: (C ++ y :: D)).getD A.length [] = x := by simp [List.getD_eq_getElem?_getD]
  have e2 : (A ++ x :: (C ++ y :: D)).getD (A.length + 1 + C.length) [] = y := by
    rw [List.getD_eq_getElem?_getD, List.getElem?_append_right (by omega), show A.length + 1 + C.length - A.length = C.length + 1 by omega]
    simp
  unfold swapL
  rw [e1, e2, List.set_append, if_neg (by omega), Nat.sub_self, List.set_cons_zero, List.set_append, if_neg (by omega), show A.length + 1 + C.length - A.length = C.length + 1 by omega, List.set_cons_succ, List.set_append, if_neg (by omega), Nat.sub_self, List.set_cons_zero]
theorem swapL_comm (L : List (List Int)) (i j : Nat) (h : i ≠ j) : swapL L i j = swapL L j i := by
  unfold swapL
  rw [List.set_comm _ _ h]
theorem OwnIn.at {w : World} {B : Nat} : ∀ {vs : List Value} {L : List (List Int)}, OwnIn w B vs L → ∀ i, i < L.length → ∃ v, vs[i]? = some v ∧ w.ownsRow B 3 1 v (L.getD i []).length (ints (L.getD i []))
  | [], [], _, i, h => by simp at h
  | v :: _, l :: _, h, 0, _ => ⟨v, rfl, h.1⟩
  | _ :: vs, _ :: L, h, i + 1, hi => by
    obtain ⟨v, h1, h2⟩ := OwnIn.at h.2 i (by simpa using hi)
    exact ⟨v, by simpa using h1, by simpa using h2⟩
  | [], _ :: _, h, _, _ => h.elim
  | _ :: _, [], h, _, _ => h.elim
theorem ownIn_set {w : World} {B : Nat} {u : Value} {l : List Int} (hu : w.ownsRow B 3 1 u l.length (ints l)) : ∀ {vs : List Value} {L : List (List Int)} (k : Nat), OwnIn w B vs L → OwnIn w B (vs.set k u) (L.set k l)
  | [], [], _, _ => trivial
  | _ :: _, _ :: _, 0, h => ⟨hu, h.2⟩
  | _ :: _, _ :: _, k + 1, h => ⟨h.1, ownIn_set hu k h.2⟩
  | [], _ :: _, _, h => h.elim
  | _ :: _, [], _, h => h.elim
section
variable {w : World} {B g n cap : Nat} {L : List (List Int)}
theorem OwnLL.num (h : OwnLL w B (.slice (some ⟨g, 0, none⟩) n cap) L) : n = L.length := by
  obtain ⟨vs, h1, h2⟩ := h
  obtain ⟨a, c, he⟩ := own_shape h1
  simp at he
  rw [he.2.1, h2.in.len]
theorem OwnLL.free (h : OwnLL w B (.slice (some ⟨g, 0, none⟩) n cap) L) (i : Nat) : w.frozen? ⟨g, i, none⟩ = false := by
  have hn := h.num
  obtain ⟨vs, h1, h2⟩ := h
  have : n = vs.length := by rw [hn, h2.in.len]
  subst this
  exact h1.frozenAt i
theorem OwnLL.gge (h : OwnLL w B (.slice (some ⟨g, 0, none⟩) n cap) L) : B ≤ g ∧ g < w.heap.size := by
  obtain ⟨vs, h1, h2⟩ := h
  exact World.ownsRow.lt h1 g rfl
/-- The row that lies at a place. -/
theorem OwnLL.has (h : OwnLL w B (.slice (some ⟨g, 0, none⟩) n cap) L) (i : Nat) (hi : i < L.length) : ∃ u, w.cell? ⟨g, i, none⟩ = some u ∧ Row w u (ints (L.getD i [])) := by
  have hn := h.num
  obtain ⟨vs, h1, h2⟩ := h
  have : n = vs.length := by rw [hn, h2.in.len]
  subst this
  obtain ⟨u, hu, ho⟩ := h2.at i hi
  exact ⟨u, (h1.cellAt i (by rw [hn]; omega)).trans hu, own_row ho⟩
theorem OwnLL.sl (h : OwnLL w B (.slice (some ⟨g, 0, none⟩) n cap) L) (i : Nat) (hi : i < L.length) : ∃ a m c, w.cell? ⟨g, i, none⟩ = some (.slice a m c) := by
  obtain ⟨u, hu, _, a, c, rfl, _⟩ := h.has i hi
  exact ⟨_, _, _, hu⟩
theorem OwnLL.swapped (h : OwnLL w B (.slice (some ⟨g, 0, none⟩) n cap) L) (i j : Nat) (hi : i < L.length) (hj : j < L.length) (x y : Value) (hx : w.cell? ⟨g, i, none⟩ = some x) (hy : w.cell? ⟨g, j, none⟩ = some y) :
    OwnLL ((w.setCell ⟨g, i, none⟩ y).setCell ⟨g, j, none⟩ x) B (.slice (some ⟨g, 0, none⟩) n cap) (swapL L i j) ∧ Below B w ((w.setCell ⟨g, i, none⟩ y).setCell ⟨g, j, none⟩ x) := by
  have hn := h.num
  have hg := h.gge
  obtain ⟨vs, h1, h2⟩ := h
  have hv : n = vs.length := by rw [hn, h2.in.len]
  subst hv
  obtain ⟨u, hu, ho⟩ := h2.at i hi
  obtain ⟨v, hv, hp⟩ := h2.at j hj
  have e1 : u = x := by
    have := (h1.cellAt i (by rw [hn]; omega)).symm.trans hx
    rw [hu] at this; simpa using this
  have e2 : v = y := by
    have := (h1.cellAt j (by rw [hn]; omega)).symm.trans hy
    rw [hv] at this; simpa using this
  subst e1 e2
  have hb : Below B w ((w.setCell ⟨g, i, none⟩ v).setCell ⟨g, j, none⟩ u) := by
    have b1 : Below B w (w.setCell ⟨g, i, none⟩ v) := (Below.refl _ w).setCell (p := ⟨g, i, none⟩) hg.1 _
    exact b1.setCell (p := ⟨g, j, none⟩) hg.1 _
  refine ⟨?_, hb⟩
  have s1 := h1.stored i v
  have s2 := s1.1.stored j u
  have o2 := ownIn_set (l := L.getD i []) ho j (ownIn_set (l := L.getD j []) hp i h2)
  have hgr := s1.2.trans s2.2
  refine ⟨(vs.set i v).set j u, ?_, o2.kept hgr ?_⟩
  · have := s2.1
    rw [List.length_set, List.length_set]
    exact this
  · intro z hz
    rcases h1.2 with ⟨e, _⟩ | ⟨g', cap', cur, e, _, hgg, _⟩
    · simp at e
    · simp at e
      obtain ⟨rfl, rfl⟩ := e
      exact .inr (o2.ne hgg (by decide) z hz)
end
theorem OwnLL.drew {w : World} {B : Nat} {v : Value} {L : List (List Int)} (h : OwnLL w B v L) (n : Nat) : OwnLL (w.drewN n) B v L := h.below (below_drewN (Below.refl _ w) n)
end Go.Proofs.Ytkljmnfekdoocaa
/- Two runs change places. -/
namespace Go.Proofs.Ytkljmnfekdoocaa
open Go.ChangeShapes Go.WideShapes Go.ChangeAt Go.RowKit

end Go.Proofs.Ytkljmnfekdoocaa
/- The insertion of rows, one by one. -/
namespace Go.Proofs.Ytkljmnfekdoocaa
open Go.ChangeShapes Go.WideShapes Go.ChangeAt Go.RowKit

/-- No row is empty. -/
def Full (L : List (List Int)) : Prop := ∀ l ∈ L, l ≠ []
theorem Full.at {L : List (List Int)} (h : Full L) {i : Nat} (hi : i < L.length) : L.getD i [] ≠ [] := by
  rw [List.getD_eq_getElem?_getD, List.getElem?_eq_getElem hi]
  exact h _ (List.getElem_mem hi)
theorem getD_mid (A C : List (List Int)) (x : List Int) (i : Nat) (hi : i = A.length) : (A ++ x :: C).getD i [] = x := by
  subst hi; simp [List.getD_eq_getElem?_getD]
end Go.Proofs.Ytkljmnfekdoocaa
/- Two runs are merged, one of which is one row. -/
namespace Go.Proofs.Ytkljmnfekdoocaa
open Go.ChangeShapes Go.WideShapes Go.ChangeAt Go.RowKit

theorem split_at (D : List (List Int)) (t : Nat) (ht : t < D.length) : D = D.take t ++ D.getD t [] :: D.drop (t + 1) := by
  rw [List.getD_eq_getElem?_getD, List.getElem?_eq_getElem ht]
  simp
theorem sorted_upto {D : List (List Int)} (h : SortedK D) (t : Nat) (ht : t < D.length) : ∀ z ∈ D.take (t + 1), key z ≤ key (D.getD t []) := by
  intro z hz
  have e := split_at D t ht
  have h2 := h
  rw [SortedK, e] at h2
  rw [List.take_add_one, List.getElem?_eq_getElem ht] at hz
  simp only [List.mem_append, Option.toList_some, List.mem_singleton] at hz
  rcases hz with hz | rfl
  · exact (List.pairwise_append.1 h2).2.2 z hz _ (by simp)
  · rw [List.getD_eq_getElem?_getD, List.getElem?_eq_getElem ht]; simp
theorem sorted_from {D : List (List Int)} (h : SortedK D) (t : Nat) (ht : t < D.length) : ∀ z ∈ D.drop t, key (D.getD t []) ≤ key z := by
  intro z hz
  have e := split_at D t ht
  have h2 := h
  rw [SortedK, e] at h2
  have h3 := (List.pairwise_cons.1 (List.pairwise_append.1 h2).2.1).1
  rw [List.drop_eq_getElem_cons ht] at hz
  simp only [List.mem_cons] at hz
  rcases hz with rfl | hz
  · rw [List.getD_eq_getElem?_getD, List.getElem?_eq_getElem ht]; simp
  · exact h3 z hz
theorem SortedK.take {D : List (List Int)} (h : SortedK D) (t : Nat) : SortedK (D.take t) := List.Pairwise.sublist (List.take_sublist t D) h
theorem SortedK.drop {D : List (List Int)} (h : SortedK D) (t : Nat) : SortedK (D.drop t) := List.Pairwise.sublist (List.drop_sublist t D) h
/-- Behind a search by halves: what is ahead, what behind. -/
theorem below_at {D : List (List Int)} (h : SortedK D) {s : Nat} {c : Int} (hs : s ≤ D.length) (hb : s = 0 ∨ key (D.getD (s - 1) []) < c) : ∀ z ∈ D.take s, key z < c := by
  intro z hz
  rcases hb with rfl | hb
  · simp at hz
  · cases s with
    | zero => simp at hz
    | succ t =>
      have := sorted_upto h t (by omega) z hz
      simp at hb; rw [List.getD_eq_getElem?_getD] at this; omega
theorem upto_at {D : List (List Int)} (h : SortedK D) {s : Nat} {c : Int} (hs : s ≤ D.length) (hb : s = 0 ∨ key (D.getD (s - 1) []) ≤ c) : ∀ z ∈ D.take s, key z ≤ c := fun z hz => by
  have := below_at (c := c + 1) h hs (hb.imp id (fun h => by omega)) z hz
  omega
theorem from_at {D : List (List Int)} (h : SortedK D) {s : Nat} {c : Int} (hs : s ≤ D.length) (hb : s = D.length ∨ c ≤ key (D.getD s [])) : ∀ z ∈ D.drop s, c ≤ key z := by
  intro z hz
  rcases hb with rfl | hb
  · simp at hz
  · by_cases hl : s < D.length
    · have := sorted_from h s hl z hz
      omega
    · rw [List.drop_eq_nil_of_le (by omega)] at hz; simp at hz
theorem above_at {D : List (List Int)} (h : SortedK D) {s : Nat} {c : Int} (hs : s ≤ D.length) (hb : s = D.length ∨ c < key (D.getD s [])) : ∀ z ∈ D.drop s, c < key z := fun z hz => by
  have := from_at (c := c + 1) h hs (hb.imp id (fun h => by omega)) z hz
  omega
/-- One row ahead of a run goes behind all that is below it. -/
theorem stab_front {x : List Int} {D : List (List Int)} (h : SortedK D) {s : Nat} (hs : s ≤ D.length) (h1 : s = 0 ∨ key (D.getD (s - 1) []) < key x) (h2 : s = D.length ∨ key x ≤ key (D.getD s [])) : Stab ([x] ++ D) (D.take s ++ x :: D.drop s) := by
  have a1 := below_at h hs h1
  have a2 := from_at h hs h2
  have := stab_merge (A1 := []) (A2 := [x]) (B1 := D.take s) (B2 := D.drop s) (Y1 := D.take s) (Y2 := x :: D.drop s) (stab_self (h.take s))
    (stab_self (List.pairwise_cons.2 ⟨a2, h.drop s⟩)) (by simp) (fun y hy z hz => by have := a1 y hy; have := a2 z hz; omega) (by simp) (fun y hy z hz => by simp at hz; subst hz; exact a1 y hy)
  simpa using this
theorem stab_behind {y : List Int} {A : List (List Int)} (h : SortedK A) {s : Nat} (hs : s ≤ A.length) (h1 : s = 0 ∨ key (A.getD (s - 1) []) ≤ key y) (h2 : s = A.length ∨ key y < key (A.getD s [])) : Stab (A ++ [y]) (A.take s ++ y :: A.drop s) := by
  have a1 := upto_at h hs h1
  have a2 := above_at h hs h2
  exact stab_snoc (by rw [List.take_append_drop]; exact stab_self h) a1 a2
theorem getD_in (P D S : List (List Int)) (t i : Nat) (ht : t < D.length) (hi : i = P.length + t) : (P ++ (D ++ S)).getD i [] = D.getD t [] := by
  subst hi
  rw [List.getD_eq_getElem?_getD, List.getD_eq_getElem?_getD, List.getElem?_append_right (by omega), show P.length + t - P.length = t by omega, List.getElem?_append_left ht]

end Go.Proofs.Ytkljmnfekdoocaa
/- Two runs are merged, the second of which is one row. -/
namespace Go.Proofs.Ytkljmnfekdoocaa
open Go.ChangeShapes Go.WideShapes Go.ChangeAt Go.RowKit

end Go.Proofs.Ytkljmnfekdoocaa
/- Two runs are merged. -/
namespace Go.Proofs.Ytkljmnfekdoocaa
open Go.ChangeShapes Go.WideShapes Go.ChangeAt Go.RowKit

theorem getD_le {D : List (List Int)} (h : SortedK D) {i j : Nat} (hij : i ≤ j) (hj : j < D.length) : key (D.getD i []) ≤ key (D.getD j []) := by
  refine sorted_upto h j hj _ ?_
  rw [List.getD_eq_getElem?_getD, List.getElem?_eq_getElem (by omega)]
  simp only [Option.getD_some]
  rw [List.mem_take_iff_getElem]
  exact ⟨i, by omega, rfl⟩
/-- Where two runs are cut so that what comes first of both is ahead. -/
theorem sym_cut {P A D S : List (List Int)} {a m b s e nn md : Nat} (ha : a = P.length) (hm : m = a + A.length) (hb : b = m + D.length) (hA : SortedK A) (hD : SortedK D) (h1 : a ≤ s) (h2 : s ≤ m) (h3 : m ≤ e) (h4 : e ≤ b) (hn : nn = md + m) (he : e + s = nn)
    (c1 : s = a ∨ e = b ∨ key ((P ++ (A ++ (D ++ S))).getD (s - 1) []) ≤ key ((P ++ (A ++ (D ++ S))).getD e [])) (c2 : s = m ∨ e = m ∨ key ((P ++ (A ++ (D ++ S))).getD (e - 1) []) < key ((P ++ (A ++ (D ++ S))).getD s [])) :
    ∃ A1 A2 D1 D2, A = A1 ++ A2 ∧ D = D1 ++ D2 ∧ s = a + A1.length ∧ m = s + A2.length ∧ md = s + D1.length ∧ e = md + A2.length ∧ b = e + D2.length ∧ SortedK A1 ∧ SortedK A2 ∧ SortedK D1 ∧ SortedK D2 ∧
      (∀ x ∈ A1, ∀ y ∈ A2, key x ≤ key y) ∧ (∀ x ∈ D1, ∀ y ∈ D2, key x ≤ key y) ∧ (∀ x ∈ A1, ∀ y ∈ D2, key x ≤ key y) ∧ ∀ x ∈ D1, ∀ y ∈ A2, key x < key y := by
  have l1 : (A.take (s - a)).length = s - a := by rw [List.length_take]; omega
  have l2 : (D.take (e - m)).length = e - m := by rw [List.length_take]; omega
  have pA := hA
  have pD := hD
  rw [SortedK, ← List.take_append_drop (s - a) A] at pA
  rw [SortedK, ← List.take_append_drop (e - m) D] at pD
  have gA : ∀ i, a ≤ i → i < m → (P ++ (A ++ (D ++ S))).getD i [] = A.getD (i - a) [] := fun i h5 h6 => getD_in _ _ _ _ _ (by omega) (by omega)
  have gD : ∀ i, m ≤ i → i < b → (P ++ (A ++ (D ++ S))).getD i [] = D.getD (i - m) [] := fun i h5 h6 => by
    rw [← List.append_assoc]
    exact getD_in _ _ _ _ _ (by omega) (by simp; omega)
  refine ⟨A.take (s - a), A.drop (s - a), D.take (e - m), D.drop (e - m), (List.take_append_drop _ _).symm, (List.take_append_drop _ _).symm, by omega, by rw [List.length_drop]; omega, by omega, by rw [List.length_drop]; omega, by rw [List.length_drop]; omega,
    hA.take _, hA.drop _, hD.take _, hD.drop _, (List.pairwise_append.1 pA).2.2, (List.pairwise_append.1 pD).2.2, fun x hx y hy => ?_, fun x hx y hy => ?_⟩
  · rcases c1 with h | h | h
    · rw [h] at hx; simp at hx
    · rw [List.drop_eq_nil_of_le (by omega)] at hy; simp at hy
    · by_cases hs : s = a
      · rw [hs] at hx; simp at hx
      · by_cases hq : e = b
        · rw [List.drop_eq_nil_of_le (by omega)] at hy; simp at hy
        · rw [gA (s - 1) (by omega) (by omega), gD e (by omega) (by omega)] at h
          have x1 := sorted_upto hA (s - 1 - a) (by omega) x (by rw [show s - 1 - a + 1 = s - a by omega]; exact hx)
          have y1 := sorted_from hD (e - m) (by omega) y hy
          omega
  · rcases c2 with h | h | h
    · rw [List.drop_eq_nil_of_le (by omega)] at hy; simp at hy
    · rw [h] at hx; simp at hx
    · by_cases hs : s = m
      · rw [List.drop_eq_nil_of_le (by omega)] at hy; simp at hy
      · by_cases hq : e = m
        · rw [hq] at hx; simp at hx
        · rw [gD (e - 1) (by omega) (by omega), gA s (by omega) (by omega)] at h
          have x1 := sorted_upto hD (e - 1 - m) (by omega) x (by rw [show e - 1 - m + 1 = e - m by omega]; exact hx)
          have y1 := sorted_from hA (s - a) (by omega) y hy
          omega

end Go.Proofs.Ytkljmnfekdoocaa
/- Rows are put in order, those that are equal as they were. -/
namespace Go.Proofs.Ytkljmnfekdoocaa
open Go.ChangeShapes Go.WideShapes Go.ChangeAt Go.RowKit

/-- Each run of s rows, one behind the other, is in order. -/
def Chunk (s : Nat) (Y : List (List Int)) : Prop := ∀ i, SortedK ((Y.drop (i * s)).take s)
theorem sortedK_nil : SortedK [] := List.Pairwise.nil
theorem chunk_nil (s : Nat) : Chunk s [] := fun i => by rw [List.drop_nil, List.take_nil]; exact sortedK_nil
theorem chunk_split {s : Nat} {A R : List (List Int)} (hA : A.length = s) (h : Chunk s (A ++ R)) : SortedK A ∧ Chunk s R := by
  constructor
  · have := h 0
    rw [Nat.zero_mul, List.drop_zero, List.take_left' hA] at this
    exact this
  · intro i
    have := h (i + 1)
    rw [Nat.succ_mul, Nat.add_comm, ← List.drop_drop, List.drop_left' hA] at this
    exact this
theorem chunk_snoc {s c : Nat} {P A : List (List Int)} (hP : P.length = c * s) (hA : A.length ≤ s) (h : Chunk s P) (hs : SortedK A) : Chunk s (P ++ A) := by
  intro i
  rcases Nat.lt_trichotomy i c with hi | rfl | hi
  · have h1 : (i + 1) * s ≤ c * s := Nat.mul_le_mul_right s hi
    rw [Nat.succ_mul] at h1
    rw [List.drop_append_of_le_length (by omega), List.take_append_of_le_length (by rw [List.length_drop]; omega)]
    exact h i
  · rw [List.drop_left' hP, List.take_of_length_le hA]; exact hs
  · have h1 : (c + 1) * s ≤ i * s := Nat.mul_le_mul_right s hi
    rw [Nat.succ_mul] at h1
    rw [List.drop_eq_nil_of_le (by rw [List.length_append]; omega), List.take_nil]
    exact sortedK_nil
theorem chunk_all {s : Nat} {Y : List (List Int)} (h : Chunk s Y) (hl : Y.length ≤ s) : SortedK Y := by
  have := h 0
  rw [Nat.zero_mul, List.drop_zero, List.take_of_length_le hl] at this
  exact this
/-- The same rows for each first number, in the same order. -/
def SameK (X Y : List (List Int)) : Prop := ∀ k, atKey k Y = atKey k X
theorem SameK.mid {X P A Y S : List (List Int)} (h : SameK X (P ++ (A ++ S))) (hY : Stab A Y) : SameK X (P ++ (Y ++ S)) := fun k => by
  rw [← h k]; simp only [atKey_append, hY.2]
theorem SameK.full {X Y : List (List Int)} (h : SameK X Y) (hf : Full X) : Full Y := fun l hl => hf l ((same_mem h l).1 hl)
theorem SameK.sort {X Y : List (List Int)} (h : SameK X Y) (hs : SortedK Y) : sortL X = Y := sortL_eq ⟨hs, h⟩
end Go.Proofs.Ytkljmnfekdoocaa
