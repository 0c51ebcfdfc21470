/- The plain mathematics of a stable order: rows in the order of their first numbers, those that are equal as they were. -/
import Derived.Test.YtpdeffpmfbplnaaDoorXSame
import Derived.BigRegion
import Derived.StillTailTactics
import Derived.WalkMore
import Derived.Deep.CutRange
import Derived.Deep.CutBlock
namespace Go.Proofs.YtpdeffpmfbplnaaDoor

/-- A row's first number. -/
def key (l : List Int) : Int := l.getD 0 0
/-- What has a first number. -/
def atKey (k : Int) (X : List (List Int)) : List (List Int) := X.filter (fun l => key l = k)
def SortedK (X : List (List Int)) : Prop := X.Pairwise (fun a b => key a ≤ key b)
/-- Y is X in order, what is equal as it was. -/
def Stab (X Y : List (List Int)) : Prop := SortedK Y ∧ ∀ k, atKey k Y = atKey k X
theorem atKey_append (k : Int) (X Y : List (List Int)) : atKey k (X ++ Y) = atKey k X ++ atKey k Y := by simp [atKey]
theorem atKey_cons (k : Int) (x : List Int) (Y : List (List Int)) : atKey k (x :: Y) = (if key x = k then [x] else []) ++ atKey k Y := by
  by_cases h : key x = k <;> simp [atKey, h]
theorem mem_atKey {x : List Int} {X : List (List Int)} : x ∈ X ↔ x ∈ atKey (key x) X := by simp [atKey]
theorem mem_atKey' {x : List Int} {X : List (List Int)} {k : Int} (h : x ∈ atKey k X) : x ∈ X ∧ key x = k := by simpa [atKey] using h
theorem same_mem {X Y : List (List Int)} (h : ∀ k, atKey k Y = atKey k X) (x : List Int) : x ∈ Y ↔ x ∈ X := by
  rw [mem_atKey, h, ← mem_atKey]
theorem sorted_eq : ∀ {Y Z : List (List Int)}, SortedK Y → SortedK Z → (∀ k, atKey k Y = atKey k Z) → Y = Z
  | [], Z, _, _, h => by
    cases Z with
    | nil => rfl
    | cons z Z => have := (same_mem (fun k => (h k).symm) z).1 (by simp); simp at this
  | y :: Y, [], _, _, h => by have := (same_mem h y).1 (by simp); simp at this
  | y :: Y, z :: Z, hy, hz, h => by
    have hy' := List.pairwise_cons.1 hy
    have hz' := List.pairwise_cons.1 hz
    have h1 : key z ≤ key y := by
      have := (same_mem h y).1 (by simp)
      simp only [List.mem_cons] at this
      rcases this with rfl | this
      · exact Int.le_refl _
      · exact hz'.1 y this
    have h2 : key y ≤ key z := by
      have := (same_mem (fun k => (h k).symm) z).1 (by simp)
      simp only [List.mem_cons] at this
      rcases this with rfl | this
      · exact Int.le_refl _
      · exact hy'.1 z this
    have hk : key y = key z := by omega
    have h3 := h (key y)
    rw [atKey_cons, atKey_cons, if_pos rfl, if_pos hk.symm] at h3
    simp only [List.cons_append, List.nil_append, List.cons.injEq] at h3
    obtain ⟨rfl, h3⟩ := h3
    congr 1
    refine sorted_eq hy'.2 hz'.2 (fun k => ?_)
    have h4 := h k
    rw [atKey_cons, atKey_cons] at h4
    exact List.append_cancel_left h4
theorem Stab.eq {X Y Z : List (List Int)} (h : Stab X Y) (k : Stab X Z) : Y = Z := sorted_eq h.1 k.1 (fun i => (h.2 i).trans (k.2 i).symm)
theorem Stab.mem {X Y : List (List Int)} (h : Stab X Y) (x : List Int) : x ∈ Y ↔ x ∈ X := same_mem h.2 x
theorem Stab.perm {X Y : List (List Int)} (h : Stab X Y) : Y.Perm X := by
  rw [List.perm_iff_count]
  intro x
  have key' : ∀ Z : List (List Int), Z.count x = (atKey (key x) Z).count x := fun Z => by
    induction Z with
    | nil => rfl
    | cons z Z ih =>
      rw [atKey_cons, List.count_append, List.count_cons, ih]
      by_cases hz : z = x
      · subst hz; simp; omega
      · by_cases hk : key z = key x
        · rw [if_pos hk]; simp [hz]
        · rw [if_neg hk]; simp [hz]
  rw [key' Y, h.2, ← key' X]
theorem Stab.len {X Y : List (List Int)} (h : Stab X Y) : Y.length = X.length := h.perm.length_eq
theorem stab_self {X : List (List Int)} (h : SortedK X) : Stab X X := ⟨h, fun _ => rfl⟩
theorem stab_nil : Stab [] [] := stab_self List.Pairwise.nil
theorem stab_one (x : List Int) : Stab [x] [x] := stab_self (by simp [SortedK])
theorem atKey_none {k : Int} {X : List (List Int)} (h : ∀ x ∈ X, key x ≠ k) : atKey k X = [] := by
  simp only [atKey, List.filter_eq_nil_iff]
  exact fun x hx => by simpa using h x hx
/-- Two runs that are merged: what of the first run's end stands behind the second run's beginning is above it. -/
theorem stab_merge {A1 A2 B1 B2 Y1 Y2 : List (List Int)} (h1 : Stab (A1 ++ B1) Y1) (h2 : Stab (A2 ++ B2) Y2)
    (hA : ∀ x ∈ A1, ∀ y ∈ A2, key x ≤ key y) (hB : ∀ x ∈ B1, ∀ y ∈ B2, key x ≤ key y) (hAB : ∀ x ∈ A1, ∀ y ∈ B2, key x ≤ key y) (hBA : ∀ x ∈ B1, ∀ y ∈ A2, key x < key y) :
    Stab ((A1 ++ A2) ++ (B1 ++ B2)) (Y1 ++ Y2) := by
  constructor
  · refine List.pairwise_append.2 ⟨h1.1, h2.1, fun x hx y hy => ?_⟩
    have hx := (h1.mem x).1 hx
    have hy := (h2.mem y).1 hy
    simp only [List.mem_append] at hx hy
    rcases hx with hx | hx <;> rcases hy with hy | hy
    · exact hA x hx y hy
    · exact hAB x hx y hy
    · exact Int.le_of_lt (hBA x hx y hy)
    · exact hB x hx y hy
  · intro k
    have e : atKey k B1 ++ atKey k A2 = atKey k A2 ++ atKey k B1 := by
      by_cases hb : ∃ x ∈ B1, key x = k
      · obtain ⟨x, hx, hk⟩ := hb
        rw [atKey_none (X := A2) (fun y hy e => by have := hBA x hx y hy; omega)]; simp
      · rw [atKey_none (X := B1) (fun y hy e => hb ⟨y, hy, e⟩)]; simp
    rw [atKey_append, h1.2, h2.2]
    simp only [atKey_append, List.append_assoc]
    rw [← List.append_assoc (atKey k B1), e, List.append_assoc]
/-- One more behind: it goes behind all that is not above it. -/
theorem stab_snoc {X Y1 Y2 : List (List Int)} {x : List Int} (h : Stab X (Y1 ++ Y2)) (h1 : ∀ y ∈ Y1, key y ≤ key x) (h2 : ∀ y ∈ Y2, key x < key y) : Stab (X ++ [x]) (Y1 ++ x :: Y2) := by
  have hs := List.pairwise_append.1 h.1
  have m := stab_merge (A1 := Y1) (A2 := Y2) (B1 := [x]) (B2 := []) (Y1 := Y1 ++ [x]) (Y2 := Y2) (stab_self (List.pairwise_append.2 ⟨hs.1, by simp, fun a ha b hb => by simp at hb; subst hb; exact h1 a ha⟩))
    (by rw [List.append_nil]; exact stab_self hs.2.1) hs.2.2 (by simp) (by simp) (by simpa using h2)
  refine ⟨by have := m.1; simpa using this, fun k => ?_⟩
  have := m.2 k
  simp only [List.append_assoc, List.cons_append, List.nil_append, List.append_nil] at this
  rw [this, atKey_append k X, ← h.2 k, ← atKey_append]; simp
def insL (r : List Int) : List (List Int) → List (List Int)
  | [] => [r]
  | x :: l => if key r < key x then r :: x :: l else x :: insL r l
def sortL (X : List (List Int)) : List (List Int) := X.foldl (fun s r => insL r s) []
theorem insL_split (r : List Int) : ∀ {l : List (List Int)}, SortedK l → ∃ a b, l = a ++ b ∧ insL r l = a ++ r :: b ∧ (∀ y ∈ a, key y ≤ key r) ∧ ∀ y ∈ b, key r < key y
  | [], _ => ⟨[], [], rfl, rfl, by simp, by simp⟩
  | x :: l, h => by
    have h' := List.pairwise_cons.1 h
    by_cases hx : key r < key x
    · refine ⟨[], x :: l, rfl, by simp [insL, hx], by simp, fun y hy => ?_⟩
      simp only [List.mem_cons] at hy
      rcases hy with rfl | hy
      · exact hx
      · exact Int.lt_of_lt_of_le hx (h'.1 y hy)
    · obtain ⟨a, b, e, e2, h1, h2⟩ := insL_split r h'.2
      refine ⟨x :: a, b, by simp [e], by rw [insL, if_neg hx, e2]; rfl, fun y hy => ?_, h2⟩
      simp only [List.mem_cons] at hy
      rcases hy with rfl | hy
      · omega
      · exact h1 y hy
theorem stab_ins {X Y : List (List Int)} (r : List Int) (h : Stab X Y) : Stab (X ++ [r]) (insL r Y) := by
  obtain ⟨a, b, e, e2, h1, h2⟩ := insL_split r h.1
  rw [e2]; subst e
  exact stab_snoc h h1 h2
theorem stab_fold : ∀ (Z : List (List Int)) {X Y : List (List Int)}, Stab X Y → Stab (X ++ Z) (Z.foldl (fun s r => insL r s) Y)
  | [], X, Y, h => by simpa using h
  | z :: Z, X, Y, h => by
    have := stab_fold Z (stab_ins z h)
    simpa using this
theorem stab_sortL (X : List (List Int)) : Stab X (sortL X) := by have := stab_fold X stab_nil; rwa [List.nil_append] at this
theorem sortL_eq {X Y : List (List Int)} (h : Stab X Y) : sortL X = Y := (stab_sortL X).eq h
theorem sortL_snoc (X : List (List Int)) (r : List Int) : sortL (X ++ [r]) = insL r (sortL X) := by simp [sortL]
theorem sortL_len (X : List (List Int)) : (sortL X).length = X.length := (stab_sortL X).len
theorem sortL_mem (X : List (List Int)) (x : List Int) : x ∈ sortL X ↔ x ∈ X := (stab_sortL X).mem x
theorem sortL_self {X : List (List Int)} (h : SortedK X) : sortL X = X := sortL_eq (stab_self h)
/-- Two orders of rows no two of which begin alike. -/
theorem sortL_perm {X Y : List (List Int)} (h : X.Perm Y) (hd : X.Pairwise (fun a b => key a ≠ key b)) : sortL X = sortL Y := by
  refine sorted_eq (stab_sortL X).1 (stab_sortL Y).1 (fun k => ?_)
  rw [(stab_sortL X).2, (stab_sortL Y).2]
  have hp : (atKey k X).Perm (atKey k Y) := h.filter _
  have hl : (atKey k X).length ≤ 1 := by
    have hd' : (atKey k X).Pairwise (fun a b => key a ≠ key b) := hd.filter _
    match hm : atKey k X, hd' with
    | [], _ => simp
    | [_], _ => simp
    | a :: b :: r, hd' =>
      have ha := (mem_atKey' (by rw [hm]; simp : a ∈ atKey k X)).2
      have hb := (mem_atKey' (by rw [hm]; simp : b ∈ atKey k X)).2
      have := (List.pairwise_cons.1 hd').1 b (by simp)
      omega
  match hm : atKey k X, hl with
  | [], _ => rw [hm] at hp; exact (List.nil_perm.1 hp).symm
  | [a], _ => rw [hm] at hp; exact List.singleton_perm.1 hp
  | a :: b :: r, hl => simp at hl
end Go.Proofs.YtpdeffpmfbplnaaDoor
/- What comes first; rows that are exchanged, and turned. -/
namespace Go.Proofs.YtpdeffpmfbplnaaDoor
open Go.ChangeShapes Go.WideShapes Go.ChangeAt Go.RowKit

/-- As cmp has it. -/
def cmpI (x y : Int) : Int := if x < y then -1 else if y < x then 1 else 0
theorem cmpI_neg (x y : Int) : decide (cmpI x y < 0) = decide (x < y) := by
  unfold cmpI
  by_cases h : x < y
  · simp [h]
  · rw [if_neg h]
    by_cases k : y < x
    · simp [k, h]
    · simp [k, h]
set_option maxRecDepth 1000000 in
theorem isNaN_any (x : Int) (w : World) : Calls Tryd.prog 58 #[.int .i64 x] w fun e w' => e = .returned (.bool false) ∧ w' = w := by
  go_enter Tryd.func58, Tryd.ntmps58
  go_wp2
  go_ret
  exact ⟨by simp, rfl⟩
set_option maxRecDepth 1000000 in
theorem compare_any (x y : Int) (w : World) : Calls Tryd.prog 35 #[.int .i64 x, .int .i64 y] w fun e w' => e = .returned (.int .i64 (cmpI x y)) ∧ w' = w := by
  unfold cmpI
  by_cases h : x < y
  · rw [if_pos h]
    go_enter Tryd.func35, Tryd.ntmps35
    go_wp2_with (first | (go_at_call 58; refine (isNaN_any _ _).mono ?_; rintro e w' ⟨rfl, rfl⟩))
    go_ret
    exact ⟨rfl, rfl⟩
  · rw [if_neg h]
    by_cases k : y < x
    · rw [if_pos k]
      go_enter Tryd.func35, Tryd.ntmps35
      go_wp2_with (first | (go_at_call 58; refine (isNaN_any _ _).mono ?_; rintro e w' ⟨rfl, rfl⟩))
      go_ret
      exact ⟨rfl, rfl⟩
    · rw [if_neg k]
      go_enter Tryd.func35, Tryd.ntmps35
      go_wp2_with (first | (go_at_call 58; refine (isNaN_any _ _).mono ?_; rintro e w' ⟨rfl, rfl⟩))
      go_ret
      exact ⟨rfl, rfl⟩
set_option maxRecDepth 1000000 in
/-- The closure by which Sorted asks. -/
theorem cmp_any {w : World} {u v : Value} {l m : List Int} (hu : Row w u (ints l)) (hv : Row w v (ints m)) (hl : l ≠ []) (hm : m ≠ []) :
    Calls Tryd.prog 34 #[u, v] w fun e w' => e = .returned (.int .i64 (cmpI (key l) (key m))) ∧ ∃ q, w' = w.drewN q := by
  have hl0 : 0 < l.length := List.length_pos_iff.2 hl
  have hm0 : 0 < m.length := List.length_pos_iff.2 hm
  obtain ⟨tb, off, cap, rfl, hc, hcm, htb⟩ := row_at (p := 0) hu (by rw [ints_len]; exact hl0)
  obtain ⟨tb2, off2, cap2, rfl, hc2, hcm2, htb2⟩ := row_at (p := 0) hv (by rw [ints_len]; exact hm0)
  rw [ints_len] at hcm hcm2 ⊢
  rw [ints_len]
  rw [ints_at _ _ hl0] at hc
  rw [ints_at _ _ hm0] at hc2
  have k1 : l.getD 0 0 = key l := rfl
  have k2 : m.getD 0 0 = key m := rfl
  rw [k1, Nat.add_zero] at hc
  rw [k2, Nat.add_zero] at hc2
  clear hu hv k1 k2
  generalize key l = x at *
  generalize key m = y at *
  go_enter Tryd.func34, Tryd.ntmps34
  go_wp2_with fail
  go_quiet ((go_at_call 35; exact Calls.quiet_of_same (compare_any _ _ _)))
  go_wp2
  go_ret
  exact ⟨rfl, _, rfl⟩
end Go.Proofs.YtpdeffpmfbplnaaDoor
/- Rows that are exchanged, and turned. -/
namespace Go.Proofs.YtpdeffpmfbplnaaDoor
open Go.ChangeShapes Go.WideShapes Go.ChangeAt Go.RowKit

/-- Two rows exchanged. -/
def swapL (L : List (List Int)) (i j : Nat) : List (List Int) := (L.set i (L.getD j [])).set j (L.getD i [])
theorem swapL_len (L : List (List Int)) (i j : Nat) : (swapL L i j).length = L.length := by simp [swapL]
theorem swap_split (A C D : List (List Int)) (x y : List Int) (i j : Nat) (hi : i = A.length) (hj : j = A.length + 1 + C.length) : swapL (A ++ x :: (C ++ y :: D)) i j = A ++ y :: (C ++ x :: D) := by
  subst hi hj
  have e1 : (A ++ x :: (C ++ y :: D)).getD A.length [] = x := by simp [List.getD_eq_getElem?_getD]
  have e2 : (A ++ x :: (C ++ y :: D)).getD (A.length + 1 + C.length) [] = y := by
    rw [List.getD_eq_getElem?_getD, List.getElem?_append_right (by omega), show A.length + 1 + C.length - A.length = C.length + 1 by omega]
    simp
  unfold swapL
  rw [e1, e2, List.set_append, if_neg (by omega), Nat.sub_self, List.set_cons_zero, List.set_append, if_neg (by omega), show A.length + 1 + C.length - A.length = C.length + 1 by omega, List.set_cons_succ, List.set_append, if_neg (by omega), Nat.sub_self, List.set_cons_zero]
theorem swapL_comm (L : List (List Int)) (i j : Nat) (h : i ≠ j) : swapL L i j = swapL L j i := by
  unfold swapL
  rw [List.set_comm _ _ h]
theorem OwnIn.at {w : World} {B : Nat} : ∀ {vs : List Value} {L : List (List Int)}, OwnIn w B vs L → ∀ i, i < L.length → ∃ v, vs[i]? = some v ∧ w.ownsRow B 3 1 v (L.getD i []).length (ints (L.getD i []))
  | [], [], _, i, h => by simp at h
  | v :: _, l :: _, h, 0, _ => ⟨v, rfl, h.1⟩
  | _ :: vs, _ :: L, h, i + 1, hi => by
    obtain ⟨v, h1, h2⟩ := OwnIn.at h.2 i (by simpa using hi)
    exact ⟨v, by simpa using h1, by simpa using h2⟩
  | [], _ :: _, h, _, _ => h.elim
  | _ :: _, [], h, _, _ => h.elim
theorem ownIn_set {w : World} {B : Nat} {u : Value} {l : List Int} (hu : w.ownsRow B 3 1 u l.length (ints l)) : ∀ {vs : List Value} {L : List (List Int)} (k : Nat), OwnIn w B vs L → OwnIn w B (vs.set k u) (L.set k l)
  | [], [], _, _ => trivial
  | _ :: _, _ :: _, 0, h => ⟨hu, h.2⟩
  | _ :: _, _ :: _, k + 1, h => ⟨h.1, ownIn_set hu k h.2⟩
  | [], _ :: _, _, h => h.elim
  | _ :: _, [], _, h => h.elim
section
variable {w : World} {B g n cap : Nat} {L : List (List Int)}
theorem OwnLL.num (h : OwnLL w B (.slice (some ⟨g, 0, none⟩) n cap) L) : n = L.length := by
  obtain ⟨vs, h1, h2⟩ := h
  obtain ⟨a, c, he⟩ := own_shape h1
  simp at he
  rw [he.2.1, h2.in.len]
theorem OwnLL.free (h : OwnLL w B (.slice (some ⟨g, 0, none⟩) n cap) L) (i : Nat) : w.frozen? ⟨g, i, none⟩ = false := by
  have hn := h.num
  obtain ⟨vs, h1, h2⟩ := h
  have : n = vs.length := by rw [hn, h2.in.len]
  subst this
  exact h1.frozenAt i
theorem OwnLL.gge (h : OwnLL w B (.slice (some ⟨g, 0, none⟩) n cap) L) : B ≤ g ∧ g < w.heap.size := by
  obtain ⟨vs, h1, h2⟩ := h
  exact World.ownsRow.lt h1 g rfl
/-- The row that lies at a place. -/
theorem OwnLL.has (h : OwnLL w B (.slice (some ⟨g, 0, none⟩) n cap) L) (i : Nat) (hi : i < L.length) : ∃ u, w.cell? ⟨g, i, none⟩ = some u ∧ Row w u (ints (L.getD i [])) := by
  have hn := h.num
  obtain ⟨vs, h1, h2⟩ := h
  have : n = vs.length := by rw [hn, h2.in.len]
  subst this
  obtain ⟨u, hu, ho⟩ := h2.at i hi
  exact ⟨u, (h1.cellAt i (by rw [hn]; omega)).trans hu, own_row ho⟩
theorem OwnLL.sl (h : OwnLL w B (.slice (some ⟨g, 0, none⟩) n cap) L) (i : Nat) (hi : i < L.length) : ∃ a m c, w.cell? ⟨g, i, none⟩ = some (.slice a m c) := by
  obtain ⟨u, hu, _, a, c, rfl, _⟩ := h.has i hi
  exact ⟨_, _, _, hu⟩
theorem OwnLL.swapped (h : OwnLL w B (.slice (some ⟨g, 0, none⟩) n cap) L) (i j : Nat) (hi : i < L.length) (hj : j < L.length) (x y : Value) (hx : w.cell? ⟨g, i, none⟩ = some x) (hy : w.cell? ⟨g, j, none⟩ = some y) :
    OwnLL ((w.setCell ⟨g, i, none⟩ y).setCell ⟨g, j, none⟩ x) B (.slice (some ⟨g, 0, none⟩) n cap) (swapL L i j) ∧ Below B w ((w.setCell ⟨g, i, none⟩ y).setCell ⟨g, j, none⟩ x) := by
  have hn := h.num
  have hg := h.gge
  obtain ⟨vs, h1, h2⟩ := h
  have hv : n = vs.length := by rw [hn, h2.in.len]
  subst hv
  obtain ⟨u, hu, ho⟩ := h2.at i hi
  obtain ⟨v, hv, hp⟩ := h2.at j hj
  have e1 : u = x := by
    have := (h1.cellAt i (by rw [hn]; omega)).symm.trans hx
    rw [hu] at this; simpa using this
  have e2 : v = y := by
    have := (h1.cellAt j (by rw [hn]; omega)).symm.trans hy
    rw [hv] at this; simpa using this
  subst e1 e2
  have hb : Below B w ((w.setCell ⟨g, i, none⟩ v).setCell ⟨g, j, none⟩ u) := by
    have b1 : Below B w (w.setCell ⟨g, i, none⟩ v) := (Below.refl _ w).setCell (p := ⟨g, i, none⟩) hg.1 _
    exact b1.setCell (p := ⟨g, j, none⟩) hg.1 _
  refine ⟨?_, hb⟩
  have s1 := h1.stored i v
  have s2 := s1.1.stored j u
  have o2 := ownIn_set (l := L.getD i []) ho j (ownIn_set (l := L.getD j []) hp i h2)
  have hgr := s1.2.trans s2.2
  refine ⟨(vs.set i v).set j u, ?_, o2.kept hgr ?_⟩
  · have := s2.1
    rw [List.length_set, List.length_set]
    exact this
  · intro z hz
    rcases h1.2 with ⟨e, _⟩ | ⟨g', cap', cur, e, _, hgg, _⟩
    · simp at e
    · simp at e
      obtain ⟨rfl, rfl⟩ := e
      exact .inr (o2.ne hgg (by decide) z hz)
end
theorem OwnLL.drew {w : World} {B : Nat} {v : Value} {L : List (List Int)} (h : OwnLL w B v L) (n : Nat) : OwnLL (w.drewN n) B v L := h.below (below_drewN (Below.refl _ w) n)
set_option maxRecDepth 1000000 in
set_option maxHeartbeats 4000000 in
/-- Two ranges of equal length are exchanged. -/
theorem swapRange_any {w : World} {B g n cap : Nat} {fv : Value} (P X M Y S : List (List Int)) (a b m : Nat) (ha : a = P.length) (hb : b = P.length + X.length + M.length) (hm : m = X.length) (hXY : Y.length = X.length)
    (h : OwnLL w B (.slice (some ⟨g, 0, none⟩) n cap) (P ++ (X ++ (M ++ (Y ++ S))))) (hn : n ≤ 1000000) :
    Calls Tryd.prog 88 #[.slice (some ⟨g, 0, none⟩) n cap, .int .i64 a, .int .i64 b, .int .i64 m, fv] w fun e w' => e = .returned (.tuple #[]) ∧ OwnLL w' B (.slice (some ⟨g, 0, none⟩) n cap) (P ++ (Y ++ (M ++ (X ++ S)))) ∧ Below B w w' := by
  have hlen := h.num
  simp only [List.length_append] at hlen
  have H := Lib.hid h
  have HA := Lib.hid ha
  have HB := Lib.hid hb
  have HM := Lib.hid hm
  have HXY := Lib.hid hXY
  have HL := Lib.hid hlen
  clear h ha hb hm hlen hXY
  go_enter Tryd.func88, Tryd.ntmps88
  go_wp2_with fail
  go_loopw [10] (fun i wr => ∃ (k : Nat) (Xt Xr Yt Yr : List (List Int)), k = Xt.length ∧ i = .int .i64 k ∧ X = Xt ++ Xr ∧ Y = Yt ++ Yr ∧ Yt.length = Xt.length ∧ OwnLL wr B (.slice (some ⟨g, 0, none⟩) n cap) (P ++ (Yt ++ (Xr ++ (M ++ (Xt ++ (Yr ++ S)))))) ∧ Below B w wr) (fun i _ => m - (intOf i).toNat)
  case atStart => exact ⟨0, [], X, [], Y, rfl, rfl, rfl, rfl, rfl, H.out, Below.refl _ _⟩
  case round =>
    obtain ⟨k, Xt, Xr, Yt, Yr, hk, rfl, hX, hY, hl, ho, hbw⟩ := hrel
    have HO := Lib.hid ho
    have HBW := Lib.hid hbw
    by_cases hlt : k < m
    · have hlt2 : (k : Int) < (m : Int) := by omega
      have hm2 := HM.out
      have hxy := HXY.out
      have hl2 := HL.out
      have ha2 := HA.out
      have hb2 := HB.out
      obtain ⟨x, Xr, rfl⟩ : ∃ x Z, Xr = x :: Z := by
        cases Xr with
        | nil => rw [hX] at hm2; simp at hm2; omega
        | cons x Z => exact ⟨x, Z, rfl⟩
      obtain ⟨y, Yr, rfl⟩ : ∃ y Z, Yr = y :: Z := by
        cases Yr with
        | nil => rw [hX, hY] at hxy; simp at hxy; omega
        | cons y Z => exact ⟨y, Z, rfl⟩
      obtain ⟨p, hp⟩ : ∃ p, p = a + k := ⟨_, rfl⟩
      obtain ⟨q, hq⟩ : ∃ q, q = b + k := ⟨_, rfl⟩
      have hlx : X.length = Xt.length + 1 + Xr.length := by rw [hX]; simp; omega
      have hly : Y.length = Yt.length + 1 + Yr.length := by rw [hY]; simp; omega
      have hall : (P ++ (Yt ++ (x :: Xr ++ (M ++ (Xt ++ (y :: Yr ++ S)))))).length = n := by simp; omega
      have hkb : k < 1000000 := by omega
      have hpn : p < n := by omega
      have hqn : q < n := by omega
      obtain ⟨ua, ul, uc, hu⟩ := ho.sl p (by omega)
      obtain ⟨va, vl, vc, hv⟩ := ho.sl q (by omega)
      obtain ⟨z, hz⟩ := cell?_setCell_some (w := wr) (p := ⟨g, p, none⟩) (x := .slice va vl vc) (q := ⟨g, q, none⟩) hv
      have f1 := ho.free p
      have f2 := ho.free q
      have HS := Lib.hid (ho.swapped p q (by omega) (by omega) _ _ hu hv)
      have HE := Lib.hid (show swapL (P ++ (Yt ++ (x :: Xr ++ (M ++ (Xt ++ (y :: Yr ++ S)))))) p q = P ++ ((Yt ++ [y]) ++ (Xr ++ (M ++ ((Xt ++ [x]) ++ (Yr ++ S))))) by
        have := swap_split (P ++ Yt) (Xr ++ (M ++ Xt)) (Yr ++ S) x y p q (by simp; omega) (by simp; omega)
        simp only [List.append_assoc, List.cons_append, List.nil_append] at this ⊢
        exact this)
      have e1 : IntKind.i64.wrap ((a : Int) + (k : Int)) = (p : Int) := by rw [IntWalk.i64_in _ (by omega), hp]; simp
      have e2 : IntKind.i64.wrap ((b : Int) + (k : Int)) = (q : Int) := by rw [IntWalk.i64_in _ (by omega), hq]; simp
      have HK := Lib.hid hk
      have HXX := Lib.hid hX
      have HYY := Lib.hid hY
      have HLL := Lib.hid hl
      clear ho hbw hall hlx hly hm2 hxy hl2 ha2 hb2 hp hq hk hX hY hl
      go_wp2_with fail
      go_region
      go_wp2_with fail
      go_roundw
      case rel => exact ⟨k + 1, Xt ++ [x], Xr, Yt ++ [y], Yr, by simp [HK.out], by go_num, by rw [HXX.out]; simp, by rw [HYY.out]; simp, by simp [HLL.out], by
        have := HS.out.1
        rw [HE.out] at this
        exact this.drew 1, (HBW.out.trans HS.out.2).drew⟩
      case measure => simp [intOf]; omega
    · have hlt2 : ¬ (k : Int) < (m : Int) := by omega
      have e1 : Xr = [] := by
        have := HM.out
        rw [hX] at this; simp at this
        exact List.eq_nil_of_length_eq_zero (by omega)
      have e2 : Yr = [] := by
        have := HM.out
        have h2 := HXY.out
        rw [hX, hY] at h2; rw [hX] at this; simp at h2 this
        exact List.eq_nil_of_length_eq_zero (by omega)
      subst e1 e2
      simp only [List.append_nil] at hX hY
      subst hX hY
      clear ho hbw
      go_wp2
      go_end0
      refine ⟨rfl, ?_, HBW.out⟩
      have := HO.out
      simp only [List.nil_append] at this
      exact this
end Go.Proofs.YtpdeffpmfbplnaaDoor
/- Two runs change places. -/
namespace Go.Proofs.YtpdeffpmfbplnaaDoor
open Go.ChangeShapes Go.WideShapes Go.ChangeAt Go.RowKit

set_option maxRecDepth 1000000 in
set_option maxHeartbeats 4000000 in
theorem rotate_any {w : World} {B g n cap : Nat} {fv : Value} (P U V S : List (List Int)) (a m b : Nat) (ha : a = P.length) (hm : m = P.length + U.length) (hb : b = P.length + U.length + V.length) (hU : 0 < U.length) (hV : 0 < V.length)
    (h : OwnLL w B (.slice (some ⟨g, 0, none⟩) n cap) (P ++ (U ++ (V ++ S)))) (hn : n ≤ 1000000) :
    Calls Tryd.prog 83 #[.slice (some ⟨g, 0, none⟩) n cap, .int .i64 a, .int .i64 m, .int .i64 b, fv] w fun e w' => e = .returned (.tuple #[]) ∧ OwnLL w' B (.slice (some ⟨g, 0, none⟩) n cap) (P ++ (V ++ (U ++ S))) ∧ Below B w w' := by
  have hlen := h.num
  simp only [List.length_append] at hlen
  obtain ⟨T, hT⟩ : ∃ T, T = P ++ (V ++ (U ++ S)) := ⟨_, rfl⟩
  rw [← hT]
  have H := Lib.hid h
  have HT := Lib.hid hT
  have HM := Lib.hid hm
  have HL := Lib.hid hlen
  obtain ⟨ul, hul⟩ : ∃ k, k = U.length := ⟨_, rfl⟩
  obtain ⟨vl, hvl⟩ : ∃ k, k = V.length := ⟨_, rfl⟩
  have e1 : IntKind.i64.wrap ((m : Int) - (a : Int)) = (ul : Int) := by rw [IntWalk.i64_in _ (by omega)]; omega
  have e2 : IntKind.i64.wrap ((b : Int) - (m : Int)) = (vl : Int) := by rw [IntWalk.i64_in _ (by omega)]; omega
  have HU := Lib.hid hul
  have HV := Lib.hid hvl
  have hu0 : 0 < ul := by omega
  have hv0 : 0 < vl := by omega
  clear h hT ha hm hb hlen hU hV hul hvl
  go_enter Tryd.func83, Tryd.ntmps83
  go_wp2_with fail
  clear e1 e2
  go_loopw [10, 11] (fun i j wr => ∃ (k l : Nat) (P' U' V' S' : List (List Int)), i = .int .i64 k ∧ j = .int .i64 l ∧ k = U'.length ∧ l = V'.length ∧ 0 < k ∧ 0 < l ∧ m = P'.length + k ∧ P' ++ (V' ++ (U' ++ S')) = T ∧ P'.length + (k + (l + S'.length)) = n ∧ OwnLL wr B (.slice (some ⟨g, 0, none⟩) n cap) (P' ++ (U' ++ (V' ++ S'))) ∧ Below B w wr) (fun i j _ => (intOf i).toNat + (intOf j).toNat)
  case atStart => exact ⟨ul, vl, P, U, V, S, rfl, rfl, HU.out, HV.out, hu0, hv0, by rw [HU.out]; exact HM.out, HT.out.symm, by have := HL.out; have := HU.out; have := HV.out; omega, H.out, Below.refl _ _⟩
  case round =>
    obtain ⟨k, l, P', U', V', S', rfl, rfl, hk, hl, hk0, hl0, hmm, hTT, hnn, ho, hbw⟩ := hrel
    have HO := Lib.hid ho
    have HBW := Lib.hid hbw
    have HTT := Lib.hid hTT
    have HNN := Lib.hid hnn
    have hkb : k < 1000000 := by omega
    have hlb : l < 1000000 := by omega
    clear ho hbw hTT hnn
    obtain ⟨p, hp⟩ : ∃ p, p = P'.length := ⟨_, rfl⟩
    have hmp : m = p + k := by omega
    have HP := Lib.hid hp
    have HMP := Lib.hid hmp
    have HK := Lib.hid hk
    have HLv := Lib.hid hl
    have e1 : IntKind.i64.wrap ((m : Int) - (k : Int)) = (p : Int) := by rw [IntWalk.i64_in _ (by have := HNN.out; have := HMP.out; have := HP.out; omega)]; omega
    clear hp hk hl hmm hmp
    by_cases hkl : k = l
    · subst hkl
      have HS := Lib.hid (swapRange_any (w := wr) (fv := fv) P' U' [] V' S' p m k HP.out (by have := HP.out; have := HK.out; have := HMP.out; simp; omega) HK.out (by rw [← HK.out, ← HLv.out]) (by simpa using HO.out) hn)
      go_wp2_with fail
      refine HS.out.mono ?_
      rintro e w2 ⟨rfl, ho2, hb2⟩
      have HO2 := Lib.hid ho2
      have HB2 := Lib.hid hb2
      clear ho2 hb2
      go_wp2_with fail
      go_end0
      exact ⟨rfl, by rw [← HTT.out]; simpa using HO2.out, HBW.out.trans HB2.out⟩
    · have hkl2 : ¬ (k : Int) = (l : Int) := by omega
      by_cases hgt : l < k
      · have hgt2 : (l : Int) < (k : Int) := by omega
        obtain ⟨U1, U2, hU12, hU1⟩ : ∃ U1 U2, U' = U1 ++ U2 ∧ U1.length = l := ⟨U'.take l, U'.drop l, (List.take_append_drop _ _).symm, by have := HK.out; rw [List.length_take]; omega⟩
        have hl2 : U2.length = k - l := by have := HK.out; rw [hU12] at this; simp at this; omega
        have HS := Lib.hid (swapRange_any (w := wr) (fv := fv) P' U1 U2 V' S' p m l HP.out (by have := HP.out; have := HMP.out; omega) hU1.symm (by rw [hU1, ← HLv.out]) (by have := HO.out; rw [hU12] at this; simpa using this) hn)
        have HU12 := Lib.hid hU12
        have HU1 := Lib.hid hU1
        have HU2 := Lib.hid hl2
        clear hU12 hU1 hl2
        go_wp2_with fail
        refine HS.out.mono ?_
        rintro e w2 ⟨rfl, ho2, hb2⟩
        have HO2 := Lib.hid ho2
        have HB2 := Lib.hid (HBW.out.trans hb2)
        clear ho2 hb2 HS
        have e3 : IntKind.i64.wrap ((k : Int) - (l : Int)) = ((k - l : Nat) : Int) := by rw [IntWalk.i64_in _ (by omega)]; omega
        obtain ⟨kl, hkl3⟩ : ∃ x, x = k - l := ⟨_, rfl⟩
        rw [← hkl3] at e3
        have HKL := Lib.hid hkl3
        clear hkl3
        go_wp2_with fail
        go_roundw
        case rel => exact ⟨kl, l, P' ++ V', U2, U1, S', rfl, rfl, by rw [HU2.out]; exact HKL.out, HU1.out.symm, by have := HKL.out; omega, hl0, by have := HKL.out; have := HMP.out; have := HP.out; have := HLv.out; rw [List.length_append]; omega, by
          have := HTT.out
          rw [HU12.out] at this
          simpa using this, by have := HKL.out; have := HNN.out; have := HLv.out; rw [List.length_append]; omega, by have := HO2.out; simpa using this, HB2.out⟩
        case measure => simp [intOf]; have := HKL.out; omega
      · have hgt2 : ¬ (l : Int) < (k : Int) := by omega
        obtain ⟨V1, V2, hV12, hV2⟩ : ∃ V1 V2, V' = V1 ++ V2 ∧ V2.length = k := ⟨V'.take (l - k), V'.drop (l - k), (List.take_append_drop _ _).symm, by have := HLv.out; rw [List.length_drop]; omega⟩
        have hl2 : V1.length = l - k := by have := HLv.out; rw [hV12] at this; simp at this; omega
        obtain ⟨q, hq⟩ : ∃ q, q = p + l := ⟨_, rfl⟩
        have HS := Lib.hid (swapRange_any (w := wr) (fv := fv) P' U' V1 V2 S' p q k HP.out (by have := HP.out; have := HK.out; have := HMP.out; omega) HK.out (by rw [hV2, ← HK.out]) (by have := HO.out; rw [hV12] at this; simpa using this) hn)
        have HV12 := Lib.hid hV12
        have HV2 := Lib.hid hV2
        have HV1 := Lib.hid hl2
        have e4 : IntKind.i64.wrap ((m : Int) + (l : Int)) = (m : Int) + (l : Int) := IntWalk.i64_in _ (by have := HNN.out; have := HMP.out; have := HP.out; omega)
        have e5 : IntKind.i64.wrap ((m : Int) + (l : Int) - (k : Int)) = (q : Int) := by rw [IntWalk.i64_in _ (by have := HNN.out; have := HMP.out; have := HP.out; omega)]; have := HMP.out; omega
        clear hV12 hV2 hl2 hq
        go_wp2_with fail
        refine HS.out.mono ?_
        rintro e w2 ⟨rfl, ho2, hb2⟩
        have HO2 := Lib.hid ho2
        have HB2 := Lib.hid (HBW.out.trans hb2)
        clear ho2 hb2 HS e4 e5
        have e3 : IntKind.i64.wrap ((l : Int) - (k : Int)) = ((l - k : Nat) : Int) := by rw [IntWalk.i64_in _ (by omega)]; omega
        obtain ⟨lk, hlk⟩ : ∃ x, x = l - k := ⟨_, rfl⟩
        rw [← hlk] at e3
        have HLK := Lib.hid hlk
        clear hlk
        go_wp2_with fail
        go_roundw
        case rel => exact ⟨k, lk, P', V2, V1, U' ++ S', rfl, rfl, HV2.out.symm, by rw [HV1.out]; exact HLK.out, hk0, by have := HLK.out; omega, by have := HMP.out; have := HP.out; omega, by
          have := HTT.out
          rw [HV12.out] at this
          simpa using this, by have := HLK.out; have := HNN.out; have := HK.out; rw [List.length_append]; omega, by have := HO2.out; simpa using this, HB2.out⟩
        case measure => simp [intOf]; have := HLK.out; omega
end Go.Proofs.YtpdeffpmfbplnaaDoor
/- The insertion of rows, one by one. -/
namespace Go.Proofs.YtpdeffpmfbplnaaDoor
open Go.ChangeShapes Go.WideShapes Go.ChangeAt Go.RowKit

/-- No row is empty. -/
def Full (L : List (List Int)) : Prop := ∀ l ∈ L, l ≠ []
theorem Full.at {L : List (List Int)} (h : Full L) {i : Nat} (hi : i < L.length) : L.getD i [] ≠ [] := by
  rw [List.getD_eq_getElem?_getD, List.getElem?_eq_getElem hi]
  exact h _ (List.getElem_mem hi)
/-- The closure at two places of rows that a call has made. -/
theorem OwnLL.cmp {w : World} {B g n cap : Nat} {L : List (List Int)} (h : OwnLL w B (.slice (some ⟨g, 0, none⟩) n cap) L) (hf : Full L) (i j : Nat) (hi : i < L.length) (hj : j < L.length) (u v : Value) (hu : w.cell? ⟨g, i, none⟩ = some u) (hv : w.cell? ⟨g, j, none⟩ = some v) :
    ∀ m, Calls Tryd.prog 34 #[u, v] (w.drewN m) fun e w' => e = .returned (.int .i64 (cmpI (key (L.getD i [])) (key (L.getD j [])))) ∧ ∃ q, w' = (w.drewN m).drewN q := by
  intro m
  obtain ⟨u', hu', ru⟩ := h.has i hi
  obtain ⟨v', hv', rv⟩ := h.has j hj
  obtain rfl : u' = u := by rw [hu] at hu'; simpa using hu'.symm
  obtain rfl : v' = v := by rw [hv] at hv'; simpa using hv'.symm
  exact cmp_any (ru.below (below_drewN (Below.refl _ w) m)) (rv.below (below_drewN (Below.refl _ w) m)) (hf.at hi) (hf.at hj)
theorem getD_mid (A C : List (List Int)) (x : List Int) (i : Nat) (hi : i = A.length) : (A ++ x :: C).getD i [] = x := by
  subst hi; simp [List.getD_eq_getElem?_getD]
theorem own_fv : (34 : Nat) = 34 := rfl
set_option maxRecDepth 1000000 in
set_option maxHeartbeats 4000000 in
theorem insertion_any {w : World} {B g n cap : Nat} (P X S : List (List Int)) (a b : Nat) (ha : a = P.length) (hb : b = P.length + X.length) (hf : Full (P ++ (X ++ S)))
    (h : OwnLL w B (.slice (some ⟨g, 0, none⟩) n cap) (P ++ (X ++ S))) (hn : n ≤ 1000000) :
    Calls Tryd.prog 76 #[.slice (some ⟨g, 0, none⟩) n cap, .int .i64 a, .int .i64 b, .func (.func 34) #[] #[]] w fun e w' => e = .returned (.tuple #[]) ∧ (∃ Y, Stab X Y ∧ OwnLL w' B (.slice (some ⟨g, 0, none⟩) n cap) (P ++ (Y ++ S))) ∧ Below B w w' := by
  have hlen := h.num
  simp only [List.length_append] at hlen
  have HF := Lib.hid hf
  have HA := Lib.hid ha
  have HB := Lib.hid hb
  have HL := Lib.hid hlen
  have H := Lib.hid h
  have hbn : b ≤ 1000000 := by omega
  have hab : a ≤ b := by omega
  -- nothing at all is in order
  have e0 : IntKind.i64.wrap ((a : Int) + 1) = ((a + 1 : Nat) : Int) := by rw [IntWalk.i64_in _ (by omega)]; simp
  obtain ⟨a1, ha1⟩ : ∃ x, x = a + 1 := ⟨_, rfl⟩
  rw [← ha1] at e0
  have HA1 := Lib.hid ha1
  clear h hf ha hb hlen ha1
  go_enter Tryd.func76, Tryd.ntmps76
  go_wp2_with fail
  clear e0
  go_loopw [8] (fun i wr => ∃ (k : Nat) (X1 X2 Y : List (List Int)), i = .int .i64 k ∧ X = X1 ++ X2 ∧ ((k = a + X1.length ∧ 1 ≤ k ∧ k ≤ b) ∨ (X = [] ∧ k = a + 1)) ∧ k ≤ b + 1 ∧ Stab X1 Y ∧ OwnLL wr B (.slice (some ⟨g, 0, none⟩) n cap) (P ++ (Y ++ (X2 ++ S))) ∧ Below B w wr) (fun i _ => b + 2 - (intOf i).toNat)
  case atStart =>
    cases hX : X with
    | nil => exact ⟨a1, [], [], [], rfl, rfl, .inr ⟨rfl, HA1.out⟩, by have := HA1.out; omega, stab_nil, by have := H.out; rw [hX] at this; simpa using this, Below.refl _ _⟩
    | cons x X => exact ⟨a1, [x], X, [x], rfl, rfl, .inl ⟨HA1.out, by have := HA1.out; omega, by have := HB.out; have := HA.out; have := HA1.out; rw [hX] at *; simp at *; omega⟩, by have := HA1.out; omega, stab_one x, by have := H.out; rw [hX] at this; simpa using this, Below.refl _ _⟩
  case round =>
    obtain ⟨k, X1, X2, Y, rfl, hX, hk, hkb, hst, ho, hbw⟩ := hrel
    have HO := Lib.hid ho
    have HBW := Lib.hid hbw
    have HST := Lib.hid hst
    have HX := Lib.hid hX
    have HK := Lib.hid hk
    have hk0 : k ≤ 1000001 := by omega
    clear ho hbw hst hX hk
    by_cases hlt : k < b
    · obtain ⟨hk, hk1, hkb2⟩ : k = a + X1.length ∧ 1 ≤ k ∧ k ≤ b := by
        rcases HK.out with h | ⟨h, h2⟩
        · exact h
        · have := HB.out; have := HA.out; rw [h] at *; simp at *; omega
      obtain ⟨x, X2, rfl⟩ : ∃ x Z, X2 = x :: Z := by
        cases X2 with
        | nil => have := HX.out; have := HB.out; have := HA.out; rw [HX.out] at *; simp at *; omega
        | cons x Z => exact ⟨x, Z, rfl⟩
      have HK1 := Lib.hid hk
      obtain ⟨wo, hwo⟩ : ∃ wo, wo = wr := ⟨_, rfl⟩
      subst hwo
      clear hk
      go_wp2_with fail
      go_loopw [9] (fun jv wr => ∃ (j : Nat) (Y1 Y2 : List (List Int)), jv = .int .i64 j ∧ Y = Y1 ++ Y2 ∧ j = a + Y1.length ∧ (∀ y ∈ Y2, key x < key y) ∧ OwnLL wr B (.slice (some ⟨g, 0, none⟩) n cap) (P ++ (Y1 ++ x :: (Y2 ++ (X2 ++ S)))) ∧ Below B w wr) (fun j _ => (intOf j).toNat)
      case atStart => exact ⟨k, Y, [], rfl, by simp, by have := HST.out.len; have := HK1.out; omega, by simp, by have := HO.out; simpa using this, HBW.out⟩
      case round =>
        obtain ⟨j, Y1, Y2, rfl, hY, hj, hbig, ho, hbw⟩ := hrel
        have HO := Lib.hid ho
        have HBW := Lib.hid hbw
        have HY := Lib.hid hY
        have HJ := Lib.hid hj
        have HG := Lib.hid hbig
        have hPY : (P ++ (Y1 ++ x :: (Y2 ++ (X2 ++ S)))).length = n := by have := HO.out.num; exact this.symm
        have hyl : Y.length = X1.length := HST.out.len
        have hFF : Full (P ++ (Y1 ++ x :: (Y2 ++ (X2 ++ S)))) := by
          intro l hl
          refine HF.out l ?_
          have hm := fun z => HST.out.mem z
          rw [HX.out]
          rw [HY.out] at hm
          simp only [List.mem_append, List.mem_cons] at hl hm ⊢
          rcases hl with h | h | h | h | h | h
          · exact .inl h
          · exact .inr (.inl (.inl ((hm l).1 (.inl h))))
          · exact .inr (.inl (.inr (.inl h)))
          · exact .inr (.inl (.inl ((hm l).1 (.inr h))))
          · exact .inr (.inl (.inr (.inr h)))
          · exact .inr (.inr h)
        have hj0 : j ≤ 1000000 := by have := HA.out; simp at hPY; omega
        have HST2 := Lib.hid (show (∀ y ∈ Y1, key y ≤ key x) → Stab (X1 ++ [x]) (Y1 ++ x :: Y2) from fun hh => stab_snoc (by rw [← HY.out]; exact HST.out) hh HG.out)
        by_cases hja : a < j
        · obtain ⟨Z, y, rfl⟩ : ∃ Z y, Y1 = Z ++ [y] := by
            rcases List.eq_nil_or_concat Y1 with h | ⟨Z, y, h⟩
            · subst h; simp at hj; omega
            · exact ⟨Z, y, by simpa using h⟩
          obtain ⟨jp, hjp⟩ : ∃ jp, jp = a + Z.length := ⟨_, rfl⟩
          have hjj : j = jp + 1 := by simp at hj; omega
          have hP : P.length = a := HA.out.symm
          have hl : (P ++ (Z ++ [y] ++ x :: (Y2 ++ (X2 ++ S)))) = (P ++ Z) ++ y :: ([] ++ x :: (Y2 ++ (X2 ++ S))) := by simp
          have hjn : j < n := by simp at hPY hj; omega
          have hjpn : jp < n := by omega
          have gx : (P ++ (Z ++ [y] ++ x :: (Y2 ++ (X2 ++ S)))).getD j [] = x := by
            rw [show (P ++ (Z ++ [y] ++ x :: (Y2 ++ (X2 ++ S)))) = (P ++ Z ++ [y]) ++ x :: (Y2 ++ (X2 ++ S)) by simp]
            exact getD_mid _ _ _ _ (by simp; omega)
          have gy : (P ++ (Z ++ [y] ++ x :: (Y2 ++ (X2 ++ S)))).getD jp [] = y := by
            rw [hl]
            exact getD_mid _ _ _ _ (by simp; omega)
          obtain ⟨ua, ul, uc, hu⟩ := ho.sl j (by omega)
          obtain ⟨va, vl, vc, hv⟩ := ho.sl jp (by omega)
          have hc := ho.cmp hFF j jp (by omega) (by omega) _ _ hu hv
          rw [gx, gy] at hc
          have hdec := cmpI_neg (key x) (key y)
          have HLL := Lib.hid (show j < (P ++ (Z ++ [y] ++ x :: (Y2 ++ (X2 ++ S)))).length ∧ jp < (P ++ (Z ++ [y] ++ x :: (Y2 ++ (X2 ++ S)))).length from ⟨by omega, by omega⟩)
          have HE := Lib.hid (show swapL (P ++ (Z ++ [y] ++ x :: (Y2 ++ (X2 ++ S)))) j jp = P ++ (Z ++ x :: ((y :: Y2) ++ (X2 ++ S))) by
            rw [swapL_comm _ _ _ (by omega), hl, swap_split (P ++ Z) [] (Y2 ++ (X2 ++ S)) y x jp j (by simp; omega) (by simp; omega)]
            simp)
          have e1 : IntKind.i64.wrap ((j : Int) - 1) = (jp : Int) := by rw [IntWalk.i64_in _ (by omega)]; omega
          have HJJ := Lib.hid hjj
          have HJP := Lib.hid hjp
          have hja2 : (a : Int) < (j : Int) := by omega
          have HC := Lib.hid hc
          generalize cmpI (key x) (key y) = c at *
          clear ho hbw hY hj hbig hPY hyl hFF hl gx gy hjj hjp hP hc
          have hc2 := HC.out
          by_cases hc0 : c < 0
          · have hxy : key x < key y := by simpa [hc0] using hdec
            have HXY := Lib.hid hxy
            clear hdec hxy
            go_wp2_with fail
            go_quiet ((go_at_call 34; exact Calls.quiet_of (hc2 _)))
            have hu2 : (wr.drewN nq).cell? ⟨g, j, none⟩ = some (.slice ua ul uc) := hu
            have hv2 : (wr.drewN nq).cell? ⟨g, jp, none⟩ = some (.slice va vl vc) := hv
            have HO2 := Lib.hid (HO.out.drew nq)
            have HB2 := Lib.hid (below_drewN HBW.out nq)
            clear hu hv hc2 HC
            generalize wr.drewN nq = w2 at *
            have HS := Lib.hid (HO2.out.swapped j jp HLL.out.1 HLL.out.2 _ _ hu2 hv2)
            obtain ⟨z, hz⟩ := cell?_setCell_some (w := w2) (p := ⟨g, j, none⟩) (x := .slice va vl vc) (q := ⟨g, jp, none⟩) hv2
            have f1 := HO2.out.free j
            have f2 := HO2.out.free jp
            go_wp2_with fail
            go_region
            go_wp2_with fail
            go_roundw
            case rel => exact ⟨jp, Z, y :: Y2, rfl, by rw [HY.out]; simp, HJP.out, by
              intro z hz
              simp only [List.mem_cons] at hz
              rcases hz with rfl | hz
              · exact HXY.out
              · exact HG.out z hz, by
              have := HS.out.1
              rw [HE.out] at this
              exact this.drew 1, (HB2.out.trans HS.out.2).drew⟩
            case measure => simp [intOf]; have := HJJ.out; omega
          · have hxy : ¬ key x < key y := by simpa [hc0] using hdec
            have HXY := Lib.hid hxy
            clear hdec hxy
            go_wp2_with fail
            go_quiet ((go_at_call 34; exact Calls.quiet_of (hc2 _)))
            have HO2 := Lib.hid (HO.out.drew nq)
            have HB2 := Lib.hid (below_drewN HBW.out nq)
            clear hu hv hc2 HC
            generalize wr.drewN nq = w2 at *
            have HY1 := Lib.hid (show Stab (X1 ++ [x]) (Z ++ [y] ++ x :: Y2) from HST2.out (by
              have hs : SortedK (Z ++ [y]) := by
                have := HST.out.1
                rw [HY.out] at this
                exact (List.pairwise_append.1 this).1
              intro z hz
              simp only [List.mem_append, List.mem_singleton] at hz
              have hxy := HXY.out
              rcases hz with hz | rfl
              · have := (List.pairwise_append.1 hs).2.2 z hz y (by simp)
                omega
              · omega))
            go_wp2_with fail
            go_roundw
            case rel => exact ⟨k + 1, X1 ++ [x], X2, Z ++ [y] ++ x :: Y2, by go_num, by rw [HX.out]; simp, .inl ⟨by have := HK1.out; simp; omega, by omega, by omega⟩, by omega, HY1.out, by have := HO2.out; simpa using this, HB2.out⟩
            case measure => simp [intOf]; omega
        · have hja2 : ¬ (a : Int) < (j : Int) := by omega
          obtain rfl : Y1 = [] := List.eq_nil_of_length_eq_zero (by omega)
          have HY1 := Lib.hid (show Stab (X1 ++ [x]) (x :: Y2) from HST2.out (by simp))
          clear ho hbw hY hj hbig hPY hyl hFF
          go_wp2_with fail
          go_quiet (fail)
          have HO2 := Lib.hid (HO.out.drew nq)
          have HB2 := Lib.hid (below_drewN HBW.out nq)
          generalize wr.drewN nq = w2 at *
          go_wp2_with fail
          go_roundw
          case rel => exact ⟨k + 1, X1 ++ [x], X2, x :: Y2, by go_num, by rw [HX.out]; simp, .inl ⟨by have := HK1.out; simp; omega, by omega, by omega⟩, by omega, HY1.out, by have := HO2.out; simpa using this, HB2.out⟩
          case measure => simp [intOf]; omega
    · have e1 : X2 = [] := by
        have h1 := HB.out
        have h2 := HA.out
        have h3 := HX.out
        have h4 : X.length = X1.length + X2.length := by rw [h3]; simp
        rcases HK.out with h | ⟨h, _⟩
        · exact List.eq_nil_of_length_eq_zero (by omega)
        · rw [h] at h4; simp at h4; exact List.eq_nil_of_length_eq_zero (by omega)
      subst e1
      have HXX := Lib.hid (show X1 = X by have := HX.out; simpa using this.symm)
      have hlt2 : ¬ (k : Int) < (b : Int) := by omega
      go_wp2
      go_end0
      exact ⟨rfl, ⟨Y, by rw [← HXX.out]; exact HST.out, by have := HO.out; simpa using this⟩, HBW.out⟩
end Go.Proofs.YtpdeffpmfbplnaaDoor
/- Two runs are merged, one of which is one row. -/
namespace Go.Proofs.YtpdeffpmfbplnaaDoor
open Go.ChangeShapes Go.WideShapes Go.ChangeAt Go.RowKit

theorem split_at (D : List (List Int)) (t : Nat) (ht : t < D.length) : D = D.take t ++ D.getD t [] :: D.drop (t + 1) := by
  rw [List.getD_eq_getElem?_getD, List.getElem?_eq_getElem ht]
  simp
theorem sorted_upto {D : List (List Int)} (h : SortedK D) (t : Nat) (ht : t < D.length) : ∀ z ∈ D.take (t + 1), key z ≤ key (D.getD t []) := by
  intro z hz
  have e := split_at D t ht
  have h2 := h
  rw [SortedK, e] at h2
  rw [List.take_add_one, List.getElem?_eq_getElem ht] at hz
  simp only [List.mem_append, Option.toList_some, List.mem_singleton] at hz
  rcases hz with hz | rfl
  · exact (List.pairwise_append.1 h2).2.2 z hz _ (by simp)
  · rw [List.getD_eq_getElem?_getD, List.getElem?_eq_getElem ht]; simp
theorem sorted_from {D : List (List Int)} (h : SortedK D) (t : Nat) (ht : t < D.length) : ∀ z ∈ D.drop t, key (D.getD t []) ≤ key z := by
  intro z hz
  have e := split_at D t ht
  have h2 := h
  rw [SortedK, e] at h2
  have h3 := (List.pairwise_cons.1 (List.pairwise_append.1 h2).2.1).1
  rw [List.drop_eq_getElem_cons ht] at hz
  simp only [List.mem_cons] at hz
  rcases hz with rfl | hz
  · rw [List.getD_eq_getElem?_getD, List.getElem?_eq_getElem ht]; simp
  · exact h3 z hz
theorem SortedK.take {D : List (List Int)} (h : SortedK D) (t : Nat) : SortedK (D.take t) := List.Pairwise.sublist (List.take_sublist t D) h
theorem SortedK.drop {D : List (List Int)} (h : SortedK D) (t : Nat) : SortedK (D.drop t) := List.Pairwise.sublist (List.drop_sublist t D) h
/-- Behind a search by halves: what is ahead, what behind. -/
theorem below_at {D : List (List Int)} (h : SortedK D) {s : Nat} {c : Int} (hs : s ≤ D.length) (hb : s = 0 ∨ key (D.getD (s - 1) []) < c) : ∀ z ∈ D.take s, key z < c := by
  intro z hz
  rcases hb with rfl | hb
  · simp at hz
  · cases s with
    | zero => simp at hz
    | succ t =>
      have := sorted_upto h t (by omega) z hz
      simp at hb; rw [List.getD_eq_getElem?_getD] at this; omega
theorem upto_at {D : List (List Int)} (h : SortedK D) {s : Nat} {c : Int} (hs : s ≤ D.length) (hb : s = 0 ∨ key (D.getD (s - 1) []) ≤ c) : ∀ z ∈ D.take s, key z ≤ c := fun z hz => by
  have := below_at (c := c + 1) h hs (hb.imp id (fun h => by omega)) z hz
  omega
theorem from_at {D : List (List Int)} (h : SortedK D) {s : Nat} {c : Int} (hs : s ≤ D.length) (hb : s = D.length ∨ c ≤ key (D.getD s [])) : ∀ z ∈ D.drop s, c ≤ key z := by
  intro z hz
  rcases hb with rfl | hb
  · simp at hz
  · by_cases hl : s < D.length
    · have := sorted_from h s hl z hz
      omega
    · rw [List.drop_eq_nil_of_le (by omega)] at hz; simp at hz
theorem above_at {D : List (List Int)} (h : SortedK D) {s : Nat} {c : Int} (hs : s ≤ D.length) (hb : s = D.length ∨ c < key (D.getD s [])) : ∀ z ∈ D.drop s, c < key z := fun z hz => by
  have := from_at (c := c + 1) h hs (hb.imp id (fun h => by omega)) z hz
  omega
/-- One row ahead of a run goes behind all that is below it. -/
theorem stab_front {x : List Int} {D : List (List Int)} (h : SortedK D) {s : Nat} (hs : s ≤ D.length) (h1 : s = 0 ∨ key (D.getD (s - 1) []) < key x) (h2 : s = D.length ∨ key x ≤ key (D.getD s [])) : Stab ([x] ++ D) (D.take s ++ x :: D.drop s) := by
  have a1 := below_at h hs h1
  have a2 := from_at h hs h2
  have := stab_merge (A1 := []) (A2 := [x]) (B1 := D.take s) (B2 := D.drop s) (Y1 := D.take s) (Y2 := x :: D.drop s) (stab_self (h.take s))
    (stab_self (List.pairwise_cons.2 ⟨a2, h.drop s⟩)) (by simp) (fun y hy z hz => by have := a1 y hy; have := a2 z hz; omega) (by simp) (fun y hy z hz => by simp at hz; subst hz; exact a1 y hy)
  simpa using this
theorem stab_behind {y : List Int} {A : List (List Int)} (h : SortedK A) {s : Nat} (hs : s ≤ A.length) (h1 : s = 0 ∨ key (A.getD (s - 1) []) ≤ key y) (h2 : s = A.length ∨ key y < key (A.getD s [])) : Stab (A ++ [y]) (A.take s ++ y :: A.drop s) := by
  have a1 := upto_at h hs h1
  have a2 := above_at h hs h2
  exact stab_snoc (by rw [List.take_append_drop]; exact stab_self h) a1 a2
theorem getD_in (P D S : List (List Int)) (t i : Nat) (ht : t < D.length) (hi : i = P.length + t) : (P ++ (D ++ S)).getD i [] = D.getD t [] := by
  subst hi
  rw [List.getD_eq_getElem?_getD, List.getD_eq_getElem?_getD, List.getElem?_append_right (by omega), show P.length + t - P.length = t by omega, List.getElem?_append_left ht]

set_option maxRecDepth 1000000 in
set_option maxHeartbeats 4000000 in
theorem symMerge_front {w : World} {B g n cap : Nat} (P D S : List (List Int)) (x : List Int) (a m b : Nat) (ha : a = P.length) (hm : m = a + 1) (hb : b = m + D.length) (hf : Full (P ++ ([x] ++ (D ++ S)))) (hs : SortedK D)
    (h : OwnLL w B (.slice (some ⟨g, 0, none⟩) n cap) (P ++ ([x] ++ (D ++ S)))) (hn : n ≤ 1000000) :
    Calls Tryd.prog 77 #[.slice (some ⟨g, 0, none⟩) n cap, .int .i64 a, .int .i64 m, .int .i64 b, .func (.func 34) #[] #[]] w fun e w' => e = .returned (.tuple #[]) ∧ (∃ Y, Stab ([x] ++ D) Y ∧ OwnLL w' B (.slice (some ⟨g, 0, none⟩) n cap) (P ++ (Y ++ S))) ∧ Below B w w' := by
  have hlen := h.num
  simp only [List.length_append, List.length_singleton] at hlen
  have H := Lib.hid h
  have HF := Lib.hid hf
  have HS := Lib.hid hs
  have HA := Lib.hid ha
  have HM := Lib.hid hm
  have HB := Lib.hid hb
  have HL := Lib.hid hlen
  have e1 : IntKind.i64.wrap ((m : Int) - (a : Int)) = 1 := by rw [IntWalk.i64_in _ (by omega)]; omega
  have hmn : m ≤ n := by omega
  have hbn : b ≤ n := by omega
  clear h hf hs ha hm hb hlen
  go_enter Tryd.func77, Tryd.ntmps77
  go_wp2_with fail
  go_loopw [10, 11] (fun i j wr => ∃ (s r : Nat), i = .int .i64 ((m + s : Nat) : Int) ∧ j = .int .i64 ((m + r : Nat) : Int) ∧ s ≤ r ∧ r ≤ D.length ∧ (s = 0 ∨ key (D.getD (s - 1) []) < key x) ∧ (r = D.length ∨ key x ≤ key (D.getD r [])) ∧ OwnLL wr B (.slice (some ⟨g, 0, none⟩) n cap) (P ++ ([x] ++ (D ++ S))) ∧ Below B w wr) (fun i j _ => (intOf j).toNat - (intOf i).toNat)
  case atStart => exact ⟨0, D.length, by simp, by rw [HB.out], by omega, Nat.le_refl _, .inl rfl, .inl rfl, H.out, Below.refl _ _⟩
  case round =>
    obtain ⟨s, r, rfl, rfl, hsr, hr, h1, h2, ho, hbw⟩ := hrel
    have HO := Lib.hid ho
    have HBW := Lib.hid hbw
    have H1 := Lib.hid h1
    have H2 := Lib.hid h2
    have hrl : m + r ≤ b := by have := HB.out; omega
    obtain ⟨i, hi⟩ : ∃ i, i = m + s := ⟨_, rfl⟩
    obtain ⟨j, hj⟩ : ∃ j, j = m + r := ⟨_, rfl⟩
    rw [← hi, ← hj]
    have HI := Lib.hid hi
    have HJ := Lib.hid hj
    have hij : i ≤ n ∧ j ≤ n := by omega
    have HLen := Lib.hid (show (P ++ ([x] ++ (D ++ S))).length = n from ho.num.symm)
    by_cases hlt : i < j
    · obtain ⟨c, hc⟩ : ∃ c, c = (i + j) / 2 := ⟨_, rfl⟩
      obtain ⟨t, ht⟩ : ∃ t, t = c - m := ⟨_, rfl⟩
      have HT := Lib.hid (show t < r ∧ s ≤ t ∧ c = m + t by omega)
      have hcn : c < n := by omega
      have hcj : c < j := by omega
      have hic : i ≤ c := by omega
      have e2 : IntKind.i64.wrap ((i : Int) + (j : Int)) = (i : Int) + (j : Int) := IntWalk.i64_in _ (by omega)
      have e3 : ((i : Int) + (j : Int)) / 2 = (c : Int) := by omega
      have han : a < n := by have := HM.out; omega
      obtain ⟨ua, ul, uc, hu⟩ := ho.sl c (by rw [HLen.out]; exact hcn)
      obtain ⟨va, vl, vc, hv⟩ := ho.sl a (by rw [HLen.out]; exact han)
      have hk := ho.cmp HF.out c a (by rw [HLen.out]; exact hcn) (by rw [HLen.out]; exact han) _ _ hu hv
      have g1 : (P ++ ([x] ++ (D ++ S))).getD a [] = x := getD_mid _ _ _ _ HA.out
      have g2 : (P ++ ([x] ++ (D ++ S))).getD c [] = D.getD t [] := by
        rw [show P ++ ([x] ++ (D ++ S)) = (P ++ [x]) ++ (D ++ S) by simp]
        exact getD_in _ _ _ t c (by have := HT.out; omega) (by have := HT.out; have := HM.out; have := HA.out; simp; omega)
      rw [g1, g2] at hk
      have hdec := cmpI_neg (key (D.getD t [])) (key x)
      generalize cmpI (key (D.getD t [])) (key x) = q at *
      clear ho hbw h1 h2 hi hj hc ht hij g1 g2
      by_cases hq : q < 0
      · have HXY := Lib.hid (show key (D.getD t []) < key x by simpa [hq] using hdec)
        clear hdec
        go_wp2_with fail
        go_quiet ((go_at_call 34; exact Calls.quiet_of (hk _)))
        have HO2 := Lib.hid (HO.out.drew nq)
        have HB2 := Lib.hid (below_drewN HBW.out nq)
        clear hu hv hk
        generalize wr.drewN nq = w2 at *
        go_wp2_with fail
        go_roundw
        case rel => exact ⟨t + 1, r, by have := HT.out; rw [show m + (t + 1) = c + 1 by omega]; go_num, by rw [← HJ.out], by have := HT.out; omega, hr, .inr HXY.out, H2.out, HO2.out, HB2.out⟩
        case measure => simp [intOf]; omega
      · have HXY := Lib.hid (show ¬ key (D.getD t []) < key x by simpa [hq] using hdec)
        clear hdec
        go_wp2_with fail
        go_quiet ((go_at_call 34; exact Calls.quiet_of (hk _)))
        have HO2 := Lib.hid (HO.out.drew nq)
        have HB2 := Lib.hid (below_drewN HBW.out nq)
        clear hu hv hk
        generalize wr.drewN nq = w2 at *
        go_wp2_with fail
        go_roundw
        case rel => exact ⟨s, t, by rw [← HI.out], by have := HT.out; rw [← this.2.2], by have := HT.out; omega, by have := HT.out; omega, H1.out, .inr (by have := HXY.out; omega), HO2.out, HB2.out⟩
        case measure => simp [intOf]; omega
    · obtain rfl : s = r := by omega
      have HST := Lib.hid (stab_front HS.out hr h1 h2)
      obtain ⟨q, hq⟩ : ∃ q, q = a + s := ⟨_, rfl⟩
      have hiq : i = q + 1 := by have := HM.out; omega
      have e2 : IntKind.i64.wrap ((i : Int) - 1) = (q : Int) := by rw [IntWalk.i64_in _ (by omega)]; omega
      have hji : j = i := by omega
      have hqn : q < n := by omega
      obtain ⟨D1, D2, hD, hD1, hD2⟩ : ∃ D1 D2, D = D1 ++ D2 ∧ D1 = D.take s ∧ D2 = D.drop s := ⟨_, _, (List.take_append_drop s D).symm, rfl, rfl⟩
      rw [← hD1, ← hD2] at HST
      have HD := Lib.hid hD
      have HDL := Lib.hid (show D1.length = s by rw [hD1, List.length_take]; omega)
      have HQ := Lib.hid hq
      clear ho hbw h1 h2 hi hj hij hD hD1 hD2 hq hiq hlt
      subst hji
      go_wp2_with fail
      clear e2
      go_loopw [13] (fun kv wr => ∃ (k : Nat) (Dt Dr : List (List Int)), kv = .int .i64 k ∧ D1 = Dt ++ Dr ∧ k = a + Dt.length ∧ OwnLL wr B (.slice (some ⟨g, 0, none⟩) n cap) (P ++ (Dt ++ x :: (Dr ++ (D2 ++ S)))) ∧ Below B w wr) (fun k _ => n - (intOf k).toNat)
      case atStart => exact ⟨a, [], D1, rfl, rfl, rfl, by have := HO.out; rw [HD.out] at this; simpa using this, HBW.out⟩
      case round =>
        obtain ⟨k, Dt, Dr, rfl, hDD, hk, ho, hbw⟩ := hrel
        have HO := Lib.hid ho
        have HBW := Lib.hid hbw
        have HDD := Lib.hid hDD
        have HK := Lib.hid hk
        have hlen2 : D1.length = Dt.length + Dr.length := by rw [hDD]; simp
        have hkq : k ≤ q := by have := HDL.out; have := HQ.out; omega
        have e2 : IntKind.i64.wrap ((j : Int) - 1) = (q : Int) := by have := HJ.out; have := HM.out; have := HQ.out; rw [IntWalk.i64_in _ (by omega)]; omega
        by_cases hlt : k < q
        · obtain ⟨y, Dr, rfl⟩ : ∃ y Z, Dr = y :: Z := by
            cases Dr with
            | nil => have := HDL.out; have := HQ.out; simp at hlen2; omega
            | cons y Z => exact ⟨y, Z, rfl⟩
          obtain ⟨k1, hk1⟩ : ∃ k1, k1 = k + 1 := ⟨_, rfl⟩
          have hPA : a = P.length := HA.out
          have hall : (P ++ (Dt ++ x :: (y :: Dr ++ (D2 ++ S)))).length = n := ho.num.symm
          have hk1n : k1 < n := by omega
          have hkn : k < n := by omega
          obtain ⟨ua, ul, uc, hu⟩ := ho.sl k (by omega)
          obtain ⟨va, vl, vc, hv⟩ := ho.sl k1 (by omega)
          obtain ⟨z, hz⟩ := cell?_setCell_some (w := wr) (p := ⟨g, k, none⟩) (x := .slice va vl vc) (q := ⟨g, k1, none⟩) hv
          have f1 := ho.free k
          have f2 := ho.free k1
          have HSW := Lib.hid (ho.swapped k k1 (by omega) (by omega) _ _ hu hv)
          have HE := Lib.hid (show swapL (P ++ (Dt ++ x :: (y :: Dr ++ (D2 ++ S)))) k k1 = P ++ ((Dt ++ [y]) ++ x :: (Dr ++ (D2 ++ S))) by
            have := swap_split (P ++ Dt) [] (Dr ++ (D2 ++ S)) x y k k1 (by simp; omega) (by simp; omega)
            simp only [List.append_assoc, List.cons_append, List.nil_append] at this ⊢
            exact this)
          have e4 : IntKind.i64.wrap ((k : Int) + 1) = (k1 : Int) := by rw [IntWalk.i64_in _ (by omega)]; omega
          have HK1 := Lib.hid hk1
          have hk1l : k < k1 := by omega
          clear ho hbw hDD hk hlen2 hk1 hPA hall
          go_wp2_with fail
          go_region
          go_wp2_with fail
          go_roundw
          case rel => exact ⟨k1, Dt ++ [y], Dr, rfl, by rw [HDD.out]; simp, by have := HK1.out; have := HK.out; simp; omega, by
            have := HSW.out.1
            rw [HE.out] at this
            exact this.drew 1, (HBW.out.trans HSW.out.2).drew⟩
          case measure => simp [intOf]; omega
        · have hlt2 : ¬ (k : Int) < (q : Int) := by omega
          obtain rfl : Dr = [] := List.eq_nil_of_length_eq_zero (by have := HDL.out; have := HQ.out; omega)
          have HDD2 := Lib.hid (show D1 = Dt by have := HDD.out; simpa using this)
          clear ho hbw hDD hk hlen2
          go_wp2
          (try simp only [Exit.inBlock, Exit.then]); refine bodyPost_ret (results_none rfl _ _ _) rfl ?_
          exact ⟨rfl, ⟨_, HST.out, by have := HO.out; rw [HDD2.out]; simpa using this⟩, HBW.out⟩
end Go.Proofs.YtpdeffpmfbplnaaDoor
/- Two runs are merged, the second of which is one row. -/
namespace Go.Proofs.YtpdeffpmfbplnaaDoor
open Go.ChangeShapes Go.WideShapes Go.ChangeAt Go.RowKit

set_option maxRecDepth 1000000 in
set_option maxHeartbeats 4000000 in
theorem symMerge_behind {w : World} {B g n cap : Nat} (P A S : List (List Int)) (y : List Int) (a m b : Nat) (ha : a = P.length) (hm : m = a + A.length) (hb : b = m + 1) (hA2 : 2 ≤ A.length) (hf : Full (P ++ (A ++ y :: S))) (hs : SortedK A)
    (h : OwnLL w B (.slice (some ⟨g, 0, none⟩) n cap) (P ++ (A ++ y :: S))) (hn : n ≤ 1000000) :
    Calls Tryd.prog 77 #[.slice (some ⟨g, 0, none⟩) n cap, .int .i64 a, .int .i64 m, .int .i64 b, .func (.func 34) #[] #[]] w fun e w' => e = .returned (.tuple #[]) ∧ (∃ Y, Stab (A ++ [y]) Y ∧ OwnLL w' B (.slice (some ⟨g, 0, none⟩) n cap) (P ++ (Y ++ S))) ∧ Below B w w' := by
  have hlen := h.num
  simp only [List.length_append, List.length_cons] at hlen
  have H := Lib.hid h
  have HF := Lib.hid hf
  have HS := Lib.hid hs
  have HA := Lib.hid ha
  have HM := Lib.hid hm
  have HB := Lib.hid hb
  have HL := Lib.hid hlen
  obtain ⟨al, hal⟩ : ∃ al, al = A.length := ⟨_, rfl⟩
  have e1 : IntKind.i64.wrap ((m : Int) - (a : Int)) = (al : Int) := by rw [IntWalk.i64_in _ (by omega)]; omega
  have e0 : ((al : Int) == 1) = false := by simp; omega
  have e2 : IntKind.i64.wrap ((b : Int) - (m : Int)) = 1 := by rw [IntWalk.i64_in _ (by omega)]; omega
  have hmn : m < n := by omega
  have hbn : b ≤ n := by omega
  have ham : a ≤ m := by omega
  clear h hf hs ha hm hb hlen hal
  go_enter Tryd.func77, Tryd.ntmps77
  go_wp2_with fail
  clear e1 e0 e2
  go_loopw [14, 15] (fun i j wr => ∃ (s r : Nat), i = .int .i64 ((a + s : Nat) : Int) ∧ j = .int .i64 ((a + r : Nat) : Int) ∧ s ≤ r ∧ r ≤ A.length ∧ (s = 0 ∨ key (A.getD (s - 1) []) ≤ key y) ∧ (r = A.length ∨ key y < key (A.getD r [])) ∧ OwnLL wr B (.slice (some ⟨g, 0, none⟩) n cap) (P ++ (A ++ y :: S)) ∧ Below B w wr) (fun i j _ => (intOf j).toNat - (intOf i).toNat)
  case atStart => exact ⟨0, A.length, by simp, by rw [HM.out], by omega, Nat.le_refl _, .inl rfl, .inl rfl, H.out, Below.refl _ _⟩
  case round =>
    obtain ⟨s, r, rfl, rfl, hsr, hr, h1, h2, ho, hbw⟩ := hrel
    have HO := Lib.hid ho
    have HBW := Lib.hid hbw
    have H1 := Lib.hid h1
    have H2 := Lib.hid h2
    have hrl : a + r ≤ m := by have := HM.out; omega
    obtain ⟨i, hi⟩ : ∃ i, i = a + s := ⟨_, rfl⟩
    obtain ⟨j, hj⟩ : ∃ j, j = a + r := ⟨_, rfl⟩
    rw [← hi, ← hj]
    have HI := Lib.hid hi
    have HJ := Lib.hid hj
    have hij : i ≤ n ∧ j ≤ n := by omega
    have HLen := Lib.hid (show (P ++ (A ++ y :: S)).length = n from ho.num.symm)
    by_cases hlt : i < j
    · obtain ⟨c, hc⟩ : ∃ c, c = (i + j) / 2 := ⟨_, rfl⟩
      obtain ⟨t, ht⟩ : ∃ t, t = c - a := ⟨_, rfl⟩
      have HT := Lib.hid (show t < r ∧ s ≤ t ∧ c = a + t by omega)
      have hcn : c < n := by omega
      have hcj : c < j := by omega
      have hic : i ≤ c := by omega
      have e2 : IntKind.i64.wrap ((i : Int) + (j : Int)) = (i : Int) + (j : Int) := IntWalk.i64_in _ (by omega)
      have e3 : ((i : Int) + (j : Int)) / 2 = (c : Int) := by omega
      obtain ⟨ua, ul, uc, hu⟩ := ho.sl m (by rw [HLen.out]; exact hmn)
      obtain ⟨va, vl, vc, hv⟩ := ho.sl c (by rw [HLen.out]; exact hcn)
      have hk := ho.cmp HF.out m c (by rw [HLen.out]; exact hmn) (by rw [HLen.out]; exact hcn) _ _ hu hv
      have g1 : (P ++ (A ++ y :: S)).getD m [] = y := by
        rw [← List.append_assoc]
        exact getD_mid _ _ _ _ (by have := HA.out; have := HM.out; simp; omega)
      have g2 : (P ++ (A ++ y :: S)).getD c [] = A.getD t [] := getD_in _ _ _ t c (by have := HT.out; omega) (by have := HT.out; have := HA.out; omega)
      rw [g1, g2] at hk
      have hdec := cmpI_neg (key y) (key (A.getD t []))
      generalize cmpI (key y) (key (A.getD t [])) = q at *
      clear ho hbw h1 h2 hi hj hc ht hij g1 g2
      by_cases hq : q < 0
      · have HXY := Lib.hid (show key y < key (A.getD t []) by simpa [hq] using hdec)
        clear hdec
        go_wp2_with fail
        go_quiet ((go_at_call 34; exact Calls.quiet_of (hk _)))
        have HO2 := Lib.hid (HO.out.drew nq)
        have HB2 := Lib.hid (below_drewN HBW.out nq)
        clear hu hv hk
        generalize wr.drewN nq = w2 at *
        go_wp2_with fail
        go_roundw
        case rel => exact ⟨s, t, by rw [← HI.out], by have := HT.out; rw [← this.2.2], by have := HT.out; omega, by have := HT.out; omega, H1.out, .inr HXY.out, HO2.out, HB2.out⟩
        case measure => simp [intOf]; omega
      · have hq2 : 0 ≤ q := by omega
        have hq3 : decide (q < 0) = false := by simpa using hq2
        have hq4 : decide (0 ≤ q) = true := by simpa using hq2
        have HXY := Lib.hid (show ¬ key y < key (A.getD t []) by simpa [hq] using hdec)
        clear hdec
        go_wp2_with fail
        go_quiet ((go_at_call 34; exact Calls.quiet_of (hk _)))
        have HO2 := Lib.hid (HO.out.drew nq)
        have HB2 := Lib.hid (below_drewN HBW.out nq)
        clear hu hv hk
        generalize wr.drewN nq = w2 at *
        go_wp2_with fail
        go_roundw
        case rel => exact ⟨t + 1, r, by have := HT.out; rw [show a + (t + 1) = c + 1 by omega]; go_num, by rw [← HJ.out], by have := HT.out; omega, hr, .inr (by have := HXY.out; simp only [Nat.add_sub_cancel]; omega), H2.out, HO2.out, HB2.out⟩
        case measure => simp [intOf]; omega
    · obtain rfl : s = r := by omega
      have HST := Lib.hid (stab_behind HS.out hr h1 h2)
      have hji : j = i := by omega
      obtain ⟨A1, A2, hD, hD1, hD2⟩ : ∃ A1 A2, A = A1 ++ A2 ∧ A1 = A.take s ∧ A2 = A.drop s := ⟨_, _, (List.take_append_drop s A).symm, rfl, rfl⟩
      rw [← hD1, ← hD2] at HST
      have HD := Lib.hid hD
      have HDL := Lib.hid (show A1.length = s by rw [hD1, List.length_take]; omega)
      clear ho hbw h1 h2 hi hj hij hD hD1 hD2 hlt
      subst hji
      go_wp2_with fail
      go_loopw [17] (fun kv wr => ∃ (k : Nat) (At Ar : List (List Int)), kv = .int .i64 k ∧ A2 = At ++ Ar ∧ k = a + (A1.length + At.length) ∧ OwnLL wr B (.slice (some ⟨g, 0, none⟩) n cap) (P ++ (A1 ++ (At ++ y :: (Ar ++ S)))) ∧ Below B w wr) (fun k _ => (intOf k).toNat)
      case atStart => exact ⟨m, A2, [], rfl, by simp, by have := HM.out; have h2 := HD.out; rw [h2] at this; simpa using this, by have := HO.out; rw [HD.out] at this; simpa using this, HBW.out⟩
      case round =>
        obtain ⟨k, At, Ar, rfl, hDD, hk, ho, hbw⟩ := hrel
        have HO := Lib.hid ho
        have HBW := Lib.hid hbw
        have HDD := Lib.hid hDD
        have HK := Lib.hid hk
        have hjs : j = a + A1.length := by have := HDL.out; have := HJ.out; omega
        have hall : (P ++ (A1 ++ (At ++ y :: (Ar ++ S)))).length = n := ho.num.symm
        by_cases hlt : j < k
        · obtain ⟨Z, z0, rfl⟩ : ∃ Z z, At = Z ++ [z] := by
            rcases List.eq_nil_or_concat At with h | ⟨Z, y, h⟩
            · subst h; simp at hk; omega
            · exact ⟨Z, y, by simpa using h⟩
          obtain ⟨kp, hkp⟩ : ∃ kp, kp = a + (A1.length + Z.length) := ⟨_, rfl⟩
          have hkk : k = kp + 1 := by simp at hk; omega
          have hPA : a = P.length := HA.out
          have hkn : k < n := by simp at hall hk; omega
          have hkpn : kp < n := by omega
          obtain ⟨ua, ul, uc, hu⟩ := ho.sl k (by omega)
          obtain ⟨va, vl, vc, hv⟩ := ho.sl kp (by omega)
          obtain ⟨z, hz⟩ := cell?_setCell_some (w := wr) (p := ⟨g, k, none⟩) (x := .slice va vl vc) (q := ⟨g, kp, none⟩) hv
          have f1 := ho.free k
          have f2 := ho.free kp
          have HSW := Lib.hid (ho.swapped k kp (by omega) (by omega) _ _ hu hv)
          have HE := Lib.hid (show swapL (P ++ (A1 ++ (Z ++ [z0] ++ y :: (Ar ++ S)))) k kp = P ++ (A1 ++ (Z ++ y :: ((z0 :: Ar) ++ S))) by
            have := swap_split (P ++ (A1 ++ Z)) [] (Ar ++ S) z0 y kp k (by simp; omega) (by simp; omega)
            rw [swapL_comm _ _ _ (by omega)]
            simp only [List.append_assoc, List.cons_append, List.nil_append] at this ⊢
            exact this)
          have e4 : IntKind.i64.wrap ((k : Int) - 1) = (kp : Int) := by rw [IntWalk.i64_in _ (by omega)]; omega
          have HK1 := Lib.hid hkk
          have HKP := Lib.hid hkp
          clear ho hbw hDD hk hkk hkp hPA hall hjs
          go_wp2_with fail
          go_region
          go_wp2_with fail
          go_roundw
          case rel => exact ⟨kp, Z, z0 :: Ar, rfl, by rw [HDD.out]; simp, HKP.out, by
            have := HSW.out.1
            rw [HE.out] at this
            exact this.drew 1, (HBW.out.trans HSW.out.2).drew⟩
          case measure => simp [intOf]; have := HK1.out; omega
        · have hlt2 : ¬ (j : Int) < (k : Int) := by omega
          obtain rfl : At = [] := List.eq_nil_of_length_eq_zero (by omega)
          have HDD2 := Lib.hid (show A2 = Ar by have := HDD.out; simpa using this)
          clear ho hbw hDD hk hall hjs
          go_wp2
          (try simp only [Exit.inBlock, Exit.then]); refine bodyPost_ret (results_none rfl _ _ _) rfl ?_
          exact ⟨rfl, ⟨_, HST.out, by have := HO.out; rw [HDD2.out]; simpa using this⟩, HBW.out⟩
end Go.Proofs.YtpdeffpmfbplnaaDoor
/- Two runs are merged. -/
namespace Go.Proofs.YtpdeffpmfbplnaaDoor
open Go.ChangeShapes Go.WideShapes Go.ChangeAt Go.RowKit

theorem getD_le {D : List (List Int)} (h : SortedK D) {i j : Nat} (hij : i ≤ j) (hj : j < D.length) : key (D.getD i []) ≤ key (D.getD j []) := by
  refine sorted_upto h j hj _ ?_
  rw [List.getD_eq_getElem?_getD, List.getElem?_eq_getElem (by omega)]
  simp only [Option.getD_some]
  rw [List.mem_take_iff_getElem]
  exact ⟨i, by omega, rfl⟩
/-- Where two runs are cut so that what comes first of both is ahead. -/
theorem sym_cut {P A D S : List (List Int)} {a m b s e nn md : Nat} (ha : a = P.length) (hm : m = a + A.length) (hb : b = m + D.length) (hA : SortedK A) (hD : SortedK D) (h1 : a ≤ s) (h2 : s ≤ m) (h3 : m ≤ e) (h4 : e ≤ b) (hn : nn = md + m) (he : e + s = nn)
    (c1 : s = a ∨ e = b ∨ key ((P ++ (A ++ (D ++ S))).getD (s - 1) []) ≤ key ((P ++ (A ++ (D ++ S))).getD e [])) (c2 : s = m ∨ e = m ∨ key ((P ++ (A ++ (D ++ S))).getD (e - 1) []) < key ((P ++ (A ++ (D ++ S))).getD s [])) :
    ∃ A1 A2 D1 D2, A = A1 ++ A2 ∧ D = D1 ++ D2 ∧ s = a + A1.length ∧ m = s + A2.length ∧ md = s + D1.length ∧ e = md + A2.length ∧ b = e + D2.length ∧ SortedK A1 ∧ SortedK A2 ∧ SortedK D1 ∧ SortedK D2 ∧
      (∀ x ∈ A1, ∀ y ∈ A2, key x ≤ key y) ∧ (∀ x ∈ D1, ∀ y ∈ D2, key x ≤ key y) ∧ (∀ x ∈ A1, ∀ y ∈ D2, key x ≤ key y) ∧ ∀ x ∈ D1, ∀ y ∈ A2, key x < key y := by
  have l1 : (A.take (s - a)).length = s - a := by rw [List.length_take]; omega
  have l2 : (D.take (e - m)).length = e - m := by rw [List.length_take]; omega
  have pA := hA
  have pD := hD
  rw [SortedK, ← List.take_append_drop (s - a) A] at pA
  rw [SortedK, ← List.take_append_drop (e - m) D] at pD
  have gA : ∀ i, a ≤ i → i < m → (P ++ (A ++ (D ++ S))).getD i [] = A.getD (i - a) [] := fun i h5 h6 => getD_in _ _ _ _ _ (by omega) (by omega)
  have gD : ∀ i, m ≤ i → i < b → (P ++ (A ++ (D ++ S))).getD i [] = D.getD (i - m) [] := fun i h5 h6 => by
    rw [← List.append_assoc]
    exact getD_in _ _ _ _ _ (by omega) (by simp; omega)
  refine ⟨A.take (s - a), A.drop (s - a), D.take (e - m), D.drop (e - m), (List.take_append_drop _ _).symm, (List.take_append_drop _ _).symm, by omega, by rw [List.length_drop]; omega, by omega, by rw [List.length_drop]; omega, by rw [List.length_drop]; omega,
    hA.take _, hA.drop _, hD.take _, hD.drop _, (List.pairwise_append.1 pA).2.2, (List.pairwise_append.1 pD).2.2, fun x hx y hy => ?_, fun x hx y hy => ?_⟩
  · rcases c1 with h | h | h
    · rw [h] at hx; simp at hx
    · rw [List.drop_eq_nil_of_le (by omega)] at hy; simp at hy
    · by_cases hs : s = a
      · rw [hs] at hx; simp at hx
      · by_cases hq : e = b
        · rw [List.drop_eq_nil_of_le (by omega)] at hy; simp at hy
        · rw [gA (s - 1) (by omega) (by omega), gD e (by omega) (by omega)] at h
          have x1 := sorted_upto hA (s - 1 - a) (by omega) x (by rw [show s - 1 - a + 1 = s - a by omega]; exact hx)
          have y1 := sorted_from hD (e - m) (by omega) y hy
          omega
  · rcases c2 with h | h | h
    · rw [List.drop_eq_nil_of_le (by omega)] at hy; simp at hy
    · rw [h] at hx; simp at hx
    · by_cases hs : s = m
      · rw [List.drop_eq_nil_of_le (by omega)] at hy; simp at hy
      · by_cases hq : e = m
        · rw [hq] at hx; simp at hx
        · rw [gD (e - 1) (by omega) (by omega), gA s (by omega) (by omega)] at h
          have x1 := sorted_upto hD (e - 1 - m) (by omega) x (by rw [show e - 1 - m + 1 = e - m by omega]; exact hx)
          have y1 := sorted_from hA (s - a) (by omega) y hy
          omega

/-- What a merge of two runs promises. -/
def Merges (B g n cap N : Nat) : Prop := ∀ (w : World) (P A D S : List (List Int)) (a m b : Nat), A.length + D.length < N → a = P.length → m = a + A.length → b = m + D.length → 0 < A.length → 0 < D.length → Full (P ++ (A ++ (D ++ S))) → SortedK A → SortedK D →
    OwnLL w B (.slice (some ⟨g, 0, none⟩) n cap) (P ++ (A ++ (D ++ S))) →
    Calls Tryd.prog 77 #[.slice (some ⟨g, 0, none⟩) n cap, .int .i64 a, .int .i64 m, .int .i64 b, .func (.func 34) #[] #[]] w fun e w' => e = .returned (.tuple #[]) ∧ (∃ Y, Stab (A ++ D) Y ∧ OwnLL w' B (.slice (some ⟨g, 0, none⟩) n cap) (P ++ (Y ++ S))) ∧ Below B w w'

set_option maxRecDepth 1000000 in
set_option maxHeartbeats 8000000 in
theorem symMerge_split {w : World} {B g n cap : Nat} (P A D S : List (List Int)) (a m b : Nat) (IH : Merges B g n cap (A.length + D.length)) (ha : a = P.length) (hm : m = a + A.length) (hb : b = m + D.length) (hA2 : 2 ≤ A.length) (hD2 : 2 ≤ D.length) (hf : Full (P ++ (A ++ (D ++ S)))) (hsA : SortedK A) (hsD : SortedK D)
    (h : OwnLL w B (.slice (some ⟨g, 0, none⟩) n cap) (P ++ (A ++ (D ++ S)))) (hn : n ≤ 1000000) :
    Calls Tryd.prog 77 #[.slice (some ⟨g, 0, none⟩) n cap, .int .i64 a, .int .i64 m, .int .i64 b, .func (.func 34) #[] #[]] w fun e w' => e = .returned (.tuple #[]) ∧ (∃ Y, Stab (A ++ D) Y ∧ OwnLL w' B (.slice (some ⟨g, 0, none⟩) n cap) (P ++ (Y ++ S))) ∧ Below B w w' := by
  have hlen := h.num
  have HLen := Lib.hid hlen
  simp only [List.length_append] at hlen
  have H := Lib.hid h
  have HF := Lib.hid hf
  have HSA := Lib.hid hsA
  have HSD := Lib.hid hsD
  have HA := Lib.hid ha
  have HM := Lib.hid hm
  have HB := Lib.hid hb
  have HI := Lib.hid IH
  have HL := Lib.hid hlen
  obtain ⟨al, hal⟩ : ∃ al, al = A.length := ⟨_, rfl⟩
  obtain ⟨dl, hdl⟩ : ∃ dl, dl = D.length := ⟨_, rfl⟩
  obtain ⟨md, hmd⟩ : ∃ md, md = (a + b) / 2 := ⟨_, rfl⟩
  obtain ⟨nn, hnn⟩ : ∃ nn, nn = md + m := ⟨_, rfl⟩
  obtain ⟨pp, hpp⟩ : ∃ pp, pp = nn - 1 := ⟨_, rfl⟩
  have e1 : IntKind.i64.wrap ((m : Int) - (a : Int)) = (al : Int) := by rw [IntWalk.i64_in _ (by omega)]; omega
  have e0 : ((al : Int) == 1) = false := by simp; omega
  have e2 : IntKind.i64.wrap ((b : Int) - (m : Int)) = (dl : Int) := by rw [IntWalk.i64_in _ (by omega)]; omega
  have e3 : ((dl : Int) == 1) = false := by simp; omega
  have e4 : IntKind.i64.wrap ((a : Int) + (b : Int)) = (a : Int) + (b : Int) := IntWalk.i64_in _ (by omega)
  have e5 : ((a : Int) + (b : Int)) / 2 = (md : Int) := by omega
  have e6 : IntKind.i64.wrap ((md : Int) + (m : Int)) = (nn : Int) := by rw [IntWalk.i64_in _ (by omega)]; omega
  have e7 : IntKind.i64.wrap ((nn : Int) - 1) = (pp : Int) := by rw [IntWalk.i64_in _ (by omega)]; omega
  have hbn : b ≤ n := by omega
  have hord : a < md ∧ md < b ∧ a < m ∧ m < b := by omega
  have HN := Lib.hid hnn
  have HPP := Lib.hid hpp
  -- where the search goes
  obtain ⟨lo, hi, hlh⟩ : ∃ lo hi, (md < m → lo + b = nn ∧ hi = md) ∧ (¬ md < m → lo = a ∧ hi = m) ∧ a ≤ lo ∧ lo ≤ hi ∧ hi ≤ m ∧ hi ≤ md ∧ nn ≤ lo + b ∧ (lo = a ∨ lo + b = nn) ∧ (hi = m ∨ hi = md) := by
    by_cases hq : md < m
    · exact ⟨nn - b, md, fun _ => ⟨by omega, rfl⟩, fun h => absurd hq h, by omega, by omega, by omega, by omega, by omega, by omega, by omega⟩
    · exact ⟨a, m, fun h => absurd h hq, fun _ => ⟨rfl, rfl⟩, by omega, by omega, by omega, by omega, by omega, by omega, by omega⟩
  have HLH := Lib.hid hlh
  clear h hf hsA hsD ha hm hb hlen hal hdl hmd hnn hpp IH hlh
  go_enter Tryd.func77, Tryd.ntmps77
  go_upto_if 140 with fail
  clear e1 e0 e2 e3 e4 e5 e6
  go_cut [20, 21] from 138 (fun v1 v2 wx => v1 = .int .i64 lo ∧ v2 = .int .i64 hi ∧ wx = w)
  case first =>
    by_cases hq : md < m
    · have hq2 : (md : Int) < (m : Int) := by omega
      have hd := decide_eq_true hq2
      have hd1 := decide_eq_true hq
      have e8 : IntKind.i64.wrap ((nn : Int) - (b : Int)) = (lo : Int) := by have := HLH.out.1 hq; have := HN.out; rw [IntWalk.i64_in _ (by omega)]; omega
      go_wp2_with fail
      go_meet
      case rel => exact ⟨rfl, by rw [(HLH.out.1 hq).2], rfl⟩
    · have hq2 : ¬ (md : Int) < (m : Int) := by omega
      have hd := decide_eq_false hq2
      have hd1 := decide_eq_false hq
      go_wp2_with fail
      go_meet
      case rel => exact ⟨by rw [(HLH.out.2.1 hq).1], by rw [(HLH.out.2.1 hq).2], rfl⟩
  case rest =>
    obtain ⟨rfl, rfl, rfl⟩ := hcut
    obtain ⟨w0, hw0⟩ : ∃ w0, w0 = wc := ⟨_, rfl⟩
    subst hw0
    have HR := Lib.hid HLH.out.2.2
    clear HLH
    go_wp2_with fail
    clear e7
    go_loopw [20, 21] (fun i j wr => ∃ (s r : Nat), i = .int .i64 (s : Int) ∧ j = .int .i64 (r : Int) ∧ lo ≤ s ∧ s ≤ r ∧ r ≤ hi ∧ (s = lo ∨ key ((P ++ (A ++ (D ++ S))).getD (s - 1) []) ≤ key ((P ++ (A ++ (D ++ S))).getD (nn - s) [])) ∧ (r = hi ∨ key ((P ++ (A ++ (D ++ S))).getD (nn - r - 1) []) < key ((P ++ (A ++ (D ++ S))).getD r [])) ∧ OwnLL wr B (.slice (some ⟨g, 0, none⟩) n cap) (P ++ (A ++ (D ++ S))) ∧ Below B w0 wr) (fun i j _ => (intOf j).toNat - (intOf i).toNat)
    case atStart => exact ⟨lo, hi, rfl, rfl, Nat.le_refl _, HR.out.2.1, Nat.le_refl _, .inl rfl, .inl rfl, H.out, Below.refl _ _⟩
    case round =>
      obtain ⟨s, r, rfl, rfl, hls, hsr, hrh, h1, h2, ho, hbw⟩ := hrel
      have HO := Lib.hid ho
      have HBW := Lib.hid hbw
      have H1 := Lib.hid h1
      have H2 := Lib.hid h2
      by_cases hlt : s < r
      · obtain ⟨c, hc⟩ : ∃ c, c = (s + r) / 2 := ⟨_, rfl⟩
        obtain ⟨pc, hpc⟩ : ∃ pc, pc = pp - c := ⟨_, rfl⟩
        have hR := HR.out
        have hN := HN.out
        have hP := HPP.out
        have hcr : c < r := by omega
        have hsc : s ≤ c := by omega
        have hcm : c < n := by omega
        have hpn : pc < n := by omega
        have HPC := Lib.hid (show nn - (c + 1) = pc ∧ nn - c - 1 = pc by omega)
        have e2 : IntKind.i64.wrap ((s : Int) + (r : Int)) = (s : Int) + (r : Int) := IntWalk.i64_in _ (by omega)
        have e3 : ((s : Int) + (r : Int)) / 2 = (c : Int) := by omega
        have e4 : IntKind.i64.wrap ((pp : Int) - (c : Int)) = (pc : Int) := by rw [IntWalk.i64_in _ (by omega)]; omega
        obtain ⟨ua, ul, uc, hu⟩ := ho.sl pc (by rw [← HLen.out]; exact hpn)
        obtain ⟨va, vl, vc, hv⟩ := ho.sl c (by rw [← HLen.out]; exact hcm)
        have hk := ho.cmp HF.out pc c (by rw [← HLen.out]; exact hpn) (by rw [← HLen.out]; exact hcm) _ _ hu hv
        have hdec := cmpI_neg (key ((P ++ (A ++ (D ++ S))).getD pc [])) (key ((P ++ (A ++ (D ++ S))).getD c []))
        generalize cmpI (key ((P ++ (A ++ (D ++ S))).getD pc [])) (key ((P ++ (A ++ (D ++ S))).getD c [])) = q at *
        have hrb : r < 9223372036854775807 := by omega
        clear ho hbw h1 h2 hc hpc hR hN hP
        by_cases hq : q < 0
        · have HXY := Lib.hid (show key ((P ++ (A ++ (D ++ S))).getD pc []) < key ((P ++ (A ++ (D ++ S))).getD c []) by simpa [hq] using hdec)
          clear hdec
          go_wp2_with fail
          go_quiet ((go_at_call 34; exact Calls.quiet_of (hk _)))
          have HO2 := Lib.hid (HO.out.drew nq)
          have HB2 := Lib.hid (below_drewN HBW.out nq)
          clear hu hv hk
          generalize wr.drewN nq = w2 at *
          go_wp2_with fail
          go_roundw
          case rel => exact ⟨s, c, rfl, rfl, hls, hsc, by omega, H1.out, .inr (by rw [HPC.out.2]; exact HXY.out), HO2.out, HB2.out⟩
          case measure => simp [intOf]; omega
        · have HXY := Lib.hid (show ¬ key ((P ++ (A ++ (D ++ S))).getD pc []) < key ((P ++ (A ++ (D ++ S))).getD c []) by simpa [hq] using hdec)
          have hq2 : 0 ≤ q := by omega
          have hq3 : decide (q < 0) = false := by simpa using hq2
          have hq4 : decide (0 ≤ q) = true := by simpa using hq2
          clear hdec
          go_wp2_with fail
          go_quiet ((go_at_call 34; exact Calls.quiet_of (hk _)))
          have HO2 := Lib.hid (HO.out.drew nq)
          have HB2 := Lib.hid (below_drewN HBW.out nq)
          clear hu hv hk
          generalize wr.drewN nq = w2 at *
          go_wp2_with fail
          go_roundw
          case rel => exact ⟨c + 1, r, by go_num, rfl, by omega, by omega, hrh, .inr (by rw [HPC.out.1, Nat.add_sub_cancel]; have := HXY.out; omega), H2.out, HO2.out, HB2.out⟩
          case measure => simp [intOf]; omega
      · obtain rfl : s = r := by omega
        have hR := HR.out
        have hN := HN.out
        obtain ⟨e, he⟩ : ∃ e, e = nn - s := ⟨_, rfl⟩
        have e2 : IntKind.i64.wrap ((nn : Int) - (s : Int)) = (e : Int) := by rw [IntWalk.i64_in _ (by omega)]; omega
        obtain ⟨A1, A2, D1, D2, hA12, hD12, l1, l2, l3, l4, l5, s1, s2, s3, s4, o1, o2, o3, o4⟩ := sym_cut (P := P) (A := A) (D := D) (S := S) (e := e) HA.out HM.out HB.out HSA.out HSD.out (by omega : a ≤ s) (by omega) (by omega) (by omega) hN (by omega)
          (by
            rcases h1 with h | h
            · rcases hR.2.2.2.2.2.1 with h' | h'
              · exact .inl (by omega)
              · exact .inr (.inl (by omega))
            · rw [he]; exact .inr (.inr h))
          (by
            rcases h2 with h | h
            · rcases hR.2.2.2.2.2.2 with h' | h'
              · exact .inl (by omega)
              · exact .inr (.inl (by omega))
            · rw [he]; exact .inr (.inr h))
        have HAA := Lib.hid hA12
        have HDD := Lib.hid hD12
        have HLs := Lib.hid (And.intro l1 (And.intro l2 (And.intro l3 (And.intro l4 l5))))
        have HSs := Lib.hid (And.intro s1 (And.intro s2 (And.intro s3 s4)))
        have HOs := Lib.hid (And.intro o1 (And.intro o2 (And.intro o3 o4)))
        clear ho hbw h1 h2 hR hN he hlt hA12 hD12 l1 l2 l3 l4 l5 s1 s2 s3 s4 o1 o2 o3 o4 HR
        have HF1 := Lib.hid (show Full (P ++ (A1 ++ (D1 ++ (A2 ++ (D2 ++ S))))) from fun l hl => by
          refine HF.out l ?_
          rw [HAA.out, HDD.out]
          simp only [List.mem_append] at hl ⊢
          rcases hl with h | h | h | h | h | h
          · exact .inl h
          · exact .inr (.inl (.inl h))
          · exact .inr (.inr (.inl (.inl h)))
          · exact .inr (.inl (.inr h))
          · exact .inr (.inr (.inl (.inr h)))
          · exact .inr (.inr (.inr h)))
        obtain ⟨w1, hw1⟩ : ∃ w1, w1 = wr := ⟨_, rfl⟩
        subst hw1
        go_upto_region 39 with fail
        go_cut [185] from 178 (fun v wx => v = .bool (decide (s < m ∧ m < e)) ∧ wx = w1)
        case first =>
          by_cases q1 : s < m
          · by_cases q2 : m < e
            · have d1 := decide_eq_true q1
              have d2 := decide_eq_true q2
              go_wp2_with fail
              go_meet
              case rel => exact ⟨by simp [q1, q2], rfl⟩
            · have d1 := decide_eq_true q1
              have d2 := decide_eq_false q2
              go_wp2_with fail
              go_meet
              case rel => exact ⟨by simp [q2], rfl⟩
          · have d1 := decide_eq_false q1
            go_wp2_with fail
            go_meet
            case rel => exact ⟨by simp [q1], rfl⟩
        case rest =>
          obtain ⟨rfl, hw2⟩ := hcut
          subst hw2
          go_upto_if 185 with fail
          go_cut [] from 178 (fun wx => OwnLL wx B (.slice (some ⟨g, 0, none⟩) n cap) (P ++ (A1 ++ (D1 ++ (A2 ++ (D2 ++ S))))) ∧ Below B w0 wx)
          case first =>
            by_cases q1 : s < m ∧ m < e
            · have d1 := decide_eq_true q1
              have hL := HLs.out
              have HRO := Lib.hid (rotate_any (w := wc) (fv := .func (.func 34) #[] #[]) (P ++ A1) A2 D1 (D2 ++ S) s m e (by have := HA.out; simp; omega) (by have := HA.out; simp; omega) (by have := HA.out; simp; omega) (by omega) (by omega) (by have := HO.out; rw [HAA.out, HDD.out] at this; simpa using this) hn)
              clear hL
              go_wp2_with fail
              refine HRO.out.mono ?_
              rintro e w2 ⟨rfl, ho2, hb2⟩
              have HO2 := Lib.hid ho2
              have HB2 := Lib.hid (HBW.out.trans hb2)
              clear ho2 hb2 HRO
              go_wp2_with fail
              go_meet
              case rel => exact ⟨by have := HO2.out; simpa using this, HB2.out⟩
            · have d1 := decide_eq_false q1
              have hE : A2 = [] ∨ D1 = [] := by
                have hL := HLs.out
                by_cases q3 : s < m
                · exact .inr (List.eq_nil_of_length_eq_zero (by omega))
                · exact .inl (List.eq_nil_of_length_eq_zero (by omega))
              have HE := Lib.hid (show OwnLL wc B (.slice (some ⟨g, 0, none⟩) n cap) (P ++ (A1 ++ (D1 ++ (A2 ++ (D2 ++ S))))) from by
                have := HO.out
                rw [HAA.out, HDD.out] at this
                rcases hE with rfl | rfl <;> simpa using this)
              clear hE
              go_wp2_with fail
              go_meet
              case rel => exact ⟨HE.out, HBW.out⟩
          case rest =>
            obtain ⟨ho3, hbw3⟩ := hcut
            have HO3 := Lib.hid ho3
            have HB3 := Lib.hid hbw3
            obtain ⟨w3, hw3⟩ : ∃ w3, w3 = wc := ⟨_, rfl⟩
            subst hw3
            clear ho3 hbw3
            go_upto_region 41 with fail
            go_cut [199] from 192 (fun v wx => v = .bool (decide (a < s ∧ s < md)) ∧ wx = w3)
            case first =>
              by_cases q1 : a < s
              · by_cases q2 : s < md
                · have d1 := decide_eq_true q1
                  have d2 := decide_eq_true q2
                  go_wp2_with fail
                  go_meet
                  case rel => exact ⟨by simp [q1, q2], rfl⟩
                · have d1 := decide_eq_true q1
                  have d2 := decide_eq_false q2
                  go_wp2_with fail
                  go_meet
                  case rel => exact ⟨by simp [q2], rfl⟩
              · have d1 := decide_eq_false q1
                go_wp2_with fail
                go_meet
                case rel => exact ⟨by simp [q1], rfl⟩
            case rest =>
              obtain ⟨rfl, hw4⟩ := hcut
              subst hw4
              go_upto_if 199 with fail
              go_cut [] from 192 (fun wx => (∃ Y1, Stab (A1 ++ D1) Y1 ∧ OwnLL wx B (.slice (some ⟨g, 0, none⟩) n cap) (P ++ (Y1 ++ (A2 ++ (D2 ++ S))))) ∧ Below B w0 wx)
              case first =>
                by_cases q1 : a < s ∧ s < md
                · have d1 := decide_eq_true q1
                  have HRO := Lib.hid (HI.out wc P A1 D1 (A2 ++ (D2 ++ S)) a s md (by have hL := HLs.out; have := HM.out; have := HB.out; omega) HA.out HLs.out.1 HLs.out.2.2.1 (by have hL := HLs.out; omega) (by have hL := HLs.out; omega) HF1.out HSs.out.1 HSs.out.2.2.1 HO3.out)
                  go_wp2_with fail
                  refine HRO.out.mono ?_
                  rintro e w2 ⟨rfl, ho2, hb2⟩
                  have HO2 := Lib.hid ho2
                  have HB2 := Lib.hid (HB3.out.trans hb2)
                  clear ho2 hb2 HRO
                  go_wp2_with fail
                  go_meet
                  case rel => exact ⟨HO2.out, HB2.out⟩
                · have d1 := decide_eq_false q1
                  have HE := Lib.hid (show Stab (A1 ++ D1) (A1 ++ D1) from by
                    have hL := HLs.out
                    by_cases q3 : a < s
                    · obtain rfl : D1 = [] := List.eq_nil_of_length_eq_zero (by omega)
                      rw [List.append_nil]; exact stab_self HSs.out.1
                    · obtain rfl : A1 = [] := List.eq_nil_of_length_eq_zero (by omega)
                      exact stab_self HSs.out.2.2.1)
                  go_wp2_with fail
                  go_meet
                  case rel => exact ⟨⟨_, HE.out, by have := HO3.out; simpa using this⟩, HB3.out⟩
              case rest =>
                obtain ⟨⟨Y1, hY1, ho4⟩, hbw4⟩ := hcut
                have HY1 := Lib.hid hY1
                have HO4 := Lib.hid ho4
                have HB4 := Lib.hid hbw4
                have HYL := Lib.hid (show Y1.length = A1.length + D1.length by have := hY1.len; simpa using this)
                have HF2 := Lib.hid (show Full ((P ++ Y1) ++ (A2 ++ (D2 ++ S))) from fun l hl => by
                  refine HF1.out l ?_
                  have hm := hY1.mem l
                  simp only [List.mem_append] at hl hm ⊢
                  rcases hl with (h | h) | h
                  · exact .inl h
                  · rcases hm.1 h with h | h
                    · exact .inr (.inl h)
                    · exact .inr (.inr (.inl h))
                  · exact .inr (.inr (.inr h)))
                obtain ⟨w4, hw4⟩ : ∃ w4, w4 = wc := ⟨_, rfl⟩
                subst hw4
                clear ho4 hbw4 hY1
                go_upto_region 43 with fail
                go_cut [213] from 206 (fun v wx => v = .bool (decide (md < e ∧ e < b)) ∧ wx = w4)
                case first =>
                  by_cases q1 : md < e
                  · by_cases q2 : e < b
                    · have d1 := decide_eq_true q1
                      have d2 := decide_eq_true q2
                      go_wp2_with fail
                      go_meet
                      case rel => exact ⟨by simp [q1, q2], rfl⟩
                    · have d1 := decide_eq_true q1
                      have d2 := decide_eq_false q2
                      go_wp2_with fail
                      go_meet
                      case rel => exact ⟨by simp [q2], rfl⟩
                  · have d1 := decide_eq_false q1
                    go_wp2_with fail
                    go_meet
                    case rel => exact ⟨by simp [q1], rfl⟩
                case rest =>
                  obtain ⟨rfl, hw5⟩ := hcut
                  subst hw5
                  by_cases q1 : md < e ∧ e < b
                  · have d1 := decide_eq_true q1
                    have HRO := Lib.hid (HI.out wc (P ++ Y1) A2 D2 S md e b (by have hL := HLs.out; have := HM.out; have := HB.out; omega) (by have hL := HLs.out; have := HA.out; have := HYL.out; simp; omega) HLs.out.2.2.2.1 HLs.out.2.2.2.2 (by have hL := HLs.out; omega) (by have hL := HLs.out; omega) HF2.out HSs.out.2.1 HSs.out.2.2.2 (by have := HO4.out; simpa using this))
                    go_wp2_with fail
                    refine HRO.out.mono ?_
                    rintro e w2 ⟨rfl, ⟨Y2, hY2, ho2⟩, hb2⟩
                    have HO2 := Lib.hid ho2
                    have HY2 := Lib.hid hY2
                    have HB2 := Lib.hid (HB4.out.trans hb2)
                    clear ho2 hb2 hY2 HRO
                    go_wp2_with fail
                    go_end0
                    refine ⟨rfl, ⟨Y1 ++ Y2, ?_, by have := HO2.out; simpa using this⟩, HB2.out⟩
                    rw [HAA.out, HDD.out]
                    exact stab_merge HY1.out HY2.out HOs.out.1 HOs.out.2.1 HOs.out.2.2.1 HOs.out.2.2.2
                  · have d1 := decide_eq_false q1
                    have HE := Lib.hid (show Stab (A2 ++ D2) (A2 ++ D2) from by
                      have hL := HLs.out
                      by_cases q3 : md < e
                      · obtain rfl : D2 = [] := List.eq_nil_of_length_eq_zero (by omega)
                        rw [List.append_nil]; exact stab_self HSs.out.2.1
                      · obtain rfl : A2 = [] := List.eq_nil_of_length_eq_zero (by omega)
                        exact stab_self HSs.out.2.2.2)
                    go_wp2_with fail
                    go_end0
                    refine ⟨rfl, ⟨Y1 ++ (A2 ++ D2), ?_, by have := HO4.out; simpa using this⟩, HB4.out⟩
                    rw [HAA.out, HDD.out]
                    exact stab_merge HY1.out HE.out HOs.out.1 HOs.out.2.1 HOs.out.2.2.1 HOs.out.2.2.2
/-- Two runs in order are merged. -/
theorem symMerge_any {B g n cap : Nat} (hn : n ≤ 1000000) : ∀ N, Merges B g n cap N
  | 0 => fun _ _ _ _ _ _ _ _ h => absurd h (Nat.not_lt_zero _)
  | N + 1 => fun w P A D S a m b hN ha hm hb hA hD hf hsA hsD ho => by
    have ih := symMerge_any (B := B) (g := g) (cap := cap) hn N
    by_cases h1 : A.length = 1
    · obtain ⟨x, rfl⟩ := List.length_eq_one_iff.1 h1
      exact symMerge_front P D S x a m b ha (by simpa using hm) hb hf hsD ho hn
    · by_cases h2 : D.length = 1
      · obtain ⟨y, rfl⟩ := List.length_eq_one_iff.1 h2
        exact symMerge_behind P A S y a m b ha hm (by simpa using hb) (by omega) (by simpa using hf) hsA (by simpa using ho) hn
      · exact symMerge_split P A D S a m b (fun w P' A' D' S' a' m' b' h => ih w P' A' D' S' a' m' b' (by omega)) ha hm hb (by omega) (by omega) hf hsA hsD ho hn
end Go.Proofs.YtpdeffpmfbplnaaDoor
/- Rows are put in order, those that are equal as they were. -/
namespace Go.Proofs.YtpdeffpmfbplnaaDoor
open Go.ChangeShapes Go.WideShapes Go.ChangeAt Go.RowKit

/-- Each run of s rows, one behind the other, is in order. -/
def Chunk (s : Nat) (Y : List (List Int)) : Prop := ∀ i, SortedK ((Y.drop (i * s)).take s)
theorem sortedK_nil : SortedK [] := List.Pairwise.nil
theorem chunk_nil (s : Nat) : Chunk s [] := fun i => by rw [List.drop_nil, List.take_nil]; exact sortedK_nil
theorem chunk_split {s : Nat} {A R : List (List Int)} (hA : A.length = s) (h : Chunk s (A ++ R)) : SortedK A ∧ Chunk s R := by
  constructor
  · have := h 0
    rw [Nat.zero_mul, List.drop_zero, List.take_left' hA] at this
    exact this
  · intro i
    have := h (i + 1)
    rw [Nat.succ_mul, Nat.add_comm, ← List.drop_drop, List.drop_left' hA] at this
    exact this
theorem chunk_snoc {s c : Nat} {P A : List (List Int)} (hP : P.length = c * s) (hA : A.length ≤ s) (h : Chunk s P) (hs : SortedK A) : Chunk s (P ++ A) := by
  intro i
  rcases Nat.lt_trichotomy i c with hi | rfl | hi
  · have h1 : (i + 1) * s ≤ c * s := Nat.mul_le_mul_right s hi
    rw [Nat.succ_mul] at h1
    rw [List.drop_append_of_le_length (by omega), List.take_append_of_le_length (by rw [List.length_drop]; omega)]
    exact h i
  · rw [List.drop_left' hP, List.take_of_length_le hA]; exact hs
  · have h1 : (c + 1) * s ≤ i * s := Nat.mul_le_mul_right s hi
    rw [Nat.succ_mul] at h1
    rw [List.drop_eq_nil_of_le (by rw [List.length_append]; omega), List.take_nil]
    exact sortedK_nil
theorem chunk_all {s : Nat} {Y : List (List Int)} (h : Chunk s Y) (hl : Y.length ≤ s) : SortedK Y := by
  have := h 0
  rw [Nat.zero_mul, List.drop_zero, List.take_of_length_le hl] at this
  exact this
/-- The same rows for each first number, in the same order. -/
def SameK (X Y : List (List Int)) : Prop := ∀ k, atKey k Y = atKey k X
theorem SameK.mid {X P A Y S : List (List Int)} (h : SameK X (P ++ (A ++ S))) (hY : Stab A Y) : SameK X (P ++ (Y ++ S)) := fun k => by
  rw [← h k]; simp only [atKey_append, hY.2]
theorem SameK.full {X Y : List (List Int)} (h : SameK X Y) (hf : Full X) : Full Y := fun l hl => hf l ((same_mem h l).1 hl)
theorem SameK.sort {X Y : List (List Int)} (h : SameK X Y) (hs : SortedK Y) : sortL X = Y := sortL_eq ⟨hs, h⟩
set_option maxRecDepth 1000000 in
set_option maxHeartbeats 8000000 in
theorem stable_any {w : World} {B g n cap : Nat} {L : List (List Int)} (hf : Full L) (h : OwnLL w B (.slice (some ⟨g, 0, none⟩) n cap) L) (hn : n ≤ 1000000) :
    Calls Tryd.prog 57 #[.slice (some ⟨g, 0, none⟩) n cap, .int .i64 n, .func (.func 34) #[] #[]] w fun e w' => e = .returned (.tuple #[]) ∧ OwnLL w' B (.slice (some ⟨g, 0, none⟩) n cap) (sortL L) ∧ Below B w w' := by
  have H := Lib.hid h
  have HF := Lib.hid hf
  clear h hf
  go_enter Tryd.func57, Tryd.ntmps57
  go_wp2_with fail
  go_loopw [7, 8] (fun av bv wr => ∃ (a b c : Nat) (P R : List (List Int)), av = .int .i64 a ∧ bv = .int .i64 b ∧ Hid (P.length = a ∧ a = c * 20 ∧ b = a + 20) ∧ Chunk 20 P ∧ SameK L (P ++ R) ∧ OwnLL wr B (.slice (some ⟨g, 0, none⟩) n cap) (P ++ R) ∧ Below B w wr) (fun av _ _ => n + 1 - (intOf av).toNat)
  case atStart => exact ⟨0, 20, 0, [], L, rfl, rfl, Lib.hid ⟨rfl, rfl, rfl⟩, chunk_nil _, fun _ => rfl, H.out, Below.refl _ _⟩
  case round =>
    obtain ⟨a, b, c, P, R, rfl, rfl, HP, hch, hsm, ho, hbw⟩ := hrel
    have HO := Lib.hid ho
    have HBW := Lib.hid hbw
    have HCH := Lib.hid hch
    have HSM := Lib.hid hsm
    have HNL := Lib.hid (show n = P.length + R.length by have := ho.num; rwa [List.length_append] at this)
    have hab : a ≤ n := by have := HNL.out; have := HP.out.1; omega
    have hbb : b ≤ n + 20 := by have := HP.out; omega
    clear ho hbw hch hsm
    by_cases hlt : b ≤ n
    · have hlt2 : (b : Int) ≤ (n : Int) := by omega
      obtain ⟨A, R', hR, hA⟩ : ∃ A R', R = A ++ R' ∧ A.length = 20 := ⟨R.take 20, R.drop 20, (List.take_append_drop 20 R).symm, by rw [List.length_take]; have := HNL.out; have := HP.out; omega⟩
      subst hR
      have HA := Lib.hid hA
      clear hA
      have HI := Lib.hid (insertion_any (w := wr) P A R' a b HP.out.1.symm (by have := HP.out; have := HA.out; omega) (HSM.out.full HF.out) HO.out hn)
      go_wp2_with fail
      refine HI.out.mono ?_
      rintro e w2 ⟨rfl, ⟨Y, hY, ho2⟩, hb2⟩
      have HY := Lib.hid hY
      have HO2 := Lib.hid ho2
      have HB2 := Lib.hid (HBW.out.trans hb2)
      clear hY ho2 hb2 HI
      go_wp2_with fail
      go_roundw
      case rel =>
        have hy := HY.out.len
        have ha := HA.out
        have hp := HP.out
        exact ⟨b, b + 20, c + 1, P ++ Y, R', rfl, by go_num, Lib.hid ⟨by rw [List.length_append]; omega, by omega, rfl⟩, chunk_snoc (c := c) (by omega) (by omega) HCH.out HY.out.1, by have := HSM.out.mid HY.out; rwa [← List.append_assoc] at this, by have := HO2.out; rwa [← List.append_assoc] at this, HB2.out⟩
      case measure => have hp := HP.out; simp [intOf]; omega
    · have hlt2 : ¬ (b : Int) ≤ (n : Int) := by omega
      have HI := Lib.hid (insertion_any (w := wr) P R [] a n HP.out.1.symm HNL.out (by rw [List.append_nil]; exact HSM.out.full HF.out) (by rw [List.append_nil]; exact HO.out) hn)
      go_wp2_with fail
      refine HI.out.mono ?_
      rintro e w2 ⟨rfl, ⟨Y, hY, ho2⟩, hb2⟩
      rw [List.append_nil] at ho2
      have HO2 := Lib.hid ho2
      have HB2 := Lib.hid (HBW.out.trans hb2)
      have HCH2 := Lib.hid (chunk_snoc (c := c) (by have := HP.out; omega) (by have := hY.len; have := HP.out; have := HNL.out; omega) HCH.out hY.1)
      have HSM2 := Lib.hid (show SameK L (P ++ Y) by have := SameK.mid (S := []) (by rw [List.append_nil]; exact HSM.out) hY; rwa [List.append_nil] at this)
      generalize P ++ Y = L2 at *
      clear hY ho2 hb2 HI HSM HCH HP HNL HO HBW hab hbb hlt hlt2
      go_wp2_with fail
      go_loopw [6] (fun sv wr => ∃ (s : Nat) (Y : List (List Int)), sv = .int .i64 s ∧ 1 ≤ s ∧ s ≤ 2000000 ∧ Chunk s Y ∧ SameK L Y ∧ OwnLL wr B (.slice (some ⟨g, 0, none⟩) n cap) Y ∧ Below B w wr) (fun sv _ => n - (intOf sv).toNat)
      case atStart => exact ⟨20, L2, rfl, by omega, by omega, HCH2.out, HSM2.out, HO2.out, HB2.out⟩
      case round =>
        obtain ⟨s, Y, rfl, hs1, hs2, hch, hsm, ho, hbw⟩ := hrel
        have HO := Lib.hid ho
        have HBW := Lib.hid hbw
        have HCH := Lib.hid hch
        have HSM := Lib.hid hsm
        have HNL := Lib.hid ho.num
        clear ho hbw hch hsm HCH2 HSM2 HO2 HB2
        by_cases hlt : s < n
        · have hlt2 : (s : Int) < (n : Int) := by omega
          obtain ⟨wo, hwo⟩ : ∃ wo, wo = wr := ⟨_, rfl⟩
          subst hwo
          go_wp2_with fail
          go_loopw [7, 8] (fun av bv wr => ∃ (a b c : Nat) (P R : List (List Int)), av = .int .i64 a ∧ bv = .int .i64 b ∧ Hid (P.length = a ∧ a = c * (2 * s) ∧ b = a + 2 * s) ∧ Chunk (2 * s) P ∧ Chunk s R ∧ SameK L (P ++ R) ∧ OwnLL wr B (.slice (some ⟨g, 0, none⟩) n cap) (P ++ R) ∧ Below B w wr) (fun av _ _ => n + 1 - (intOf av).toNat)
          case atStart => exact ⟨0, 2 * s, 0, [], Y, rfl, by go_num, Lib.hid ⟨rfl, by omega, by omega⟩, chunk_nil _, HCH.out, HSM.out, HO.out, HBW.out⟩
          case round =>
            obtain ⟨a, b, c, P, R, rfl, rfl, HP, hchp, hchr, hsm, ho, hbw⟩ := hrel
            have HOi := Lib.hid ho
            have HBWi := Lib.hid hbw
            have HCP := Lib.hid hchp
            have HCR := Lib.hid hchr
            have HSMi := Lib.hid hsm
            have HNLi := Lib.hid (show n = P.length + R.length by have := ho.num; rwa [List.length_append] at this)
            have hab : a ≤ n := by have := HNLi.out; have := HP.out.1; omega
            have hbb : b ≤ n + 2 * s := by have := HP.out; omega
            clear ho hbw hchp hchr hsm
            have e0 : IntKind.i64.wrap ((a : Int) + (s : Int)) = ((a + s : Nat) : Int) := by rw [IntWalk.i64_in _ (by omega)]; simp
            obtain ⟨m, hm⟩ : ∃ x, x = a + s := ⟨_, rfl⟩
            rw [← hm] at e0
            have hmm : m ≤ n + s := by omega
            have HM := Lib.hid hm
            clear hm
            by_cases hb : b ≤ n
            · have hb2 : (b : Int) ≤ (n : Int) := by omega
              obtain ⟨A, D, R', hR, hA, hD⟩ : ∃ A D R', R = A ++ (D ++ R') ∧ A.length = s ∧ D.length = s := by
                have h1 := HNLi.out
                have h2 := HP.out
                refine ⟨R.take s, (R.drop s).take s, (R.drop s).drop s, by rw [List.take_append_drop, List.take_append_drop], by rw [List.length_take]; omega, by rw [List.length_take, List.length_drop]; omega⟩
              subst hR
              have HA := Lib.hid hA
              have HD := Lib.hid hD
              have hc1 := chunk_split hA HCR.out
              have hc2 := chunk_split hD hc1.2
              have HC1 := Lib.hid hc1.1
              have HC2 := Lib.hid hc2
              have HI := Lib.hid (symMerge_any (B := B) (g := g) (cap := cap) hn (A.length + D.length + 1) wr P A D R' a m b (by omega) HP.out.1.symm (by have := HM.out; omega) (by have := HM.out; have := HP.out; omega) (by omega) (by omega) (HSMi.out.full HF.out) hc1.1 hc2.1 HOi.out)
              clear hA hD hc1 hc2
              go_wp2_with fail
              refine HI.out.mono ?_
              rintro e w2 ⟨rfl, ⟨Z, hZ, ho2⟩, hb2⟩
              have HZ := Lib.hid hZ
              have HO2 := Lib.hid ho2
              have HB2 := Lib.hid (HBWi.out.trans hb2)
              clear hZ ho2 hb2 HI e0
              go_wp2_with fail
              go_roundw
              case rel =>
                have hz := HZ.out.len
                rw [List.length_append] at hz
                have ha := HA.out
                have hd := HD.out
                have hp := HP.out
                refine ⟨b, b + 2 * s, c + 1, P ++ Z, R', rfl, by go_num, Lib.hid ⟨by rw [List.length_append]; omega, by rw [Nat.succ_mul]; omega, rfl⟩, chunk_snoc (c := c) (by omega) (by omega) HCP.out HZ.out.1, HC2.out.2, ?_, by have := HO2.out; rwa [← List.append_assoc] at this, HB2.out⟩
                have := SameK.mid (P := P) (S := R') (A := A ++ D) (X := L) (by rw [List.append_assoc A]; exact HSMi.out) HZ.out
                rwa [← List.append_assoc] at this
              case measure => have hp := HP.out; simp [intOf]; omega
            · have hb2 : ¬ (b : Int) ≤ (n : Int) := by omega
              have hlt3 : n - 2 * s < n - s := by omega
              by_cases hmn : m < n
              · have hmn2 : (m : Int) < (n : Int) := by omega
                obtain ⟨A, D, hR, hA⟩ : ∃ A D, R = A ++ D ∧ A.length = s := ⟨R.take s, R.drop s, (List.take_append_drop s R).symm, by rw [List.length_take]; have := HNLi.out; have := HP.out; have := HM.out; omega⟩
                subst hR
                have hc1 := chunk_split hA HCR.out
                have hnl := HNLi.out
                rw [List.length_append] at hnl
                have hD1 : D.length ≤ s := by have := HP.out; omega
                have hD2 : 0 < D.length := by have := HP.out; have := HM.out; omega
                have hsD := chunk_all hc1.2 hD1
                have HI := Lib.hid (symMerge_any (B := B) (g := g) (cap := cap) hn (A.length + D.length + 1) wr P A D [] a m n (by omega) HP.out.1.symm (by have := HM.out; omega) (by have := HM.out; have := HP.out; omega) (by omega) (by omega) (by rw [List.append_nil]; exact HSMi.out.full HF.out) hc1.1 hsD (by rw [List.append_nil]; exact HOi.out))
                have HLZ := Lib.hid (show A.length + D.length ≤ 2 * s by omega)
                clear hA hc1 hnl hD1 hD2 hsD
                go_wp2_with fail
                refine HI.out.mono ?_
                rintro e w2 ⟨rfl, ⟨Z, hZ, ho2⟩, hb2⟩
                rw [List.append_nil] at ho2
                have HZ := Lib.hid hZ
                have HO2 := Lib.hid ho2
                have HB2 := Lib.hid (HBWi.out.trans hb2)
                clear hZ ho2 hb2 HI e0
                go_wp2_with fail
                go_roundw
                case rel =>
                  have hz := HZ.out.len
                  rw [List.length_append] at hz
                  have hp := HP.out
                  have hl := HLZ.out
                  refine ⟨2 * s, P ++ Z, by go_num, by omega, by omega, chunk_snoc (c := c) (by omega) (by omega) HCP.out HZ.out.1, ?_, HO2.out, HB2.out⟩
                  have := SameK.mid (S := []) (A := A ++ D) (by rw [List.append_nil]; exact HSMi.out) HZ.out
                  rwa [List.append_nil] at this
                case measure => simp [intOf]; omega
              · have hmn2 : ¬ (m : Int) < (n : Int) := by omega
                have HR := Lib.hid (show SortedK R ∧ R.length ≤ 2 * s by
                  have h1 := HNLi.out
                  have h2 := HP.out
                  have h3 := HM.out
                  exact ⟨chunk_all HCR.out (by omega), by omega⟩)
                go_wp2_with fail
                go_roundw
                case rel =>
                  have hp := HP.out
                  exact ⟨2 * s, P ++ R, by go_num, by omega, by omega, chunk_snoc (c := c) (by omega) HR.out.2 HCP.out HR.out.1, HSMi.out, HOi.out, HBWi.out⟩
                case measure => simp [intOf]; omega
        · have hlt2 : ¬ (s : Int) < (n : Int) := by omega
          have HE := Lib.hid (HSM.out.sort (chunk_all HCH.out (by have := HNL.out; omega)))
          go_wp2
          go_end0
          exact ⟨rfl, by rw [HE.out]; exact HO.out, HBW.out⟩
end Go.Proofs.YtpdeffpmfbplnaaDoor
