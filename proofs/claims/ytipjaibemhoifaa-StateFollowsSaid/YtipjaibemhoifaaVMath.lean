/- The plain mathematics of a stable order: rows in the order of their first numbers, those that are equal as they were. -/
namespace Go.Proofs.Ytipjaibemhoifaa

/-- A row's first number. -/
def key (l : List Int) : Int := l.getD 0 0
/-- What has a first number. -/
def atKey (k : Int) (X : List (List Int)) : List (List Int) := X.filter (fun l => key l = k)
def SortedK (X : List (List Int)) : Prop := X.Pairwise (fun a b => key a ≤ key b)
/-- Y is X in order, what is equal as it was. -/
def Stab (X Y : List (List Int)) : Prop := SortedK Y ∧ ∀ k, atKey k Y = atKey k X
theorem atKey_append (k : Int) (X Y : List (List Int)) : atKey k (X ++ Y) = atKey k X ++ atKey k Y := by simp [atKey]
theorem atKey_cons (k : Int) (x : List Int) (Y : List (List Int)) : atKey k (x :: Y) = (if key x = k then [x] else []) ++ atKey k Y := by
  by_cases h : key x = k <;> simp [atKey, h]
theorem mem_atKey {x : List Int} {X : List (List Int)} : x ∈ X ↔ x ∈ atKey (key x) X := by simp [atKey]
theorem mem_atKey' {x : List Int} {X : List (List Int)} {k : Int} (h : x ∈ atKey k X) : x ∈ X ∧ key x = k := by simpa [atKey] using h
theorem same_mem {X Y : List (List Int)} (h : ∀ k, atKey k Y = atKey k X) (x : List Int) : x ∈ Y ↔ x ∈ X := by
  rw [mem_atKey, h, ← mem_atKey]
theorem sorted_eq : ∀ {Y Z : List (List Int)}, SortedK Y → SortedK Z → (∀ k, atKey k Y = atKey k Z) → Y = Z
  | [], Z, _, _, h => by
    cases Z with
    | nil => rfl
    | cons z Z => have := (same_mem (fun k => (h k).symm) z).1 (by simp); simp at this
  | y :: Y, [], _, _, h => by have := (same_mem h y).1 (by simp); simp at this
  | y :: Y, z :: Z, hy, hz, h => by
    have hy' := List.pairwise_cons.1 hy
    have hz' := List.pairwise_cons.1 hz
    have h1 : key z ≤ key y := by
      have := (same_mem h y).1 (by simp)
      simp only [List.mem_cons] at this
      rcases this with rfl | this
      · exact Int.le_refl _
      · exact hz'.1 y this
    have h2 : key y ≤ key z := by
      have := (same_mem (fun k => (h k).symm) z).1 (by simp)
      simp only [List.mem_cons] at this
      rcases this with rfl | this
      · exact Int.le_refl _
      · exact hy'.1 z this
    have hk : key y = key z := by omega
    have h3 := h (key y)
    rw [atKey_cons, atKey_cons, if_pos rfl, if_pos hk.symm] at h3
    simp only [List.cons_append, List.nil_append, List.cons.injEq] at h3
    obtain ⟨rfl, h3⟩ := h3
    congr 1
    refine sorted_eq hy'.2 hz'.2 (fun k => ?_)
    have h4 := h k
    rw [atKey_cons, atKey_cons] at h4
    exact List.append_cancel_left h4
theorem Stab.eq {X Y Z : List (List Int)} (h : Stab X Y) (k : Stab X Z) : Y = Z := sorted_eq h.1 k.1 (fun i => (h.2 i).trans (k.2 i).symm)
theorem Stab.mem {X Y : List (List Int)} (h : Stab X Y) (x : List Int) : x ∈ Y ↔ x ∈ X := same_mem h.2 x
theorem Stab.perm {X Y : List (List Int)} (h : Stab X Y) : Y.Perm X := by
  rw [List.perm_iff_count]
  intro x
  have key' : ∀ Z : List (List Int), Z.count x = (atKey (key x) Z).count x := fun Z => by
    induction Z with
    | nil => rfl
    | cons z Z ih =>
      rw [atKey_cons, List.count_append, List.count_cons, ih]
      by_cases hz : z = x
      · subst hz; simp; omega
      · by_cases hk : key z = key x
        · rw [if_pos hk]; simp [hz]
        · rw [if_neg hk]; simp [hz]
  rw [key' Y, h.2, ← key' X]
theorem Stab.len {X Y : List (List Int)} (h : Stab X Y) : Y.length = X.length := h.perm.length_eq
theorem stab_self {X : List (List Int)} (h : SortedK X) : Stab X X := ⟨h, fun _ => rfl⟩
theorem stab_nil : Stab [] [] := stab_self List.Pairwise.nil
theorem stab_one (x : List Int) : Stab [x] [x] := stab_self (by simp [SortedK])
theorem atKey_none {k : Int} {X : List (List Int)} (h : ∀ x ∈ X, key x ≠ k) : atKey k X = [] := by
  simp only [atKey, List.filter_eq_nil_iff]
  exact fun x hx => by simpa using h x hx
/-- Two runs that are merged: what of the first run's end stands behind the second run's beginning is above it. -/
theorem stab_merge {A1 A2 B1 B2 Y1 Y2 : List (List Int)} (h1 : Stab (A1 ++ B1) Y1) (h2 : Stab (A2 ++ B2) Y2)
    (hA : ∀ x ∈ A1, ∀ y ∈ A2, key x ≤ key y) (hB : ∀ x ∈ B1, ∀ y ∈ B2, key x ≤ key y) (hAB : ∀ x ∈ A1, ∀ y ∈ B2, key x ≤ key y) (hBA : ∀ x ∈ B1, ∀ y ∈ A2, key x < key y) :
    Stab ((A1 ++ A2) ++ (B1 ++ B2)) (Y1 ++ Y2) := by
  constructor
  · refine List.pairwise_append.2 ⟨h1.1, h2.1, fun x hx y hy => ?_⟩
    have hx := (h1.mem x).1 hx
    have hy := (h2.mem y).1 hy
    simp only [List.mem_append] at hx hy
    rcases hx with hx | hx <;> rcases hy with hy | hy
    · exact hA x hx y hy
    · exact hAB x hx y hy
    · exact Int.le_of_lt (hBA x hx y hy)
    · exact hB x hx y hy
  · intro k
    have e : atKey k B1 ++ atKey k A2 = atKey k A2 ++ atKey k B1 := by
      by_cases hb : ∃ x ∈ B1, key x = k
      · obtain ⟨x, hx, hk⟩ := hb
        rw [atKey_none (X := A2) (fun y hy e => by have := hBA x hx y hy; omega)]; simp
      · rw [atKey_none (X := B1) (fun y hy e => hb ⟨y, hy, e⟩)]; simp
    rw [atKey_append, h1.2, h2.2]
    simp only [atKey_append, List.append_assoc]
    rw [← List.append_assoc (atKey k B1), e, List.append_assoc]
/-- One more behind: it goes behind all that is not above it. -/
theorem stab_snoc {X Y1 Y2 : List (List Int)} {x : List Int} (h : Stab X (Y1 ++ Y2)) (h1 : ∀ y ∈ Y1, key y ≤ key x) (h2 : ∀ y ∈ Y2, key x < key y) : Stab (X ++ [x]) (Y1 ++ x :: Y2) := by
  have hs := List.pairwise_append.1 h.1
  have m := stab_merge (A1 := Y1) (A2 := Y2) (B1 := [x]) (B2 := []) (Y1 := Y1 ++ [x]) (Y2 := Y2) (stab_self (List.pairwise_append.2 ⟨hs.1, by simp, fun a ha b hb => by simp at hb; subst hb; exact h1 a ha⟩))
    (by rw [List.append_nil]; exact stab_self hs.2.1) hs.2.2 (by simp) (by simp) (by simpa using h2)
  refine ⟨by have := m.1; simpa using this, fun k => ?_⟩
  have := m.2 k
  simp only [List.append_assoc, List.cons_append, List.nil_append, List.append_nil] at this
  rw [this, atKey_append k X, ← h.2 k, ← atKey_append]; simp
def insL (r : List Int) : List (List Int) → List (List Int)
  | [] => [r]
  | x :: l => if key r < key x then r :: x :: l else x :: insL r l
def sortL (X : List (List Int)) : List (List Int) := X.foldl (fun s r => insL r s) []
theorem insL_split (r : List Int) : ∀ {l : List (List Int)}, SortedK l → ∃ a b, l = a ++ b ∧ insL r l = a ++ r :: b ∧ (∀ y ∈ a, key y ≤ key r) ∧ ∀ y ∈ b, key r < key y
  | [], _ => ⟨[], [], rfl, rfl, by simp, by simp⟩
  | x :: l, h => by
    have h' := List.pairwise_cons.1 h
    by_cases hx : key r < key x
    · refine ⟨[], x :: l, rfl, by simp [insL, hx], by simp, fun y hy => ?_⟩
      simp only [List.mem_cons] at hy
      rcases hy with rfl | hy
      · exact hx
      · exact Int.lt_of_lt_of_le hx (h'.1 y hy)
    · obtain ⟨a, b, e, e2, h1, h2⟩ := insL_split r h'.2
      refine ⟨x :: a, b, by simp [e], by rw [insL, if_neg hx, e2]; rfl, fun y hy => ?_, h2⟩
      simp only [List.mem_cons] at hy
      rcases hy with rfl | hy
      · omega
      · exact h1 y hy
theorem stab_ins {X Y : List (List Int)} (r : List Int) (h : Stab X Y) : Stab (X ++ [r]) (insL r Y) := by
  obtain ⟨a, b, e, e2, h1, h2⟩ := insL_split r h.1
  rw [e2]; subst e
  exact stab_snoc h h1 h2
theorem stab_fold : ∀ (Z : List (List Int)) {X Y : List (List Int)}, Stab X Y → Stab (X ++ Z) (Z.foldl (fun s r => insL r s) Y)
  | [], X, Y, h => by simpa using h
  | z :: Z, X, Y, h => by
    have := stab_fold Z (stab_ins z h)
    simpa using this
theorem stab_sortL (X : List (List Int)) : Stab X (sortL X) := by have := stab_fold X stab_nil; rwa [List.nil_append] at this
theorem sortL_eq {X Y : List (List Int)} (h : Stab X Y) : sortL X = Y := (stab_sortL X).eq h
theorem sortL_snoc (X : List (List Int)) (r : List Int) : sortL (X ++ [r]) = insL r (sortL X) := by simp [sortL]
theorem sortL_len (X : List (List Int)) : (sortL X).length = X.length := (stab_sortL X).len
theorem sortL_mem (X : List (List Int)) (x : List Int) : x ∈ sortL X ↔ x ∈ X := (stab_sortL X).mem x
theorem sortL_self {X : List (List Int)} (h : SortedK X) : sortL X = X := sortL_eq (stab_self h)
/-- Two orders of rows no two of which begin alike. -/
theorem sortL_perm {X Y : List (List Int)} (h : X.Perm Y) (hd : X.Pairwise (fun a b => key a ≠ key b)) : sortL X = sortL Y := by
  refine sorted_eq (stab_sortL X).1 (stab_sortL Y).1 (fun k => ?_)
  rw [(stab_sortL X).2, (stab_sortL Y).2]
  have hp : (atKey k X).Perm (atKey k Y) := h.filter _
  have hl : (atKey k X).length ≤ 1 := by
    have hd' : (atKey k X).Pairwise (fun a b => key a ≠ key b) := hd.filter _
    match hm : atKey k X, hd' with
    | [], _ => simp
    | [_], _ => simp
    | a :: b :: r, hd' =>
      have ha := (mem_atKey' (by rw [hm]; simp : a ∈ atKey k X)).2
      have hb := (mem_atKey' (by rw [hm]; simp : b ∈ atKey k X)).2
      have := (List.pairwise_cons.1 hd').1 b (by simp)
      omega
  match hm : atKey k X, hl with
  | [], _ => rw [hm] at hp; exact (List.nil_perm.1 hp).symm
  | [a], _ => rw [hm] at hp; exact List.singleton_perm.1 hp
  | a :: b :: r, hl => simp at hl
end Go.Proofs.Ytipjaibemhoifaa
