/- Plain mathematics of a queue: the three orders, a tree laid out as a list, how an entry rises and sinks in it, the least of all. -/
namespace Go.Proofs.Ytljgglmaglmceaa

structure Ent where
  b : Int
  d : Int
  n : Int
theorem Ent.eq_of {x y : Ent} (h1 : x.b = y.b) (h2 : x.d = y.d) (h3 : x.n = y.n) : x = y := by
  cases x; cases y; simp at h1 h2 h3; simp [h1, h2, h3]
theorem Ent.eq_iff (x y : Ent) : (x.b = y.b ∧ x.d = y.d ∧ x.n = y.n) ↔ x = y :=
  ⟨fun h => Ent.eq_of h.1 h.2.1 h.2.2, fun h => by rw [h]; exact ⟨rfl, rfl, rfl⟩⟩
instance : DecidableEq Ent := fun x y => decidable_of_iff _ (Ent.eq_iff x y)
instance : Inhabited Ent := ⟨⟨0, 0, 0⟩⟩

/-- The order by three numbers, one behind the other. -/
def lexB (a1 a2 a3 b1 b2 b3 : Int) : Bool := decide (a1 < b1 ∨ a1 = b1 ∧ (a2 < b2 ∨ a2 = b2 ∧ a3 < b3))
/-- Which of two entries comes out first. -/
def lt (o : Int) (x y : Ent) : Bool :=
  if o = 0 then lexB x.b y.d x.n y.b x.d y.n else if o = 1 then lexB y.d x.b x.n x.d y.b y.n else lexB x.n x.b x.d y.n y.b y.d

theorem lt_irr (o : Int) (x : Ent) : lt o x x = false := by
  unfold lt lexB
  split
  · simp
  · split <;> simp
theorem lt_trans (o : Int) (x y z : Ent) (h : lt o x y = true) (h' : lt o y z = true) : lt o x z = true := by
  unfold lt lexB at *
  split
  · simp_all; omega
  · split <;> (simp_all; omega)
theorem lt_asym (o : Int) (x y : Ent) (h : lt o x y = true) : lt o y x = false := by
  cases hc : lt o y x
  · rfl
  · have := lt_trans o x y x h hc; rw [lt_irr] at this; cases this
theorem lt_tot (o : Int) (x y : Ent) (h : lt o x y = false) (h' : lt o y x = false) : x = y := by
  unfold lt lexB at *
  apply Ent.eq_of
  all_goals
    split at h
    · simp_all; omega
    · split at h <;> (simp_all; omega)
theorem nlt_trans (o : Int) (x y z : Ent) (h : lt o x y = false) (h' : lt o y z = false) : lt o x z = false := by
  cases hc : lt o x z
  · rfl
  · cases hd : lt o y x
    · rw [lt_tot o x y h hd] at hc; rw [hc] at h'; cases h'
    · rw [lt_trans o y x z hd hc] at h'; cases h'

/-- The i-th of a list. -/
def nth (l : List Ent) (i : Nat) : Ent := l.getD i ⟨0, 0, 0⟩
theorem nth_eq (l : List Ent) (i : Nat) (h : i < l.length) : nth l i = l[i] := by
  unfold nth; rw [List.getD_eq_getElem?_getD, List.getElem?_eq_getElem h]; rfl
theorem nth_mem (l : List Ent) (i : Nat) (h : i < l.length) : nth l i ∈ l := by rw [nth_eq l i h]; exact List.getElem_mem h
theorem mem_nth (l : List Ent) (x : Ent) (h : x ∈ l) : ∃ i, i < l.length ∧ nth l i = x := by
  obtain ⟨i, hi, rfl⟩ := List.mem_iff_getElem.1 h
  exact ⟨i, hi, nth_eq l i hi⟩
/-- A list with two of its places exchanged. -/
def swapL (l : List Ent) (i j : Nat) : List Ent := (l.set i (nth l j)).set j (nth l i)
theorem swapL_len (l : List Ent) (i j : Nat) : (swapL l i j).length = l.length := by simp [swapL]
theorem nth_set (l : List Ent) (i k : Nat) (x : Ent) (h : k < l.length) : nth (l.set i x) k = if k = i then x else nth l k := by
  unfold nth
  rw [List.getD_eq_getElem?_getD, List.getD_eq_getElem?_getD, List.getElem?_set]
  by_cases e : i = k
  · subst e; simp [h]
  · rw [if_neg e, if_neg (fun h => e h.symm)]
theorem nth_swapL (l : List Ent) (i j k : Nat) (h : k < l.length) : nth (swapL l i j) k = if k = j then nth l i else if k = i then nth l j else nth l k := by
  unfold swapL
  rw [nth_set _ _ _ _ (by simpa using h), nth_set _ _ _ _ h]
theorem swapL_perm (l : List Ent) (i j : Nat) (hi : i < l.length) (hj : j < l.length) : (swapL l i j).Perm l := by
  unfold swapL
  rw [nth_eq l i hi, nth_eq l j hj]
  exact List.set_set_perm hi hj

/-- None is ahead of the one above it. -/
def HOrd (o : Int) (l : List Ent) : Prop := ∀ i, 0 < i → i < l.length → lt o (nth l i) (nth l ((i - 1) / 2)) = false
/-- The same, but for the one at t, which may have to rise. -/
def Rise (o : Int) (l : List Ent) (t : Nat) : Prop :=
  t < l.length ∧ (∀ i, 0 < i → i < l.length → i ≠ t → lt o (nth l i) (nth l ((i - 1) / 2)) = false) ∧
  (∀ i, 0 < i → i < l.length → (i - 1) / 2 = t → 0 < t → lt o (nth l i) (nth l ((t - 1) / 2)) = false)
/-- The same, but for the one at t, which may have to sink. -/
def Sink (o : Int) (l : List Ent) (t : Nat) : Prop :=
  (∀ i, 0 < i → i < l.length → (i - 1) / 2 ≠ t → lt o (nth l i) (nth l ((i - 1) / 2)) = false) ∧
  (∀ i, 0 < i → i < l.length → (i - 1) / 2 = t → 0 < t → lt o (nth l i) (nth l ((t - 1) / 2)) = false)

theorem rise_top (o : Int) (l : List Ent) (h : Rise o l 0) : HOrd o l := fun i h0 hi => h.2.1 i h0 hi (by omega)
theorem rise_end (o : Int) (l : List Ent) (t : Nat) (h : Rise o l t) (hs : lt o (nth l t) (nth l ((t - 1) / 2)) = false) : HOrd o l := fun i h0 hi => by
  by_cases e : i = t
  · subst e; exact hs
  · exact h.2.1 i h0 hi e
theorem rise_step (o : Int) (l : List Ent) (t : Nat) (h0 : 0 < t) (h : Rise o l t) (hs : lt o (nth l t) (nth l ((t - 1) / 2)) = true) : Rise o (swapL l t ((t - 1) / 2)) ((t - 1) / 2) := by
  obtain ⟨ht, h1, h2⟩ := h
  refine ⟨by rw [swapL_len]; omega, ?_, ?_⟩
  · intro i hi0 hi hne
    rw [swapL_len] at hi
    rw [nth_swapL _ _ _ _ hi, nth_swapL _ _ _ _ (by omega), if_neg hne]
    by_cases e1 : i = t
    · subst e1; rw [if_pos rfl, if_pos rfl]; exact lt_asym _ _ _ hs
    · rw [if_neg e1]
      by_cases e2 : (i - 1) / 2 = (t - 1) / 2
      · rw [if_pos e2]
        have h3 := h1 i hi0 hi e1
        rw [e2] at h3
        cases hc : lt o (nth l i) (nth l t)
        · rfl
        · rw [lt_trans o _ _ _ hc hs] at h3; cases h3
      · rw [if_neg e2]
        by_cases e3 : (i - 1) / 2 = t
        · rw [if_pos e3]; exact h2 i hi0 hi e3 h0
        · rw [if_neg e3]; exact h1 i hi0 hi e1
  · intro i hi0 hi hp hp0
    rw [swapL_len] at hi
    have hpp := h1 ((t - 1) / 2) (by omega) (by omega) (by omega)
    rw [nth_swapL _ _ _ _ hi, nth_swapL _ _ _ _ (by omega), if_neg (show i ≠ (t - 1) / 2 by omega), if_neg (show ((t - 1) / 2 - 1) / 2 ≠ (t - 1) / 2 by omega), if_neg (show ((t - 1) / 2 - 1) / 2 ≠ t by omega)]
    by_cases e1 : i = t
    · rw [if_pos e1]; exact hpp
    · rw [if_neg e1]
      have h3 := h1 i hi0 hi e1
      rw [hp] at h3
      exact nlt_trans o _ _ _ h3 hpp
theorem rise_start (o : Int) (l : List Ent) (x : Ent) (h : HOrd o l) : Rise o (l ++ [x]) l.length := by
  refine ⟨by simp, ?_, ?_⟩
  · intro i h0 hi hne
    have hi' : i < l.length := by simp at hi; omega
    have e : ∀ j, j < l.length → nth (l ++ [x]) j = nth l j := fun j hj => by
      rw [nth_eq _ _ (by simp; omega), nth_eq _ _ hj, List.getElem_append_left hj]
    rw [e i hi', e _ (by omega)]
    exact h i h0 hi'
  · intro i h0 hi hp ht
    simp at hi
    omega

/-- Where the first of the two below is. -/
def below (o : Int) (l : List Ent) (t : Nat) : Nat := if 2 * t + 2 < l.length ∧ lt o (nth l (2 * t + 2)) (nth l (2 * t + 1)) = true then 2 * t + 2 else 2 * t + 1
theorem below_two (o : Int) (l : List Ent) (t : Nat) : below o l t = 2 * t + 1 ∨ below o l t = 2 * t + 2 := by
  unfold below; split
  · exact .inr rfl
  · exact .inl rfl
theorem below_least (o : Int) (l : List Ent) (t i : Nat) (h0 : 0 < i) (hi : i < l.length) (hp : (i - 1) / 2 = t) : lt o (nth l i) (nth l (below o l t)) = false := by
  have hcase : i = 2 * t + 1 ∨ i = 2 * t + 2 := by omega
  unfold below
  by_cases c : 2 * t + 2 < l.length ∧ lt o (nth l (2 * t + 2)) (nth l (2 * t + 1)) = true
  · rw [if_pos c]
    rcases hcase with rfl | rfl
    · exact lt_asym _ _ _ c.2
    · exact lt_irr _ _
  · rw [if_neg c]
    rcases hcase with rfl | rfl
    · exact lt_irr _ _
    · cases hc : lt o (nth l (2 * t + 2)) (nth l (2 * t + 1))
      · rfl
      · exact absurd ⟨hi, hc⟩ c
theorem sink_none (o : Int) (l : List Ent) (t : Nat) (h : Sink o l t) (hb : l.length ≤ below o l t) : HOrd o l := fun i h0 hi => by
  have := below_two o l t
  by_cases e : (i - 1) / 2 = t
  · exfalso
    unfold below at hb
    split at hb <;> omega
  · exact h.1 i h0 hi e
theorem sink_end (o : Int) (l : List Ent) (t : Nat) (h : Sink o l t) (hs : lt o (nth l (below o l t)) (nth l t) = false) : HOrd o l := fun i h0 hi => by
  by_cases e : (i - 1) / 2 = t
  · rw [e]; exact nlt_trans o _ _ _ (below_least o l t i h0 hi e) hs
  · exact h.1 i h0 hi e
theorem sink_step (o : Int) (l : List Ent) (t : Nat) (h : Sink o l t) (hb : below o l t < l.length) (hs : lt o (nth l (below o l t)) (nth l t) = true) : Sink o (swapL l t (below o l t)) (below o l t) := by
  have h2 := below_two o l t
  have hl := below_least o l t
  generalize below o l t = c at *
  obtain ⟨ha, hbb⟩ := h
  refine ⟨?_, ?_⟩
  · intro i hi0 hi hne
    rw [swapL_len] at hi
    rw [nth_swapL _ _ _ _ hi, nth_swapL _ _ _ _ (by omega), if_neg hne]
    by_cases e : (i - 1) / 2 = t
    · rw [if_pos e]
      by_cases e2 : i = c
      · rw [if_pos e2]; exact lt_asym _ _ _ hs
      · rw [if_neg e2, if_neg (by omega)]; exact hl i hi0 hi e
    · rw [if_neg e, if_neg (by omega)]
      by_cases e2 : i = t
      · rw [if_pos e2]
        subst e2
        exact hbb c (by omega) hb (by omega) hi0
      · rw [if_neg e2]; exact ha i hi0 hi e
  · intro i hi0 hi hp hc0
    rw [swapL_len] at hi
    rw [nth_swapL _ _ _ _ hi, nth_swapL _ _ _ _ (by omega), if_neg (by omega), if_neg (by omega), if_neg (show (c - 1) / 2 ≠ c by omega), if_pos (by omega)]
    have := ha i hi0 hi (by omega)
    rwa [hp] at this
theorem nth_take (l : List Ent) (n i : Nat) (h : i < n) : nth (l.take n) i = nth l i := by
  unfold nth
  rw [List.getD_eq_getElem?_getD, List.getD_eq_getElem?_getD, List.getElem?_take, if_pos h]
/-- What is left when the first is taken: the last in its place. -/
def rest (l : List Ent) : List Ent := (swapL l 0 (l.length - 1)).take (l.length - 1)
theorem rest_len (l : List Ent) : (rest l).length = l.length - 1 := by unfold rest; rw [List.length_take, swapL_len]; omega
theorem sink_start (o : Int) (l : List Ent) (h : HOrd o l) : Sink o (rest l) 0 := by
  refine ⟨?_, fun i _ _ _ h0 => absurd h0 (by omega)⟩
  intro i h0 hi hp
  rw [rest_len] at hi
  have e : ∀ j, 0 < j → j < l.length - 1 → nth (rest l) j = nth l j := fun j hj0 hj => by
    unfold rest
    rw [nth_take _ _ _ hj, nth_swapL _ _ _ _ (by omega), if_neg (by omega), if_neg (by omega)]
  rw [e i h0 hi, e _ (by omega) (by omega)]
  exact h i h0 (by omega)
theorem rest_perm (l : List Ent) (h : 0 < l.length) : l.Perm (nth l 0 :: rest l) := by
  have h1 := (swapL_perm l 0 (l.length - 1) h (by omega)).symm
  have h2 : swapL l 0 (l.length - 1) = rest l ++ [nth l 0] := by
    unfold rest
    have h3 := List.take_append_drop (l.length - 1) (swapL l 0 (l.length - 1))
    rw [List.drop_eq_getElem_cons (by rw [swapL_len]; omega), List.drop_of_length_le (by rw [swapL_len]; omega)] at h3
    rw [← nth_eq _ _ (by rw [swapL_len]; omega), nth_swapL _ _ _ _ (by omega), if_pos rfl] at h3
    exact h3.symm
  rw [h2] at h1
  exact h1.trans (List.perm_append_singleton _ _)
theorem first_least (o : Int) (l : List Ent) (h : HOrd o l) : ∀ n i, i ≤ n → i < l.length → lt o (nth l i) (nth l 0) = false
  | 0, i, hn, _ => by rw [show i = 0 by omega]; exact lt_irr _ _
  | n + 1, i, hn, hi => by
    by_cases e : i = 0
    · rw [e]; exact lt_irr _ _
    · exact nlt_trans o _ _ _ (h i (by omega) hi) (first_least o l h n ((i - 1) / 2) (by omega) (by omega))

/-- e comes out first of m. -/
def IsMin (o : Int) (m : List Ent) (e : Ent) : Prop := e ∈ m ∧ ∀ x ∈ m, lt o x e = false
theorem isMin_one {o : Int} {m : List Ent} {x y : Ent} (h : IsMin o m x) (h' : IsMin o m y) : x = y := lt_tot o x y (h'.2 x h.1) (h.2 y h'.1)
theorem isMin_perm {o : Int} {m m' : List Ent} {x : Ent} (h : IsMin o m x) (p : m.Perm m') : IsMin o m' x := ⟨p.mem_iff.1 h.1, fun y hy => h.2 y (p.mem_iff.2 hy)⟩
theorem first_min (o : Int) (l : List Ent) (h : HOrd o l) (h0 : 0 < l.length) : IsMin o l (nth l 0) :=
  ⟨nth_mem l 0 h0, fun x hx => by obtain ⟨i, hi, rfl⟩ := mem_nth l x hx; exact first_least o l h i i (Nat.le_refl _) hi⟩

/-- The first of m: by going through all. -/
def firstFrom (o : Int) : Ent → List Ent → Ent
  | e, [] => e
  | e, x :: r => firstFrom o (if lt o x e = true then x else e) r
def first (o : Int) (m : List Ent) : Ent := match m with | [] => ⟨0, 0, 0⟩ | e :: r => firstFrom o e r
theorem firstFrom_min (o : Int) : ∀ (r : List Ent) (e : Ent), IsMin o (e :: r) (firstFrom o e r)
  | [], e => ⟨by simp [firstFrom], fun x hx => by simp at hx; subst hx; exact lt_irr _ _⟩
  | x :: r, e => by
    have h := firstFrom_min o r (if lt o x e = true then x else e)
    unfold firstFrom
    generalize firstFrom o (if lt o x e = true then x else e) r = f at *
    refine ⟨?_, ?_⟩
    · have := h.1
      split at this <;> (simp at this ⊢; rcases this with h | h <;> simp [h])
    · have hh := h.2 _ (List.mem_cons_self)
      intro y hy
      simp at hy
      cases hc : lt o x e
      · rw [hc] at hh
        simp at hh
        rcases hy with rfl | rfl | hy
        · exact hh
        · exact nlt_trans o _ _ _ hc hh
        · exact h.2 y (List.mem_cons_of_mem _ hy)
      · rw [hc] at hh
        simp at hh
        rcases hy with rfl | rfl | hy
        · exact nlt_trans o _ _ _ (lt_asym _ _ _ hc) hh
        · exact hh
        · exact h.2 y (List.mem_cons_of_mem _ hy)
theorem first_isMin (o : Int) (m : List Ent) (h : m ≠ []) : IsMin o m (first o m) := by
  cases m with
  | nil => exact absurd rfl h
  | cons e r => exact firstFrom_min o r e
theorem first_of (o : Int) (m : List Ent) (e : Ent) (h : IsMin o m e) : first o m = e :=
  isMin_one (first_isMin o m (fun hn => by rw [hn] at h; exact absurd h.1 (by simp))) h
theorem first_perm (o : Int) (m m' : List Ent) (p : m.Perm m') : first o m = first o m' := by
  by_cases e : m = []
  · subst e; rw [List.nil_perm.1 p]
  · exact (first_of o m' _ (isMin_perm (first_isMin o m e) p)).symm
/-- What is left of m. -/
def left (o : Int) (m : List Ent) : List Ent := m.erase (first o m)
theorem left_perm (o : Int) (m : List Ent) (h : m ≠ []) : m.Perm (first o m :: left o m) := List.perm_cons_erase (first_isMin o m h).1
theorem left_len (o : Int) (m : List Ent) (h : m ≠ []) : (left o m).length = m.length - 1 := by
  have := (left_perm o m h).length_eq; simp at this; omega
theorem left_of (o : Int) (m r : List Ent) (h : m ≠ []) (p : m.Perm (first o m :: r)) : r.Perm (left o m) := (p.symm.trans (left_perm o m h)).cons_inv
theorem left_permut (o : Int) (m m' : List Ent) (p : m.Perm m') : (left o m).Perm (left o m') := by
  unfold left; rw [first_perm o m m' p]; exact p.erase _

/-- The least bound of all. -/
def minFrom : Int → List Ent → Int
  | a, [] => a
  | a, x :: r => minFrom (min a x.b) r
def minB (m : List Ent) : Int := match m with | [] => 1152921504606846976 | x :: r => minFrom x.b r
theorem minFrom_le : ∀ (r : List Ent) (a : Int), minFrom a r ≤ a ∧ ∀ y ∈ r, minFrom a r ≤ y.b
  | [], a => ⟨Int.le_refl _, fun y h => by simp at h⟩
  | x :: r, a => by
    obtain ⟨h1, h2⟩ := minFrom_le r (min a x.b)
    refine ⟨?_, ?_⟩
    · show minFrom (min a x.b) r ≤ a; omega
    · intro y hy
      show minFrom (min a x.b) r ≤ y.b
      simp at hy
      rcases hy with rfl | hy
      · omega
      · exact h2 y hy
theorem minFrom_or : ∀ (r : List Ent) (a : Int), minFrom a r = a ∨ ∃ y ∈ r, y.b = minFrom a r
  | [], a => .inl rfl
  | x :: r, a => by
    have e : minFrom a (x :: r) = minFrom (min a x.b) r := rfl
    rcases minFrom_or r (min a x.b) with h | ⟨y, hy, h⟩
    · by_cases c : a ≤ x.b
      · exact .inl (by rw [e, h]; omega)
      · exact .inr ⟨x, by simp, by rw [e, h]; omega⟩
    · exact .inr ⟨y, by simp [hy], by rw [e, h]⟩
theorem minB_spec (m : List Ent) (h : m ≠ []) : (∃ y ∈ m, y.b = minB m) ∧ ∀ y ∈ m, minB m ≤ y.b := by
  cases m with
  | nil => exact absurd rfl h
  | cons x r =>
    obtain ⟨h1, h2⟩ := minFrom_le r x.b
    refine ⟨?_, ?_⟩
    · rcases minFrom_or r x.b with h | ⟨y, hy, h⟩
      · exact ⟨x, by simp, h.symm⟩
      · exact ⟨y, by simp [hy], h⟩
    · intro y hy
      simp at hy
      rcases hy with rfl | hy
      · exact h1
      · exact h2 y hy
theorem minB_of (m : List Ent) (v : Int) (h : ∃ y ∈ m, y.b = v) (h' : ∀ y ∈ m, v ≤ y.b) : minB m = v := by
  obtain ⟨y, hy, rfl⟩ := h
  obtain ⟨⟨z, hz, h1⟩, h2⟩ := minB_spec m (fun e => by rw [e] at hy; simp at hy)
  have := h2 y hy
  have := h' z hz
  omega
theorem minB_perm (m m' : List Ent) (p : m.Perm m') : minB m = minB m' := by
  by_cases e : m = []
  · subst e; rw [List.nil_perm.1 p]
  · obtain ⟨⟨y, hy, h1⟩, h2⟩ := minB_spec m e
    exact (minB_of m' _ ⟨y, p.mem_iff.1 hy, h1⟩ (fun z hz => h2 z (p.mem_iff.2 hz))).symm
theorem minFrom_snoc (x : Ent) : ∀ (r : List Ent) (a : Int), minFrom a (r ++ [x]) = min (minFrom a r) x.b
  | [], _ => rfl
  | y :: r, a => minFrom_snoc x r (min a y.b)
theorem take_snoc (l : List Ent) (k : Nat) (h : k < l.length) : l.take (k + 1) = l.take k ++ [nth l k] := by
  rw [nth_eq l k h, List.take_succ_eq_append_getElem h]
theorem firstFrom_snoc (o : Int) (x : Ent) : ∀ (r : List Ent) (e : Ent), firstFrom o e (r ++ [x]) = if lt o x (firstFrom o e r) = true then x else firstFrom o e r
  | [], _ => rfl
  | _ :: r, _ => firstFrom_snoc o x r _

end Go.Proofs.Ytljgglmaglmceaa
