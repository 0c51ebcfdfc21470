/- Tours: plain mathematics. -/
import Derived.Test.YtipjaibemhoifaaVBox0
namespace Go.Proofs.Ytipjaibemhoifaa

/-- Each route with a 0 ahead. -/
def glue : List (List Int) → List Int
  | [] => []
  | r :: L => 0 :: (r ++ glue L)
theorem glue_app : ∀ L M : List (List Int), glue (L ++ M) = glue L ++ glue M
  | [], _ => rfl
  | r :: L, M => by simp [glue, glue_app L M]
theorem glue_one (r : List Int) : glue [r] = 0 :: r := by simp [glue]
theorem glue_snoc (L : List (List Int)) (r : List Int) : glue (L ++ [r]) = glue L ++ 0 :: r := by rw [glue_app, glue_one]
theorem glue_nil {L : List (List Int)} : glue L = [] ↔ L = [] := by cases L <;> simp [glue]
/-- A tour: the routes, a 0 between each two. -/
def joinL (L : List (List Int)) : List Int := (glue L).tail
theorem joinL_snoc (L : List (List Int)) (r : List Int) : joinL (L ++ [r]) = if L = [] then r else joinL L ++ 0 :: r := by
  unfold joinL
  rw [glue_snoc]
  cases L with
  | nil => simp [glue]
  | cons x L => simp [glue]
theorem glue_join {L : List (List Int)} (h : L ≠ []) : glue L = 0 :: joinL L := by
  cases L with
  | nil => exact absurd rfl h
  | cons x L => simp [glue, joinL]
/-- How long a tour is. -/
def sumL : List (List Int) → Nat
  | [] => 0
  | r :: L => (if r = [] then 0 else r.length + 1) + sumL L
theorem sumL_snoc (r : List Int) : ∀ L : List (List Int), sumL (L ++ [r]) = sumL L + (if r = [] then 0 else r.length + 1)
  | [] => by simp [sumL]
  | x :: L => by simp only [List.cons_append, sumL, sumL_snoc r L]; omega
theorem sumL_used : ∀ L : List (List Int), sumL (usedL L) = sumL L
  | [] => rfl
  | [] :: L => by
    have := sumL_used L
    have h2 : usedL ([] :: L) = usedL L := by simp [usedL]
    rw [h2, this]
    simp [sumL]
  | (x :: r) :: L => by
    have := sumL_used L
    have h2 : usedL ((x :: r) :: L) = (x :: r) :: usedL L := by simp [usedL]
    rw [h2]
    simp only [sumL, this]
theorem sumL_perm {L M : List (List Int)} (h : L.Perm M) : sumL L = sumL M := by
  induction h with
  | nil => rfl
  | cons x _ ih => simp only [sumL, ih]
  | swap x y l => simp only [sumL]; omega
  | trans _ _ ih1 ih2 => exact ih1.trans ih2
theorem glue_len {L : List (List Int)} (h : Full L) : (glue L).length = sumL L := by
  induction L with
  | nil => rfl
  | cons r L ih =>
    have h1 : r ≠ [] := h r List.mem_cons_self
    have h2 : Full L := fun l hl => h l (List.mem_cons_of_mem _ hl)
    simp only [glue, sumL, if_neg h1, List.length_cons, List.length_append, ih h2]
    omega
theorem joinL_len (L : List (List Int)) : (joinL (ordL L)).length = sumL L - 1 := by
  unfold joinL
  have h1 := glue_len (ord_full L)
  have h2 : sumL (ordL L) = sumL L := by
    rw [← sumL_used L]
    exact sumL_perm (stab_sortL (usedL L)).perm
  rw [List.length_tail, h1, h2]

/-! ### Split -/
/-- The routes that lie behind, and the one that is under way. -/
def cutStep (s : List (List Int) × List Int) (x : Int) : List (List Int) × List Int := if 0 < x then (s.1, s.2 ++ [x]) else (s.1 ++ [s.2], [])
def cutP (t : List Int) : List (List Int) × List Int := t.foldl cutStep ([], [])
def cutL (t : List Int) : List (List Int) := (cutP t).1 ++ [(cutP t).2]
theorem cutP_snoc (t : List Int) (x : Int) : cutP (t ++ [x]) = cutStep (cutP t) x := by simp [cutP]
theorem cutL_ne (t : List Int) : cutL t ≠ [] := by simp [cutL]
theorem snoc_ind {P : List Int → Prop} (h0 : P []) (h1 : ∀ t x, P t → P (t ++ [x])) (t : List Int) : P t := by
  have : ∀ r : List Int, P r.reverse := by
    intro r
    induction r with
    | nil => exact h0
    | cons x r ih => rw [List.reverse_cons]; exact h1 _ x ih
  have h := this t.reverse
  rwa [List.reverse_reverse] at h
/-- What is cut is glued again. -/
theorem glue_cut (t : List Int) (h : ∀ x ∈ t, 0 ≤ x) : glue (cutL t) = 0 :: t := by
  revert h
  refine snoc_ind (P := fun t => (∀ x ∈ t, 0 ≤ x) → glue (cutL t) = 0 :: t) (fun _ => by simp [cutL, cutP, glue]) ?_ t
  intro t x ih h
  have h1 := ih (fun y hy => h y (List.mem_append.2 (.inl hy)))
  have h2 := h x (by simp)
  unfold cutL at h1 ⊢
  rw [glue_snoc] at h1
  rw [cutP_snoc]
  unfold cutStep
  by_cases hx : 0 < x
  · rw [if_pos hx]
    simp only
    rw [glue_snoc, show (0 :: (t ++ [x]) : List Int) = (0 :: t) ++ [x] from rfl, ← h1]
    simp
  · rw [if_neg hx]
    simp only
    have : x = 0 := by omega
    rw [glue_snoc, glue_snoc, h1, this]
    simp
theorem join_cut (t : List Int) (h : ∀ x ∈ t, 0 ≤ x) : joinL (cutL t) = t := by unfold joinL; rw [glue_cut t h]; rfl
theorem fold_pos : ∀ (r : List Int) (S : List (List Int)) (c : List Int), (∀ x ∈ r, 0 < x) → r.foldl cutStep (S, c) = (S, c ++ r)
  | [], S, c, _ => by simp
  | x :: r, S, c, h => by
    have hx : 0 < x := h x List.mem_cons_self
    rw [List.foldl_cons, show cutStep (S, c) x = (S, c ++ [x]) by simp [cutStep, hx], fold_pos r S _ (fun y hy => h y (List.mem_cons_of_mem _ hy))]
    simp
theorem fold_glue : ∀ (L : List (List Int)) (S : List (List Int)) (c : List Int), (∀ r ∈ L, ∀ x ∈ r, 0 < x) →
    ((glue L).foldl cutStep (S, c)).1 ++ [((glue L).foldl cutStep (S, c)).2] = S ++ c :: L
  | [], S, c, _ => by simp [glue]
  | r :: L, S, c, h => by
    simp only [glue]
    rw [List.foldl_cons, show cutStep (S, c) 0 = (S ++ [c], []) by simp [cutStep], List.foldl_append, fold_pos r _ _ (h r List.mem_cons_self), fold_glue L _ _ (fun r hr => h r (List.mem_cons_of_mem _ hr))]
    simp
/-- What is joined is cut again. -/
theorem cut_join {L : List (List Int)} (h0 : L ≠ []) (h : ∀ r ∈ L, ∀ x ∈ r, 0 < x) : cutL (joinL L) = L := by
  cases L with
  | nil => exact absurd rfl h0
  | cons r L =>
    have e : joinL (r :: L) = r ++ glue L := by simp [joinL, glue]
    unfold cutL cutP
    rw [e, List.foldl_append, fold_pos r _ _ (h r List.mem_cons_self), fold_glue L _ _ (fun r hr => h r (List.mem_cons_of_mem _ hr))]
    simp
/-- What is wrong with a number of a tour, by what is ahead of it (the first one: a 0), and at the end. -/
def badAt (t : List Int) (i : Nat) : Bool := decide (t.getD i 0 < 0) || (decide (t.getD i 0 = 0) && (decide (i = 0) || decide (i = t.length - 1) || decide (t.getD (i - 1) 0 = 0)))
def FormT (t : List Int) : Prop := ∀ i, i < t.length → badAt t i = false
def RiseL (L : List (List Int)) : Prop := ∀ k, k + 1 < L.length → key (L.getD k []) < key (L.getD (k + 1) [])
theorem rise_pair {L : List (List Int)} (h : RiseL L) : L.Pairwise (fun a b => key a < key b) := by
  have hk : ∀ d i, i + d + 1 < L.length → key (L.getD i []) < key (L.getD (i + d + 1) []) := by
    intro d
    induction d with
    | zero => intro i hi; exact h i hi
    | succ d ih =>
      intro i hi
      have h1 := ih i (by omega)
      have h2 := h (i + d + 1) (by omega)
      rw [show i + (d + 1) + 1 = i + d + 1 + 1 by omega]
      omega
  rw [List.pairwise_iff_getElem]
  intro i j hi hj hij
  have := hk (j - i - 1) i (by omega)
  rw [show i + (j - i - 1) + 1 = j by omega] at this
  rw [List.getD_eq_getElem?_getD, List.getD_eq_getElem?_getD, List.getElem?_eq_getElem hi, List.getElem?_eq_getElem hj] at this
  exact this
theorem pair_rise {L : List (List Int)} (h : L.Pairwise (fun a b => key a < key b)) : RiseL L := by
  intro k hk
  rw [List.pairwise_iff_getElem] at h
  have := h k (k + 1) (by omega) hk (by omega)
  rw [List.getD_eq_getElem?_getD, List.getD_eq_getElem?_getD, List.getElem?_eq_getElem (by omega), List.getElem?_eq_getElem hk]
  exact this
theorem rise_sorted {L : List (List Int)} (h : RiseL L) : SortedK L := (rise_pair h).imp (fun h => Int.le_of_lt h)
/-- A plan whose routes rise is in order. -/
theorem rise_ord {L : List (List Int)} (hf : Full L) (h : RiseL L) : ordL L = L := by
  unfold ordL
  rw [used_self hf]
  exact sortL_self (rise_sorted h)
/-- No two begin alike: in order they rise. -/
theorem ord_rise {L : List (List Int)} (h : L.Pairwise (fun a b => a ≠ [] → b ≠ [] → key a ≠ key b)) : RiseL (ordL L) := by
  refine pair_rise ?_
  have hq : (usedL L).Pairwise (fun a b => a ≠ [] → b ≠ [] → key a ≠ key b) := h.filter _
  have hq2 : (usedL L).Pairwise (fun a b => key a ≠ key b) := by
    refine List.Pairwise.imp_of_mem ?_ hq
    intro a b ha hb hab
    exact hab (usedL_full L a ha) (usedL_full L b hb)
  have hp : (ordL L).Pairwise (fun a b => key a ≠ key b) := ((stab_sortL (usedL L)).perm.pairwise_iff (fun {a b} hab => Ne.symm hab)).2 hq2
  have hs : (ordL L).Pairwise (fun a b => key a ≤ key b) := (stab_sortL _).1
  refine (hs.and hp).imp ?_
  intro a b hab
  have := hab.1
  have := hab.2
  omega

/-! ### Which tours may be -/
theorem getD_lt {t : List Int} {x : Int} {i : Nat} (h : i < t.length) : (t ++ [x]).getD i 0 = t.getD i 0 := by
  rw [List.getD_eq_getElem?_getD, List.getD_eq_getElem?_getD, List.getElem?_append_left h]
theorem getD_last {t : List Int} {x : Int} : (t ++ [x]).getD t.length 0 = x := by simp [List.getD_eq_getElem?_getD]
theorem getD_mem1 {t : List Int} {i : Nat} (h : i < t.length) : t.getD i 0 ∈ t := by
  rw [List.getD_eq_getElem?_getD, List.getElem?_eq_getElem h]; exact List.getElem_mem h
def PreT (t : List Int) : Prop := ∀ i, i < t.length → 0 ≤ t.getD i 0 ∧ (t.getD i 0 = 0 → 0 < i ∧ t.getD (i - 1) 0 ≠ 0)
theorem pre_snoc (t : List Int) (x : Int) : PreT (t ++ [x]) ↔ PreT t ∧ 0 ≤ x ∧ (x = 0 → t ≠ [] ∧ t.getD (t.length - 1) 0 ≠ 0) := by
  constructor
  · intro h
    refine ⟨fun i hi => ?_, ?_⟩
    · have h1 := h i (by simp; omega)
      rw [getD_lt hi, getD_lt (i := i - 1) (by omega)] at h1
      exact h1
    · have h1 := h t.length (by simp)
      rw [getD_last] at h1
      refine ⟨h1.1, fun hx => ?_⟩
      have h2 := h1.2 hx
      rw [getD_lt (i := t.length - 1) (by omega)] at h2
      exact ⟨List.length_pos_iff.1 h2.1, h2.2⟩
  · rintro ⟨h1, h2, h3⟩ i hi
    rw [List.length_append, List.length_singleton] at hi
    by_cases hil : i < t.length
    · rw [getD_lt hil, getD_lt (i := i - 1) (by omega)]
      exact h1 i hil
    · obtain rfl : i = t.length := by omega
      rw [getD_last]
      refine ⟨h2, fun hx => ?_⟩
      have h4 := h3 hx
      have h5 := List.length_pos_iff.2 h4.1
      rw [getD_lt (i := t.length - 1) (by omega)]
      exact ⟨h5, h4.2⟩
theorem last_cut (t : List Int) : t ≠ [] → ((cutP t).2 = [] ↔ ¬ 0 < t.getD (t.length - 1) 0) := by
  refine snoc_ind (P := fun t => t ≠ [] → ((cutP t).2 = [] ↔ ¬ 0 < t.getD (t.length - 1) 0)) (fun h => absurd rfl h) ?_ t
  intro t x _ _
  rw [List.length_append, List.length_singleton, Nat.add_sub_cancel, getD_last, cutP_snoc]
  unfold cutStep
  by_cases hx : 0 < x
  · rw [if_pos hx]; simp [hx]
  · rw [if_neg hx]; simp [hx]
theorem full_snoc {L : List (List Int)} {r : List Int} : Full (L ++ [r]) ↔ Full L ∧ r ≠ [] := by
  constructor
  · intro h; exact ⟨fun l hl => h l (List.mem_append.2 (.inl hl)), h r (by simp)⟩
  · rintro ⟨h1, h2⟩ l hl
    rcases List.mem_append.1 hl with h | h
    · exact h1 l h
    · rw [List.mem_singleton.1 h]; exact h2
theorem pre_full (t : List Int) : PreT t ↔ (∀ x ∈ t, 0 ≤ x) ∧ Full (cutP t).1 := by
  refine snoc_ind (P := fun t => PreT t ↔ (∀ x ∈ t, 0 ≤ x) ∧ Full (cutP t).1) ?_ ?_ t
  · exact ⟨fun _ => ⟨fun x hx => (nomatch hx), fun l hl => (nomatch hl)⟩, fun _ i hi => absurd hi (Nat.not_lt_zero i)⟩
  · intro t x ih
    rw [pre_snoc, ih, cutP_snoc]
    have hm : (∀ y ∈ t ++ [x], 0 ≤ y) ↔ (∀ y ∈ t, 0 ≤ y) ∧ 0 ≤ x := by
      constructor
      · intro h; exact ⟨fun y hy => h y (List.mem_append.2 (.inl hy)), h x (by simp)⟩
      · rintro ⟨h1, h2⟩ y hy
        rcases List.mem_append.1 hy with h | h
        · exact h1 y h
        · rw [List.mem_singleton.1 h]; exact h2
    rw [hm]
    unfold cutStep
    by_cases hx : 0 < x
    · rw [if_pos hx]
      constructor
      · rintro ⟨⟨h1, h2⟩, h3, _⟩; exact ⟨⟨h1, h3⟩, h2⟩
      · rintro ⟨⟨h1, h3⟩, h2⟩; exact ⟨⟨h1, h2⟩, h3, fun h => by omega⟩
    · rw [if_neg hx]
      simp only
      rw [full_snoc]
      have hl : (∀ y ∈ t, 0 ≤ y) → 0 ≤ x → ((x = 0 → t ≠ [] ∧ t.getD (t.length - 1) 0 ≠ 0) ↔ (cutP t).2 ≠ []) := by
        intro hp h0
        have hx0 : x = 0 := by omega
        constructor
        · intro h
          obtain ⟨h1, h2⟩ := h hx0
          rw [ne_eq, last_cut t h1]
          have := hp _ (getD_mem1 (i := t.length - 1) (by have := List.length_pos_iff.2 h1; omega))
          omega
        · intro h _
          have h1 : t ≠ [] := by rintro rfl; exact h rfl
          refine ⟨h1, fun h2 => h ((last_cut t h1).2 (by omega))⟩
      constructor
      · rintro ⟨⟨h1, h2⟩, h3, h4⟩; exact ⟨⟨h1, h3⟩, h2, (hl h1 h3).1 h4⟩
      · rintro ⟨⟨h1, h3⟩, h2, h4⟩; exact ⟨⟨h1, h2⟩, h3, (hl h1 h3).2 h4⟩
/-- A tour has its form if nothing is below 0 and no route is empty. -/
theorem form_iff {t : List Int} (h0 : t ≠ []) : FormT t ↔ (∀ x ∈ t, 0 ≤ x) ∧ Full (cutL t) := by
  have hp := pre_full t
  have hlen := List.length_pos_iff.2 h0
  have hF : FormT t ↔ PreT t ∧ t.getD (t.length - 1) 0 ≠ 0 := by
    constructor
    · intro h
      have hx : ∀ i, i < t.length → ¬ (t.getD i 0 < 0) ∧ ¬ (t.getD i 0 = 0 ∧ (i = 0 ∨ i = t.length - 1 ∨ t.getD (i - 1) 0 = 0)) := by
        intro i hi
        have := h i hi
        unfold badAt at this
        simp only [Bool.or_eq_false_iff, decide_eq_false_iff_not, Bool.and_eq_false_iff] at this
        refine ⟨this.1, fun hh => ?_⟩
        rcases this.2 with h1 | ⟨⟨h1, h2⟩, h3⟩
        · exact h1 hh.1
        · rcases hh.2 with h | h | h
          · exact h1 h
          · exact h2 h
          · exact h3 h
      refine ⟨fun i hi => ?_, fun h1 => (hx (t.length - 1) (by omega)).2 ⟨h1, .inr (.inl rfl)⟩⟩
      have h1 := hx i hi
      refine ⟨by omega, fun h2 => ⟨?_, fun h3 => h1.2 ⟨h2, .inr (.inr h3)⟩⟩⟩
      rcases Nat.eq_zero_or_pos i with h3 | h3
      · exact absurd ⟨h2, .inl h3⟩ h1.2
      · exact h3
    · rintro ⟨h1, h2⟩ i hi
      have h3 := h1 i hi
      unfold badAt
      simp only [Bool.or_eq_false_iff, decide_eq_false_iff_not, Bool.and_eq_false_iff]
      refine ⟨by omega, ?_⟩
      by_cases h4 : t.getD i 0 = 0
      · right
        have h5 := h3.2 h4
        refine ⟨⟨by omega, fun h6 => h2 (by rw [← h6]; exact h4)⟩, h5.2⟩
      · exact .inl h4
  rw [hF, hp]
  unfold cutL
  rw [full_snoc]
  constructor
  · rintro ⟨⟨h1, h2⟩, h3⟩
    refine ⟨h1, h2, fun h => (last_cut t h0).1 h ?_⟩
    have := h1 _ (getD_mem1 (i := t.length - 1) (by omega))
    omega
  · rintro ⟨h1, h2, h3⟩
    exact ⟨⟨h1, h2⟩, fun h => h3 ((last_cut t h0).2 (by omega))⟩
open Classical in
noncomputable def splitE (t : List Int) : Int := if t = [] then 0 else if FormT t then (if RiseL (cutL t) then 0 else 8) else 2
open Classical in
noncomputable def splitR (t : List Int) : List (List Int) := if t = [] then [] else if FormT t then (if RiseL (cutL t) then cutL t else []) else []
theorem split_none {t : List Int} (h : splitE t ≠ 0) : splitR t = [] := by
  unfold splitE at h
  unfold splitR
  by_cases h0 : t = []
  · rw [if_pos h0]
  rw [if_neg h0] at h ⊢
  by_cases h1 : FormT t
  · rw [if_pos h1] at h ⊢
    by_cases h2 : RiseL (cutL t)
    · rw [if_pos h2] at h; exact absurd rfl h
    · rw [if_neg h2]
  · rw [if_neg h1]
theorem split_ok {t : List Int} (h : splitE t = 0) (h0 : t ≠ []) : FormT t ∧ RiseL (cutL t) ∧ splitR t = cutL t := by
  unfold splitE at h
  unfold splitR
  rw [if_neg h0] at h ⊢
  by_cases h1 : FormT t
  · rw [if_pos h1] at h ⊢
    by_cases h2 : RiseL (cutL t)
    · rw [if_pos h2]; exact ⟨h1, h2, rfl⟩
    · rw [if_neg h2] at h; exact absurd h (by decide)
  · rw [if_neg h1] at h; exact absurd h (by decide)
/-- What is split is joined again, and is in order. -/
theorem tour_back {t : List Int} (h : splitE t = 0) : ordL (splitR t) = splitR t ∧ joinL (ordL (splitR t)) = t := by
  by_cases h0 : t = []
  · have : splitR t = [] := by unfold splitR; rw [if_pos h0]
    rw [this, h0]; exact ⟨rfl, rfl⟩
  obtain ⟨h1, h2, h3⟩ := split_ok h h0
  obtain ⟨h4, h5⟩ := (form_iff h0).1 h1
  have h6 := rise_ord h5 h2
  rw [h3, h6]
  exact ⟨rfl, join_cut t h4⟩
/-- What is joined is split again. -/
theorem tour_plans {L : List (List Int)} (hp : ∀ r ∈ L, ∀ x ∈ r, 1 ≤ x) (hd : L.Pairwise (fun a b => a ≠ [] → b ≠ [] → key a ≠ key b)) :
    splitE (joinL (ordL L)) = 0 ∧ splitR (joinL (ordL L)) = ordL L := by
  have hp2 : ∀ r ∈ ordL L, ∀ x ∈ r, 0 < x := fun r hr x hx => by have := hp r ((ordL_mem L r).1 hr).1 x hx; omega
  have hf := ord_full L
  have hr := ord_rise hd
  generalize ordL L = M at *
  by_cases h0 : M = []
  · subst h0
    exact ⟨by unfold splitE; rw [if_pos (show joinL [] = [] from rfl)], by unfold splitR; rw [if_pos (show joinL [] = [] from rfl)]⟩
  have hc := cut_join h0 hp2
  have h1 : joinL M ≠ [] := by
    intro e
    cases M with
    | nil => exact h0 rfl
    | cons r M =>
      have h2 : r ≠ [] := hf r List.mem_cons_self
      have e2 : joinL (r :: M) = r ++ glue M := by simp [joinL, glue]
      rw [e2, List.append_eq_nil_iff] at e
      exact h2 e.1
  have hpos : ∀ x ∈ joinL M, 0 ≤ x := by
    have hg : ∀ K : List (List Int), (∀ r ∈ K, ∀ x ∈ r, 0 < x) → ∀ x ∈ glue K, 0 ≤ x := by
      intro K
      induction K with
      | nil => intro _ x hx; cases hx
      | cons r K ih =>
        intro h x hx
        simp only [glue] at hx
        rcases List.mem_cons.1 hx with rfl | hx
        · exact Int.le_refl _
        · rcases List.mem_append.1 hx with hx | hx
          · exact Int.le_of_lt (h r List.mem_cons_self x hx)
          · exact ih (fun r hr => h r (List.mem_cons_of_mem _ hr)) x hx
    intro x hx
    exact hg M hp2 x (List.mem_of_mem_tail hx)
  have hF : FormT (joinL M) := (form_iff h1).2 ⟨hpos, by rw [hc]; exact hf⟩
  constructor
  · unfold splitE; rw [if_neg h1, if_pos hF, if_pos (by rw [hc]; exact hr)]
  · unfold splitR; rw [if_neg h1, if_pos hF, if_pos (by rw [hc]; exact hr), hc]
theorem split_bad {t : List Int} {i : Nat} (hi : i < t.length) (h : badAt t i = true) : splitE t = 2 := by
  unfold splitE
  rw [if_neg (by rintro rfl; cases hi), if_neg (fun hF => by have := hF i hi; rw [h] at this; cases this)]
/-- A 0 more makes a tour none. -/
theorem zero_ahead (t : List Int) : splitE (0 :: t) = 2 := split_bad (i := 0) (by simp) (by simp [badAt])
theorem zero_behind (t : List Int) : splitE (t ++ [0]) = 2 := by
  refine split_bad (i := t.length) (by simp) ?_
  unfold badAt
  rw [getD_last]
  simp
theorem zero_beside {t : List Int} {a : Nat} (ha : a < t.length) (h : t.getD a 0 = 0) : splitE (t.take a ++ 0 :: t.drop a) = 2 := by
  have hl : (t.take a).length = a := by rw [List.length_take]; omega
  have h1 : (t.take a ++ 0 :: t.drop a).getD a 0 = 0 := by
    rw [List.getD_eq_getElem?_getD, List.getElem?_append_right (by omega), hl, Nat.sub_self]; rfl
  have h2 : (t.take a ++ 0 :: t.drop a).getD (a + 1) 0 = 0 := by
    rw [List.getD_eq_getElem?_getD, List.getElem?_append_right (by omega), hl, show a + 1 - a = 0 + 1 by omega, List.getElem?_cons_succ, List.getElem?_drop, Nat.add_zero, ← List.getD_eq_getElem?_getD, h]
  refine split_bad (i := a + 1) (by simp; omega) ?_
  unfold badAt
  rw [Nat.add_sub_cancel, h1, h2]
  simp
theorem split_nil : splitE [] = 0 ∧ splitR [] = [] := by unfold splitE splitR; exact ⟨if_pos rfl, if_pos rfl⟩
theorem split_form {t : List Int} (h0 : t ≠ []) (h : ¬ FormT t) : splitE t = 2 ∧ splitR t = [] := by
  unfold splitE splitR; rw [if_neg h0, if_neg h0, if_neg h, if_neg h]; exact ⟨rfl, rfl⟩
theorem split_order {t : List Int} (h0 : t ≠ []) (h : FormT t) (h2 : ¬ RiseL (cutL t)) : splitE t = 8 ∧ splitR t = [] := by
  unfold splitE splitR; rw [if_neg h0, if_neg h0, if_pos h, if_pos h, if_neg h2, if_neg h2]; exact ⟨rfl, rfl⟩
theorem split_fine {t : List Int} (h0 : t ≠ []) (h : FormT t) (h2 : RiseL (cutL t)) : splitE t = 0 ∧ splitR t = cutL t := by
  unfold splitE splitR; rw [if_neg h0, if_neg h0, if_pos h, if_pos h, if_pos h2, if_pos h2]; exact ⟨rfl, rfl⟩
end Go.Proofs.Ytipjaibemhoifaa
