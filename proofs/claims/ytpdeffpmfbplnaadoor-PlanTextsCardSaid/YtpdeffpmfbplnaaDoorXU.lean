/- Tours: plain mathematics. -/
import Derived.Test.YtpdeffpmfbplnaaDoorXVB
import Derived.Test.YtpdeffpmfbplnaaDoorXPMat
import Derived.ArgAppend
import Derived.Deep.CutBlock
import Derived.Deep.LoopGhost
import Derived.JoinedCond
import Derived.Deep.Slices
namespace Go.Proofs.YtpdeffpmfbplnaaDoor

/-- Each route with a 0 ahead. -/
def glue : List (List Int) → List Int
  | [] => []
  | r :: L => 0 :: (r ++ glue L)
theorem glue_app : ∀ L M : List (List Int), glue (L ++ M) = glue L ++ glue M
  | [], _ => rfl
  | r :: L, M => by simp [glue, glue_app L M]
theorem glue_one (r : List Int) : glue [r] = 0 :: r := by simp [glue]
theorem glue_snoc (L : List (List Int)) (r : List Int) : glue (L ++ [r]) = glue L ++ 0 :: r := by rw [glue_app, glue_one]
theorem glue_nil {L : List (List Int)} : glue L = [] ↔ L = [] := by cases L <;> simp [glue]
/-- A tour: the routes, a 0 between each two. -/
def joinL (L : List (List Int)) : List Int := (glue L).tail
theorem joinL_snoc (L : List (List Int)) (r : List Int) : joinL (L ++ [r]) = if L = [] then r else joinL L ++ 0 :: r := by
  unfold joinL
  rw [glue_snoc]
  cases L with
  | nil => simp [glue]
  | cons x L => simp [glue]
theorem glue_join {L : List (List Int)} (h : L ≠ []) : glue L = 0 :: joinL L := by
  cases L with
  | nil => exact absurd rfl h
  | cons x L => simp [glue, joinL]
/-- How long a tour is. -/
def sumL : List (List Int) → Nat
  | [] => 0
  | r :: L => (if r = [] then 0 else r.length + 1) + sumL L
theorem sumL_snoc (r : List Int) : ∀ L : List (List Int), sumL (L ++ [r]) = sumL L + (if r = [] then 0 else r.length + 1)
  | [] => by simp [sumL]
  | x :: L => by simp only [List.cons_append, sumL, sumL_snoc r L]; omega
theorem sumL_used : ∀ L : List (List Int), sumL (usedL L) = sumL L
  | [] => rfl
  | [] :: L => by
    have := sumL_used L
    have h2 : usedL ([] :: L) = usedL L := by simp [usedL]
    rw [h2, this]
    simp [sumL]
  | (x :: r) :: L => by
    have := sumL_used L
    have h2 : usedL ((x :: r) :: L) = (x :: r) :: usedL L := by simp [usedL]
    rw [h2]
    simp only [sumL, this]
theorem sumL_perm {L M : List (List Int)} (h : L.Perm M) : sumL L = sumL M := by
  induction h with
  | nil => rfl
  | cons x _ ih => simp only [sumL, ih]
  | swap x y l => simp only [sumL]; omega
  | trans _ _ ih1 ih2 => exact ih1.trans ih2
theorem glue_len {L : List (List Int)} (h : Full L) : (glue L).length = sumL L := by
  induction L with
  | nil => rfl
  | cons r L ih =>
    have h1 : r ≠ [] := h r List.mem_cons_self
    have h2 : Full L := fun l hl => h l (List.mem_cons_of_mem _ hl)
    simp only [glue, sumL, if_neg h1, List.length_cons, List.length_append, ih h2]
    omega
theorem joinL_len (L : List (List Int)) : (joinL (ordL L)).length = sumL L - 1 := by
  unfold joinL
  have h1 := glue_len (ord_full L)
  have h2 : sumL (ordL L) = sumL L := by
    rw [← sumL_used L]
    exact sumL_perm (stab_sortL (usedL L)).perm
  rw [List.length_tail, h1, h2]

/-! ### Split -/
/-- The routes that lie behind, and the one that is under way. -/
def cutStep (s : List (List Int) × List Int) (x : Int) : List (List Int) × List Int := if 0 < x then (s.1, s.2 ++ [x]) else (s.1 ++ [s.2], [])
def cutP (t : List Int) : List (List Int) × List Int := t.foldl cutStep ([], [])
def cutL (t : List Int) : List (List Int) := (cutP t).1 ++ [(cutP t).2]
theorem cutP_snoc (t : List Int) (x : Int) : cutP (t ++ [x]) = cutStep (cutP t) x := by simp [cutP]
theorem cutL_ne (t : List Int) : cutL t ≠ [] := by simp [cutL]
theorem snoc_ind {P : List Int → Prop} (h0 : P []) (h1 : ∀ t x, P t → P (t ++ [x])) (t : List Int) : P t := by
  have : ∀ r : List Int, P r.reverse := by
    intro r
    induction r with
    | nil => exact h0
    | cons x r ih => rw [List.reverse_cons]; exact h1 _ x ih
  have h := this t.reverse
  rwa [List.reverse_reverse] at h
/-- What is cut is glued again. -/
theorem glue_cut (t : List Int) (h : ∀ x ∈ t, 0 ≤ x) : glue (cutL t) = 0 :: t := by
  revert h
  refine snoc_ind (P := fun t => (∀ x ∈ t, 0 ≤ x) → glue (cutL t) = 0 :: t) (fun _ => by simp [cutL, cutP, glue]) ?_ t
  intro t x ih h
  have h1 := ih (fun y hy => h y (List.mem_append.2 (.inl hy)))
  have h2 := h x (by simp)
  unfold cutL at h1 ⊢
  rw [glue_snoc] at h1
  rw [cutP_snoc]
  unfold cutStep
  by_cases hx : 0 < x
  · rw [if_pos hx]
    simp only
    rw [glue_snoc, show (0 :: (t ++ [x]) : List Int) = (0 :: t) ++ [x] from rfl, ← h1]
    simp
  · rw [if_neg hx]
    simp only
    have : x = 0 := by omega
    rw [glue_snoc, glue_snoc, h1, this]
    simp
theorem join_cut (t : List Int) (h : ∀ x ∈ t, 0 ≤ x) : joinL (cutL t) = t := by unfold joinL; rw [glue_cut t h]; rfl
theorem fold_pos : ∀ (r : List Int) (S : List (List Int)) (c : List Int), (∀ x ∈ r, 0 < x) → r.foldl cutStep (S, c) = (S, c ++ r)
  | [], S, c, _ => by simp
  | x :: r, S, c, h => by
    have hx : 0 < x := h x List.mem_cons_self
    rw [List.foldl_cons, show cutStep (S, c) x = (S, c ++ [x]) by simp [cutStep, hx], fold_pos r S _ (fun y hy => h y (List.mem_cons_of_mem _ hy))]
    simp
theorem fold_glue : ∀ (L : List (List Int)) (S : List (List Int)) (c : List Int), (∀ r ∈ L, ∀ x ∈ r, 0 < x) →
    ((glue L).foldl cutStep (S, c)).1 ++ [((glue L).foldl cutStep (S, c)).2] = S ++ c :: L
  | [], S, c, _ => by simp [glue]
  | r :: L, S, c, h => by
    simp only [glue]
    rw [List.foldl_cons, show cutStep (S, c) 0 = (S ++ [c], []) by simp [cutStep], List.foldl_append, fold_pos r _ _ (h r List.mem_cons_self), fold_glue L _ _ (fun r hr => h r (List.mem_cons_of_mem _ hr))]
    simp
/-- What is joined is cut again. -/
theorem cut_join {L : List (List Int)} (h0 : L ≠ []) (h : ∀ r ∈ L, ∀ x ∈ r, 0 < x) : cutL (joinL L) = L := by
  cases L with
  | nil => exact absurd rfl h0
  | cons r L =>
    have e : joinL (r :: L) = r ++ glue L := by simp [joinL, glue]
    unfold cutL cutP
    rw [e, List.foldl_append, fold_pos r _ _ (h r List.mem_cons_self), fold_glue L _ _ (fun r hr => h r (List.mem_cons_of_mem _ hr))]
    simp
/-- What is wrong with a number of a tour, by what is ahead of it (the first one: a 0), and at the end. -/
def badAt (t : List Int) (i : Nat) : Bool := decide (t.getD i 0 < 0) || (decide (t.getD i 0 = 0) && (decide (i = 0) || decide (i = t.length - 1) || decide (t.getD (i - 1) 0 = 0)))
def FormT (t : List Int) : Prop := ∀ i, i < t.length → badAt t i = false
def RiseL (L : List (List Int)) : Prop := ∀ k, k + 1 < L.length → key (L.getD k []) < key (L.getD (k + 1) [])
theorem rise_pair {L : List (List Int)} (h : RiseL L) : L.Pairwise (fun a b => key a < key b) := by
  have hk : ∀ d i, i + d + 1 < L.length → key (L.getD i []) < key (L.getD (i + d + 1) []) := by
    intro d
    induction d with
    | zero => intro i hi; exact h i hi
    | succ d ih =>
      intro i hi
      have h1 := ih i (by omega)
      have h2 := h (i + d + 1) (by omega)
      rw [show i + (d + 1) + 1 = i + d + 1 + 1 by omega]
      omega
  rw [List.pairwise_iff_getElem]
  intro i j hi hj hij
  have := hk (j - i - 1) i (by omega)
  rw [show i + (j - i - 1) + 1 = j by omega] at this
  rw [List.getD_eq_getElem?_getD, List.getD_eq_getElem?_getD, List.getElem?_eq_getElem hi, List.getElem?_eq_getElem hj] at this
  exact this
theorem pair_rise {L : List (List Int)} (h : L.Pairwise (fun a b => key a < key b)) : RiseL L := by
  intro k hk
  rw [List.pairwise_iff_getElem] at h
  have := h k (k + 1) (by omega) hk (by omega)
  rw [List.getD_eq_getElem?_getD, List.getD_eq_getElem?_getD, List.getElem?_eq_getElem (by omega), List.getElem?_eq_getElem hk]
  exact this
theorem rise_sorted {L : List (List Int)} (h : RiseL L) : SortedK L := (rise_pair h).imp (fun h => Int.le_of_lt h)
/-- A plan whose routes rise is in order. -/
theorem rise_ord {L : List (List Int)} (hf : Full L) (h : RiseL L) : ordL L = L := by
  unfold ordL
  rw [used_self hf]
  exact sortL_self (rise_sorted h)
/-- No two begin alike: in order they rise. -/
theorem ord_rise {L : List (List Int)} (h : L.Pairwise (fun a b => a ≠ [] → b ≠ [] → key a ≠ key b)) : RiseL (ordL L) := by
  refine pair_rise ?_
  have hq : (usedL L).Pairwise (fun a b => a ≠ [] → b ≠ [] → key a ≠ key b) := h.filter _
  have hq2 : (usedL L).Pairwise (fun a b => key a ≠ key b) := by
    refine List.Pairwise.imp_of_mem ?_ hq
    intro a b ha hb hab
    exact hab (usedL_full L a ha) (usedL_full L b hb)
  have hp : (ordL L).Pairwise (fun a b => key a ≠ key b) := ((stab_sortL (usedL L)).perm.pairwise_iff (fun {a b} hab => Ne.symm hab)).2 hq2
  have hs : (ordL L).Pairwise (fun a b => key a ≤ key b) := (stab_sortL _).1
  refine (hs.and hp).imp ?_
  intro a b hab
  have := hab.1
  have := hab.2
  omega

/-! ### Which tours may be -/
theorem getD_lt {t : List Int} {x : Int} {i : Nat} (h : i < t.length) : (t ++ [x]).getD i 0 = t.getD i 0 := by
  rw [List.getD_eq_getElem?_getD, List.getD_eq_getElem?_getD, List.getElem?_append_left h]
theorem getD_last {t : List Int} {x : Int} : (t ++ [x]).getD t.length 0 = x := by simp [List.getD_eq_getElem?_getD]
theorem getD_mem1 {t : List Int} {i : Nat} (h : i < t.length) : t.getD i 0 ∈ t := by
  rw [List.getD_eq_getElem?_getD, List.getElem?_eq_getElem h]; exact List.getElem_mem h
def PreT (t : List Int) : Prop := ∀ i, i < t.length → 0 ≤ t.getD i 0 ∧ (t.getD i 0 = 0 → 0 < i ∧ t.getD (i - 1) 0 ≠ 0)
theorem pre_snoc (t : List Int) (x : Int) : PreT (t ++ [x]) ↔ PreT t ∧ 0 ≤ x ∧ (x = 0 → t ≠ [] ∧ t.getD (t.length - 1) 0 ≠ 0) := by
  constructor
  · intro h
    refine ⟨fun i hi => ?_, ?_⟩
    · have h1 := h i (by simp; omega)
      rw [getD_lt hi, getD_lt (i := i - 1) (by omega)] at h1
      exact h1
    · have h1 := h t.length (by simp)
      rw [getD_last] at h1
      refine ⟨h1.1, fun hx => ?_⟩
      have h2 := h1.2 hx
      rw [getD_lt (i := t.length - 1) (by omega)] at h2
      exact ⟨List.length_pos_iff.1 h2.1, h2.2⟩
  · rintro ⟨h1, h2, h3⟩ i hi
    rw [List.length_append, List.length_singleton] at hi
    by_cases hil : i < t.length
    · rw [getD_lt hil, getD_lt (i := i - 1) (by omega)]
      exact h1 i hil
    · obtain rfl : i = t.length := by omega
      rw [getD_last]
      refine ⟨h2, fun hx => ?_⟩
      have h4 := h3 hx
      have h5 := List.length_pos_iff.2 h4.1
      rw [getD_lt (i := t.length - 1) (by omega)]
      exact ⟨h5, h4.2⟩
theorem last_cut (t : List Int) : t ≠ [] → ((cutP t).2 = [] ↔ ¬ 0 < t.getD (t.length - 1) 0) := by
  refine snoc_ind (P := fun t => t ≠ [] → ((cutP t).2 = [] ↔ ¬ 0 < t.getD (t.length - 1) 0)) (fun h => absurd rfl h) ?_ t
  intro t x _ _
  rw [List.length_append, List.length_singleton, Nat.add_sub_cancel, getD_last, cutP_snoc]
  unfold cutStep
  by_cases hx : 0 < x
  · rw [if_pos hx]; simp [hx]
  · rw [if_neg hx]; simp [hx]
theorem full_snoc {L : List (List Int)} {r : List Int} : Full (L ++ [r]) ↔ Full L ∧ r ≠ [] := by
  constructor
  · intro h; exact ⟨fun l hl => h l (List.mem_append.2 (.inl hl)), h r (by simp)⟩
  · rintro ⟨h1, h2⟩ l hl
    rcases List.mem_append.1 hl with h | h
    · exact h1 l h
    · rw [List.mem_singleton.1 h]; exact h2
theorem pre_full (t : List Int) : PreT t ↔ (∀ x ∈ t, 0 ≤ x) ∧ Full (cutP t).1 := by
  refine snoc_ind (P := fun t => PreT t ↔ (∀ x ∈ t, 0 ≤ x) ∧ Full (cutP t).1) ?_ ?_ t
  · exact ⟨fun _ => ⟨fun x hx => (nomatch hx), fun l hl => (nomatch hl)⟩, fun _ i hi => absurd hi (Nat.not_lt_zero i)⟩
  · intro t x ih
    rw [pre_snoc, ih, cutP_snoc]
    have hm : (∀ y ∈ t ++ [x], 0 ≤ y) ↔ (∀ y ∈ t, 0 ≤ y) ∧ 0 ≤ x := by
      constructor
      · intro h; exact ⟨fun y hy => h y (List.mem_append.2 (.inl hy)), h x (by simp)⟩
      · rintro ⟨h1, h2⟩ y hy
        rcases List.mem_append.1 hy with h | h
        · exact h1 y h
        · rw [List.mem_singleton.1 h]; exact h2
    rw [hm]
    unfold cutStep
    by_cases hx : 0 < x
    · rw [if_pos hx]
      constructor
      · rintro ⟨⟨h1, h2⟩, h3, _⟩; exact ⟨⟨h1, h3⟩, h2⟩
      · rintro ⟨⟨h1, h3⟩, h2⟩; exact ⟨⟨h1, h2⟩, h3, fun h => by omega⟩
    · rw [if_neg hx]
      simp only
      rw [full_snoc]
      have hl : (∀ y ∈ t, 0 ≤ y) → 0 ≤ x → ((x = 0 → t ≠ [] ∧ t.getD (t.length - 1) 0 ≠ 0) ↔ (cutP t).2 ≠ []) := by
        intro hp h0
        have hx0 : x = 0 := by omega
        constructor
        · intro h
          obtain ⟨h1, h2⟩ := h hx0
          rw [ne_eq, last_cut t h1]
          have := hp _ (getD_mem1 (i := t.length - 1) (by have := List.length_pos_iff.2 h1; omega))
          omega
        · intro h _
          have h1 : t ≠ [] := by rintro rfl; exact h rfl
          refine ⟨h1, fun h2 => h ((last_cut t h1).2 (by omega))⟩
      constructor
      · rintro ⟨⟨h1, h2⟩, h3, h4⟩; exact ⟨⟨h1, h3⟩, h2, (hl h1 h3).1 h4⟩
      · rintro ⟨⟨h1, h3⟩, h2, h4⟩; exact ⟨⟨h1, h2⟩, h3, (hl h1 h3).2 h4⟩
/-- A tour has its form if nothing is below 0 and no route is empty. -/
theorem form_iff {t : List Int} (h0 : t ≠ []) : FormT t ↔ (∀ x ∈ t, 0 ≤ x) ∧ Full (cutL t) := by
  have hp := pre_full t
  have hlen := List.length_pos_iff.2 h0
  have hF : FormT t ↔ PreT t ∧ t.getD (t.length - 1) 0 ≠ 0 := by
    constructor
    · intro h
      have hx : ∀ i, i < t.length → ¬ (t.getD i 0 < 0) ∧ ¬ (t.getD i 0 = 0 ∧ (i = 0 ∨ i = t.length - 1 ∨ t.getD (i - 1) 0 = 0)) := by
        intro i hi
        have := h i hi
        unfold badAt at this
        simp only [Bool.or_eq_false_iff, decide_eq_false_iff_not, Bool.and_eq_false_iff] at this
        refine ⟨this.1, fun hh => ?_⟩
        rcases this.2 with h1 | ⟨⟨h1, h2⟩, h3⟩
        · exact h1 hh.1
        · rcases hh.2 with h | h | h
          · exact h1 h
          · exact h2 h
          · exact h3 h
      refine ⟨fun i hi => ?_, fun h1 => (hx (t.length - 1) (by omega)).2 ⟨h1, .inr (.inl rfl)⟩⟩
      have h1 := hx i hi
      refine ⟨by omega, fun h2 => ⟨?_, fun h3 => h1.2 ⟨h2, .inr (.inr h3)⟩⟩⟩
      rcases Nat.eq_zero_or_pos i with h3 | h3
      · exact absurd ⟨h2, .inl h3⟩ h1.2
      · exact h3
    · rintro ⟨h1, h2⟩ i hi
      have h3 := h1 i hi
      unfold badAt
      simp only [Bool.or_eq_false_iff, decide_eq_false_iff_not, Bool.and_eq_false_iff]
      refine ⟨by omega, ?_⟩
      by_cases h4 : t.getD i 0 = 0
      · right
        have h5 := h3.2 h4
        refine ⟨⟨by omega, fun h6 => h2 (by rw [← h6]; exact h4)⟩, h5.2⟩
      · exact .inl h4
  rw [hF, hp]
  unfold cutL
  rw [full_snoc]
  constructor
  · rintro ⟨⟨h1, h2⟩, h3⟩
    refine ⟨h1, h2, fun h => (last_cut t h0).1 h ?_⟩
    have := h1 _ (getD_mem1 (i := t.length - 1) (by omega))
    omega
  · rintro ⟨h1, h2, h3⟩
    exact ⟨⟨h1, h2⟩, fun h => h3 ((last_cut t h0).2 (by omega))⟩
open Classical in
noncomputable def splitE (t : List Int) : Int := if t = [] then 0 else if FormT t then (if RiseL (cutL t) then 0 else 8) else 2
open Classical in
noncomputable def splitR (t : List Int) : List (List Int) := if t = [] then [] else if FormT t then (if RiseL (cutL t) then cutL t else []) else []
theorem split_none {t : List Int} (h : splitE t ≠ 0) : splitR t = [] := by
  unfold splitE at h
  unfold splitR
  by_cases h0 : t = []
  · rw [if_pos h0]
  rw [if_neg h0] at h ⊢
  by_cases h1 : FormT t
  · rw [if_pos h1] at h ⊢
    by_cases h2 : RiseL (cutL t)
    · rw [if_pos h2] at h; exact absurd rfl h
    · rw [if_neg h2]
  · rw [if_neg h1]
theorem split_ok {t : List Int} (h : splitE t = 0) (h0 : t ≠ []) : FormT t ∧ RiseL (cutL t) ∧ splitR t = cutL t := by
  unfold splitE at h
  unfold splitR
  rw [if_neg h0] at h ⊢
  by_cases h1 : FormT t
  · rw [if_pos h1] at h ⊢
    by_cases h2 : RiseL (cutL t)
    · rw [if_pos h2]; exact ⟨h1, h2, rfl⟩
    · rw [if_neg h2] at h; exact absurd h (by decide)
  · rw [if_neg h1] at h; exact absurd h (by decide)
/-- What is split is joined again, and is in order. -/
theorem tour_back {t : List Int} (h : splitE t = 0) : ordL (splitR t) = splitR t ∧ joinL (ordL (splitR t)) = t := by
  by_cases h0 : t = []
  · have : splitR t = [] := by unfold splitR; rw [if_pos h0]
    rw [this, h0]; exact ⟨rfl, rfl⟩
  obtain ⟨h1, h2, h3⟩ := split_ok h h0
  obtain ⟨h4, h5⟩ := (form_iff h0).1 h1
  have h6 := rise_ord h5 h2
  rw [h3, h6]
  exact ⟨rfl, join_cut t h4⟩
/-- What is joined is split again. -/
theorem tour_plans {L : List (List Int)} (hp : ∀ r ∈ L, ∀ x ∈ r, 1 ≤ x) (hd : L.Pairwise (fun a b => a ≠ [] → b ≠ [] → key a ≠ key b)) :
    splitE (joinL (ordL L)) = 0 ∧ splitR (joinL (ordL L)) = ordL L := by
  have hp2 : ∀ r ∈ ordL L, ∀ x ∈ r, 0 < x := fun r hr x hx => by have := hp r ((ordL_mem L r).1 hr).1 x hx; omega
  have hf := ord_full L
  have hr := ord_rise hd
  generalize ordL L = M at *
  by_cases h0 : M = []
  · subst h0
    exact ⟨by unfold splitE; rw [if_pos (show joinL [] = [] from rfl)], by unfold splitR; rw [if_pos (show joinL [] = [] from rfl)]⟩
  have hc := cut_join h0 hp2
  have h1 : joinL M ≠ [] := by
    intro e
    cases M with
    | nil => exact h0 rfl
    | cons r M =>
      have h2 : r ≠ [] := hf r List.mem_cons_self
      have e2 : joinL (r :: M) = r ++ glue M := by simp [joinL, glue]
      rw [e2, List.append_eq_nil_iff] at e
      exact h2 e.1
  have hpos : ∀ x ∈ joinL M, 0 ≤ x := by
    have hg : ∀ K : List (List Int), (∀ r ∈ K, ∀ x ∈ r, 0 < x) → ∀ x ∈ glue K, 0 ≤ x := by
      intro K
      induction K with
      | nil => intro _ x hx; cases hx
      | cons r K ih =>
        intro h x hx
        simp only [glue] at hx
        rcases List.mem_cons.1 hx with rfl | hx
        · exact Int.le_refl _
        · rcases List.mem_append.1 hx with hx | hx
          · exact Int.le_of_lt (h r List.mem_cons_self x hx)
          · exact ih (fun r hr => h r (List.mem_cons_of_mem _ hr)) x hx
    intro x hx
    exact hg M hp2 x (List.mem_of_mem_tail hx)
  have hF : FormT (joinL M) := (form_iff h1).2 ⟨hpos, by rw [hc]; exact hf⟩
  constructor
  · unfold splitE; rw [if_neg h1, if_pos hF, if_pos (by rw [hc]; exact hr)]
  · unfold splitR; rw [if_neg h1, if_pos hF, if_pos (by rw [hc]; exact hr), hc]
theorem split_bad {t : List Int} {i : Nat} (hi : i < t.length) (h : badAt t i = true) : splitE t = 2 := by
  unfold splitE
  rw [if_neg (by rintro rfl; cases hi), if_neg (fun hF => by have := hF i hi; rw [h] at this; cases this)]
/-- A 0 more makes a tour none. -/
theorem zero_ahead (t : List Int) : splitE (0 :: t) = 2 := split_bad (i := 0) (by simp) (by simp [badAt])
theorem zero_behind (t : List Int) : splitE (t ++ [0]) = 2 := by
  refine split_bad (i := t.length) (by simp) ?_
  unfold badAt
  rw [getD_last]
  simp
theorem zero_beside {t : List Int} {a : Nat} (ha : a < t.length) (h : t.getD a 0 = 0) : splitE (t.take a ++ 0 :: t.drop a) = 2 := by
  have hl : (t.take a).length = a := by rw [List.length_take]; omega
  have h1 : (t.take a ++ 0 :: t.drop a).getD a 0 = 0 := by
    rw [List.getD_eq_getElem?_getD, List.getElem?_append_right (by omega), hl, Nat.sub_self]; rfl
  have h2 : (t.take a ++ 0 :: t.drop a).getD (a + 1) 0 = 0 := by
    rw [List.getD_eq_getElem?_getD, List.getElem?_append_right (by omega), hl, show a + 1 - a = 0 + 1 by omega, List.getElem?_cons_succ, List.getElem?_drop, Nat.add_zero, ← List.getD_eq_getElem?_getD, h]
  refine split_bad (i := a + 1) (by simp; omega) ?_
  unfold badAt
  rw [Nat.add_sub_cancel, h1, h2]
  simp
theorem split_nil : splitE [] = 0 ∧ splitR [] = [] := by unfold splitE splitR; exact ⟨if_pos rfl, if_pos rfl⟩
theorem split_form {t : List Int} (h0 : t ≠ []) (h : ¬ FormT t) : splitE t = 2 ∧ splitR t = [] := by
  unfold splitE splitR; rw [if_neg h0, if_neg h0, if_neg h, if_neg h]; exact ⟨rfl, rfl⟩
theorem split_order {t : List Int} (h0 : t ≠ []) (h : FormT t) (h2 : ¬ RiseL (cutL t)) : splitE t = 8 ∧ splitR t = [] := by
  unfold splitE splitR; rw [if_neg h0, if_neg h0, if_pos h, if_pos h, if_neg h2, if_neg h2]; exact ⟨rfl, rfl⟩
theorem split_fine {t : List Int} (h0 : t ≠ []) (h : FormT t) (h2 : RiseL (cutL t)) : splitE t = 0 ∧ splitR t = cutL t := by
  unfold splitE splitR; rw [if_neg h0, if_neg h0, if_pos h, if_pos h, if_pos h2, if_pos h2]; exact ⟨rfl, rfl⟩
end Go.Proofs.YtpdeffpmfbplnaaDoor
/- What tour.formed, copied, cut and rising answer. -/
namespace Go.Proofs.YtpdeffpmfbplnaaDoor
open Go.ChangeShapes Go.WideShapes Go.ChangeAt Go.RowKit

theorem form_pre {t : List Int} (h0 : t ≠ []) : FormT t ↔ PreT t ∧ t.getD (t.length - 1) 0 ≠ 0 := by
  rw [form_iff h0, pre_full]
  unfold cutL
  rw [full_snoc]
  constructor
  · rintro ⟨h1, h2, h3⟩
    exact ⟨⟨h1, h2⟩, fun h => h3 ((last_cut t h0).2 (by omega))⟩
  · rintro ⟨⟨h1, h2⟩, h3⟩
    refine ⟨h1, h2, fun h => (last_cut t h0).1 h ?_⟩
    have := h1 _ (getD_mem1 (i := t.length - 1) (by have := List.length_pos_iff.2 h0; omega))
    omega
def PreK (t : List Int) (k : Nat) : Prop := ∀ i, i < k → 0 ≤ t.getD i 0 ∧ (t.getD i 0 = 0 → 0 < i ∧ t.getD (i - 1) 0 ≠ 0)
/-- The number ahead of number k; ahead of the first one a 0. -/
def lastK (t : List Int) (k : Nat) : Int := (0 :: t).getD k 0
theorem lastK_succ (t : List Int) (k : Nat) : lastK t (k + 1) = t.getD k 0 := by simp [lastK, List.getD_eq_getElem?_getD]
theorem lastK_zero (t : List Int) : lastK t 0 = 0 := rfl
theorem lastK_pos {t : List Int} {k : Nat} (h : 0 < k) : lastK t k = t.getD (k - 1) 0 := by
  obtain ⟨j, rfl⟩ : ∃ j, k = j + 1 := ⟨k - 1, by omega⟩
  rw [lastK_succ, Nat.add_sub_cancel]
theorem preK_next {t : List Int} {k : Nat} (h : PreK t k) (h1 : ¬ t.getD k 0 < 0) (h2 : ¬ (t.getD k 0 = 0 ∧ lastK t k = 0)) : PreK t (k + 1) := by
  intro i hi
  by_cases he : i = k
  · subst he
    refine ⟨by omega, fun h3 => ?_⟩
    rcases Nat.eq_zero_or_pos i with h4 | h4
    · exact absurd ⟨h3, by rw [h4]; rfl⟩ h2
    · exact ⟨h4, fun h5 => h2 ⟨h3, by rw [lastK_pos h4]; exact h5⟩⟩
  · exact h i (by omega)
theorem preK_bad {t : List Int} {k : Nat} (hk : k < t.length) (h : t.getD k 0 < 0 ∨ (t.getD k 0 = 0 ∧ lastK t k = 0)) : ¬ FormT t := by
  intro hF
  have h0 : t ≠ [] := by rintro rfl; cases hk
  have hp := ((form_pre h0).1 hF).1 k hk
  rcases h with h | ⟨h1, h2⟩
  · omega
  · have h3 := hp.2 h1
    rw [lastK_pos h3.1] at h2
    exact h3.2 h2
theorem preK_end {t : List Int} (h0 : t ≠ []) (h : PreK t t.length) : FormT t ↔ lastK t t.length ≠ 0 := by
  rw [form_pre h0, lastK_pos (List.length_pos_iff.2 h0)]
  exact ⟨fun h1 => h1.2, fun h1 => ⟨h, h1⟩⟩
instance (t : List Int) : Decidable (FormT t) := by unfold FormT; infer_instance
/-- A copy of numbers, put behind a slice that has no room. -/
theorem app_copy {w : World} {ops : Array Oper} {rest : List Oper} {o : Oper} {a : Act} {Q : Exit → Act → World → Prop} (hgd : o.guard = none) (s x : Operand)
    (ho : o.op = .call { callee := .builtin .append, args := #[s, x], argTypes := #[42, 42] }) (ao : Addr) (hs : a.eval s = .slice (some ao) 0 0)
    (u : Value) (xs : List Int) (hx : a.eval x = u) (hr : Row w u (ints xs)) (h0 : xs ≠ []) (hlen : xs.length ≤ 10000000)
    (h : ∀ v' w', OwnI w' w.heap.size v' xs → w.grownBy w' none → wpList Tryd.prog ops Q rest (a.put o.dst v') w') : wpList Tryd.prog ops Q (o :: rest) a w := by
  obtain ⟨i0, hi, hz0, hz1, hz2⟩ := info_parts infoInt
  obtain ⟨hm, ad, cap, rfl, hc, ⟨hc2, hn⟩, hcell⟩ := hr
  rw [ints_len] at *
  have hpos := List.length_pos_iff.2 h0
  cases ad with
  | none => have := hn rfl; omega
  | some ad =>
    refine wpList_append_grows w hgd s x 42 ho 3 i0 _ 1 8 Tryd.underlying42 hi hz0 hz1 hz2 rfl (by decide) (some ao) 0 0 [] hs (fun h => by cases h) rfl (fun _ _ j u hj => by simp at hj) ad xs.length cap (ints xs) hx (by rw [ints_len]; omega) ?_ ?_ (by omega) (by unfold maxLen; omega) (by omega) ?_
    · intro j w0 hj
      rcases hcell with h0 | ⟨b, off, he, hcc⟩
      · rw [h0] at hj; simp at hj
      · simp at he
        subst he
        have hjl : j < xs.length := by
          rcases Nat.lt_or_ge j xs.length with h | h
          · exact h
          · rw [List.getElem?_eq_none (by rw [ints_len]; exact h)] at hj; simp at hj
        rw [add_off, hcc j hjl, hj]
    · intro u hu
      simp only [ints, List.mem_map] at hu
      obtain ⟨n, _, rfl⟩ := hu
      rfl
    · intro v' w' h1 h2
      refine h v' w' ?_ h2
      unfold OwnI
      have := h1
      rw [Nat.zero_add, List.nil_append] at this
      exact this
end Go.Proofs.YtpdeffpmfbplnaaDoor
/- What the document's Sorted answers. -/
namespace Go.Proofs.YtpdeffpmfbplnaaDoor
open Go.ChangeShapes Go.WideShapes Go.ChangeAt Go.RowKit

/-- A part of lines that a call has made, put behind lines that it has made. -/
theorem app_part {w : World} {ops : Array Oper} {rest : List Oper} {o : Oper} {a : Act} {Q : Exit → Act → World → Prop} (hgd : o.guard = none) (s x : Operand)
    (ho : o.op = .call { callee := .builtin .append, args := #[s, x], argTypes := #[25, 25] }) (B : Nat) (v : Value) (A : List (List Int)) (hs : a.eval s = v) (hown : OwnLL w B v A)
    (u : Value) (C : List (List Int)) (hx : a.eval x = u) (hr : ∃ us, Row w u us ∧ OwnIn w B us C) (hlen : A.length + C.length ≤ 1000000) (hB : B ≤ w.heap.size)
    (h : ∀ v' w', OwnLL w' B v' (A ++ C) → w.grownBy w' v.ownBlock → (v'.ownBlock = v.ownBlock ∨ v'.ownBlock = some w.heap.size) → wpList Tryd.prog ops Q rest (a.put o.dst v') w') : wpList Tryd.prog ops Q (o :: rest) a w := by
  obtain ⟨i0, hi, hz0, hz1, hz2⟩ := info_parts infoInts
  obtain ⟨vs, h1, h2⟩ := hown
  obtain ⟨us, k1, k2⟩ := hr
  have hvl := h2.in.len
  have hul := k2.in.len
  have post : ∀ w', w.grownBy w' v.ownBlock → OwnIn w' B (vs ++ us) (A ++ C) := by
    intro w' hg
    have hall := h2.append k2
    refine hall.kept hg (fun z hz => ?_)
    rcases h1.2 with ⟨rfl, _⟩ | ⟨g, cap, cur, rfl, _, hgg, _⟩
    · cases z.ownBlock <;> simp [Value.ownBlock]
    · exact .inr (hall.ne hgg (by decide) z hz)
  obtain ⟨hm, ad, cap, rfl, hc, ⟨hc2, hn⟩, hcell⟩ := k1
  cases ad with
  | none =>
    have hc0 : cap = 0 := hn rfl
    have hus : us = [] := List.eq_nil_of_length_eq_zero (by omega)
    subst hus hc0
    refine wpList_append_own_none hgd s x 25 ho B 42 i0 1 Tryd.underlying25 hi v vs.length vs hs h1 hx (h v w ⟨vs ++ [], by simpa using h1, post w ⟨rfl, rfl, rfl, Nat.le_refl _, fun _ _ _ => rfl⟩⟩ ⟨rfl, rfl, rfl, Nat.le_refl _, fun _ _ _ => rfl⟩ (.inl rfl))
  | some ad =>
    refine wpList_append_own_at w hgd s x 25 ho B 42 i0 _ 1 24 Tryd.underlying25 hi hz0 hz1 hz2 rfl (by decide) v vs.length vs hs h1 ad us.length cap us hx (by omega) ?_ k2.one (by unfold maxLen; omega) (by omega) hB ?_
    · intro j w0 hj
      have hjl : j < us.length := by
        rcases Nat.lt_or_ge j us.length with h | h
        · exact h
        · rw [List.getElem?_eq_none h] at hj; simp at hj
      rcases hcell with rfl | ⟨b, off, he, hcc⟩
      · simp at hjl
      · simp at he
        subst he
        rw [add_off, hcc j hjl, hj]
    · intro v' w' q1 q2 _ q4
      refine h v' w' ⟨vs ++ us, ?_, post w' q2⟩ q2 q4
      rw [List.length_append]; exact q1
theorem OwnIn.take {w : World} {B : Nat} : ∀ {vs : List Value} {L : List (List Int)} (k : Nat), OwnIn w B vs L → OwnIn w B (vs.take k) (L.take k)
  | [], [], _, _ => by simp [OwnIn]
  | _ :: _, _ :: _, 0, _ => trivial
  | _ :: _, _ :: _, k + 1, h => ⟨h.1, OwnIn.take k h.2⟩
  | [], _ :: _, _, h => h.elim
  | _ :: _, [], _, h => h.elim
theorem OwnIn.drop {w : World} {B : Nat} : ∀ {vs : List Value} {L : List (List Int)} (k : Nat), OwnIn w B vs L → OwnIn w B (vs.drop k) (L.drop k)
  | [], [], _, _ => by simp [OwnIn]
  | _ :: _, _ :: _, 0, h => h
  | _ :: _, _ :: _, k + 1, h => OwnIn.drop k h.2
  | [], _ :: _, _, h => h.elim
  | _ :: _, [], _, h => h.elim
theorem OwnIn.below {w w' : World} {B : Nat} (hb : Below w.heap.size w w') : ∀ {vs : List Value} {L : List (List Int)}, OwnIn w B vs L → OwnIn w' B vs L
  | [], [], _ => trivial
  | _ :: _, _ :: _, h => ⟨own_below h.1 hb, OwnIn.below hb h.2⟩
  | [], _ :: _, h => h.elim
  | _ :: _, [], h => h.elim
/-- The first and the last part of lines that a call has made. -/
theorem OwnLL.parts {w : World} {B g n cap : Nat} {L : List (List Int)} (h : OwnLL w B (.slice (some ⟨g, 0, none⟩) n cap) L) (k : Nat) (hk : k ≤ n) :
    (∃ us, Row w (.slice (some ⟨g, 0, none⟩) k cap) us ∧ OwnIn w B us (L.take k)) ∧ ∀ a, a = (if cap = k then some (⟨g, 0, none⟩ : Addr) else some ⟨g, 0 + k, none⟩) → ∃ us, Row w (.slice a (n - k) (cap - k)) us ∧ OwnIn w B us (L.drop k) := by
  have hn := h.num
  obtain ⟨vs, h1, h2⟩ := h
  have hv : n = vs.length := by rw [hn, h2.in.len]
  have hr := own_row h1
  constructor
  · refine ⟨vs.take k, ?_, h2.take k⟩
    have := Row.part hr 0 k (Nat.zero_le _) (by omega) (some ⟨g, 0, none⟩) (by split <;> rfl)
    rw [List.drop_zero, Nat.sub_zero] at this
    exact this
  · intro a ha
    refine ⟨vs.drop k, ?_, h2.drop k⟩
    have := Row.part hr k n hk (by omega) a ha
    rw [List.take_of_length_le (by rw [List.length_drop]; omega)] at this
    exact this
/-- One more row goes behind all that is not above it. -/
theorem ord_next {X : List (List Int)} {r : List Int} {k : Nat} (hk : k ≤ (sortL X).length) (h1 : k = 0 ∨ key ((sortL X).getD (k - 1) []) ≤ key r) (h2 : ∀ i, k ≤ i → i < (sortL X).length → key r < key ((sortL X).getD i [])) :
    sortL (X ++ [r]) = (sortL X).take k ++ r :: (sortL X).drop k := by
  have hs := (stab_sortL X)
  refine sortL_eq (stab_snoc (by rw [List.take_append_drop]; exact hs) (upto_at hs.1 hk h1) (fun y hy => ?_))
  obtain ⟨i, hi, rfl⟩ := List.getElem_of_mem hy
  have hi2 : k + i < (sortL X).length := by rw [List.length_drop] at hi; omega
  have := h2 (k + i) (by omega) hi2
  rw [List.getD_eq_getElem?_getD, List.getElem?_eq_getElem hi2] at this
  rw [List.getElem_drop]
  exact this
set_option maxRecDepth 1000000 in
set_option maxHeartbeats 4000000 in
theorem dsorted_any {w : World} {v : Value} {L : List (List Int)} (h : IsLL w v L) (hlen : L.length ≤ 1000) (hr : ∀ l ∈ L, l.length ≤ 1000000) :
    Calls Tryd.prog 15 #[planV v] w fun e w' => ∃ u, e = .returned (planV u) ∧ OwnLL w' w.heap.size u (ordL L) ∧ Below w.heap.size w w' := by
  have HR := Lib.hid (show ∀ k, k < L.length → (L.getD k []).length ≤ 1000000 from fun k hk => by
    rw [List.getD_eq_getElem?_getD, List.getElem?_eq_getElem hk]; exact hr _ (List.getElem_mem hk))
  have hb1 := (Below.refl w.heap.size w).alloc (Nat.le_refl _) (.cells #[v] 27)
  have HB0 := Lib.hid (hb1.alloc hb1.size (.cells #[.slice none 0 0] 27))
  have H := Lib.hid h
  have hp := pbox_new w v
  have HP := Lib.hid (hp.later ((Below.refl _ _).alloc (Nat.le_refl _) (.cells #[.slice none 0 0] 27)))
  have hz := pbox_new (w.alloc (.cells #[v] 27)) (.slice none 0 0)
  rw [show (w.alloc (.cells #[v] 27)).heap.size = w.heap.size + 1 by simp] at hz
  have HZ := Lib.hid hz
  have HSZ := Lib.hid (show ((w.alloc (.cells #[v] 27)).alloc (.cells #[.slice none 0 0] 27)).heap.size = w.heap.size + 2 by simp)
  obtain ⟨la, lc, rfl, hlm⟩ := h.form
  have hlm1 : L.length ≤ 9223372036854775807 := by unfold maxLen at hlm; omega
  clear h hr hb1 hp hz hlm
  unfold planV
  go_enter Tryd.func15, Tryd.ntmps15
  go_upto_region 1 with fail
  generalize (w.alloc (.cells #[.slice la L.length lc] 27)).alloc (.cells #[.slice none 0 0] 27) = W at *
  have hsW := HSZ.out
  have HBW0 := Lib.hid HB0.out
  go_wp2_with fail
  go_loopw [3, 4] (fun out i wr => ∃ (k : Nat), k ≤ L.length ∧ i = .int .i64 k ∧ OwnLL wr (w.heap.size + 2) out (ordL (L.take k)) ∧ Below w.heap.size w wr ∧ Below (w.heap.size + 2) W wr) (fun _ i _ => L.length - (intOf i).toNat)
  case atStart => exact ⟨0, Nat.zero_le _, rfl, ownLL_nil _ _, HB0.out, Below.refl _ _⟩
  case round =>
    obtain ⟨k, hk, rfl, ho, hbw, hbw1⟩ := hrel
    have HO := Lib.hid ho
    have HBW := Lib.hid hbw
    have HBW1 := Lib.hid hbw1
    have HPr := Lib.hid (HP.out.below (M := w.heap.size + 2) (by omega) hbw1)
    have HZr := Lib.hid (HZ.out.below (M := w.heap.size + 2) (by omega) hbw1)
    have hszr : w.heap.size + 2 ≤ wr.heap.size := by have := hbw1.size; omega
    have x0 := HPr.out.cell
    by_cases hlt : k < L.length
    · have hlt2 : (k : Int) < (L.length : Int) := by omega
      obtain ⟨tb, off, a1, n1, d1, rfl, htb, hcw, hn1, hmx, hrow⟩ := ll_at H.out k hlt
      have hcl := (hbw.cell (p := ⟨tb, off + k, none⟩) htb).trans hcw
      have HRow := Lib.hid hrow
      have HLl := Lib.hid (HR.out k hlt)
      have HT := Lib.hid (take_getD hlt)
      have HXL := Lib.hid (show (ordL (L.take k)).length ≤ 1000 by have := ordL_len (L.take k); rw [List.length_take] at this; omega)
      generalize L.getD k [] = r at *
      subst hn1
      have hm2 : r.length ≤ 9223372036854775807 := by unfold maxLen at hmx; omega
      clear hmx hrow htb hcw ho hbw hbw1
      by_cases he : r = []
      · have hl0 : ((r.length : Int) == 0) = true := by rw [he]; rfl
        have HE := Lib.hid (show ordL (L.take (k + 1)) = ordL (L.take k) by rw [HT.out]; unfold ordL; rw [usedL_snoc, if_pos he])
        go_wp2_with fail
        go_roundw
        case rel => exact ⟨k + 1, by omega, by go_num, by rw [HE.out]; exact HO.out, HBW.out, HBW1.out⟩
        case measure => simp [intOf]; omega
      · have hl0 : ((r.length : Int) == 0) = false := by simpa using he
        have HE := Lib.hid (show ordL (L.take (k + 1)) = sortL (usedL (L.take k) ++ [r]) by rw [HT.out]; unfold ordL; rw [usedL_snoc, if_neg he])
        have hform : (u3 = .slice none 0 0 ∧ ordL (L.take k) = []) ∨ ∃ g cap, u3 = .slice (some ⟨g, 0, none⟩) (ordL (L.take k)).length cap := by
          obtain ⟨vs, h1, h2⟩ := HO.out
          rcases h1.2 with ⟨rfl, hn⟩ | ⟨g, cap, cur, rfl, _⟩
          · exact .inl ⟨rfl, by have := h2.in.len; exact List.eq_nil_of_length_eq_zero (by omega)⟩
          · exact .inr ⟨g, cap, by rw [h2.in.len]⟩
        have hru := usedL_len (L.take k)
        rcases hform with ⟨rfl, hX0⟩ | ⟨g, cap, rfl⟩
        · have HE1 := Lib.hid (show ordL (L.take (k + 1)) = [r] by
            rw [HE.out]
            have h0 : (usedL (L.take k)).length = 0 := by have := sortL_len (usedL (L.take k)); rw [show sortL (usedL (L.take k)) = ordL (L.take k) from rfl, hX0] at this; simpa using this.symm
            rw [List.eq_nil_of_length_eq_zero h0]; rfl)
          clear hX0 HO
          go_upto_block 2 with fail
          go_cut [6] from 8 to 56 (fun av wx => av = .int .i64 0 ∧ Below wr.heap.size wr wx)
          case first =>
            obtain ⟨wo, hwo⟩ : ∃ wo, wo = wr := ⟨_, rfl⟩
            subst hwo
            go_wp2_with fail
            go_loopw [6] (fun av wx => av = .int .i64 0 ∧ Below wo.heap.size wo wx) (fun _ _ => 0)
            case atStart => exact ⟨rfl, Below.refl _ _⟩
            case round =>
              obtain ⟨rfl, hb⟩ := hrel
              have HBi := Lib.hid hb
              clear hb
              go_wp2_with fail
              go_quiet (fail)
              have HBq := Lib.hid (below_drewN HBi.out nq)
              generalize wr.drewN nq = w5 at *
              go_wp2_with fail
              go_meet
              case rel => exact ⟨rfl, HBq.out⟩
          case rest =>
            obtain ⟨rfl, hb⟩ := hcut
            have HB2 := Lib.hid (HBW.out.trans (hb.mono HBW.out.size))
            have HB21 := Lib.hid (HBW1.out.trans (hb.mono hszr))
            have HR2 := Lib.hid (HRow.out.below HB2.out)
            have hszc : w.heap.size + 2 ≤ wc.heap.size := by have := hb.size; omega
            clear hb x0 hcl
            go_wp2_with (first | (at_builtin; refine app_part rfl _ _ rfl (w.heap.size + 2) _ [] rfl (ownLL_nil _ _) _ [] rfl ⟨[], ⟨by simp, none, 0, rfl, by simp, ⟨by simp, fun _ => rfl⟩, .inl rfl⟩, trivial⟩ (by decide) hszc ?_))
            intro v3 w3 own3 grown3 _
            have HO3 := Lib.hid own3
            have HB3 := Lib.hid (HB2.out.grown grown3 HB2.out.size (fun q hq => by have := (ownLL_nil wc (w.heap.size + 2)).ge q hq; omega))
            have HB31 := Lib.hid (HB21.out.grown grown3 hszc (fun q hq => (ownLL_nil wc (w.heap.size + 2)).ge q hq))
            have hsz3 : w.heap.size + 2 ≤ w3.heap.size := by have := grown3.size; omega
            have HR3 := Lib.hid (HRow.out.below HB3.out)
            clear own3 grown3
            go_wp2_with (first | (at_builtin; refine app_ints rfl _ _ rfl (w.heap.size + 2) _ [] rfl (ownI_nil _ _) _ r rfl HR3.out (by have := HLl.out; simp; omega) hsz3 ?_))
            intro v4 w4 own4 grown4 _
            have HI4 := Lib.hid own4
            have HB4 := Lib.hid (HB3.out.grown grown4 HB3.out.size (fun q hq => by cases hq))
            have HB41 := Lib.hid (HB31.out.grown grown4 hsz3 (fun q hq => by cases hq))
            have HO4 := Lib.hid (HO3.out.below ((Below.refl _ w3).grown grown4 (Nat.le_refl _) (fun q hq => by cases hq)))
            have hsz4 : w.heap.size + 2 ≤ w4.heap.size := by have := grown4.size; omega
            clear own4 grown4
            obtain ⟨ia, ic, rfl⟩ := HI4.out.shape
            go_wp2_with (first | (at_builtin; refine app_line rfl _ _ rfl (w.heap.size + 2) _ _ rfl w4 _ rfl HO4.out _ rfl HI4.out (by simp) hsz4 ?_))
            intro v5 w5 own5 grown5
            have HO5 := Lib.hid own5
            have HB5 := Lib.hid (HB4.out.grown grown5 HB4.out.size (fun q hq => by have := HO4.out.ge q hq; omega))
            have HB51 := Lib.hid (HB41.out.grown grown5 hsz4 (fun q hq => HO4.out.ge q hq))
            have hsz5 : w.heap.size + 2 ≤ w5.heap.size := by have := grown5.size; omega
            clear own5 grown5
            go_wp2_with (first | (at_builtin; refine app_part rfl _ _ rfl (w.heap.size + 2) _ _ rfl HO5.out _ [] rfl ⟨[], ⟨by simp, none, 0, rfl, by simp, ⟨by simp, fun _ => rfl⟩, .inl rfl⟩, trivial⟩ (by simp) hsz5 ?_))
            intro v6 w6 own6 grown6 _
            have HO6 := Lib.hid own6
            have HB6 := Lib.hid (HB5.out.grown grown6 HB5.out.size (fun q hq => by have := HO5.out.ge q hq; omega))
            have HB61 := Lib.hid (HB51.out.grown grown6 hsz5 (fun q hq => HO5.out.ge q hq))
            clear own6 grown6
            go_wp2_with fail
            go_roundw
            case rel => exact ⟨k + 1, by omega, by go_num, by rw [HE1.out]; simpa using HO6.out, HB6.out, HB61.out⟩
            case measure => simp [intOf]; omega
        · obtain ⟨X, hX⟩ : ∃ X, ordL (L.take k) = X := ⟨_, rfl⟩
          have HXF := Lib.hid (show Full X by rw [← hX]; exact ord_full _)
          have HXN := Lib.hid (show ∀ m, m ≤ X.length → (m = 0 ∨ key (X.getD (m - 1) []) ≤ key r) → (∀ i, m ≤ i → i < X.length → key r < key (X.getD i [])) → ordL (L.take (k + 1)) = X.take m ++ r :: X.drop m by
            rw [← hX]
            intro m h1 h2 h3
            rw [HE.out]
            exact ord_next h1 h2 h3)
          rw [hX] at HO HXL ⊢
          have hxl : X.length ≤ 1000 := HXL.out
          clear hX HE hru
          go_upto_block 2 with fail
          go_cut [6] from 8 to 56 (fun av wx => (∃ m : Nat, m ≤ X.length ∧ av = .int .i64 m ∧ (m = 0 ∨ key (X.getD (m - 1) []) ≤ key r) ∧ (∀ i, m ≤ i → i < X.length → key r < key (X.getD i []))) ∧ Below wr.heap.size wr wx)
          case first =>
            obtain ⟨wo, hwo⟩ : ∃ wo, wo = wr := ⟨_, rfl⟩
            subst hwo
            go_wp2_with fail
            go_loopw [6] (fun av wx => (∃ m : Nat, m ≤ X.length ∧ av = .int .i64 m ∧ (∀ i, m ≤ i → i < X.length → key r < key (X.getD i []))) ∧ Below wo.heap.size wo wx) (fun av _ => (intOf av).toNat)
            case atStart => exact ⟨⟨X.length, Nat.le_refl _, rfl, fun i h1 h2 => by omega⟩, Below.refl _ _⟩
            case round =>
              obtain ⟨⟨m, hm, rfl, hgt⟩, hb⟩ := hrel
              have HBi := Lib.hid hb
              have HGT := Lib.hid hgt
              have HOi := Lib.hid (HO.out.below hb)
              have HRi := Lib.hid (HRow.out.below (HBW.out.trans (hb.mono HBW.out.size)))
              clear hb hgt x0 hcl
              by_cases hm0 : m = 0
              · have hmd : decide (0 < m) = false := decide_eq_false (by omega)
                have hmi : ¬ (0 : Int) < (m : Int) := by omega
                have HM0 := Lib.hid hm0
                clear hm0
                go_wp2_with fail
                go_quiet (fail)
                have HBq := Lib.hid (below_drewN HBi.out nq)
                generalize wr.drewN nq = w5 at *
                go_wp2_with fail
                go_meet
                case rel => exact ⟨⟨m, hm, rfl, .inl HM0.out, HGT.out⟩, HBq.out⟩
              · have hmd : decide (0 < m) = true := decide_eq_true (by omega)
                have hmi : (0 : Int) < (m : Int) := by omega
                obtain ⟨mp, hmp⟩ : ∃ mp, mp = m - 1 := ⟨_, rfl⟩
                have hmm : m = mp + 1 := by omega
                have e1 : IntKind.i64.wrap ((m : Int) - 1) = (mp : Int) := by rw [IntWalk.i64_in _ (by omega)]; omega
                have hmx : mp < X.length := by omega
                obtain ⟨u, hu, hru⟩ := HOi.out.has mp hmx
                have hne := HXF.out.at hmx
                have hpos : 0 < (X.getD mp []).length := List.length_pos_iff.2 hne
                have hpos2 : 0 < r.length := List.length_pos_iff.2 he
                obtain ⟨rb, ro, rc, rfl, hcell, hrm, _⟩ := row_at (p := 0) hru (by rw [ints_len]; exact hpos)
                obtain ⟨rb2, ro2, rc2, he2, hcell2, _, _⟩ := row_at (p := 0) HRi.out (by rw [ints_len]; exact hpos2)
                rw [ints_at _ 0 hpos, Nat.add_zero] at hcell
                rw [ints_at _ 0 hpos2, Nat.add_zero] at hcell2
                simp only [ints_len, Value.slice.injEq, true_and] at he2
                obtain ⟨rfl, rfl⟩ := he2
                rw [ints_len] at hu hrm
                have hk1 : (X.getD mp []).getD 0 0 = key (X.getD mp []) := rfl
                have hk2 : r.getD 0 0 = key r := rfl
                rw [hk1] at hcell
                rw [hk2] at hcell2
                have hrm2 : (X.getD mp []).length ≤ 9223372036854775807 := by unfold maxLen at hrm; omega
                have HST := Lib.hid (show key r < key (X.getD mp []) → ∀ i, mp ≤ i → i < X.length → key r < key (X.getD i []) from fun h i h1 h2 => by
                  by_cases hi : i = mp
                  · rw [hi]; exact h
                  · exact HGT.out i (by omega) h2)
                have HEX := Lib.hid (show ¬ key r < key (X.getD mp []) → key (X.getD (m - 1) []) ≤ key r from fun h => by rw [← hmp]; omega)
                have HMM := Lib.hid hmm
                generalize (X.getD mp []).length = ln at *
                generalize key (X.getD mp []) = kx at *
                generalize key r = kr at *
                clear hru hne hrm hk1 hk2 hm0 hmp hmm
                by_cases hcmp : kr < kx
                · have hcd := decide_eq_true hcmp
                  go_wp2_with fail
                  go_quiet (fail)
                  have HBq := Lib.hid (below_drewN HBi.out nq)
                  clear hu hcell hcell2
                  generalize wr.drewN nq = w5 at *
                  go_wp2_with fail
                  go_roundw
                  case rel => exact ⟨⟨mp, by omega, rfl, HST.out hcmp⟩, HBq.out⟩
                  case measure => simp [intOf]; have := HMM.out; omega
                · have hcd := decide_eq_false hcmp
                  go_wp2_with fail
                  go_quiet (fail)
                  have HBq := Lib.hid (below_drewN HBi.out nq)
                  clear hu hcell hcell2
                  generalize wr.drewN nq = w5 at *
                  go_wp2_with fail
                  go_meet
                  case rel => exact ⟨⟨m, hm, rfl, .inr (HEX.out hcmp), HGT.out⟩, HBq.out⟩
          case rest =>
            obtain ⟨⟨m, hm, rfl, h1, h2⟩, hb⟩ := hcut
            have HE1 := Lib.hid (HXN.out m hm h1 h2)
            have HB2 := Lib.hid (HBW.out.trans (hb.mono HBW.out.size))
            have HB21 := Lib.hid (HBW1.out.trans (hb.mono hszr))
            have HO2 := Lib.hid (HO.out.below hb)
            have hszc : w.heap.size + 2 ≤ wc.heap.size := by have := hb.size; omega
            have hm2' : (m : Int) ≤ (X.length : Int) := by omega
            have htl : (X.take m).length ≤ 1000 := by rw [List.length_take]; omega
            have hmcap : m ≤ cap := by
              obtain ⟨vs, hv1, hv2⟩ := HO2.out
              have hvl := hv2.in.len
              obtain ⟨_, _, _, he', hc', _⟩ := own_row hv1
              simp at he'
              obtain ⟨_, h3, h4⟩ := he'
              omega
            have HPT := Lib.hid (HO2.out.parts m hm)
            clear hb x0 hcl h1 h2
            go_wp2_with (first | (at_builtin; refine app_part rfl _ _ rfl (w.heap.size + 2) _ [] rfl (ownLL_nil _ _) _ (X.take m) rfl HPT.out.1 (by simp; omega) hszc ?_))
            intro v3 w3 own3 grown3 place3
            have HO3 := Lib.hid (show OwnLL w3 (w.heap.size + 2) v3 (X.take m) by simpa using own3)
            have HC3 := Lib.hid ((Below.refl wc.heap.size wc).grown grown3 (Nat.le_refl _) (fun q hq => by cases hq))
            have HPL := Lib.hid (show ∀ q, v3.ownBlock = some q → wc.heap.size ≤ q from fun q hq => by
              rcases place3 with h | h
              · rw [h] at hq; cases hq
              · rw [h] at hq; simp at hq; omega)
            clear own3 grown3 place3 HPT
            have HR3 := Lib.hid (HRow.out.below (HB2.out.trans (HC3.out.mono HB2.out.size)))
            have hsz3 : w.heap.size + 2 ≤ w3.heap.size := by have := HC3.out.size; omega
            go_wp2_with (first | (at_builtin; refine app_ints rfl _ _ rfl (w.heap.size + 2) _ [] rfl (ownI_nil _ _) _ r rfl HR3.out (by have := HLl.out; simp; omega) hsz3 ?_))
            intro v4 w4 own4 grown4 _
            have HI4 := Lib.hid own4
            have HC4 := Lib.hid (HC3.out.grown grown4 HC3.out.size (fun q hq => by cases hq))
            have HO4 := Lib.hid (HO3.out.below ((Below.refl _ w3).grown grown4 (Nat.le_refl _) (fun q hq => by cases hq)))
            have hsz4 : w.heap.size + 2 ≤ w4.heap.size := by have := grown4.size; omega
            clear own4 grown4
            obtain ⟨ia, ic, rfl⟩ := HI4.out.shape
            go_wp2_with (first | (at_builtin; refine app_line rfl _ _ rfl (w.heap.size + 2) _ _ rfl w4 _ rfl HO4.out _ rfl HI4.out (by omega) hsz4 ?_))
            intro v5 w5 own5 grown5
            have HO5 := Lib.hid own5
            have HC5 := Lib.hid (HC4.out.grown grown5 HC4.out.size (fun q hq => HPL.out q hq))
            have hsz5 : w.heap.size + 2 ≤ w5.heap.size := by have := grown5.size; omega
            have HOX := Lib.hid (HO2.out.below HC5.out)
            have hlen5 : (X.take m ++ ([] ++ r :: [])).length + (X.drop m).length ≤ 1000000 := by simp; omega
            clear own5 grown5
            have hpt := (HOX.out.parts m hm).2 _ rfl
            by_cases hcm : cap = m
            · subst hcm
              rw [if_pos rfl, Nat.sub_self] at hpt
              have HPT5 := Lib.hid hpt
              clear hpt
              go_wp2_with (first | (at_builtin; refine app_part rfl _ _ rfl (w.heap.size + 2) _ _ rfl HO5.out _ (X.drop cap) rfl HPT5.out (by simp; omega) hsz5 ?_))
              intro v6 w6 own6 grown6 _
              have HO6 := Lib.hid own6
              have HB5 := Lib.hid (HB2.out.trans (HC5.out.mono HB2.out.size))
              have HB51 := Lib.hid (HB21.out.trans (HC5.out.mono hszc))
              have HB6 := Lib.hid (HB5.out.grown grown6 HB5.out.size (fun q hq => by have := HO5.out.ge q hq; omega))
              have HB61 := Lib.hid (HB51.out.grown grown6 hsz5 (fun q hq => HO5.out.ge q hq))
              clear own6 grown6
              go_wp2_with fail
              go_roundw
              case rel => exact ⟨k + 1, by omega, by go_num, by rw [HE1.out]; simpa using HO6.out, HB6.out, HB61.out⟩
              case measure => simp [intOf]; omega
            · rw [if_neg hcm, Nat.zero_add] at hpt
              have HPT5 := Lib.hid hpt
              clear hpt
              go_wp2_with (first | (at_builtin; refine app_part rfl _ _ rfl (w.heap.size + 2) _ _ rfl HO5.out _ (X.drop m) rfl HPT5.out (by simp; omega) hsz5 ?_))
              intro v6 w6 own6 grown6 _
              have HO6 := Lib.hid own6
              have HB5 := Lib.hid (HB2.out.trans (HC5.out.mono HB2.out.size))
              have HB51 := Lib.hid (HB21.out.trans (HC5.out.mono hszc))
              have HB6 := Lib.hid (HB5.out.grown grown6 HB5.out.size (fun q hq => by have := HO5.out.ge q hq; omega))
              have HB61 := Lib.hid (HB51.out.grown grown6 hsz5 (fun q hq => HO5.out.ge q hq))
              clear own6 grown6
              go_wp2_with fail
              go_roundw
              case rel => exact ⟨k + 1, by omega, by go_num, by rw [HE1.out]; simpa using HO6.out, HB6.out, HB61.out⟩
              case measure => simp [intOf]; omega
    · obtain rfl : k = L.length := by omega
      have hl2 : ¬ (L.length : Int) < (L.length : Int) := by omega
      have HO2 := Lib.hid (show OwnLL wr (w.heap.size + 2) u3 (ordL L) by have := HO.out; rwa [List.take_length] at this)
      have z0 := HZr.out.cell
      have f0 := HZr.out.free 0
      obtain ⟨ua, uc, hu3⟩ : ∃ a c, u3 = .slice a (ordL L).length c := by
        obtain ⟨a, c, h1, _⟩ := HO2.out.is.form
        exact ⟨a, c, h1⟩
      subst hu3
      generalize (ordL L).length = nu at *
      have hgr : wr.grownBy (wr.setCell ⟨w.heap.size + 1, 0, none⟩ (.slice ua nu uc)) (some (w.heap.size + 1)) := ⟨rfl, rfl, rfl, by simp [World.setCell], fun k _ hk => heap_setCell_other wr ⟨w.heap.size + 1, 0, none⟩ k _ (fun e => hk (by rw [e]))⟩
      have HO4 := Lib.hid ((HO2.out.later hgr (fun g hg => by simp at hg; omega)).less (B' := w.heap.size) (by omega))
      have HB4 := Lib.hid (hbw.setCell (p := ⟨w.heap.size + 1, 0, none⟩) (Nat.le_succ _) (.slice ua nu uc))
      clear ho hbw hbw1 hgr
      go_wp2_with fail
      exact bodyPost_ret (v := .agg #[.slice ua nu uc]) (by simp [results, Tryd.results15, go_sem, z0]) rfl ⟨_, rfl, HO4.out, HB4.out⟩
end Go.Proofs.YtpdeffpmfbplnaaDoor
/- What tour.cut and rising answer. -/
namespace Go.Proofs.YtpdeffpmfbplnaaDoor
open Go.ChangeShapes Go.WideShapes Go.ChangeAt Go.RowKit

theorem cutP_ahead (A : List (List Int)) : ∀ (R : List Int) (S : List (List Int)) (c : List Int), R.foldl cutStep (A ++ S, c) = (A ++ (R.foldl cutStep (S, c)).1, (R.foldl cutStep (S, c)).2)
  | [], S, c => rfl
  | x :: R, S, c => by
    rw [List.foldl_cons, List.foldl_cons]
    unfold cutStep
    by_cases hx : 0 < x
    · rw [if_pos hx, if_pos hx]; exact cutP_ahead A R S _
    · rw [if_neg hx, if_neg hx]
      simp only
      rw [List.append_assoc]
      exact cutP_ahead A R _ _
theorem cut_next {A R : List Int} (h : ∀ x ∈ A, 0 < x) : cutL (A ++ 0 :: R) = A :: cutL R := by
  have := cutP_ahead [A] R [] []
  unfold cutL cutP
  rw [List.foldl_append, fold_pos A [] [] h, List.foldl_cons, show cutStep ([], [] ++ A) 0 = ([A] ++ [], []) by simp [cutStep], this]
  simp
theorem cut_one {A : List Int} (h : ∀ x ∈ A, 0 < x) : cutL A = [A] := by
  unfold cutL cutP; rw [fold_pos A [] [] h]; simp
theorem cut_nil : cutL [] = [[]] := rfl
theorem full_cons {l : List Int} {L : List (List Int)} : Full (l :: L) ↔ l ≠ [] ∧ Full L := by
  constructor
  · intro h; exact ⟨h l (by simp), fun x hx => h x (by simp [hx])⟩
  · rintro ⟨h1, h2⟩ x hx
    simp only [List.mem_cons] at hx
    rcases hx with rfl | hx
    · exact h1
    · exact h2 x hx
theorem cut_full_ne {R : List Int} (h : Full (cutL R)) : R ≠ [] := by
  rintro rfl
  rw [cut_nil] at h
  exact h [] (by simp) rfl
/-- The length of a slice. -/
def lenV : Value → Nat
  | .slice _ n _ => n
  | _ => 0
/-- What is cut, at a 0 that is the first one. -/
theorem cut_at {R : List Int} {k : Nat} (hk : k < R.length) (h0 : ∀ x ∈ R, 0 ≤ x) (hA : ∀ x ∈ R.take k, x ≠ 0) (hx : R.getD k 0 = 0) (hF : Full (cutL R)) :
    cutL R = R.take k :: cutL (R.drop (k + 1)) ∧ R.take k ≠ [] ∧ 0 < k ∧ Full (cutL (R.drop (k + 1))) ∧ k + 1 < R.length := by
  have e : R = R.take k ++ 0 :: R.drop (k + 1) := by
    have := List.take_append_drop k R
    rw [List.drop_eq_getElem_cons hk] at this
    rw [List.getD_eq_getElem?_getD, List.getElem?_eq_getElem hk] at hx
    simp only [Option.getD_some] at hx
    rw [hx] at this
    exact this.symm
  have hp : ∀ x ∈ R.take k, 0 < x := fun x hx => by have := h0 x (List.mem_of_mem_take hx); have := hA x hx; omega
  have hc : cutL R = R.take k :: cutL (R.drop (k + 1)) := by
    have := cut_next (R := R.drop (k + 1)) hp
    rwa [← e] at this
  rw [hc, full_cons] at hF
  refine ⟨hc, hF.1, ?_, hF.2, ?_⟩
  · rcases Nat.eq_zero_or_pos k with h | h
    · rw [h] at hF; exact absurd rfl hF.1
    · exact h
  · have := cut_full_ne hF.2
    have := List.length_pos_iff.2 this
    rw [List.length_drop] at this
    omega
theorem take_all_ne {R : List Int} {k : Nat} (hk : k < R.length) (h : ∀ x ∈ R.take k, x ≠ 0) (hx : R.getD k 0 ≠ 0) : ∀ x ∈ R.take (k + 1), x ≠ 0 := by
  intro x h1
  rw [take_snoc hk] at h1
  rcases List.mem_append.1 h1 with h2 | h2
  · exact h x h2
  · rw [List.mem_singleton.1 h2]; exact hx
instance (L : List (List Int)) : Decidable (RiseL L) := decidable_of_iff (∀ k, k < L.length → k + 1 < L.length → key (L.getD k []) < key (L.getD (k + 1) []))
  ⟨fun h k hk => h k (by omega) hk, fun h k _ hk => h k hk⟩
theorem rise_next {L : List (List Int)} {k : Nat} (h : ∀ i, i + 1 < k → key (L.getD i []) < key (L.getD (i + 1) [])) (h0 : 0 < k) (h1 : key (L.getD (k - 1) []) < key (L.getD k [])) : ∀ i, i + 1 < k + 1 → key (L.getD i []) < key (L.getD (i + 1) []) := by
  intro i hi
  by_cases he : i + 1 = k
  · subst he; simpa using h1
  · exact h i (by omega)
theorem rise_bad {L : List (List Int)} {k : Nat} (hk : k < L.length) (h0 : 0 < k) (h1 : key (L.getD k []) ≤ key (L.getD (k - 1) [])) : ¬ RiseL L := by
  intro h
  have := h (k - 1) (by omega)
  rw [show k - 1 + 1 = k by omega] at this
  omega
theorem key_row {w : World} {ad : Option Addr} {n cap : Nat} {l : List Int} (h : Row w (.slice ad n cap) (ints l)) (hl : l ≠ []) : ∃ b off, ad = some ⟨b, off, none⟩ ∧ w.cell? ⟨b, off, none⟩ = some (.int .i64 (key l)) ∧ n = l.length ∧ (0 : Int) < (l.length : Int) := by
  have hp := List.length_pos_iff.2 hl
  obtain ⟨b, off, c, he, hc, _, _⟩ := row_at (p := 0) h (by rw [ints_len]; exact hp)
  rw [ints_at l 0 hp, Nat.add_zero] at hc
  simp only [Value.slice.injEq, ints_len] at he
  exact ⟨b, off, he.1, hc, he.2.1, by omega⟩
end Go.Proofs.YtpdeffpmfbplnaaDoor
/- What tour.Split answers. -/
namespace Go.Proofs.YtpdeffpmfbplnaaDoor
open Go.ChangeShapes Go.WideShapes Go.ChangeAt Go.RowKit

end Go.Proofs.YtpdeffpmfbplnaaDoor
/- What tour.Join and the document's Join answer. -/
namespace Go.Proofs.YtpdeffpmfbplnaaDoor
open Go.ChangeShapes Go.WideShapes Go.ChangeAt Go.RowKit

theorem joinL_le (L : List (List Int)) : (joinL L).length ≤ (glue L).length := by unfold joinL; rw [List.length_tail]; omega
theorem join_room {M : List (List Int)} {k : Nat} (hk : k < M.length) : (joinL (M.take k)).length + (M.getD k []).length + 1 ≤ (glue M).length := by
  have h1 := joinL_le (M.take k)
  have h2 : glue M = glue (M.take (k + 1)) ++ glue (M.drop (k + 1)) := by rw [← glue_app, List.take_append_drop]
  rw [h2, take_getD hk, glue_snoc]
  simp only [List.length_append, List.length_cons]
  omega
theorem join_first {M : List (List Int)} (hk : 0 < M.length) : joinL (M.take 1) = M.getD 0 [] := by
  rw [show (1 : Nat) = 0 + 1 from rfl, take_getD hk, joinL_snoc, if_pos (by simp)]
theorem join_next {M : List (List Int)} {k : Nat} (hk : k < M.length) (h0 : 0 < k) : joinL (M.take (k + 1)) = joinL (M.take k) ++ 0 :: M.getD k [] := by
  rw [take_getD hk, joinL_snoc, if_neg (by intro e; have := congrArg List.length e; rw [List.length_take, List.length_nil] at this; omega)]
theorem ord_glue (L : List (List Int)) : (glue (ordL L)).length = sumL L := by
  rw [glue_len (ord_full L), ← sumL_used L]
  exact sumL_perm (stab_sortL (usedL L)).perm
end Go.Proofs.YtpdeffpmfbplnaaDoor
/- What the document's Split answers. -/
namespace Go.Proofs.YtpdeffpmfbplnaaDoor
open Go.ChangeShapes Go.WideShapes Go.ChangeAt Go.RowKit

theorem bad_low {t : List Int} {i : Nat} (h : t.getD i 0 < 0) : badAt t i = true := by unfold badAt; rw [decide_eq_true h]; rfl
theorem bad_zero {t : List Int} {i : Nat} (h : t.getD i 0 = 0) (h2 : i = 0 ∨ i = t.length - 1 ∨ t.getD (i - 1) 0 = 0) : badAt t i = true := by
  unfold badAt
  rw [Bool.or_eq_true, Bool.and_eq_true, Bool.or_eq_true, Bool.or_eq_true, decide_eq_true_eq, decide_eq_true_eq, decide_eq_true_eq, decide_eq_true_eq, decide_eq_true_eq]
  refine .inr ⟨h, ?_⟩
  rcases h2 with h2 | h2 | h2
  · exact .inl (.inl h2)
  · exact .inl (.inr h2)
  · exact .inr h2
theorem bad_not {t : List Int} {i : Nat} (h : ¬ t.getD i 0 < 0) (h2 : t.getD i 0 = 0 → i ≠ 0 ∧ i ≠ t.length - 1 ∧ t.getD (i - 1) 0 ≠ 0) : badAt t i = false := by
  unfold badAt
  by_cases h0 : t.getD i 0 = 0
  · obtain ⟨a, b, c⟩ := h2 h0
    rw [decide_eq_false h, decide_eq_false a, decide_eq_false b, decide_eq_false c]; simp
  · rw [decide_eq_false h, decide_eq_false h0]; simp
theorem form_bad {t : List Int} {i : Nat} (hi : i < t.length) (h : badAt t i = true) : ¬ FormT t := fun hF => by rw [hF i hi] at h; cases h
def cutS (t : List Int) (i : Nat) : List (List Int) × List Int := if i ≤ t.length then cutP (t.take i) else (cutL t, [])
theorem cutS_zero (t : List Int) : cutS t 0 = ([], []) := by unfold cutS; rw [if_pos (Nat.zero_le _)]; rfl
theorem take_snocI {t : List Int} {i : Nat} (h : i < t.length) : t.take (i + 1) = t.take i ++ [t.getD i 0] := by
  rw [List.take_add_one, List.getD_eq_getElem?_getD, List.getElem?_eq_getElem h]; rfl
theorem cutS_on {t : List Int} {i : Nat} (hi : i < t.length) (hx : 0 < t.getD i 0) : cutS t (i + 1) = ((cutS t i).1, (cutS t i).2 ++ [t.getD i 0]) := by
  unfold cutS
  rw [if_pos (by omega), if_pos (by omega), take_snocI hi, cutP_snoc]
  unfold cutStep; rw [if_pos hx]
theorem cutS_push {t : List Int} {i : Nat} (hi : i < t.length) (hx : ¬ 0 < t.getD i 0) : cutS t (i + 1) = ((cutS t i).1 ++ [(cutS t i).2], []) := by
  unfold cutS
  rw [if_pos (by omega), if_pos (by omega), take_snocI hi, cutP_snoc]
  unfold cutStep; rw [if_neg hx]
theorem cutS_last (t : List Int) : cutS t (t.length + 1) = ((cutS t t.length).1 ++ [(cutS t t.length).2], []) := by
  unfold cutS
  rw [if_neg (by omega), if_pos (Nat.le_refl _), List.take_length]; rfl
theorem cutS_end (t : List Int) : (cutS t (t.length + 1)).1 = cutL t := by unfold cutS; rw [if_neg (by omega)]
theorem cutP_len (t : List Int) : (cutP t).1.length + (cutP t).2.length ≤ t.length := by
  refine snoc_ind (P := fun t => (cutP t).1.length + (cutP t).2.length ≤ t.length) (Nat.le_refl _) ?_ t
  intro t x h
  rw [cutP_snoc]
  unfold cutStep
  by_cases hx : 0 < x
  · rw [if_pos hx]; simp; omega
  · rw [if_neg hx]; simp; omega
theorem cutS_len (t : List Int) (i : Nat) : (cutS t i).1.length ≤ t.length + 1 ∧ (cutS t i).2.length ≤ t.length := by
  unfold cutS
  by_cases hi : i ≤ t.length
  · rw [if_pos hi]
    have := cutP_len (t.take i)
    rw [List.length_take] at this
    omega
  · rw [if_neg hi]
    have := cutP_len t
    unfold cutL
    rw [List.length_append]
    simp
    omega
end Go.Proofs.YtpdeffpmfbplnaaDoor
/- The chapter's example. -/
namespace Go.Proofs.YtpdeffpmfbplnaaDoor
open Go.ChangeShapes Go.WideShapes Go.ChangeAt Go.RowKit

theorem uRow_two (w : World) (a b : Int) : Row (w.alloc (.cells #[.int .i64 a, .int .i64 b] 3)) (.slice (some ⟨w.heap.size, 0, none⟩) 2 2) (ints [a, b]) := by
  refine ⟨by simp [ints, maxLen], _, _, rfl, by simp [ints], ⟨by simp [maxLen], by simp⟩, .inr ⟨w.heap.size, 0, rfl, fun i hi => ?_⟩⟩
  rw [Nat.zero_add, cell_of_row _ _ _ _ _ _ (heap_alloc_new w _)]
  simp [ints]
theorem eg_join : joinL (ordL [[3, 4], [1, 2]]) = [1, 2, 0, 3, 4] := by decide +kernel
theorem eg_split : splitE [1, 2, 0, 3, 4] = 0 ∧ splitR [1, 2, 0, 3, 4] = [[1, 2], [3, 4]] := split_fine (by decide) (by decide) (by decide)
section
variable {H : Type} {enc : TypeId × Value → H} {w : World} {base : Nat} {spare : Nat → Bool} {held : Bool}
/-- Rows of numbers that a law is handed. -/
theorem uopen_row {a : Option Addr} {len cap : Nat} {d : DataW H} {p : List MemPlace} (h : DataW.Trod enc Tryd.prog w base spare held 42 (.slice a len cap) d p) :
    ∃ l : List Int, Row w (.slice a len cap) (ints l) ∧ ∀ n ∈ l, Fit n := by
  obtain ⟨fuel, hf⟩ := h
  obtain ⟨v, l, hcs, hr, hfit⟩ := open_nums hf
  simp [Value.cells] at hcs
  subst hcs
  exact ⟨l, hr, hfit⟩
end
theorem bulk_one {H : Type} (d : DataW H) : 1 ≤ Rows.uptoBulk d := by
  cases d with
  | lit l => cases l <;> simp [Rows.uptoBulk]
  | _ => simp [Rows.uptoBulk]
theorem bulk_len {H : Type} (l : List (DataW H)) : l.length ≤ Rows.uptoBulkAll l := by
  induction l with
  | nil => exact Nat.zero_le _
  | cons x r ih => have := bulk_one x; simp only [Rows.uptoBulkAll, List.length_cons]; omega
/-- A row of numbers that comes first among arguments whose bulk has a bound. -/
theorem row_bulk {H : Type} {enc : TypeId × Value → H} {w : World} {base : Nat} {spare : Nat → Bool} {held : Bool} {a : Option Addr} {len cap : Nat} {d : DataW H} {p : List MemPlace} {ds : List (DataW H)} {l : List Int}
    (h : DataW.Trod enc Tryd.prog w base spare held 42 (.slice a len cap) d p) (hr : Row w (.slice a len cap) (ints l)) (hk : Rows.uptoSmall H (d :: ds) = true) : l.length ≤ 1048576 := by
  have hk2 : Rows.uptoBulkAll (d :: ds) ≤ 1048576 := of_decide_eq_true hk
  obtain ⟨_, _, _, hv, _⟩ := hr
  simp only [Value.slice.injEq, ints_len] at hv
  obtain ⟨fuel, hf⟩ := h
  simp only [Rows.uptoBulkAll] at hk2
  rcases Go.Deep.open_slice Tryd.underlying42 hf with ⟨h0, _⟩ | ⟨ad, ln, cp, m, n, D, Pl, hcs, _, _, _, _, hx, _⟩
  · simp [Value.cells] at h0
    omega
  · simp [Value.cells] at hcs
    have hd : d = .slice ((List.range ln).map D) ((List.range (m - ln)).map fun j => D (ln + j)) := congrArg Prod.fst hx
    rw [hd] at hk2
    simp only [Rows.uptoBulk] at hk2
    have := bulk_len ((List.range ln).map D)
    rw [List.length_map, List.length_range] at this
    omega
theorem few_sum : ∀ (L : List (List Int)), (∀ l ∈ L, l.length ≤ 100) → sumL L ≤ 101 * L.length
  | [], _ => by simp [sumL]
  | l :: L, h => by
    have h1 := few_sum L (fun x hx => h x (by simp [hx]))
    have h2 := h l (by simp)
    simp only [sumL, List.length_cons]
    split <;> omega
theorem FewP.sum {L : List (List Int)} (h : FewP L) : sumL L ≤ 1000000 := by have := few_sum L h.2; have := h.1; omega
theorem FewP.num {L : List (List Int)} (h : FewP L) : L.length ≤ 1000 := by have := h.1; omega
end Go.Proofs.YtpdeffpmfbplnaaDoor
