/- Tours: plain mathematics. -/
import Derived.Test.YtgplajofemencaaGreatYD
import Derived.Test.YtgplajofemencaaGreatYC
import Derived.ArgAppend
import Derived.Deep.CutBlock
import Derived.Deep.LoopGhost
import Derived.JoinedCond
import Derived.Deep.Slices
namespace Go.Proofs.YtgplajofemencaaGreat

/-- Each route with a 0 ahead. -/
def glue : List (List Int) → List Int
  | [] => []
  | r :: L => 0 :: (r ++ glue L)
theorem glue_app : ∀ L M : List (List Int), glue (L ++ M) = glue L ++ glue M
  | [], _ => rfl
  | r :: L, M => by simp [glue, glue_app L M]
theorem glue_one (r : List Int) : glue [r] = 0 :: r := by simp [glue]
theorem glue_snoc (L : List (List Int)) (r : List Int) : glue (L ++ [r]) = glue L ++ 0 :: r := by rw [glue_app, glue_one]
/-- How long a tour is. -/
def sumL : List (List Int) → Nat
  | [] => 0
  | r :: L => (if r = [] then 0 else r.length + 1) + sumL L
/-! ### Split -/
/-- The routes that lie behind, and the one that is under way. -/
def cutStep (s : List (List Int) × List Int) (x : Int) : List (List Int) × List Int := if 0 < x then (s.1, s.2 ++ [x]) else (s.1 ++ [s.2], [])
def cutP (t : List Int) : List (List Int) × List Int := t.foldl cutStep ([], [])
def cutL (t : List Int) : List (List Int) := (cutP t).1 ++ [(cutP t).2]
theorem cutP_snoc (t : List Int) (x : Int) : cutP (t ++ [x]) = cutStep (cutP t) x := by simp [cutP]
theorem snoc_ind {P : List Int → Prop} (h0 : P []) (h1 : ∀ t x, P t → P (t ++ [x])) (t : List Int) : P t := by
  have : ∀ r : List Int, P r.reverse := by
    intro r
    induction r with
    | nil => exact h0
    | cons x r ih => rw [List.reverse_cons]; exact h1 _ x ih
  have h := this t.reverse
  rwa [List.reverse_reverse] at h
/-- What is cut is glued again. -/
theorem glue_cut (t : List Int) (h : ∀ x ∈ t, 0 ≤ x) : glue (cutL t) = 0 :: t := by
  revert h
  refine snoc_ind (P := fun t => (∀ x ∈ t, 0 ≤ x) → glue (cutL t) = 0 :: t) (fun _ => by simp [cutL, cutP, glue]) ?_ t
  intro t x ih h
  have h1 := ih (fun y hy => h y (List.mem_append.2 (.inl hy)))
  have h2 := h x (by simp)
  unfold cutL at h1 ⊢
  rw [glue_snoc] at h1
  rw [cutP_snoc]
  unfold cutStep
  by_cases hx : 0 < x
  · rw [if_pos hx]
    simp only
    rw [glue_snoc, show (0 :: (t ++ [x]) : List Int) = (0 :: t) ++ [x] from rfl, ← h1]
    simp
  · rw [if_neg hx]
    simp only
    have : x = 0 := by omega
    rw [glue_snoc, glue_snoc, h1, this]
    simp
theorem fold_pos : ∀ (r : List Int) (S : List (List Int)) (c : List Int), (∀ x ∈ r, 0 < x) → r.foldl cutStep (S, c) = (S, c ++ r)
  | [], S, c, _ => by simp
  | x :: r, S, c, h => by
    have hx : 0 < x := h x List.mem_cons_self
    rw [List.foldl_cons, show cutStep (S, c) x = (S, c ++ [x]) by simp [cutStep, hx], fold_pos r S _ (fun y hy => h y (List.mem_cons_of_mem _ hy))]
    simp
/-- What is wrong with a number of a tour, by what is ahead of it (the first one: a 0), and at the end. -/
def badAt (t : List Int) (i : Nat) : Bool := decide (t.getD i 0 < 0) || (decide (t.getD i 0 = 0) && (decide (i = 0) || decide (i = t.length - 1) || decide (t.getD (i - 1) 0 = 0)))
def FormT (t : List Int) : Prop := ∀ i, i < t.length → badAt t i = false
def RiseL (L : List (List Int)) : Prop := ∀ k, k + 1 < L.length → key (L.getD k []) < key (L.getD (k + 1) [])
theorem pair_rise {L : List (List Int)} (h : L.Pairwise (fun a b => key a < key b)) : RiseL L := by
  intro k hk
  rw [List.pairwise_iff_getElem] at h
  have := h k (k + 1) (by omega) hk (by omega)
  rw [List.getD_eq_getElem?_getD, List.getD_eq_getElem?_getD, List.getElem?_eq_getElem (by omega), List.getElem?_eq_getElem hk]
  exact this
/-! ### Which tours may be -/
theorem getD_lt {t : List Int} {x : Int} {i : Nat} (h : i < t.length) : (t ++ [x]).getD i 0 = t.getD i 0 := by
  rw [List.getD_eq_getElem?_getD, List.getD_eq_getElem?_getD, List.getElem?_append_left h]
theorem getD_last {t : List Int} {x : Int} : (t ++ [x]).getD t.length 0 = x := by simp [List.getD_eq_getElem?_getD]
theorem getD_mem1 {t : List Int} {i : Nat} (h : i < t.length) : t.getD i 0 ∈ t := by
  rw [List.getD_eq_getElem?_getD, List.getElem?_eq_getElem h]; exact List.getElem_mem h
def PreT (t : List Int) : Prop := ∀ i, i < t.length → 0 ≤ t.getD i 0 ∧ (t.getD i 0 = 0 → 0 < i ∧ t.getD (i - 1) 0 ≠ 0)
theorem pre_snoc (t : List Int) (x : Int) : PreT (t ++ [x]) ↔ PreT t ∧ 0 ≤ x ∧ (x = 0 → t ≠ [] ∧ t.getD (t.length - 1) 0 ≠ 0) := by
  constructor
  · intro h
    refine ⟨fun i hi => ?_, ?_⟩
    · have h1 := h i (by simp; omega)
      rw [getD_lt hi, getD_lt (i := i - 1) (by omega)] at h1
      exact h1
    · have h1 := h t.length (by simp)
      rw [getD_last] at h1
      refine ⟨h1.1, fun hx => ?_⟩
      have h2 := h1.2 hx
      rw [getD_lt (i := t.length - 1) (by omega)] at h2
      exact ⟨List.length_pos_iff.1 h2.1, h2.2⟩
  · rintro ⟨h1, h2, h3⟩ i hi
    rw [List.length_append, List.length_singleton] at hi
    by_cases hil : i < t.length
    · rw [getD_lt hil, getD_lt (i := i - 1) (by omega)]
      exact h1 i hil
    · obtain rfl : i = t.length := by omega
      rw [getD_last]
      refine ⟨h2, fun hx => ?_⟩
      have h4 := h3 hx
      have h5 := List.length_pos_iff.2 h4.1
      rw [getD_lt (i := t.length - 1) (by omega)]
      exact ⟨h5, h4.2⟩
theorem last_cut (t : List Int) : t ≠ [] → ((cutP t).2 = [] ↔ ¬ 0 < t.getD (t.length - 1) 0) := by
  refine snoc_ind (P := fun t => t ≠ [] → ((cutP t).2 = [] ↔ ¬ 0 < t.getD (t.length - 1) 0)) (fun h => absurd rfl h) ?_ t
  intro t x _ _
  rw [List.length_append, List.length_singleton, Nat.add_sub_cancel, getD_last, cutP_snoc]
  unfold cutStep
  by_cases hx : 0 < x
  · rw [if_pos hx]; simp [hx]
  · rw [if_neg hx]; simp [hx]
theorem full_snoc {L : List (List Int)} {r : List Int} : Full (L ++ [r]) ↔ Full L ∧ r ≠ [] := by
  constructor
  · intro h; exact ⟨fun l hl => h l (List.mem_append.2 (.inl hl)), h r (by simp)⟩
  · rintro ⟨h1, h2⟩ l hl
    rcases List.mem_append.1 hl with h | h
    · exact h1 l h
    · rw [List.mem_singleton.1 h]; exact h2
theorem pre_full (t : List Int) : PreT t ↔ (∀ x ∈ t, 0 ≤ x) ∧ Full (cutP t).1 := by
  refine snoc_ind (P := fun t => PreT t ↔ (∀ x ∈ t, 0 ≤ x) ∧ Full (cutP t).1) ?_ ?_ t
  · exact ⟨fun _ => ⟨fun x hx => (nomatch hx), fun l hl => (nomatch hl)⟩, fun _ i hi => absurd hi (Nat.not_lt_zero i)⟩
  · intro t x ih
    rw [pre_snoc, ih, cutP_snoc]
    have hm : (∀ y ∈ t ++ [x], 0 ≤ y) ↔ (∀ y ∈ t, 0 ≤ y) ∧ 0 ≤ x := by
      constructor
      · intro h; exact ⟨fun y hy => h y (List.mem_append.2 (.inl hy)), h x (by simp)⟩
      · rintro ⟨h1, h2⟩ y hy
        rcases List.mem_append.1 hy with h | h
        · exact h1 y h
        · rw [List.mem_singleton.1 h]; exact h2
    rw [hm]
    unfold cutStep
    by_cases hx : 0 < x
    · rw [if_pos hx]
      constructor
      · rintro ⟨⟨h1, h2⟩, h3, _⟩; exact ⟨⟨h1, h3⟩, h2⟩
      · rintro ⟨⟨h1, h3⟩, h2⟩; exact ⟨⟨h1, h2⟩, h3, fun h => by omega⟩
    · rw [if_neg hx]
      simp only
      rw [full_snoc]
      have hl : (∀ y ∈ t, 0 ≤ y) → 0 ≤ x → ((x = 0 → t ≠ [] ∧ t.getD (t.length - 1) 0 ≠ 0) ↔ (cutP t).2 ≠ []) := by
        intro hp h0
        have hx0 : x = 0 := by omega
        constructor
        · intro h
          obtain ⟨h1, h2⟩ := h hx0
          rw [ne_eq, last_cut t h1]
          have := hp _ (getD_mem1 (i := t.length - 1) (by have := List.length_pos_iff.2 h1; omega))
          omega
        · intro h _
          have h1 : t ≠ [] := by rintro rfl; exact h rfl
          refine ⟨h1, fun h2 => h ((last_cut t h1).2 (by omega))⟩
      constructor
      · rintro ⟨⟨h1, h2⟩, h3, h4⟩; exact ⟨⟨h1, h3⟩, h2, (hl h1 h3).1 h4⟩
      · rintro ⟨⟨h1, h3⟩, h2, h4⟩; exact ⟨⟨h1, h2⟩, h3, (hl h1 h3).2 h4⟩
/-- A tour has its form if nothing is below 0 and no route is empty. -/
theorem form_iff {t : List Int} (h0 : t ≠ []) : FormT t ↔ (∀ x ∈ t, 0 ≤ x) ∧ Full (cutL t) := by
  have hp := pre_full t
  have hlen := List.length_pos_iff.2 h0
  have hF : FormT t ↔ PreT t ∧ t.getD (t.length - 1) 0 ≠ 0 := by
    constructor
    · intro h
      have hx : ∀ i, i < t.length → ¬ (t.getD i 0 < 0) ∧ ¬ (t.getD i 0 = 0 ∧ (i = 0 ∨ i = t.length - 1 ∨ t.getD (i - 1) 0 = 0)) := by
        intro i hi
        have := h i hi
        unfold badAt at this
        simp only [Bool.or_eq_false_iff, decide_eq_false_iff_not, Bool.and_eq_false_iff] at this
        refine ⟨this.1, fun hh => ?_⟩
        rcases this.2 with h1 | ⟨⟨h1, h2⟩, h3⟩
        · exact h1 hh.1
        · rcases hh.2 with h | h | h
          · exact h1 h
          · exact h2 h
          · exact h3 h
      refine ⟨fun i hi => ?_, fun h1 => (hx (t.length - 1) (by omega)).2 ⟨h1, .inr (.inl rfl)⟩⟩
      have h1 := hx i hi
      refine ⟨by omega, fun h2 => ⟨?_, fun h3 => h1.2 ⟨h2, .inr (.inr h3)⟩⟩⟩
      rcases Nat.eq_zero_or_pos i with h3 | h3
      · exact absurd ⟨h2, .inl h3⟩ h1.2
      · exact h3
    · rintro ⟨h1, h2⟩ i hi
      have h3 := h1 i hi
      unfold badAt
      simp only [Bool.or_eq_false_iff, decide_eq_false_iff_not, Bool.and_eq_false_iff]
      refine ⟨by omega, ?_⟩
      by_cases h4 : t.getD i 0 = 0
      · right
        have h5 := h3.2 h4
        refine ⟨⟨by omega, fun h6 => h2 (by rw [← h6]; exact h4)⟩, h5.2⟩
      · exact .inl h4
  rw [hF, hp]
  unfold cutL
  rw [full_snoc]
  constructor
  · rintro ⟨⟨h1, h2⟩, h3⟩
    refine ⟨h1, h2, fun h => (last_cut t h0).1 h ?_⟩
    have := h1 _ (getD_mem1 (i := t.length - 1) (by omega))
    omega
  · rintro ⟨h1, h2, h3⟩
    exact ⟨⟨h1, h2⟩, fun h => h3 ((last_cut t h0).2 (by omega))⟩
open Classical in
noncomputable def splitE (t : List Int) : Int := if t = [] then 0 else if FormT t then (if RiseL (cutL t) then 0 else 8) else 2
open Classical in
noncomputable def splitR (t : List Int) : List (List Int) := if t = [] then [] else if FormT t then (if RiseL (cutL t) then cutL t else []) else []
theorem split_nil : splitE [] = 0 ∧ splitR [] = [] := by unfold splitE splitR; exact ⟨if_pos rfl, if_pos rfl⟩
theorem split_form {t : List Int} (h0 : t ≠ []) (h : ¬ FormT t) : splitE t = 2 ∧ splitR t = [] := by
  unfold splitE splitR; rw [if_neg h0, if_neg h0, if_neg h, if_neg h]; exact ⟨rfl, rfl⟩
theorem split_order {t : List Int} (h0 : t ≠ []) (h : FormT t) (h2 : ¬ RiseL (cutL t)) : splitE t = 8 ∧ splitR t = [] := by
  unfold splitE splitR; rw [if_neg h0, if_neg h0, if_pos h, if_pos h, if_neg h2, if_neg h2]; exact ⟨rfl, rfl⟩
theorem split_fine {t : List Int} (h0 : t ≠ []) (h : FormT t) (h2 : RiseL (cutL t)) : splitE t = 0 ∧ splitR t = cutL t := by
  unfold splitE splitR; rw [if_neg h0, if_neg h0, if_pos h, if_pos h, if_pos h2, if_pos h2]; exact ⟨rfl, rfl⟩
end Go.Proofs.YtgplajofemencaaGreat
/- What tour.formed, copied, cut and rising answer. -/
namespace Go.Proofs.YtgplajofemencaaGreat
open Go.ChangeShapes Go.WideShapes Go.ChangeAt Go.RowKit

theorem form_pre {t : List Int} (h0 : t ≠ []) : FormT t ↔ PreT t ∧ t.getD (t.length - 1) 0 ≠ 0 := by
  rw [form_iff h0, pre_full]
  unfold cutL
  rw [full_snoc]
  constructor
  · rintro ⟨h1, h2, h3⟩
    exact ⟨⟨h1, h2⟩, fun h => h3 ((last_cut t h0).2 (by omega))⟩
  · rintro ⟨⟨h1, h2⟩, h3⟩
    refine ⟨h1, h2, fun h => (last_cut t h0).1 h ?_⟩
    have := h1 _ (getD_mem1 (i := t.length - 1) (by have := List.length_pos_iff.2 h0; omega))
    omega
def PreK (t : List Int) (k : Nat) : Prop := ∀ i, i < k → 0 ≤ t.getD i 0 ∧ (t.getD i 0 = 0 → 0 < i ∧ t.getD (i - 1) 0 ≠ 0)
/-- The number ahead of number k; ahead of the first one a 0. -/
def lastK (t : List Int) (k : Nat) : Int := (0 :: t).getD k 0
theorem lastK_succ (t : List Int) (k : Nat) : lastK t (k + 1) = t.getD k 0 := by simp [lastK, List.getD_eq_getElem?_getD]
theorem lastK_pos {t : List Int} {k : Nat} (h : 0 < k) : lastK t k = t.getD (k - 1) 0 := by
  obtain ⟨j, rfl⟩ : ∃ j, k = j + 1 := ⟨k - 1, by omega⟩
  rw [lastK_succ, Nat.add_sub_cancel]
theorem preK_next {t : List Int} {k : Nat} (h : PreK t k) (h1 : ¬ t.getD k 0 < 0) (h2 : ¬ (t.getD k 0 = 0 ∧ lastK t k = 0)) : PreK t (k + 1) := by
  intro i hi
  by_cases he : i = k
  · subst he
    refine ⟨by omega, fun h3 => ?_⟩
    rcases Nat.eq_zero_or_pos i with h4 | h4
    · exact absurd ⟨h3, by rw [h4]; rfl⟩ h2
    · exact ⟨h4, fun h5 => h2 ⟨h3, by rw [lastK_pos h4]; exact h5⟩⟩
  · exact h i (by omega)
theorem preK_bad {t : List Int} {k : Nat} (hk : k < t.length) (h : t.getD k 0 < 0 ∨ (t.getD k 0 = 0 ∧ lastK t k = 0)) : ¬ FormT t := by
  intro hF
  have h0 : t ≠ [] := by rintro rfl; cases hk
  have hp := ((form_pre h0).1 hF).1 k hk
  rcases h with h | ⟨h1, h2⟩
  · omega
  · have h3 := hp.2 h1
    rw [lastK_pos h3.1] at h2
    exact h3.2 h2
theorem preK_end {t : List Int} (h0 : t ≠ []) (h : PreK t t.length) : FormT t ↔ lastK t t.length ≠ 0 := by
  rw [form_pre h0, lastK_pos (List.length_pos_iff.2 h0)]
  exact ⟨fun h1 => h1.2, fun h1 => ⟨h, h1⟩⟩
instance (t : List Int) : Decidable (FormT t) := by unfold FormT; infer_instance
set_option maxRecDepth 1000000 in
set_option maxHeartbeats 4000000 in
theorem formed_any {w : World} {v : Value} {t : List Int} (h : Row w v (ints t)) (h0 : t ≠ []) :
    Calls Tryz.prog 30 #[v] w fun e w' => e = .returned (.bool (decide (FormT t))) ∧ w' = w := by
  have H := Lib.hid h
  have H0 := Lib.hid h0
  obtain ⟨ad, cap, rfl, hm⟩ := h.form
  rw [ints_len] at *
  have hm1 : t.length ≤ 9223372036854775807 := by unfold maxLen at hm; omega
  clear h h0 hm
  go_enter Tryz.func30, Tryz.ntmps30
  go_wp2_with fail
  go_loop [3, 8] (fun lv i => ∃ k : Nat, k ≤ t.length ∧ i = .int .i64 k ∧ lv = .int .i64 (lastK t k) ∧ PreK t k) (fun _ i => t.length - (intOf i).toNat)
  case atStart => exact ⟨0, Nat.zero_le _, rfl, rfl, fun i hi => absurd hi (Nat.not_lt_zero i)⟩
  case round =>
    obtain ⟨k, hk, rfl, rfl, hp⟩ := hrel
    have HP := Lib.hid hp
    clear hp
    by_cases hlt : k < t.length
    · have hlt2 : (k : Int) < (t.length : Int) := by omega
      obtain ⟨b1, o1, c1, he1, hc1, _, _⟩ := row_at (p := k) H.out (by rw [ints_len]; exact hlt)
      rw [ints_at t k hlt] at hc1
      simp only [ints_len, Value.slice.injEq, true_and] at he1
      obtain ⟨rfl, rfl⟩ := he1
      have HNX := Lib.hid (fun h1 h2 => preK_next (t := t) HP.out h1 h2)
      have HBD := Lib.hid (fun h => preK_bad (t := t) hlt h)
      have HLS := Lib.hid (lastK_succ t k)
      generalize t.getD k 0 = x at *
      generalize lastK t k = y at *
      by_cases h1 : x < 0
      · have HD := Lib.hid (decide_eq_false (HBD.out (.inl h1)))
        go_wp2
        go_ret
        exact ⟨ret_bool HD.out.symm, rfl⟩
      · by_cases h2 : x = 0
        · have h2b : (x == 0) = true := by simp [h2]
          by_cases h3 : y = 0
          · have h3b : (y == 0) = true := by simp [h3]
            have HD := Lib.hid (decide_eq_false (HBD.out (.inr ⟨h2, h3⟩)))
            clear h2 h3
            go_wp2
            go_ret
            exact ⟨ret_bool HD.out.symm, rfl⟩
          · have h3b : (y == 0) = false := by simp [h3]
            have HN := Lib.hid (HNX.out h1 (fun h => h3 h.2))
            clear h2 h3
            go_wp2_with fail
            go_round
            case rel => exact ⟨k + 1, by omega, by go_num, by rw [HLS.out], HN.out⟩
            case measure => simp [intOf]; omega
        · have h2b : (x == 0) = false := by simp [h2]
          have HN := Lib.hid (HNX.out h1 (fun h => h2 h.1))
          clear h2
          go_wp2_with fail
          go_round
          case rel => exact ⟨k + 1, by omega, by go_num, by rw [HLS.out], HN.out⟩
          case measure => simp [intOf]; omega
    · obtain rfl : k = t.length := by omega
      have hl2 : ¬ (t.length : Int) < (t.length : Int) := by omega
      have HE := Lib.hid (preK_end H0.out HP.out)
      generalize lastK t t.length = y at *
      clear hlt hk
      by_cases h3 : y = 0
      · have h3b : (y != 0) = false := by simp [h3]
        have HD := Lib.hid (decide_eq_false (show ¬ FormT t from fun hF => HE.out.1 hF h3))
        clear h3
        go_wp2
        go_ret
        exact ⟨ret_bool HD.out.symm, rfl⟩
      · have h3b : (y != 0) = true := by simp [h3]
        have HD := Lib.hid (decide_eq_true (HE.out.2 h3))
        clear h3
        go_wp2
        go_ret
        exact ⟨ret_bool HD.out.symm, rfl⟩
/-- A copy of numbers, put behind a slice that has no room. -/
theorem app_copy {w : World} {ops : Array Oper} {rest : List Oper} {o : Oper} {a : Act} {Q : Exit → Act → World → Prop} (hgd : o.guard = none) (s x : Operand)
    (ho : o.op = .call { callee := .builtin .append, args := #[s, x], argTypes := #[28, 28] }) (ao : Addr) (hs : a.eval s = .slice (some ao) 0 0)
    (u : Value) (xs : List Int) (hx : a.eval x = u) (hr : Row w u (ints xs)) (h0 : xs ≠ []) (hlen : xs.length ≤ 10000000)
    (h : ∀ v' w', OwnI w' w.heap.size v' xs → w.grownBy w' none → wpList Tryz.prog ops Q rest (a.put o.dst v') w') : wpList Tryz.prog ops Q (o :: rest) a w := by
  obtain ⟨i0, hi, hz0, hz1, hz2⟩ := info_parts infoInt
  obtain ⟨hm, ad, cap, rfl, hc, ⟨hc2, hn⟩, hcell⟩ := hr
  rw [ints_len] at *
  have hpos := List.length_pos_iff.2 h0
  cases ad with
  | none => have := hn rfl; omega
  | some ad =>
    refine wpList_append_grows w hgd s x 28 ho 3 i0 _ 1 8 Tryz.underlying28 hi hz0 hz1 hz2 rfl (by decide) (some ao) 0 0 [] hs (fun h => by cases h) rfl (fun _ _ j u hj => by simp at hj) ad xs.length cap (ints xs) hx (by rw [ints_len]; omega) ?_ ?_ (by omega) (by unfold maxLen; omega) (by omega) ?_
    · intro j w0 hj
      rcases hcell with h0 | ⟨b, off, he, hcc⟩
      · rw [h0] at hj; simp at hj
      · simp at he
        subst he
        have hjl : j < xs.length := by
          rcases Nat.lt_or_ge j xs.length with h | h
          · exact h
          · rw [List.getElem?_eq_none (by rw [ints_len]; exact h)] at hj; simp at hj
        rw [add_off, hcc j hjl, hj]
    · intro u hu
      simp only [ints, List.mem_map] at hu
      obtain ⟨n, _, rfl⟩ := hu
      rfl
    · intro v' w' h1 h2
      refine h v' w' ?_ h2
      unfold OwnI
      have := h1
      rw [Nat.zero_add, List.nil_append] at this
      exact this
set_option maxRecDepth 1000000 in
set_option maxHeartbeats 1000000 in
theorem copied_any {w : World} {v : Value} {l : List Int} (h : Row w v (ints l)) (hl : l ≠ []) (hlen : l.length ≤ 10000000) :
    Calls Tryz.prog 53 #[v] w fun e w' => ∃ u, e = .returned u ∧ OwnI w' w.heap.size u l ∧ Below w.heap.size w w' := by
  have H := Lib.hid h
  have HL := Lib.hid hl
  obtain ⟨b, off, cap, rfl, _⟩ := row_at (p := 0) h (by rw [ints_len]; exact List.length_pos_iff.2 hl)
  rw [ints_len] at *
  clear h hl
  go_enter Tryz.func53, Tryz.ntmps53
  go_wp2_with (first | (at_builtin; refine app_copy rfl _ _ rfl _ rfl _ l rfl H.out HL.out hlen ?_))
  intro v' w' own grown
  have HO := Lib.hid own
  have HB := Lib.hid ((Below.refl w.heap.size w).grown grown (Nat.le_refl _) (fun k hk => by cases hk))
  clear own grown
  go_wp2
  go_ret
  exact ⟨_, rfl, HO.out, HB.out⟩
end Go.Proofs.YtgplajofemencaaGreat
/- What the document's Sorted answers. -/
namespace Go.Proofs.YtgplajofemencaaGreat
open Go.ChangeShapes Go.WideShapes Go.ChangeAt Go.RowKit

theorem OwnIn.take {w : World} {B : Nat} : ∀ {vs : List Value} {L : List (List Int)} (k : Nat), OwnIn w B vs L → OwnIn w B (vs.take k) (L.take k)
  | [], [], _, _ => by simp [OwnIn]
  | _ :: _, _ :: _, 0, _ => trivial
  | _ :: _, _ :: _, k + 1, h => ⟨h.1, OwnIn.take k h.2⟩
  | [], _ :: _, _, h => h.elim
  | _ :: _, [], _, h => h.elim
theorem OwnIn.drop {w : World} {B : Nat} : ∀ {vs : List Value} {L : List (List Int)} (k : Nat), OwnIn w B vs L → OwnIn w B (vs.drop k) (L.drop k)
  | [], [], _, _ => by simp [OwnIn]
  | _ :: _, _ :: _, 0, h => h
  | _ :: _, _ :: _, k + 1, h => OwnIn.drop k h.2
  | [], _ :: _, _, h => h.elim
  | _ :: _, [], _, h => h.elim
theorem OwnIn.below {w w' : World} {B : Nat} (hb : Below w.heap.size w w') : ∀ {vs : List Value} {L : List (List Int)}, OwnIn w B vs L → OwnIn w' B vs L
  | [], [], _ => trivial
  | _ :: _, _ :: _, h => ⟨own_below h.1 hb, OwnIn.below hb h.2⟩
  | [], _ :: _, h => h.elim
  | _ :: _, [], h => h.elim
end Go.Proofs.YtgplajofemencaaGreat
/- What tour.cut and rising answer. -/
namespace Go.Proofs.YtgplajofemencaaGreat
open Go.ChangeShapes Go.WideShapes Go.ChangeAt Go.RowKit

theorem cutP_ahead (A : List (List Int)) : ∀ (R : List Int) (S : List (List Int)) (c : List Int), R.foldl cutStep (A ++ S, c) = (A ++ (R.foldl cutStep (S, c)).1, (R.foldl cutStep (S, c)).2)
  | [], S, c => rfl
  | x :: R, S, c => by
    rw [List.foldl_cons, List.foldl_cons]
    unfold cutStep
    by_cases hx : 0 < x
    · rw [if_pos hx, if_pos hx]; exact cutP_ahead A R S _
    · rw [if_neg hx, if_neg hx]
      simp only
      rw [List.append_assoc]
      exact cutP_ahead A R _ _
theorem cut_next {A R : List Int} (h : ∀ x ∈ A, 0 < x) : cutL (A ++ 0 :: R) = A :: cutL R := by
  have := cutP_ahead [A] R [] []
  unfold cutL cutP
  rw [List.foldl_append, fold_pos A [] [] h, List.foldl_cons, show cutStep ([], [] ++ A) 0 = ([A] ++ [], []) by simp [cutStep], this]
  simp
theorem cut_one {A : List Int} (h : ∀ x ∈ A, 0 < x) : cutL A = [A] := by
  unfold cutL cutP; rw [fold_pos A [] [] h]; simp
theorem cut_nil : cutL [] = [[]] := rfl
theorem full_cons {l : List Int} {L : List (List Int)} : Full (l :: L) ↔ l ≠ [] ∧ Full L := by
  constructor
  · intro h; exact ⟨h l (by simp), fun x hx => h x (by simp [hx])⟩
  · rintro ⟨h1, h2⟩ x hx
    simp only [List.mem_cons] at hx
    rcases hx with rfl | hx
    · exact h1
    · exact h2 x hx
theorem cut_full_ne {R : List Int} (h : Full (cutL R)) : R ≠ [] := by
  rintro rfl
  rw [cut_nil] at h
  exact h [] (by simp) rfl
/-- The length of a slice. -/
def lenV : Value → Nat
  | .slice _ n _ => n
  | _ => 0
/-- What is cut, at a 0 that is the first one. -/
theorem cut_at {R : List Int} {k : Nat} (hk : k < R.length) (h0 : ∀ x ∈ R, 0 ≤ x) (hA : ∀ x ∈ R.take k, x ≠ 0) (hx : R.getD k 0 = 0) (hF : Full (cutL R)) :
    cutL R = R.take k :: cutL (R.drop (k + 1)) ∧ R.take k ≠ [] ∧ 0 < k ∧ Full (cutL (R.drop (k + 1))) ∧ k + 1 < R.length := by
  have e : R = R.take k ++ 0 :: R.drop (k + 1) := by
    have := List.take_append_drop k R
    rw [List.drop_eq_getElem_cons hk] at this
    rw [List.getD_eq_getElem?_getD, List.getElem?_eq_getElem hk] at hx
    simp only [Option.getD_some] at hx
    rw [hx] at this
    exact this.symm
  have hp : ∀ x ∈ R.take k, 0 < x := fun x hx => by have := h0 x (List.mem_of_mem_take hx); have := hA x hx; omega
  have hc : cutL R = R.take k :: cutL (R.drop (k + 1)) := by
    have := cut_next (R := R.drop (k + 1)) hp
    rwa [← e] at this
  rw [hc, full_cons] at hF
  refine ⟨hc, hF.1, ?_, hF.2, ?_⟩
  · rcases Nat.eq_zero_or_pos k with h | h
    · rw [h] at hF; exact absurd rfl hF.1
    · exact h
  · have := cut_full_ne hF.2
    have := List.length_pos_iff.2 this
    rw [List.length_drop] at this
    omega
theorem take_all_ne {R : List Int} {k : Nat} (hk : k < R.length) (h : ∀ x ∈ R.take k, x ≠ 0) (hx : R.getD k 0 ≠ 0) : ∀ x ∈ R.take (k + 1), x ≠ 0 := by
  intro x h1
  rw [take_snoc hk] at h1
  rcases List.mem_append.1 h1 with h2 | h2
  · exact h x h2
  · rw [List.mem_singleton.1 h2]; exact hx
set_option maxRecDepth 1000000 in
set_option maxHeartbeats 4000000 in
theorem cut_any {w : World} {v : Value} {t : List Int} (h : Row w v (ints t)) (h0 : ∀ x ∈ t, 0 ≤ x) (hF : Full (cutL t)) (hlen : t.length ≤ 1048576) :
    Calls Tryz.prog 31 #[v] w fun e w' => ∃ u, e = .returned u ∧ OwnLL w' w.heap.size u (cutL t) ∧ Below w.heap.size w w' := by
  have H := Lib.hid h
  have H0 := Lib.hid h0
  have HF := Lib.hid hF
  obtain ⟨ad, cap, rfl, hm⟩ := h.form
  rw [ints_len] at *
  clear h h0 hF hm
  go_enter Tryz.func31, Tryz.ntmps31
  go_wp2
  go_step3
  go_wp2
  go_step3
  go_wp2
  go_loopw [0, 3] (fun tv out wr => ∃ (D : List (List Int)) (R : List Int), Row w tv (ints R) ∧ OwnLL wr w.heap.size out D ∧ D ++ cutL R = cutL t ∧ (∀ x ∈ R, 0 ≤ x) ∧ Full (cutL R) ∧ 2 * D.length + R.length ≤ t.length ∧ Below w.heap.size w wr) (fun tv _ _ => lenV tv)
  case atStart => exact ⟨[], t, H.out, ownLL_nil _ _, rfl, H0.out, HF.out, by simp, Below.refl _ _⟩
  case round =>
    obtain ⟨D, R, hr, ho, hc, hp, hf, hl, hbw⟩ := hrel
    have hpos := List.length_pos_iff.2 (cut_full_ne hf)
    obtain ⟨b, off, cp, rfl, _, hmx, hblt⟩ := row_at (p := 0) hr (by rw [ints_len]; exact hpos)
    rw [ints_len] at *
    obtain ⟨oa, oc, hov⟩ := ho.shape
    obtain ⟨dn, hdn⟩ : ∃ dn, dn = D.length := ⟨_, rfl⟩
    rw [← hdn] at hov
    subst hov
    have HDN := Lib.hid hdn
    have HRw := Lib.hid hr
    have HR := Lib.hid (hr.below hbw)
    have HO := Lib.hid ho
    have HC := Lib.hid hc
    have HPo := Lib.hid hp
    have HFu := Lib.hid hf
    have HL := Lib.hid hl
    have HBW := Lib.hid hbw
    have hrl : R.length ≤ 1048576 := by omega
    clear hr ho hc hp hf hl hbw hmx hdn
    obtain ⟨wo, hwo⟩ : ∃ wo, wo = wr := ⟨_, rfl⟩
    subst hwo
    go_wp2_with fail
    go_loop [0, 3, 8] (fun tv ov i => ∃ k : Nat, k ≤ R.length ∧ tv = .slice (some ⟨b, off, none⟩) R.length cp ∧ ov = .slice oa dn oc ∧ i = .int .i64 k ∧ ∀ x ∈ R.take k, x ≠ 0) (fun _ _ i => R.length - (intOf i).toNat)
    case atStart => exact ⟨0, Nat.zero_le _, rfl, rfl, rfl, by simp⟩
    case round =>
      obtain ⟨k, hk, rfl, rfl, rfl, hA⟩ := hrel
      have HA := Lib.hid hA
      clear hA
      by_cases hlt : k < R.length
      · have hlt2 : (k : Int) < (R.length : Int) := by omega
        obtain ⟨b1, o1, c1, he1, hc1, _, _⟩ := row_at (p := k) HR.out (by rw [ints_len]; exact hlt)
        rw [ints_at R k hlt] at hc1
        simp only [ints_len, Value.slice.injEq, Option.some.injEq, Addr.mk.injEq, true_and, and_true] at he1
        obtain ⟨⟨rfl, rfl⟩, rfl⟩ := he1
        have HN := Lib.hid (fun h => take_all_ne hlt HA.out h)
        have HCT := Lib.hid (fun h => cut_at hlt HPo.out HA.out h HFu.out)
        generalize R.getD k 0 = x at *
        by_cases hx : x = 0
        · have hxb : (x == 0) = true := by simp [hx]
          have HX := Lib.hid (HCT.out hx)
          have hk1 : k + 1 < R.length := HX.out.2.2.2.2
          have hcap : R.length ≤ cp := by obtain ⟨_, a, c, h1, h2, _⟩ := HR.out; simp [ints_len] at h1 h2; omega
          have HT := Lib.hid (HR.out.head k (by omega))
          have htl := HRw.out.tail (k + 1) (by omega) _ rfl
          rw [if_neg (by omega)] at htl
          have HTL := Lib.hid htl
          have HK := Lib.hid (HX.out.2.1)
          have hsz : D.length ≤ 1000000 := by have := HL.out; omega
          have ij0 : IntKind.i64.wrap ((k : Int) + 1) = (k : Int) + 1 := IntWalk.i64_in _ (by omega)
          have ij1 : (k : Int) + 1 ≤ (R.length : Int) := by omega
          have ij3 : (0 : Int) ≤ (k : Int) + 1 := by omega
          have ij4 : (R.length : Int) ≤ (cp : Int) := by omega
          have ij5 : ((k : Int) + 1).toNat = k + 1 := by omega
          clear hx HCT HN htl
          go_wp2_with fail
          refine (copied_any HT.out HK.out (by rw [List.length_take]; omega)).mono ?_
          rintro e w2 ⟨u, rfl, hu, hb⟩
          have HU2 := Lib.hid (hu.less HBW.out.size)
          have HO2 := Lib.hid (HO.out.below hb)
          have HB2 := Lib.hid (HBW.out.trans (hb.mono HBW.out.size))
          clear hu hb
          obtain ⟨ua, uc, rfl⟩ := HU2.out.shape
          generalize (R.take k).length = tk at *
          go_wp2_with (first | (at_builtin; refine app_line rfl _ _ rfl w.heap.size _ _ rfl w2 _ rfl HO2.out (R.take k) rfl HU2.out hsz HB2.out.size ?_))
          intro v' w3 own grown
          have HO3 := Lib.hid own
          have HB3 := Lib.hid (madeL HB2.out HO2.out grown)
          clear own grown
          go_wp2_with fail
          have hk0 := HX.out.2.2.1
          have hl := HL.out
          refine ⟨⟨D ++ [R.take k], R.drop (k + 1), HTL.out, HO3.out, by rw [List.append_assoc, List.singleton_append, ← HX.out.1]; exact HC.out, fun x hx => HPo.out x (List.mem_of_mem_drop hx), HX.out.2.2.2.1, by rw [List.length_append, List.length_singleton, List.length_drop]; omega, HB3.out⟩, by simp only [lenV]; omega⟩
        · have hxb : (x == 0) = false := by simp [hx]
          have HN2 := Lib.hid (HN.out hx)
          clear hx HN HCT
          go_wp2_with fail
          go_round
          case rel => exact ⟨k + 1, by omega, rfl, rfl, by go_num, HN2.out⟩
          case measure => simp [intOf]; omega
      · obtain rfl : k = R.length := by omega
        have hl2 : ¬ (R.length : Int) < (R.length : Int) := by omega
        have HC1 := Lib.hid (show cutL R = [R] from cut_one (fun x hx => by have := HA.out x (by rwa [List.take_length]); have := HPo.out x hx; omega))
        go_wp2_with fail
        refine (copied_any HR.out (cut_full_ne HFu.out) (by omega)).mono ?_
        rintro e w2 ⟨u, rfl, hu, hb⟩
        have HU2 := Lib.hid (hu.less HBW.out.size)
        have HO2 := Lib.hid (HO.out.below hb)
        have HB2 := Lib.hid (HBW.out.trans (hb.mono HBW.out.size))
        clear hu hb
        obtain ⟨ua, uc, rfl⟩ := HU2.out.shape
        have hsz : D.length ≤ 1000000 := by have := HL.out; omega
        go_wp2_with (first | (at_builtin; refine app_line rfl _ _ rfl w.heap.size _ _ rfl w2 _ rfl HO2.out R rfl HU2.out hsz HB2.out.size ?_))
        intro v' w3 own grown
        have HO3 := Lib.hid own
        have HB3 := Lib.hid (madeL HB2.out HO2.out grown)
        clear own grown
        go_wp2
        rw [Exit.noGoto_ret]
        go_ret
        exact ⟨_, rfl, by rw [← HC.out, HC1.out]; exact HO3.out, HB3.out⟩
instance (L : List (List Int)) : Decidable (RiseL L) := decidable_of_iff (∀ k, k < L.length → k + 1 < L.length → key (L.getD k []) < key (L.getD (k + 1) []))
  ⟨fun h k hk => h k (by omega) hk, fun h k _ hk => h k hk⟩
theorem rise_next {L : List (List Int)} {k : Nat} (h : ∀ i, i + 1 < k → key (L.getD i []) < key (L.getD (i + 1) [])) (h0 : 0 < k) (h1 : key (L.getD (k - 1) []) < key (L.getD k [])) : ∀ i, i + 1 < k + 1 → key (L.getD i []) < key (L.getD (i + 1) []) := by
  intro i hi
  by_cases he : i + 1 = k
  · subst he; simpa using h1
  · exact h i (by omega)
theorem rise_bad {L : List (List Int)} {k : Nat} (hk : k < L.length) (h0 : 0 < k) (h1 : key (L.getD k []) ≤ key (L.getD (k - 1) [])) : ¬ RiseL L := by
  intro h
  have := h (k - 1) (by omega)
  rw [show k - 1 + 1 = k by omega] at this
  omega
theorem key_row {w : World} {ad : Option Addr} {n cap : Nat} {l : List Int} (h : Row w (.slice ad n cap) (ints l)) (hl : l ≠ []) : ∃ b off, ad = some ⟨b, off, none⟩ ∧ w.cell? ⟨b, off, none⟩ = some (.int .i64 (key l)) ∧ n = l.length ∧ (0 : Int) < (l.length : Int) := by
  have hp := List.length_pos_iff.2 hl
  obtain ⟨b, off, c, he, hc, _, _⟩ := row_at (p := 0) h (by rw [ints_len]; exact hp)
  rw [ints_at l 0 hp, Nat.add_zero] at hc
  simp only [Value.slice.injEq, ints_len] at he
  exact ⟨b, off, he.1, hc, he.2.1, by omega⟩
set_option maxRecDepth 1000000 in
set_option maxHeartbeats 4000000 in
theorem rising_any {w : World} {v : Value} {L : List (List Int)} (h : IsLL w v L) (hF : Full L) :
    Calls Tryz.prog 32 #[v] w fun e w' => e = .returned (.bool (decide (RiseL L))) ∧ Below w.heap.size w w' := by
  have H := Lib.hid h
  have HF := Lib.hid hF
  obtain ⟨ad, cap, rfl, hm⟩ := h.form
  have hm1 : L.length ≤ 9223372036854775807 := by unfold maxLen at hm; omega
  clear h hF hm
  go_enter Tryz.func32, Tryz.ntmps32
  go_wp2_with fail
  go_loopw [3] (fun i wr => ∃ k : Nat, 1 ≤ k ∧ i = .int .i64 k ∧ (∀ i, i + 1 < k → i + 1 < L.length → key (L.getD i []) < key (L.getD (i + 1) [])) ∧ Below w.heap.size w wr) (fun i _ => L.length - (intOf i).toNat)
  case atStart => exact ⟨1, Nat.le_refl _, rfl, fun i hi => by omega, Below.refl _ _⟩
  case round =>
    obtain ⟨k, hk, rfl, hp, hbw⟩ := hrel
    have HP := Lib.hid hp
    have HBW := Lib.hid hbw
    clear hp hbw
    by_cases hlt : k < L.length
    · have hlt2 : (k : Int) < (L.length : Int) := by omega
      have hk1 : k - 1 < L.length := by omega
      have hll := H.out.below HBW.out
      obtain ⟨b1, o1, a1, n1, c1, rfl, _, hc1, hn1, _, hw1⟩ := ll_at hll k hlt
      obtain ⟨b2, o2, a2, n2, c2, he2, _, hc2, hn2, _, hw2⟩ := ll_at hll (k - 1) hk1
      simp only [Option.some.injEq, Addr.mk.injEq, and_true] at he2
      obtain ⟨rfl, rfl⟩ := he2
      obtain ⟨d1, p1, rfl, hd1, rfl, hp1⟩ := key_row hw1 (HF.out.at hlt)
      obtain ⟨d2, p2, rfl, hd2, rfl, hp2⟩ := key_row hw2 (HF.out.at hk1)
      have HN := Lib.hid (show key (L.getD (k - 1) []) < key (L.getD k []) → (∀ i, i + 1 < k + 1 → i + 1 < L.length → key (L.getD i []) < key (L.getD (i + 1) [])) from fun h i hi hil => rise_next (fun i hi => HP.out i hi (by omega)) (by omega) h i hi)
      have HB := Lib.hid (fun h => decide_eq_false (rise_bad hlt (by omega) h))
      generalize key (L.getD k []) = x at *
      generalize key (L.getD (k - 1) []) = y at *
      have ij0 : IntKind.i64.wrap ((k : Int) - 1) = ((k - 1 : Nat) : Int) := by rw [IntWalk.i64_in _ (by omega)]; omega
      have ij1 : ((k - 1 : Nat) : Int) < (L.length : Int) := by omega
      generalize (L.getD k []).length = m1 at *
      generalize (L.getD (k - 1) []).length = m2 at *
      obtain ⟨j, hj⟩ : ∃ j, k - 1 = j := ⟨_, rfl⟩
      rw [hj] at hc2 ij0 ij1
      clear hll hw1 hw2 hj hk1
      by_cases hxy : x ≤ y
      · have HD := Lib.hid (HB.out hxy)
        clear HB HN
        go_wp2_with fail
        go_quiet (fail)
        have HB2 := Lib.hid (below_drewN HBW.out nq)
        go_wp2
        go_ret
        exact ⟨ret_bool HD.out.symm, HB2.out⟩
      · have HN2 := Lib.hid (HN.out (by omega))
        clear HB HN
        go_wp2_with fail
        go_quiet (fail)
        have HB2 := Lib.hid (below_drewN HBW.out nq)
        clear hc1 hc2 hd1 hd2
        generalize wr.drewN nq = w2 at *
        go_wp2_with fail
        go_roundw
        case rel => exact ⟨k + 1, by omega, by go_num, HN2.out, HB2.out⟩
        case measure => simp [intOf]; omega
    · have hl2 : ¬ (k : Int) < (L.length : Int) := by omega
      have HD := Lib.hid (show decide (RiseL L) = true from decide_eq_true (fun i hi => HP.out i (by omega) hi))
      go_wp2
      go_ret
      exact ⟨ret_bool HD.out.symm, HBW.out⟩
end Go.Proofs.YtgplajofemencaaGreat
/- What tour.Split answers. -/
namespace Go.Proofs.YtgplajofemencaaGreat
open Go.ChangeShapes Go.WideShapes Go.ChangeAt Go.RowKit

set_option maxRecDepth 1000000 in
set_option maxHeartbeats 4000000 in
theorem split_any {w : World} {v : Value} {t : List Int} (h : Row w v (ints t)) (hlen : t.length ≤ 1048576) :
    Calls Tryz.prog 14 #[v] w fun e w' => ∃ u, e = .returned (.tuple #[planV u, .int .i64 (splitE t)]) ∧ OwnLL w' w.heap.size u (splitR t) ∧ Below w.heap.size w w' := by
  have HB0 := Lib.hid ((Below.refl w.heap.size w).alloc (Nat.le_refl _) (.cells #[.slice none 0 0] 41))
  have H := Lib.hid (h.below ((Below.refl w.heap.size w).alloc (Nat.le_refl _) (.cells #[.slice none 0 0] 41)))
  have HZ := Lib.hid (pbox_new w (.slice none 0 0))
  have HSZ := Lib.hid (show (w.alloc (.cells #[.slice none 0 0] 41)).heap.size = w.heap.size + 1 by simp)
  obtain ⟨ta, tc, rfl, _⟩ := h.form
  rw [ints_len] at *
  clear h
  unfold planV
  go_enter Tryz.func14, Tryz.ntmps14
  go_upto_region 1 with fail
  generalize w.alloc (.cells #[.slice none 0 0] 41) = W at *
  have z0 := HZ.out.cell
  have f0 := HZ.out.free 0
  by_cases h0 : t = []
  · have HE := Lib.hid split_nil
    rw [← h0] at HE
    have hl0 : ((t.length : Int) == 0) = true := by rw [h0]; rfl
    have HB2 := Lib.hid (HB0.out.setCell (p := ⟨w.heap.size, 0, none⟩) (Nat.le_refl _) (.slice none 0 0))
    clear h0
    go_wp2
    refine bodyPost_ret (v := .tuple #[.agg #[.slice none 0 0], .int .i64 0]) (by simp [results, Tryz.results14, go_sem, z0]) rfl ?_
    exact ⟨_, by rw [HE.out.1], by rw [HE.out.2]; exact ownLL_nil _ _, HB2.out⟩
  · have hl0 : ((t.length : Int) == 0) = false := by simpa using h0
    have H0 := Lib.hid h0
    have HC := Lib.hid (formed_any H.out h0)
    obtain ⟨fb, hfb⟩ : ∃ fb, decide (FormT t) = fb := ⟨_, rfl⟩
    rw [hfb] at HC
    have HFB := Lib.hid hfb
    clear h0 hfb
    go_wp2_with fail
    refine HC.out.mono ?_
    rintro e w1 ⟨rfl, rfl⟩
    clear HC
    cases fb with
    | false =>
      have HE := Lib.hid (split_form H0.out (of_decide_eq_false HFB.out))
      have HB2 := Lib.hid (HB0.out.setCell (p := ⟨w.heap.size, 0, none⟩) (Nat.le_refl _) (.slice none 0 0))
      go_wp2
      refine bodyPost_ret (v := .tuple #[.agg #[.slice none 0 0], .int .i64 2]) (by simp [results, Tryz.results14, go_sem, z0]) rfl ?_
      exact ⟨_, by rw [HE.out.1], by rw [HE.out.2]; exact ownLL_nil _ _, HB2.out⟩
    | true =>
      have HF := Lib.hid ((form_iff H0.out).1 (of_decide_eq_true HFB.out))
      go_wp2_with fail
      refine (cut_any H.out HF.out.1 HF.out.2 hlen).mono ?_
      rintro e w2 ⟨u, rfl, hu, hb⟩
      have HU := Lib.hid hu
      have HB1 := Lib.hid (HB0.out.trans (hb.mono HB0.out.size))
      have HZ2 := Lib.hid (HZ.out.later hb)
      have HSZ2 := Lib.hid (show w.heap.size + 1 ≤ w1.heap.size by have := HSZ.out; omega)
      have HRI := Lib.hid (rising_any hu.is HF.out.2)
      clear hu hb z0 f0
      obtain ⟨rb, hrb⟩ : ∃ rb, decide (RiseL (cutL t)) = rb := ⟨_, rfl⟩
      rw [hrb] at HRI
      have HRB := Lib.hid hrb
      obtain ⟨ua, uc, rfl⟩ := HU.out.shape
      generalize (cutL t).length = un at *
      clear hrb
      go_wp2_with fail
      refine HRI.out.mono ?_
      rintro e w3 ⟨rfl, hb⟩
      have HU3 := Lib.hid (HU.out.below hb)
      have HB3 := Lib.hid (HB1.out.trans (hb.mono HB1.out.size))
      have HZ3 := Lib.hid (HZ2.out.later hb)
      clear hb HRI
      have z0 := HZ3.out.cell
      have f0 := HZ3.out.free 0
      cases rb with
      | false =>
        have HE := Lib.hid (split_order H0.out (of_decide_eq_true HFB.out) (of_decide_eq_false HRB.out))
        have HB4 := Lib.hid (HB3.out.setCell (p := ⟨w.heap.size, 0, none⟩) (Nat.le_refl _) (.slice none 0 0))
        go_wp2
        refine bodyPost_ret (v := .tuple #[.agg #[.slice none 0 0], .int .i64 8]) (by simp [results, Tryz.results14, go_sem, z0]) rfl ?_
        exact ⟨_, by rw [HE.out.1], by rw [HE.out.2]; exact ownLL_nil _ _, HB4.out⟩
      | true =>
        have HE := Lib.hid (split_fine H0.out (of_decide_eq_true HFB.out) (of_decide_eq_true HRB.out))
        have hgr : w3.grownBy (w3.setCell ⟨w.heap.size, 0, none⟩ (.slice ua un uc)) (some w.heap.size) := ⟨rfl, rfl, rfl, by simp [World.setCell], fun k _ hk => heap_setCell_other w3 ⟨w.heap.size, 0, none⟩ k _ (fun e => hk (by rw [e]))⟩
        have HO4 := Lib.hid ((HU3.out.later hgr (fun g hg => by simp at hg; have := HSZ2.out; omega)).less (B' := w.heap.size) (by have := HSZ2.out; omega))
        have HB4 := Lib.hid (HB3.out.setCell (p := ⟨w.heap.size, 0, none⟩) (Nat.le_refl _) (.slice ua un uc))
        clear hgr
        go_wp2
        refine bodyPost_ret (v := .tuple #[.agg #[.slice ua un uc], .int .i64 0]) (by simp [results, Tryz.results14, go_sem, z0]) rfl ?_
        exact ⟨_, by rw [HE.out.1], by rw [HE.out.2]; exact HO4.out, HB4.out⟩
end Go.Proofs.YtgplajofemencaaGreat
/- What tour.Join and the document's Join answer. -/
namespace Go.Proofs.YtgplajofemencaaGreat
open Go.ChangeShapes Go.WideShapes Go.ChangeAt Go.RowKit

end Go.Proofs.YtgplajofemencaaGreat
/- What the document's Split answers. -/
namespace Go.Proofs.YtgplajofemencaaGreat
open Go.ChangeShapes Go.WideShapes Go.ChangeAt Go.RowKit

end Go.Proofs.YtgplajofemencaaGreat
/- The chapter's example. -/
namespace Go.Proofs.YtgplajofemencaaGreat
open Go.ChangeShapes Go.WideShapes Go.ChangeAt Go.RowKit

section
variable {H : Type} {enc : TypeId × Value → H} {w : World} {base : Nat} {spare : Nat → Bool} {held : Bool}
end
theorem few_sum : ∀ (L : List (List Int)), (∀ l ∈ L, l.length ≤ 100) → sumL L ≤ 101 * L.length
  | [], _ => by simp [sumL]
  | l :: L, h => by
    have h1 := few_sum L (fun x hx => h x (by simp [hx]))
    have h2 := h l (by simp)
    simp only [sumL, List.length_cons]
    split <;> omega
theorem FewP.sum {L : List (List Int)} (h : FewP L) : sumL L ≤ 1000000 := by have := few_sum L h.2; have := h.1; omega
theorem FewP.num {L : List (List Int)} (h : FewP L) : L.length ≤ 1000 := by have := h.1; omega
end Go.Proofs.YtgplajofemencaaGreat
