/- The plain mathematics of what a plan costs. -/
import Derived.Test.YtpdeffpmfbplnaaDoorXTSched
import Derived.Test.YtpdeffpmfbplnaaDoorXVB
namespace Go.Proofs.YtpdeffpmfbplnaaDoor

theorem sub_len : ∀ {R D : List Int}, R.Nodup → (∀ x ∈ R, x ∈ D) → R.length ≤ D.length
  | [], _, _, _ => by simp
  | x :: R, D, hn, h => by
    have hx := h x (by simp)
    have hn' := List.nodup_cons.1 hn
    have := sub_len (R := R) (D := D.erase x) hn'.2 (fun y hy => by
      have hne : y ≠ x := fun e => hn'.1 (by rw [← e]; exact hy)
      exact (List.mem_erase_of_ne hne).2 (h y (by simp [hy])))
    rw [List.length_erase_of_mem hx] at this
    have h0 : 0 < D.length := List.length_pos_of_mem hx
    simp; omega
def upTo (n : Nat) : List Int := (List.range n).map (fun (i : Nat) => (i : Int) + 1)
theorem upTo_mem (n : Nat) (i : Int) : i ∈ upTo n ↔ 1 ≤ i ∧ i ≤ n := by
  unfold upTo
  simp only [List.mem_map, List.mem_range]
  constructor
  · rintro ⟨k, hk, rfl⟩; omega
  · rintro ⟨h1, h2⟩; exact ⟨(i - 1).toNat, by omega, by omega⟩
theorem upTo_nodup (n : Nat) : (upTo n).Nodup := by
  unfold upTo
  refine List.Pairwise.map _ (fun a b h => ?_) List.nodup_range
  intro e; exact h (by omega)
theorem upTo_len (n : Nat) : (upTo n).length = n := by simp [upTo]
/-- Stops that are told once each are no more than there are; if one is missing they are less. -/
theorem rng_len {D : List Int} {n : Nat} (h : D.Nodup) (hr : ∀ i ∈ D, 1 ≤ i ∧ i ≤ (n : Int)) : D.length ≤ n := by
  have := sub_len (R := D) (D := upTo n) h (fun x hx => (upTo_mem n x).2 (hr x hx))
  rwa [upTo_len] at this
theorem rng_miss {D : List Int} {n : Nat} (h : D.Nodup) (hr : ∀ i ∈ D, 1 ≤ i ∧ i ≤ (n : Int)) {i : Int} (h1 : 1 ≤ i) (h2 : i ≤ n) (hi : i ∉ D) : D.length < n := by
  have hm := (upTo_mem n i).2 ⟨h1, h2⟩
  have := sub_len (R := D) (D := (upTo n).erase i) h (fun x hx => by
    have hne : x ≠ i := fun e => hi (by rw [← e]; exact hx)
    exact (List.mem_erase_of_ne hne).2 ((upTo_mem n x).2 (hr x hx)))
  rw [List.length_erase_of_mem hm, upTo_len] at this
  have h0 := List.length_pos_of_mem hm
  rw [upTo_len] at h0
  omega
theorem rng_full {D : List Int} {n : Nat} (h : ∀ i : Int, 1 ≤ i → i ≤ n → i ∈ D) : n ≤ D.length := by
  have := sub_len (R := upTo n) (D := D) (upTo_nodup n) (fun x hx => by have := (upTo_mem n x).1 hx; exact h x this.1 this.2)
  rwa [upTo_len] at this

/-- What is wrong with a route by itself. -/
def errR (I : Ins) (l : List Int) : Int := if l = [] then 1 else errT I l
def firstE (I : Ins) : List (List Int) → Int
  | [] => 0
  | l :: L => if errR I l = 0 then firstE I L else errR I l
theorem firstE_snoc (I : Ins) (l : List Int) : ∀ L, firstE I (L ++ [l]) = if firstE I L = 0 then errR I l else firstE I L
  | [] => by
    by_cases h : errR I l = 0 <;> simp [firstE, h]
  | m :: L => by
    rw [List.cons_append, firstE, firstE, firstE_snoc I l L]
    by_cases h : errR I m = 0
    · rw [if_pos h, if_pos h]
    · rw [if_neg h, if_neg h, if_neg h]
theorem firstE_stays (I : Ins) (M : List (List Int)) : ∀ L, firstE I L ≠ 0 → firstE I (L ++ M) = firstE I L
  | [], h => absurd rfl h
  | m :: L, h => by
    rw [firstE] at h
    rw [List.cons_append, firstE, firstE]
    by_cases h1 : errR I m = 0
    · rw [if_pos h1] at h; rw [if_pos h1, if_pos h1]; exact firstE_stays I M L h
    · rw [if_neg h1, if_neg h1]
theorem firstE_zero (I : Ins) : ∀ L, firstE I L = 0 ↔ ∀ l ∈ L, errR I l = 0
  | [] => by simp [firstE]
  | m :: L => by
    rw [firstE]
    by_cases h : errR I m = 0
    · rw [if_pos h, firstE_zero I L]; simp [h]
    · rw [if_neg h]; simp [h]
theorem errR_zero {I : Ins} {l : List Int} (h : errR I l = 0) : l ≠ [] ∧ errT I l = 0 := by
  unfold errR at h
  by_cases hl : l = []
  · rw [if_pos hl] at h; simp at h
  · rw [if_neg hl] at h; exact ⟨hl, h⟩
theorem errT_good {I : Ins} {l : List Int} (h : errT I l = 0) : mayB I = true ∧ GoodR I l := by
  obtain ⟨s, hs⟩ := errT_zero h
  obtain ⟨h1, h2, _, _⟩ := timesE_ok hs
  exact ⟨h1, goE_good _ _ h2⟩
theorem far_bds {I : Ins} {l : List Int} (h : errT I l = 0) : 0 ≤ farT I l ∧ farT I l ≤ 2000000 := by
  obtain ⟨s, hs⟩ := errT_zero h
  obtain ⟨h1, h2, _, _⟩ := timesE_ok hs
  have hb := goE_bds (fine_of h1) _ _ h2
  have hf := farF_bd s.last (nth I.l 0)
  unfold farT
  rw [hs]
  show 0 ≤ s.far + farF s.last (nth I.l 0) ∧ s.far + farF s.last (nth I.l 0) ≤ 2000000
  have := hb.2.1
  have hg := goE_good _ _ h2
  have hp := (fine_of h1).p1
  have hl : l.length ≤ 32 := rng_len hg.nodup (fun i hi => by have := hg.rng i hi; omega)
  omega
/-- How far all go. -/
def farS (I : Ins) : List (List Int) → Int
  | [] => 0
  | l :: L => farT I l + farS I L
theorem farS_snoc (I : Ins) (l : List Int) : ∀ L, farS I (L ++ [l]) = farS I L + farT I l
  | [] => by simp [farS]
  | m :: L => by rw [List.cons_append, farS, farS, farS_snoc I l L]; omega
theorem farS_bds {I : Ins} : ∀ L, firstE I L = 0 → 0 ≤ farS I L ∧ farS I L ≤ 2000000 * L.length
  | [], _ => by simp [farS]
  | l :: L, h => by
    have hz := (firstE_zero I _).1 h
    have h1 := far_bds (errR_zero (hz l (by simp))).2
    have h2 := farS_bds L ((firstE_zero I _).2 (fun m hm => hz m (by simp [hm])))
    simp only [farS, List.length_cons]
    omega
/-- What is wrong with all routes together. -/
def togE (p : Int) (D : List Int) : Int := if ¬ D.Nodup then 5 else if (D.length : Int) < 2 * p then 4 else 0
def costE (I : Ins) (L : List (List Int)) : Int := if mayB I = false then 1 else if I.c < L.length then 6 else if firstE I L ≠ 0 then firstE I L else togE I.p L.flatten
def costN (I : Ins) (L : List (List Int)) : Int := if costE I L = 0 then farS I L else 0
theorem flat_rng {I : Ins} {L : List (List Int)} (h : firstE I L = 0) : ∀ i ∈ L.flatten, 1 ≤ i ∧ i ≤ 2 * I.p := by
  intro i hi
  obtain ⟨l, hl, hil⟩ := List.mem_flatten.1 hi
  exact (errT_good (errR_zero ((firstE_zero I L).1 h l hl)).2).2.rng i hil
theorem flat_snoc (L : List (List Int)) (l : List Int) : (L ++ [l]).flatten = L.flatten ++ l := by simp
theorem firstE_take {I : Ins} {L : List (List Int)} (h : firstE I L = 0) (k : Nat) : firstE I (L.take k) = 0 :=
  (firstE_zero I _).2 (fun l hl => (firstE_zero I L).1 h l (List.mem_of_mem_take hl))
theorem costE_ok {I : Ins} {L : List (List Int)} (h : costE I L = 0) : mayB I = true ∧ (L.length : Int) ≤ I.c ∧ firstE I L = 0 ∧ L.flatten.Nodup ∧ 2 * I.p ≤ L.flatten.length := by
  unfold costE at h
  by_cases h1 : mayB I = false
  · rw [if_pos h1] at h; simp at h
  · rw [if_neg h1] at h
    by_cases h2 : I.c < L.length
    · rw [if_pos h2] at h; simp at h
    · rw [if_neg h2] at h
      by_cases h3 : firstE I L = 0
      · rw [if_neg (by simpa using h3)] at h
        unfold togE at h
        by_cases h4 : L.flatten.Nodup
        · rw [if_neg (by simpa using h4)] at h
          by_cases h5 : (L.flatten.length : Int) < 2 * I.p
          · rw [if_pos h5] at h; simp at h
          · exact ⟨by simpa using h1, by omega, h3, h4, by omega⟩
        · rw [if_pos h4] at h; simp at h
      · rw [if_pos h3] at h; exact absurd h h3
theorem costN_ok {I : Ins} {L : List (List Int)} (h : costE I L = 0) : costN I L = farS I L := by unfold costN; rw [if_pos h]
theorem costE_of {I : Ins} {L : List (List Int)} (h1 : mayB I = true) (h2 : (L.length : Int) ≤ I.c) (h3 : firstE I L = 0) : costE I L = togE I.p L.flatten := by
  unfold costE
  rw [if_neg (by simp [h1]), if_neg (by omega), if_neg (by simpa using h3)]
theorem togE_none {p : Int} {D : List Int} (h1 : D.Nodup) (h2 : (D.length : Int) < 2 * p) : togE p D = 4 := by unfold togE; rw [if_neg (by simpa using h1), if_pos h2]
theorem togE_ok {p : Int} {D : List Int} (h1 : D.Nodup) (h2 : ¬ (D.length : Int) < 2 * p) : togE p D = 0 := by unfold togE; rw [if_neg (by simpa using h1), if_neg h2]
theorem togE_twice {p : Int} {D : List Int} (h1 : ¬ D.Nodup) : togE p D = 5 := by unfold togE; rw [if_pos h1]
end Go.Proofs.YtpdeffpmfbplnaaDoor
/- Plans in another order. -/
namespace Go.Proofs.YtpdeffpmfbplnaaDoor
open Go.ChangeShapes Go.WideShapes Go.ChangeAt Go.RowKit

theorem farS_perm {I : Ins} {L M : List (List Int)} (h : L.Perm M) : farS I L = farS I M := by
  induction h with
  | nil => rfl
  | cons x _ ih => simp only [farS, ih]
  | swap x y l => simp only [farS]; omega
  | trans _ _ ih1 ih2 => exact ih1.trans ih2
theorem flatten_perm {L M : List (List Int)} (h : L.Perm M) : L.flatten.Perm M.flatten := by
  induction h with
  | nil => exact List.Perm.refl _
  | cons x _ ih => simp only [List.flatten_cons]; exact List.Perm.append_left _ ih
  | swap x y l =>
    simp only [List.flatten_cons, ← List.append_assoc]
    exact List.Perm.append_right _ List.perm_append_comm
  | trans _ _ ih1 ih2 => exact ih1.trans ih2
/-- What may be may be in another order, and costs the same. -/
theorem cost_perm {I : Ins} {L M : List (List Int)} (h : L.Perm M) (hc : costE I L = 0) : costE I M = 0 ∧ costN I M = costN I L := by
  obtain ⟨h1, h2, h3, h4, h5⟩ := costE_ok hc
  have hf := flatten_perm h
  have hm : firstE I M = 0 := (firstE_zero I M).2 (fun l hl => (firstE_zero I L).1 h3 l (h.mem_iff.2 hl))
  have hE : costE I M = 0 := by
    rw [costE_of h1 (by rw [← h.length_eq]; exact h2) hm]
    exact togE_ok (hf.nodup_iff.1 h4) (by rw [← hf.length_eq]; omega)
  exact ⟨hE, by rw [costN_ok hE, costN_ok hc, farS_perm h]⟩
theorem cost_full {I : Ins} {L : List (List Int)} (hc : costE I L = 0) : Full L := fun l hl => (errR_zero ((firstE_zero I L).1 (costE_ok hc).2.2.1 l hl)).1
theorem cost_ord {I : Ins} {L : List (List Int)} (hc : costE I L = 0) : costE I (ordL L) = 0 ∧ costN I (ordL L) = costN I L := cost_perm (ord_perm (cost_full hc)).symm hc
theorem cost_none {I : Ins} {L : List (List Int)} (hc : costE I L ≠ 0) : costN I L = 0 := by unfold costN; rw [if_neg hc]
theorem ord_step (L : List (List Int)) (k : Nat) (hk : k + 1 < (ordL L).length) : key ((ordL L).getD k []) ≤ key ((ordL L).getD (k + 1) []) := getD_le (stab_sortL _).1 (Nat.le_succ k) hk
theorem full_at {L : List (List Int)} (h : Full L) {i : Nat} (hi : i < L.length) : L.getD i [] ≠ [] := h.at hi
end Go.Proofs.YtpdeffpmfbplnaaDoor
