/- What a car holds behind the stops of a route that can be gone: never less than nothing, nothing at the end; what is left out. Nothing of the program stands here. -/
import Derived.Test.YtolaiccgbngomaaTMath
namespace Go.Proofs.Ytolaiccgbngomaa

def sumN (f : Nat → Int) : Nat → Int
  | 0 => 0
  | n + 1 => sumN f n + f n
theorem sumN_congr {f g : Nat → Int} : ∀ {n : Nat}, (∀ j, j < n → f j = g j) → sumN f n = sumN g n
  | 0, _ => rfl
  | n + 1, h => by rw [sumN, sumN, sumN_congr (fun j hj => h j (by omega)), h n (by omega)]
theorem sumN_change {f g : Nat → Int} {k : Nat} : ∀ {n : Nat}, k < n → (∀ j, j < n → j ≠ k → f j = g j) → sumN g n = sumN f n + (g k - f k)
  | 0, h, _ => by omega
  | n + 1, hk, h => by
    rw [sumN, sumN]
    by_cases c : k = n
    · subst c
      rw [sumN_congr (f := g) (g := f) (fun j hj => (h j (by omega) (by omega)).symm)]
      omega
    · rw [sumN_change (f := f) (g := g) (n := n) (by omega) (fun j hj hn => h j (by omega) hn), h n (by omega) (fun e => c e.symm)]
      omega
theorem sumN_nonneg {f : Nat → Int} : ∀ {n : Nat}, (∀ j, j < n → 0 ≤ f j) → 0 ≤ sumN f n
  | 0, _ => Int.le_refl _
  | n + 1, h => by
    rw [sumN]
    have := sumN_nonneg (f := f) (n := n) (fun j hj => h j (by omega))
    have := h n (by omega)
    omega
theorem sumN_ge {f : Nat → Int} {k : Nat} : ∀ {n : Nat}, k < n → (∀ j, j < n → 0 ≤ f j) → f k ≤ sumN f n
  | 0, h, _ => by omega
  | n + 1, hk, h => by
    rw [sumN]
    have h0 := h n (by omega)
    by_cases c : k = n
    · subst c
      have := sumN_nonneg (f := f) (n := k) (fun j hj => h j (by omega))
      omega
    · have := sumN_ge (f := f) (k := k) (n := n) (by omega) (fun j hj => h j (by omega))
      omega
theorem sumN_zero {f : Nat → Int} : ∀ {n : Nat}, (∀ j, j < n → f j = 0) → sumN f n = 0
  | 0, _ => rfl
  | n + 1, h => by rw [sumN, sumN_zero (fun j hj => h j (by omega)), h n (by omega)]; rfl

theorem wrongE_zero {I : Ins} {a : List Int} {i : Int} (h : wrongE I a i = 0) : 1 ≤ i ∧ i ≤ 2 * I.p ∧ i ∉ a ∧ (I.p < i → i - I.p ∈ a) ∧ heldL I a + (stp I i).d ≤ I.r := by
  unfold wrongE at h
  split at h
  · cases h
  · next h1 =>
    split at h
    · cases h
    · next h2 =>
      split at h
      · cases h
      · next h3 =>
        split at h
        · cases h
        · next h4 =>
          refine ⟨by omega, by omega, h2, fun hp => ?_, by omega⟩
          exact Decidable.byContradiction (fun hc => h3 ⟨hp, hc⟩)
theorem wrongE_of {I : Ins} {a : List Int} {i : Int} (h1 : 1 ≤ i) (h2 : i ≤ 2 * I.p) (h3 : i ∉ a) (h4 : I.p < i → i - I.p ∈ a) (h5 : heldL I a + (stp I i).d ≤ I.r) : wrongE I a i = 0 := by
  unfold wrongE
  rw [if_neg (by omega), if_neg h3, if_neg (fun h => h.2 (h4 h.1)), if_neg (by omega)]
/-- The stops of a route that can be gone. -/
structure GoodR (I : Ins) (l : List Int) : Prop where
  rng : ∀ i, i ∈ l → 1 ≤ i ∧ i ≤ 2 * I.p
  nodup : l.Nodup
  clos : ∀ i, i ∈ l → I.p < i → i - I.p ∈ l
theorem good_nil (I : Ins) : GoodR I [] := ⟨fun i h => by simp at h, List.nodup_nil, fun i h => by simp at h⟩
theorem GoodR.snoc {I : Ins} {l : List Int} (h : GoodR I l) {i : Int} (hw : wrongE I l i = 0) : GoodR I (l ++ [i]) := by
  obtain ⟨h1, h2, h3, h4, _⟩ := wrongE_zero hw
  refine ⟨fun j hj => ?_, ?_, fun j hj hp => ?_⟩
  · simp only [List.mem_append, List.mem_singleton] at hj
    rcases hj with hj | rfl
    · exact h.rng j hj
    · exact ⟨h1, h2⟩
  · rw [List.nodup_append]
    refine ⟨h.nodup, by simp, fun a ha b hb => ?_⟩
    simp only [List.mem_singleton] at hb
    subst hb
    intro e
    subst e
    exact h3 ha
  · simp only [List.mem_append, List.mem_singleton] at hj ⊢
    rcases hj with hj | rfl
    · exact .inl (h.clos j hj hp)
    · exact .inl (h4 hp)
theorem goE_good {I : Ins} : ∀ (l : List Int) (s : TS), goE I l = .ok s → GoodR I l :=
  goE_ind (good_nil I) (fun l i s s' hg hp h => by
    obtain ⟨hw, _, _⟩ := stepE_ok h
    rw [(goE_seen l s hg).1] at hw
    exact hp.snoc hw)
/-- What an instance that may be says of its stops. -/
structure Fine (I : Ins) : Prop where
  p0 : 0 ≤ I.p
  p1 : I.p ≤ 16
  len : (I.l.length : Int) = 2 * I.p + 1
  room : 1 ≤ I.r ∧ I.r ≤ 1000
  ok : ∀ i : Int, 0 ≤ i → i ≤ 2 * I.p → stopOk (stp I i) = true
  yard : (stp I 0).d = 0 ∧ (stp I 0).s = 0
  take : ∀ i : Int, 1 ≤ i → i ≤ I.p → 1 ≤ (stp I i).d ∧ (stp I i).d ≤ 1000
  bring : ∀ i : Int, I.p < i → i ≤ 2 * I.p → (stp I i).d = -(stp I (i - I.p)).d
theorem fine_of {I : Ins} (h : mayB I = true) : Fine I := by
  obtain ⟨h1, h2, h3, h4, h5⟩ := (may_iff I).1 h
  have hp := (inb_iff _ _ _).1 h1
  have hr := (inb_iff _ _ _).1 h3
  have hl : (I.l.length : Int) = 2 * I.p + 1 := by unfold lenOk at h4; exact decide_eq_true_iff.1 h4
  refine ⟨hp.1, hp.2, hl, hr, fun i h0 hi => (h5 i.toNat (by omega)).1, (h5 0 (by omega)).2.1 rfl, fun i h0 hi => (inb_iff _ _ _).1 ((h5 i.toNat (by omega)).2.2.1 (by omega) (by omega)), fun i h0 hi => ?_⟩
  have := (h5 i.toNat (by omega)).2.2.2 (by omega)
  unfold stp
  rw [this, show (i - I.p).toNat = i.toNat - I.p.toNat by omega]
/-- What of a pair the car holds. -/
def termI (I : Ins) (l : List Int) (j : Nat) : Int := if ((j : Int) + 1 ∈ l ∧ (j : Int) + 1 + I.p ∉ l) then (stp I ((j : Int) + 1)).d else 0
theorem held_sum {I : Ins} (hf : Fine I) : ∀ (l : List Int) (s : TS), goE I l = .ok s → heldL I l = sumN (termI I l) I.p.toNat :=
  goE_ind (by rw [heldL_nil, sumN_zero]; intro j _; simp [termI]) (fun l i s s' hg hp h => by
    obtain ⟨hw, _, _⟩ := stepE_ok h
    rw [(goE_seen l s hg).1] at hw
    have hgd := goE_good l s hg
    obtain ⟨h1, h2, h3, h4, _⟩ := wrongE_zero hw
    have hp0 := hf.p0
    rw [heldL_snoc, hp]
    by_cases c : i ≤ I.p
    · have e : ((i.toNat - 1 : Nat) : Int) + 1 = i := by omega
      have hno : i + I.p ∉ l := fun hm => h3 (by have := hgd.clos _ hm (by omega); rwa [show i + I.p - I.p = i by omega] at this)
      rw [sumN_change (f := termI I l) (g := termI I (l ++ [i])) (k := i.toNat - 1) (by omega) (fun j hj hn => ?_)]
      · have a1 : termI I l (i.toNat - 1) = 0 := by unfold termI; rw [if_neg]; rw [e]; exact fun h => h3 h.1
        have a2 : termI I (l ++ [i]) (i.toNat - 1) = (stp I i).d := by
          unfold termI
          rw [e, if_pos]
          refine ⟨by simp, ?_⟩
          simp only [List.mem_append, List.mem_singleton]
          rintro (hm | hm)
          · exact hno hm
          · omega
        omega
      · unfold termI
        have b1 : ((j : Int) + 1 ∈ l ++ [i]) = ((j : Int) + 1 ∈ l) := by
          simp only [List.mem_append, List.mem_singleton, eq_iff_iff]
          exact ⟨fun h => h.elim id (fun e => by omega), .inl⟩
        have b2 : ((j : Int) + 1 + I.p ∈ l ++ [i]) = ((j : Int) + 1 + I.p ∈ l) := by
          simp only [List.mem_append, List.mem_singleton, eq_iff_iff]
          exact ⟨fun h => h.elim id (fun e => by omega), .inl⟩
        simp only [b1, b2]
    · have hm := h4 (by omega)
      have e : (((i - I.p).toNat - 1 : Nat) : Int) + 1 = i - I.p := by have := hgd.rng _ hm; omega
      rw [sumN_change (f := termI I l) (g := termI I (l ++ [i])) (k := (i - I.p).toNat - 1) (by have := hgd.rng _ hm; omega) (fun j hj hn => ?_)]
      · have a1 : termI I l ((i - I.p).toNat - 1) = (stp I (i - I.p)).d := by
          unfold termI
          rw [e, if_pos]
          exact ⟨hm, by rw [show i - I.p + I.p = i by omega]; exact h3⟩
        have a2 : termI I (l ++ [i]) ((i - I.p).toNat - 1) = 0 := by
          unfold termI
          rw [e, if_neg]
          rintro ⟨_, hx⟩
          exact hx (by rw [show i - I.p + I.p = i by omega]; simp)
        have := hf.bring i (by omega) h2
        omega
      · unfold termI
        have hr := hgd.rng _ hm
        have b1 : ((j : Int) + 1 ∈ l ++ [i]) = ((j : Int) + 1 ∈ l) := by
          simp only [List.mem_append, List.mem_singleton, eq_iff_iff]
          exact ⟨fun h => h.elim id (fun e => by omega), .inl⟩
        have b2 : ((j : Int) + 1 + I.p ∈ l ++ [i]) = ((j : Int) + 1 + I.p ∈ l) := by
          simp only [List.mem_append, List.mem_singleton, eq_iff_iff]
          exact ⟨fun h => h.elim id (fun e => by omega), .inl⟩
        simp only [b1, b2])
theorem term_nonneg {I : Ins} (hf : Fine I) (l : List Int) (j : Nat) (hj : j < I.p.toNat) : 0 ≤ termI I l j := by
  unfold termI
  split
  · have := hf.take ((j : Int) + 1) (by omega) (by omega); omega
  · exact Int.le_refl _
theorem held_nonneg {I : Ins} (hf : Fine I) {l : List Int} {s : TS} (h : goE I l = .ok s) : 0 ≤ heldL I l := by
  rw [held_sum hf l s h]; exact sumN_nonneg (fun j hj => term_nonneg hf l j hj)
theorem held_ge {I : Ins} (hf : Fine I) {l : List Int} {s : TS} (h : goE I l = .ok s) {i : Int} (h1 : i ∈ l) (h2 : i ≤ I.p) (h3 : i + I.p ∉ l) : (stp I i).d ≤ heldL I l := by
  have hr := (goE_good l s h).rng i h1
  rw [held_sum hf l s h]
  have := sumN_ge (f := termI I l) (k := i.toNat - 1) (n := I.p.toNat) (by omega) (fun j hj => term_nonneg hf l j hj)
  have e : ((i.toNat - 1 : Nat) : Int) + 1 = i := by omega
  have a : termI I l (i.toNat - 1) = (stp I i).d := by unfold termI; rw [e, if_pos ⟨h1, h3⟩]
  omega
theorem endE_zero {I : Ins} {l : List Int} (h : endE I l = 0) : ∀ i, i ∈ l → i ≤ I.p → i + I.p ∈ l := by
  intro i hi hp
  unfold endE at h
  split at h
  · cases h
  · next hn => exact Decidable.byContradiction (fun hc => hn ⟨i, hi, hp, hc⟩)
theorem endE_of {I : Ins} {l : List Int} (h : ∀ i, i ∈ l → i ≤ I.p → i + I.p ∈ l) : endE I l = 0 := by
  unfold endE
  rw [if_neg]
  rintro ⟨i, h1, h2, h3⟩
  exact h3 (h i h1 h2)
theorem held_end {I : Ins} (hf : Fine I) {l : List Int} {s : TS} (h : goE I l = .ok s) (he : endE I l = 0) : heldL I l = 0 := by
  rw [held_sum hf l s h]
  refine sumN_zero (fun j hj => ?_)
  unfold termI
  rw [if_neg]
  rintro ⟨h1, h2⟩
  exact h2 (endE_zero he _ h1 (by omega))
end Go.Proofs.Ytolaiccgbngomaa
