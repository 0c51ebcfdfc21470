/- How the way of a car, as the program goes it, is the document's: bounds, what is wrong with a stop, what is wrong with the yard. -/
import Derived.Test.YtolaiccgbngomaaTWrong
namespace Go.Proofs.Ytolaiccgbngomaa

theorem nodup_le : ∀ (m : Nat) (l : List Int), l.Nodup → (∀ i, i ∈ l → 1 ≤ i ∧ i ≤ (m : Int)) → l.length ≤ m
  | 0, l, _, h => by
    match l with
    | [] => simp
    | i :: _ => have := h i (by simp); omega
  | m + 1, l, hn, h => by
    have h1 : (l.erase ((m : Int) + 1)).length ≤ m := nodup_le m _ (hn.erase _) (fun i hi => by
      have h2 := (hn.mem_erase_iff).1 hi
      have := h i h2.2
      have := h2.1
      omega)
    by_cases c : (m : Int) + 1 ∈ l
    · rw [List.length_erase_of_mem c] at h1; omega
    · rw [List.erase_of_not_mem c] at h1; omega
theorem goE_len {I : Ins} (hf : Fine I) {l : List Int} {s : TS} (h : goE I l = .ok s) : l.length ≤ 32 := by
  have hg := goE_good l s h
  have := nodup_le (2 * I.p).toNat l hg.nodup (fun i hi => by have := hg.rng i hi; have := hf.p0; omega)
  have := hf.p1
  omega
/-- The bounds of what a car is at. -/
theorem goE_bds {I : Ins} (hf : Fine I) : ∀ (l : List Int) (s : TS), goE I l = .ok s → (0 ≤ s.now ∧ s.now ≤ 1049576) ∧ (0 ≤ s.far ∧ s.far ≤ 14143 * (l.length : Int)) ∧ (0 ≤ heldL I l ∧ heldL I l ≤ 1000) ∧ ∃ a : Nat, a < I.l.length ∧ atS l = (a : Int) ∧ s.last = stp I a :=
  goE_ind (by
    have h0 := stop_in (hf.ok 0 (Int.le_refl _) (by have := hf.p0; omega))
    have hl := hf.len
    have hp := hf.p0
    refine ⟨?_, by simp [startT], by rw [heldL_nil]; omega, 0, by omega, rfl, rfl⟩
    show 0 ≤ (stp I 0).r ∧ (stp I 0).r ≤ 1049576
    omega) (fun l i s s' hg hp h => by
    obtain ⟨_, ⟨f0, f1⟩, ⟨h0, _⟩, _⟩ := hp
    have hgo : goE I (l ++ [i]) = .ok s' := by rw [goE_snoc, hg]; exact h
    obtain ⟨hw, hb, rfl⟩ := stepE_ok h
    rw [(goE_seen l s hg).1] at hw
    obtain ⟨w1, w2, w3, w4, w5⟩ := wrongE_zero hw
    obtain ⟨_, _, k0, k1, k2⟩ := stop_in (hf.ok i (by omega) w2)
    have hfb := farF_bd s.last (stp I i)
    have hl := hf.len
    have hr := hf.room
    have hh := held_nonneg hf hgo
    have hb2 : (stp I i).r ≤ (tmAt s (stp I i)).begn := Int.le_max_right _ _
    refine ⟨?_, ?_, ⟨hh, by rw [heldL_snoc]; omega⟩, i.toNat, by omega, by rw [atS_snoc]; omega, ?_⟩
    · show 0 ≤ (tmAt s (stp I i)).begn + (stp I i).s ∧ (tmAt s (stp I i)).begn + (stp I i).s ≤ 1049576
      omega
    · show 0 ≤ s.far + farF s.last (stp I i) ∧ s.far + farF s.last (stp I i) ≤ 14143 * ((l ++ [i]).length : Int)
      rw [List.length_append, List.length_singleton]
      omega
    · show stp I i = stp I _
      rw [show ((i.toNat : Nat) : Int) = i by omega])
theorem step_next {I : Ins} {s : TS} {i : Int} : stepE I s i = if nextE I s.seen s.now s.last i ≠ 0 then .error (nextE I s.seen s.now s.last i) else .ok (nextT s i (stp I i)) := by
  unfold stepE nextE
  rw [tmAt_eq]
  by_cases h1 : wrongE I s.seen i = 0 <;> by_cases h2 : (stp I i).u < (tmN s.now s.last (stp I i)).begn <;> simp [h1, h2]
theorem end_held {I : Ins} (hf : Fine I) {l : List Int} {s : TS} (h : goE I l = .ok s) : endE I l = 0 ↔ ¬ 0 < heldL I l := by
  constructor
  · intro he; rw [held_end hf h he]; omega
  · intro hn
    refine endE_of (fun i hi hp => Decidable.byContradiction (fun hc => ?_))
    have h1 := held_ge hf h hi hp hc
    have h2 := (goE_good l s h).rng i hi
    have h3 := hf.take i h2.1 hp
    omega
/-- The whole way, as the program goes it. -/
theorem fin_back {I : Ins} (hf : Fine I) {l : List Int} {s : TS} (h : goE I l = .ok s) : finE I l = if backE (heldL I l) I s.now s.last ≠ 0 then .error (backE (heldL I l) I s.now s.last) else .ok s := by
  unfold finE backE
  rw [h]
  simp only [Except.bind]
  by_cases h1 : 0 < heldL I l
  · have : endE I l ≠ 0 := fun e => ((end_held hf h).1 e) h1
    rw [if_pos this, if_pos h1]; rfl
  · have : endE I l = 0 := (end_held hf h).2 h1
    rw [if_neg (by omega), if_neg h1]
    unfold backT
    by_cases h2 : (nth I.l 0).u < s.now + farF s.last (nth I.l 0)
    · rw [if_pos h2, if_pos h2]; rfl
    · rw [if_neg h2, if_neg h2]; rfl
section
variable {I : Ins} {l : List Int} {e : Int} {s : TS}
theorem err_of (h : timesE I l = .error e) : errT I l = e ∧ outT I l = [] ∧ farT I l = 0 ∧ loadsT I l = [] := by
  have he := timesE_err h
  have h1 : errT I l = e := by unfold errT; rw [h]
  exact ⟨h1, by unfold outT; rw [h], by unfold farT; rw [h], by unfold loadsT; rw [if_neg (by omega)]⟩
theorem ok_of (h : timesE I l = .ok s) : errT I l = 0 ∧ outT I l = s.out ∧ farT I l = s.far + farF s.last (nth I.l 0) ∧ loadsT I l = loadsL I l := by
  exact ⟨by unfold errT; rw [h], by unfold outT; rw [h], by unfold farT; rw [h], loadsT_at h⟩
theorem times_go_err (hm : mayB I = true) {k : Nat} (h : goE I (l.take k) = .error e) : timesE I l = .error e := by
  unfold timesE finE
  rw [if_pos hm]
  have := goE_stays (b := l.drop k) h
  rw [List.take_append_drop] at this
  rw [this]; rfl
end
theorem go_take_next {I : Ins} {l : List Int} {k : Nat} {s : TS} (hk : k < l.length) (h : goE I (l.take k) = .ok s) : goE I (l.take (k + 1)) = stepE I s (l.getD k 0) := by
  rw [take_snoc hk, goE_snoc, h]; rfl
end Go.Proofs.Ytolaiccgbngomaa
