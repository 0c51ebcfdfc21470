/- What it costs at least to go on: plain mathematics. -/
import Derived.Test.YtofapalakpkkpaaXR1
import Derived.Test.YtofapalakpkkpaaPNearM
namespace Go.Proofs.Ytofapalakpkkpaa

def nearI (I : Ins) : List Int := nearM (matI I)
/-- What is left to be entered, up to stop k. -/
def leftN (I : Ins) (m : Nat) (k : Nat) : Int := sumN (fun i => if has m ((i : Int) + 1) then 0 else (nearI I).getD (i + 1) 0) k
/-- What it costs at least to go on: 0 without pairs. -/
def boundS (I : Ins) (s : Sta) : Int := if (nearI I).length < 2 then 0 else (nearI I).getD 0 0 + leftN I s.may ((nearI I).length - 1)
theorem near_len {I : Ins} : (nearI I).length = if mayB I = true then I.l.length else 0 := by
  unfold nearI matI nearM
  rw [nearK_len]
  split
  · exact matF_len _
  · rfl
theorem near_le {I : Ins} (hm : mayB I = true) {i j : Nat} (hi : i < I.l.length) (hj : j < I.l.length) (h : j ≠ i) : (nearI I).getD j 0 ≤ farF (nth I.l i) (nth I.l j) := by
  have h1 := (mat_of I.l).less j i hj hi h
  rw [mat_at _ _ _ hi hj] at h1
  unfold nearI matI
  rw [if_pos hm]
  exact h1
theorem near_pos (I : Ins) (j : Nat) : 0 ≤ (nearI I).getD j 0 := by
  by_cases hm : mayB I = true
  · by_cases hj : j < I.l.length
    · unfold nearI matI
      rw [if_pos hm]
      have hM := mat_of I.l
      by_cases h1 : I.l.length = 1
      · obtain rfl : j = 0 := by omega
        rw [hM.one h1]; exact Int.le_refl _
      · obtain ⟨q, hq, _, he⟩ := hM.some j hj h1
        rw [← he, mat_at _ _ _ hq hj]
        exact (farF_bd _ _).1
    · rw [List.getD_eq_getElem?_getD, List.getElem?_eq_none (by rw [near_len, if_pos hm]; omega)]
      exact Int.le_refl _
  · rw [List.getD_eq_getElem?_getD, List.getElem?_eq_none (by rw [near_len, if_neg hm]; exact Nat.zero_le _)]
    exact Int.le_refl _
theorem near_hi (I : Ins) (j : Nat) : (nearI I).getD j 0 ≤ 14143 := by
  by_cases hm : mayB I = true
  · by_cases hj : j < I.l.length
    · unfold nearI matI
      rw [if_pos hm]
      have hM := mat_of I.l
      by_cases h1 : I.l.length = 1
      · obtain rfl : j = 0 := by omega
        rw [hM.one h1]; omega
      · obtain ⟨q, hq, _, he⟩ := hM.some j hj h1
        rw [← he, mat_at _ _ _ hq hj]
        exact (farF_bd _ _).2
    · rw [List.getD_eq_getElem?_getD, List.getElem?_eq_none (by rw [near_len, if_pos hm]; omega)]
      simp
  · rw [List.getD_eq_getElem?_getD, List.getElem?_eq_none (by rw [near_len, if_neg hm]; exact Nat.zero_le _)]
    simp
theorem left_term (I : Ins) (m : Nat) (i : Nat) : 0 ≤ (if has m ((i : Int) + 1) then 0 else (nearI I).getD (i + 1) 0 : Int) := by
  split
  · exact Int.le_refl _
  · exact near_pos I _
theorem left_pos (I : Ins) (m k : Nat) : 0 ≤ leftN I m k := sumN_nonneg (fun i _ => left_term I m i)
theorem bound_pos (I : Ins) (s : Sta) : 0 ≤ boundS I s := by
  unfold boundS
  split
  · exact Int.le_refl _
  · have := near_pos I 0
    have := left_pos I s.may ((nearI I).length - 1)
    omega
theorem left_hi (I : Ins) (m : Nat) : ∀ k, leftN I m k ≤ 14143 * (k : Int)
  | 0 => by simp [leftN, sumN]
  | k + 1 => by
    have ih := left_hi I m k
    have h := near_hi I (k + 1)
    unfold leftN at *
    rw [sumN]
    split <;> omega
theorem bound_hi (I : Ins) (s : Sta) : boundS I s ≤ 466719 := by
  unfold boundS
  split
  · omega
  · have h1 := near_hi I 0
    have h2 := left_hi I s.may ((nearI I).length - 1)
    have h3 : (nearI I).length ≤ 33 := by
      rw [near_len]
      split
      · next hm => exact (pmay_len hm).2
      · omega
    omega
theorem sumN_le {f g : Nat → Int} : ∀ {n : Nat}, (∀ j, j < n → f j ≤ g j) → sumN f n ≤ sumN g n
  | 0, _ => Int.le_refl _
  | n + 1, h => by
    rw [sumN, sumN]
    have := sumN_le (f := f) (g := g) (n := n) (fun j hj => h j (by omega))
    have := h n (by omega)
    omega
/-- The more was seen the less it is. -/
theorem bound_mono {I : Ins} {s t : Sta} (hs : s.may < 18446744073709551616) (h : within s.may t.may = true) : boundS I t ≤ boundS I s := by
  unfold boundS
  split
  · exact Int.le_refl _
  · have : leftN I t.may ((nearI I).length - 1) ≤ leftN I s.may ((nearI I).length - 1) := by
      refine sumN_le (fun i _ => ?_)
      by_cases h1 : has s.may ((i : Int) + 1) = true
      · rw [if_pos (within_has hs h h1), if_pos h1]; exact Int.le_refl _
      · rw [if_neg h1]
        split
        · exact near_pos I _
        · exact Int.le_refl _
    omega
/-- BoundCovers. -/
theorem bound_covers {I : Ins} {a b : Sta} (hb : Fits64 b) (h : Covers a b) : boundS I a ≤ boundS I b := bound_mono hb.may h.2.2.2.2.2.2.2
/-- One stop more that was seen: no more than the way there. -/
theorem left_one {I : Ins} {m k : Nat} {j : Int} (h1 : 1 ≤ j) (h2 : j ≤ 63) (hj : j.toNat ≤ k) : leftN I m k ≤ leftN I (m ||| bitN j) k + (nearI I).getD j.toNat 0 := by
  obtain ⟨i, rfl⟩ : ∃ i : Nat, j = (i : Int) + 1 := ⟨j.toNat - 1, by omega⟩
  have hi : i < k := by omega
  have e : ∀ q : Nat, q ≠ i → has (m ||| bitN ((i : Int) + 1)) ((q : Int) + 1) = has m ((q : Int) + 1) := fun q hq => by
    rw [has_or, has_bitN, decide_eq_false (show ¬ ((i : Int) + 1 = (q : Int) + 1) by omega)]
    simp
  have hs := sumN_change (f := fun q : Nat => if has m ((q : Int) + 1) then 0 else (nearI I).getD (q + 1) 0) (g := fun q : Nat => if has (m ||| bitN ((i : Int) + 1)) ((q : Int) + 1) then 0 else (nearI I).getD (q + 1) 0) (k := i) (n := k) hi (fun q _ hq => by
    rw [e q hq])
  have hg : has (m ||| bitN ((i : Int) + 1)) ((i : Int) + 1) = true := by
    rw [has_or, has_bitN, Bool.or_eq_true]
    right
    simp; omega
  rw [if_pos hg] at hs
  have hn := near_pos I (i + 1)
  have ht : (if has m ((i : Int) + 1) then 0 else (nearI I).getD (i + 1) 0) ≤ (nearI I).getD (i + 1) 0 := by
    split
    · exact hn
    · exact Int.le_refl _
  unfold leftN
  rw [show ((i : Int) + 1).toNat = i + 1 by omega]
  omega
/-- From a state whose stop is the yard, or was surely seen. -/
theorem bound_step {I : Ins} {s : Sta} {j : Int} (h : Can I s j) (hp : s.pos = 0 ∨ has s.must s.pos = true) : boundS I s ≤ farS1 I s j + boundS I (nextS I s j) := by
  have hm := h.1.1
  have hf := fine_of hm
  have hl := hf.len
  have hp0 := hf.p0
  have hp1 := hf.p1
  by_cases hj : j = 0
  · have e : (nextS I s j).may = s.may := by unfold nextS; rw [if_pos hj]; rfl
    have : boundS I (nextS I s j) = boundS I s := by unfold boundS; rw [e]
    have := (farF_bd (stp I s.pos) (stp I j)).1
    unfold farS1
    omega
  · obtain ⟨hc, h1, h2⟩ := can_pos h hj
    have hmust : has s.must j = false := by rcases hc with hc | hc; exact hc.2.1; exact hc.2.2.1
    have hne : s.pos ≠ j := by
      rcases hp with hp | hp
      · omega
      · intro e; rw [e] at hp; rw [hp] at hmust; cases hmust
    have hpr := h.1.2.1
    have hn := near_le hm (i := s.pos.toNat) (j := j.toNat) (by omega) (by omega) (by omega)
    have e : (nextS I s j).may = s.may ||| bitN j := by unfold nextS; rw [if_neg hj]; rfl
    unfold boundS
    rw [e, near_len, if_pos hm]
    split
    · have := (farF_bd (stp I s.pos) (stp I j)).1
      unfold farS1; omega
    · have := left_one (I := I) (m := s.may) (k := I.l.length - 1) h1 (by omega) (by omega)
      unfold farS1 stp
      omega
/-- .. nor above what it costs to end. -/
theorem bound_end {I : Ins} {s : Sta} (h : EndS I s) : boundS I s ≤ endC I s := by
  have hE := h
  rcases h with ⟨hm, hp, _⟩ | ⟨hg, h1, _, h3, _⟩
  · have hl := (fine_of hm).len
    have : boundS I s = 0 := by unfold boundS; rw [near_len, if_pos hm, if_pos (by omega)]
    rw [this]; exact endC_pos I s
  · have hm := hg.1
    have hf := fine_of hm
    have hl := hf.len
    have hpr := hg.2.1
    have hn := near_le hm (i := s.pos.toNat) (j := 0) (by omega) (by omega) (by omega)
    have hz : leftN I s.may (I.l.length - 1) = 0 := by
      refine sumN_zero (fun i hi => ?_)
      rw [if_pos ((within_all hm).1 h3 ((i : Int) + 1) (by omega) (by omega))]
    rw [endC_is hE]
    unfold boundS
    rw [near_len, if_pos hm, hz]
    split
    · exact (farF_bd _ _).1
    · unfold farS1 stp
      show (nearI I).getD 0 0 + 0 ≤ farF (nth I.l s.pos.toNat) (nth I.l 0)
      omega
/-- Behind moves that can be followed the stop is the yard, or was seen. -/
theorem next_at {I : Ins} {s : Sta} {j : Int} (h : Can I s j) : (nextS I s j).pos = 0 ∨ has (nextS I s j).must (nextS I s j).pos = true := by
  unfold nextS
  by_cases hj : j = 0
  · rw [if_pos hj]; exact .inl rfl
  · rw [if_neg hj]
    obtain ⟨_, h1, h2⟩ := can_pos h hj
    have := (fine_of h.1.1).p1
    right
    show has (s.must ||| bitN j) j = true
    rw [has_or, has_bitN, Bool.or_eq_true]
    right
    simp; omega
theorem follow_at {I : Ins} (hm : mayB I = true) {t : List Int} {s : Sta} {c : Int} (h : followS I t = some (s, c)) : s.pos = 0 ∨ has s.must s.pos = true := by
  rcases List.eq_nil_or_concat t with rfl | ⟨a, j, rfl⟩
  · rw [follow_nil] at h
    simp only [Option.some.injEq, Prod.mk.injEq] at h
    rw [← h.1, root_may hm]; exact .inl rfl
  · rw [List.concat_eq_append] at h
    obtain ⟨s0, c0, _, h2, rfl, _⟩ := follow_step h
    exact next_at h2
/-- Whatever follows costs no less. -/
theorem bound_ways {I : Ins} (hm : mayB I = true) (u : List Int) : ∀ t s c s' c', followS I t = some (s, c) → followS I (t ++ u) = some (s', c') → c + boundS I s ≤ c' + boundS I s' := by
  refine snoc_ind (P := fun u => ∀ t s c s' c', followS I t = some (s, c) → followS I (t ++ u) = some (s', c') → c + boundS I s ≤ c' + boundS I s') ?_ ?_ u
  · intro t s c s' c' h1 h2
    rw [List.append_nil, h1] at h2
    simp only [Option.some.injEq, Prod.mk.injEq] at h2
    obtain ⟨rfl, rfl⟩ := h2
    exact Int.le_refl _
  · intro u j ih t s c s' c' h1 h2
    rw [← List.append_assoc] at h2
    obtain ⟨s0, c0, h3, h4, rfl, rfl⟩ := follow_step h2
    have := ih t s c s0 c0 h1 h3
    have := bound_step h4 (follow_at hm h3)
    omega
theorem bound_all {I : Ins} (hm : mayB I = true) {t : List Int} {s : Sta} {c : Int} (h : followS I t = some (s, c)) (he : EndS I s) (k : Nat) : ∃ s1 c1, followS I (t.take k) = some (s1, c1) ∧ c1 + boundS I s1 ≤ c + endC I s := by
  cases h1 : followS I (t.take k) with
  | none => have := follow_none h1 (t.drop k); rw [List.take_append_drop, h] at this; cases this
  | some x =>
    obtain ⟨s1, c1⟩ := x
    refine ⟨s1, c1, rfl, ?_⟩
    have := bound_ways hm (t.drop k) _ _ _ s c h1 (by rw [List.take_append_drop]; exact h)
    have := bound_end he
    omega
end Go.Proofs.Ytofapalakpkkpaa
