/- What it costs at least to go on: plain mathematics. -/
import Derived.Test.YtgplajofemencaaGreatYG
import Derived.Test.YtgplajofemencaaGreatYH
import Derived.RowKit
namespace Go.Proofs.YtgplajofemencaaGreat

def nearI (I : Ins) : List Int := nearM (matI I)
/-- What is left to be entered, up to stop k. -/
def leftN (I : Ins) (m : Nat) (k : Nat) : Int := sumN (fun i => if has m ((i : Int) + 1) then 0 else (nearI I).getD (i + 1) 0) k
/-- What it costs at least to go on: 0 without pairs. -/
def boundS (I : Ins) (s : Sta) : Int := if (nearI I).length < 2 then 0 else (nearI I).getD 0 0 + leftN I s.may ((nearI I).length - 1)
theorem near_len {I : Ins} : (nearI I).length = if mayB I = true then I.l.length else 0 := by
  unfold nearI matI nearM
  rw [nearK_len]
  split
  · exact matF_len _
  · rfl
theorem near_le {I : Ins} (hm : mayB I = true) {i j : Nat} (hi : i < I.l.length) (hj : j < I.l.length) (h : j ≠ i) : (nearI I).getD j 0 ≤ farF (nth I.l i) (nth I.l j) := by
  have h1 := (mat_of I.l).less j i hj hi h
  rw [mat_at _ _ _ hi hj] at h1
  unfold nearI matI
  rw [if_pos hm]
  exact h1
theorem near_pos (I : Ins) (j : Nat) : 0 ≤ (nearI I).getD j 0 := by
  by_cases hm : mayB I = true
  · by_cases hj : j < I.l.length
    · unfold nearI matI
      rw [if_pos hm]
      have hM := mat_of I.l
      by_cases h1 : I.l.length = 1
      · obtain rfl : j = 0 := by omega
        rw [hM.one h1]; exact Int.le_refl _
      · obtain ⟨q, hq, _, he⟩ := hM.some j hj h1
        rw [← he, mat_at _ _ _ hq hj]
        exact (farF_bd _ _).1
    · rw [List.getD_eq_getElem?_getD, List.getElem?_eq_none (by rw [near_len, if_pos hm]; omega)]
      exact Int.le_refl _
  · rw [List.getD_eq_getElem?_getD, List.getElem?_eq_none (by rw [near_len, if_neg hm]; exact Nat.zero_le _)]
    exact Int.le_refl _
theorem near_hi (I : Ins) (j : Nat) : (nearI I).getD j 0 ≤ 14143 := by
  by_cases hm : mayB I = true
  · by_cases hj : j < I.l.length
    · unfold nearI matI
      rw [if_pos hm]
      have hM := mat_of I.l
      by_cases h1 : I.l.length = 1
      · obtain rfl : j = 0 := by omega
        rw [hM.one h1]; omega
      · obtain ⟨q, hq, _, he⟩ := hM.some j hj h1
        rw [← he, mat_at _ _ _ hq hj]
        exact (farF_bd _ _).2
    · rw [List.getD_eq_getElem?_getD, List.getElem?_eq_none (by rw [near_len, if_pos hm]; omega)]
      simp
  · rw [List.getD_eq_getElem?_getD, List.getElem?_eq_none (by rw [near_len, if_neg hm]; exact Nat.zero_le _)]
    simp
theorem left_term (I : Ins) (m : Nat) (i : Nat) : 0 ≤ (if has m ((i : Int) + 1) then 0 else (nearI I).getD (i + 1) 0 : Int) := by
  split
  · exact Int.le_refl _
  · exact near_pos I _
theorem left_pos (I : Ins) (m k : Nat) : 0 ≤ leftN I m k := sumN_nonneg (fun i _ => left_term I m i)
theorem bound_pos (I : Ins) (s : Sta) : 0 ≤ boundS I s := by
  unfold boundS
  split
  · exact Int.le_refl _
  · have := near_pos I 0
    have := left_pos I s.may ((nearI I).length - 1)
    omega
theorem left_hi (I : Ins) (m : Nat) : ∀ k, leftN I m k ≤ 14143 * (k : Int)
  | 0 => by simp [leftN, sumN]
  | k + 1 => by
    have ih := left_hi I m k
    have h := near_hi I (k + 1)
    unfold leftN at *
    rw [sumN]
    split <;> omega
theorem bound_hi (I : Ins) (s : Sta) : boundS I s ≤ 466719 := by
  unfold boundS
  split
  · omega
  · have h1 := near_hi I 0
    have h2 := left_hi I s.may ((nearI I).length - 1)
    have h3 : (nearI I).length ≤ 33 := by
      rw [near_len]
      split
      · next hm => exact (pmay_len hm).2
      · omega
    omega
theorem sumN_le {f g : Nat → Int} : ∀ {n : Nat}, (∀ j, j < n → f j ≤ g j) → sumN f n ≤ sumN g n
  | 0, _ => Int.le_refl _
  | n + 1, h => by
    rw [sumN, sumN]
    have := sumN_le (f := f) (g := g) (n := n) (fun j hj => h j (by omega))
    have := h n (by omega)
    omega
/-- The more was seen the less it is. -/
theorem bound_mono {I : Ins} {s t : Sta} (hs : s.may < 18446744073709551616) (h : within s.may t.may = true) : boundS I t ≤ boundS I s := by
  unfold boundS
  split
  · exact Int.le_refl _
  · have : leftN I t.may ((nearI I).length - 1) ≤ leftN I s.may ((nearI I).length - 1) := by
      refine sumN_le (fun i _ => ?_)
      by_cases h1 : has s.may ((i : Int) + 1) = true
      · rw [if_pos (within_has hs h h1), if_pos h1]; exact Int.le_refl _
      · rw [if_neg h1]
        split
        · exact near_pos I _
        · exact Int.le_refl _
    omega
/-- BoundCovers. -/
theorem bound_covers {I : Ins} {a b : Sta} (hb : Fits64 b) (h : Covers a b) : boundS I a ≤ boundS I b := bound_mono hb.may h.2.2.2.2.2.2.2
/-- One stop more that was seen: no more than the way there. -/
theorem left_one {I : Ins} {m k : Nat} {j : Int} (h1 : 1 ≤ j) (h2 : j ≤ 63) (hj : j.toNat ≤ k) : leftN I m k ≤ leftN I (m ||| bitN j) k + (nearI I).getD j.toNat 0 := by
  obtain ⟨i, rfl⟩ : ∃ i : Nat, j = (i : Int) + 1 := ⟨j.toNat - 1, by omega⟩
  have hi : i < k := by omega
  have e : ∀ q : Nat, q ≠ i → has (m ||| bitN ((i : Int) + 1)) ((q : Int) + 1) = has m ((q : Int) + 1) := fun q hq => by
    rw [has_or, has_bitN, decide_eq_false (show ¬ ((i : Int) + 1 = (q : Int) + 1) by omega)]
    simp
  have hs := sumN_change (f := fun q : Nat => if has m ((q : Int) + 1) then 0 else (nearI I).getD (q + 1) 0) (g := fun q : Nat => if has (m ||| bitN ((i : Int) + 1)) ((q : Int) + 1) then 0 else (nearI I).getD (q + 1) 0) (k := i) (n := k) hi (fun q _ hq => by
    rw [e q hq])
  have hg : has (m ||| bitN ((i : Int) + 1)) ((i : Int) + 1) = true := by
    rw [has_or, has_bitN, Bool.or_eq_true]
    right
    simp; omega
  rw [if_pos hg] at hs
  have hn := near_pos I (i + 1)
  have ht : (if has m ((i : Int) + 1) then 0 else (nearI I).getD (i + 1) 0) ≤ (nearI I).getD (i + 1) 0 := by
    split
    · exact hn
    · exact Int.le_refl _
  unfold leftN
  rw [show ((i : Int) + 1).toNat = i + 1 by omega]
  omega
/-- From a state whose stop is the yard, or was surely seen. -/
theorem bound_step {I : Ins} {s : Sta} {j : Int} (h : Can I s j) (hp : s.pos = 0 ∨ has s.must s.pos = true) : boundS I s ≤ farS1 I s j + boundS I (nextS I s j) := by
  have hm := h.1.1
  have hf := fine_of hm
  have hl := hf.len
  have hp0 := hf.p0
  have hp1 := hf.p1
  by_cases hj : j = 0
  · have e : (nextS I s j).may = s.may := by unfold nextS; rw [if_pos hj]; rfl
    have : boundS I (nextS I s j) = boundS I s := by unfold boundS; rw [e]
    have := (farF_bd (stp I s.pos) (stp I j)).1
    unfold farS1
    omega
  · obtain ⟨hc, h1, h2⟩ := can_pos h hj
    have hmust : has s.must j = false := by rcases hc with hc | hc; exact hc.2.1; exact hc.2.2.1
    have hne : s.pos ≠ j := by
      rcases hp with hp | hp
      · omega
      · intro e; rw [e] at hp; rw [hp] at hmust; cases hmust
    have hpr := h.1.2.1
    have hn := near_le hm (i := s.pos.toNat) (j := j.toNat) (by omega) (by omega) (by omega)
    have e : (nextS I s j).may = s.may ||| bitN j := by unfold nextS; rw [if_neg hj]; rfl
    unfold boundS
    rw [e, near_len, if_pos hm]
    split
    · have := (farF_bd (stp I s.pos) (stp I j)).1
      unfold farS1; omega
    · have := left_one (I := I) (m := s.may) (k := I.l.length - 1) h1 (by omega) (by omega)
      unfold farS1 stp
      omega
/-- .. nor above what it costs to end. -/
theorem bound_end {I : Ins} {s : Sta} (h : EndS I s) : boundS I s ≤ endC I s := by
  have hE := h
  rcases h with ⟨hm, hp, _⟩ | ⟨hg, h1, _, h3, _⟩
  · have hl := (fine_of hm).len
    have : boundS I s = 0 := by unfold boundS; rw [near_len, if_pos hm, if_pos (by omega)]
    rw [this]; exact endC_pos I s
  · have hm := hg.1
    have hf := fine_of hm
    have hl := hf.len
    have hpr := hg.2.1
    have hn := near_le hm (i := s.pos.toNat) (j := 0) (by omega) (by omega) (by omega)
    have hz : leftN I s.may (I.l.length - 1) = 0 := by
      refine sumN_zero (fun i hi => ?_)
      rw [if_pos ((within_all hm).1 h3 ((i : Int) + 1) (by omega) (by omega))]
    rw [endC_is hE]
    unfold boundS
    rw [near_len, if_pos hm, hz]
    split
    · exact (farF_bd _ _).1
    · unfold farS1 stp
      show (nearI I).getD 0 0 + 0 ≤ farF (nth I.l s.pos.toNat) (nth I.l 0)
      omega
/-- Behind moves that can be followed the stop is the yard, or was seen. -/
theorem next_at {I : Ins} {s : Sta} {j : Int} (h : Can I s j) : (nextS I s j).pos = 0 ∨ has (nextS I s j).must (nextS I s j).pos = true := by
  unfold nextS
  by_cases hj : j = 0
  · rw [if_pos hj]; exact .inl rfl
  · rw [if_neg hj]
    obtain ⟨_, h1, h2⟩ := can_pos h hj
    have := (fine_of h.1.1).p1
    right
    show has (s.must ||| bitN j) j = true
    rw [has_or, has_bitN, Bool.or_eq_true]
    right
    simp; omega
theorem follow_at {I : Ins} (hm : mayB I = true) {t : List Int} {s : Sta} {c : Int} (h : followS I t = some (s, c)) : s.pos = 0 ∨ has s.must s.pos = true := by
  rcases List.eq_nil_or_concat t with rfl | ⟨a, j, rfl⟩
  · rw [follow_nil] at h
    simp only [Option.some.injEq, Prod.mk.injEq] at h
    rw [← h.1, root_may hm]; exact .inl rfl
  · rw [List.concat_eq_append] at h
    obtain ⟨s0, c0, _, h2, rfl, _⟩ := follow_step h
    exact next_at h2
/-- Whatever follows costs no less. -/
theorem bound_ways {I : Ins} (hm : mayB I = true) (u : List Int) : ∀ t s c s' c', followS I t = some (s, c) → followS I (t ++ u) = some (s', c') → c + boundS I s ≤ c' + boundS I s' := by
  refine snoc_ind (P := fun u => ∀ t s c s' c', followS I t = some (s, c) → followS I (t ++ u) = some (s', c') → c + boundS I s ≤ c' + boundS I s') ?_ ?_ u
  · intro t s c s' c' h1 h2
    rw [List.append_nil, h1] at h2
    simp only [Option.some.injEq, Prod.mk.injEq] at h2
    obtain ⟨rfl, rfl⟩ := h2
    exact Int.le_refl _
  · intro u j ih t s c s' c' h1 h2
    rw [← List.append_assoc] at h2
    obtain ⟨s0, c0, h3, h4, rfl, rfl⟩ := follow_step h2
    have := ih t s c s0 c0 h1 h3
    have := bound_step h4 (follow_at hm h3)
    omega
theorem bound_all {I : Ins} (hm : mayB I = true) {t : List Int} {s : Sta} {c : Int} (h : followS I t = some (s, c)) (he : EndS I s) (k : Nat) : ∃ s1 c1, followS I (t.take k) = some (s1, c1) ∧ c1 + boundS I s1 ≤ c + endC I s := by
  cases h1 : followS I (t.take k) with
  | none => have := follow_none h1 (t.drop k); rw [List.take_append_drop, h] at this; cases this
  | some x =>
    obtain ⟨s1, c1⟩ := x
    refine ⟨s1, c1, rfl, ?_⟩
    have := bound_ways hm (t.drop k) _ _ _ s c h1 (by rw [List.take_append_drop]; exact h)
    have := bound_end he
    omega
end Go.Proofs.YtgplajofemencaaGreat
/- Looking at each way alone: plain mathematics. -/
namespace Go.Proofs.YtgplajofemencaaGreat

theorem mem_moves {I : Ins} {s : Sta} {j : Int} : j ∈ movesS I s ↔ Can I s j := by
  unfold movesS movesN
  simp only [List.mem_filter, List.mem_map, List.mem_range, decide_eq_true_eq]
  constructor
  · rintro ⟨_, h⟩; exact h
  · intro h
    have := can_rng h
    exact ⟨⟨j.toNat, by omega, by omega⟩, h⟩
theorem far_bd1 (I : Ins) (s : Sta) (j : Int) : 0 ≤ farS1 I s j ∧ farS1 I s j ≤ 14143 := farF_bd _ _
theorem endC_bd (I : Ins) (s : Sta) : 0 ≤ endC I s ∧ endC I s ≤ 14143 := by
  unfold endC
  split
  · exact far_bd1 I s 0
  · omega
end Go.Proofs.YtgplajofemencaaGreat
/- Nodes that leave others without use: plain mathematics. -/
namespace Go.Proofs.YtgplajofemencaaGreat

structure Nod where
  s : Sta
  cost : Int
  path : List Int
deriving DecidableEq
def Than (a b : Nod) : Prop := a.s.must = b.s.must ∧ a.s.may = b.s.may ∧ a.s.on = b.s.on ∧ Covers a.s b.s ∧ a.cost ≤ b.cost
instance (a b : Nod) : Decidable (Than a b) := by unfold Than; infer_instance
theorem than_refl {a : Nod} (h : Fits64 a.s) : Than a a := ⟨rfl, rfl, rfl, covers_refl h, Int.le_refl _⟩
theorem than_trans {a b c : Nod} (ha : Fits64 a.s) (hb : Fits64 b.s) (hc : Fits64 c.s) (h : Than a b) (k : Than b c) : Than a c :=
  ⟨h.1.trans k.1, h.2.1.trans k.2.1, h.2.2.1.trans k.2.2.1, covers_trans ha hb hc h.2.2.2.1 k.2.2.2.1, Int.le_trans h.2.2.2.2 k.2.2.2.2⟩
def nod0 : Nod := ⟨noughtS, 0, []⟩
def nodAt (l : List Nod) (i : Nat) : Nod := l.getD i nod0
theorem nodAt_mem {l : List Nod} {i : Nat} (h : i < l.length) : nodAt l i ∈ l := by
  unfold nodAt; rw [List.getD_eq_getElem?_getD, List.getElem?_eq_getElem h]; exact List.getElem_mem h
/-- Node i leaves node k without use. -/
def Beats (l : List Nod) (i k : Nat) : Prop := i ≠ k ∧ Than (nodAt l i) (nodAt l k) ∧ (i < k ∨ ¬ Than (nodAt l k) (nodAt l i))
instance (l : List Nod) (i k : Nat) : Decidable (Beats l i k) := by unfold Beats; infer_instance
def Stays (l : List Nod) (k : Nat) : Prop := ∀ i, i < l.length → ¬ Beats l i k
instance (l : List Nod) (k : Nat) : Decidable (Stays l k) := by unfold Stays; infer_instance
def frontN (l : List Nod) (n : Nat) : List Nod := ((List.range n).filter (fun k => decide (Stays l k))).map (nodAt l)
def frontL (l : List Nod) : List Nod := frontN l l.length
theorem frontN_succ (l : List Nod) (n : Nat) : frontN l (n + 1) = if Stays l n then frontN l n ++ [nodAt l n] else frontN l n := by
  unfold frontN
  rw [List.range_succ, List.filter_append, List.map_append]
  by_cases h : Stays l n
  · rw [if_pos h]; simp [h]
  · rw [if_neg h]; simp [h]
theorem front_len (l : List Nod) (n : Nat) : (frontN l n).length ≤ n := by
  unfold frontN
  rw [List.length_map]
  refine Nat.le_trans (List.length_filter_le _ _) ?_
  simp
theorem mem_front {l : List Nod} {x : Nod} : x ∈ frontL l ↔ ∃ k, k < l.length ∧ Stays l k ∧ nodAt l k = x := by
  unfold frontL frontN
  simp only [List.mem_map, List.mem_filter, List.mem_range, decide_eq_true_eq]
  constructor
  · rintro ⟨k, ⟨h1, h2⟩, h3⟩; exact ⟨k, h1, h2, h3⟩
  · rintro ⟨k, h1, h2, h3⟩; exact ⟨k, ⟨h1, h2⟩, h3⟩
theorem beats_trans {l : List Nod} (hl : ∀ x ∈ l, Fits64 x.s) {i j k : Nat} (hi : i < l.length) (hj : j < l.length) (hk : k < l.length) (h : Beats l i j) (g : Beats l j k) : Beats l i k := by
  have fi := hl _ (nodAt_mem hi)
  have fj := hl _ (nodAt_mem hj)
  have fk := hl _ (nodAt_mem hk)
  obtain ⟨h1, h2, h3⟩ := h
  obtain ⟨g1, g2, g3⟩ := g
  have ht := than_trans fi fj fk h2 g2
  refine ⟨fun e => ?_, ht, ?_⟩
  · subst e
    rcases h3 with h3 | h3
    · rcases g3 with g3 | g3
      · omega
      · exact g3 h2
    · exact h3 g2
  · rcases h3 with h3 | h3
    · rcases g3 with g3 | g3
      · exact .inl (by omega)
      · exact .inr (fun hc => g3 (than_trans fk fi fj hc h2))
    · exact .inr (fun hc => h3 (than_trans fj fk fi g2 hc))
/-- How many leave node k without use. -/
def beaters (l : List Nod) (k : Nat) : List Nat := (List.range l.length).filter (fun i => decide (Beats l i k))
theorem mem_beaters {l : List Nod} {k i : Nat} : i ∈ beaters l k ↔ i < l.length ∧ Beats l i k := by unfold beaters; simp
/-- Of each node one is left that leaves it without use, or is it. -/
theorem front_some {l : List Nod} (hl : ∀ x ∈ l, Fits64 x.s) : ∀ (n k : Nat), k < l.length → (beaters l k).length ≤ n → ∃ f ∈ frontL l, Than f (nodAt l k) := by
  intro n
  induction n with
  | zero =>
    intro k hk hn
    have he : beaters l k = [] := List.eq_nil_of_length_eq_zero (by omega)
    refine ⟨_, mem_front.2 ⟨k, hk, fun i hi hb => ?_, rfl⟩, than_refl (hl _ (nodAt_mem hk))⟩
    have := mem_beaters.2 ⟨hi, hb⟩
    rw [he] at this; cases this
  | succ n ih =>
    intro k hk hn
    by_cases hs : Stays l k
    · exact ⟨_, mem_front.2 ⟨k, hk, hs, rfl⟩, than_refl (hl _ (nodAt_mem hk))⟩
    · obtain ⟨j, hj, hb⟩ : ∃ j, j < l.length ∧ Beats l j k := Decidable.byContradiction (fun hc => hs (fun i hi hb => hc ⟨i, hi, hb⟩))
      have hlt : (beaters l j).length < (beaters l k).length := by
        have hsub : ∀ i ∈ beaters l j, i ∈ (beaters l k).erase j := fun i hi => by
          obtain ⟨h1, h2⟩ := mem_beaters.1 hi
          exact (List.mem_erase_of_ne h2.1).2 (mem_beaters.2 ⟨h1, beats_trans hl h1 hj hk h2 hb⟩)
        have hnd : (beaters l j).Nodup := List.Pairwise.filter _ List.nodup_range
        have hle : (beaters l j).length ≤ ((beaters l k).erase j).length := by
          have := sub_len (R := (beaters l j).map (fun i : Nat => (i : Int))) (D := ((beaters l k).erase j).map (fun i : Nat => (i : Int))) (List.Pairwise.map _ (fun a b h e => h (by omega)) hnd) (fun x hx => by
            obtain ⟨i, hi, rfl⟩ := List.mem_map.1 hx
            exact List.mem_map.2 ⟨i, hsub i hi, rfl⟩)
          simpa using this
        rw [List.length_erase_of_mem (mem_beaters.2 ⟨hj, hb⟩)] at hle
        have := List.length_pos_of_mem (mem_beaters.2 ⟨hj, hb⟩)
        omega
      obtain ⟨f, h1, h2⟩ := ih j hj (by omega)
      obtain ⟨q, hq, _, rfl⟩ := mem_front.1 h1
      exact ⟨_, h1, than_trans (hl _ (nodAt_mem hq)) (hl _ (nodAt_mem hj)) (hl _ (nodAt_mem hk)) h2 hb.2.1⟩
theorem front_all {l : List Nod} (hl : ∀ x ∈ l, Fits64 x.s) {k : Nat} (hk : k < l.length) : ∃ f ∈ frontL l, Than f (nodAt l k) := front_some hl _ k hk (Nat.le_refl _)
end Go.Proofs.YtgplajofemencaaGreat
/- Costs together: plain mathematics. -/
namespace Go.Proofs.YtgplajofemencaaGreat

/-- One cost as it counts, and costs together as long as there is no end to them. -/
def clamp (c : Int) : Int := min (max c 0) 1152921504606846976
def total : List Int → Int
  | [] => 0
  | c :: l => clamp c + total l
def sumOf (l : List Int) : Int := min (total l) 1152921504606846976
theorem clamp_bd (c : Int) : 0 ≤ clamp c ∧ clamp c ≤ 1152921504606846976 := by unfold clamp; omega
theorem total_nn (l : List Int) : 0 ≤ total l := by
  induction l with
  | nil => exact Int.le_refl _
  | cons c l ih => have := clamp_bd c; unfold total; omega
theorem total_app (l r : List Int) : total (l ++ r) = total l + total r := by
  induction l with
  | nil => simp [total]
  | cons c l ih => simp only [List.cons_append, total, ih]; omega
theorem sumOf_bd (l : List Int) : 0 ≤ sumOf l ∧ sumOf l ≤ 1152921504606846976 := by have := total_nn l; unfold sumOf; omega
theorem sumOf_snoc (l : List Int) (c : Int) : sumOf (l ++ [c]) = min (sumOf l + clamp c) 1152921504606846976 := by
  have := clamp_bd c
  have := total_nn l
  unfold sumOf
  rw [total_app]
  simp only [total]
  omega
theorem sum_two (a b : Int) : sumOf [a, b] = min (clamp a + clamp b) 1152921504606846976 := by unfold sumOf; simp [total]
theorem sum_add {a b : Int} (ha : 0 ≤ a) (hb : 0 ≤ b) (h : a + b ≤ 1152921504606846976) : sumOf [a, b] = a + b := by rw [sum_two]; unfold clamp; omega
theorem sum_le {a b : Int} (ha : 0 ≤ a) (hb : 0 ≤ b) : sumOf [a, b] ≤ a + b := by rw [sum_two]; unfold clamp; omega
theorem sum_nn (a b : Int) : 0 ≤ sumOf [a, b] := (sumOf_bd _).1
end Go.Proofs.YtgplajofemencaaGreat
/- Levels: nodes once of each state, sorted, and all moves of some nodes: plain mathematics. -/
namespace Go.Proofs.YtgplajofemencaaGreat

/-- What a node costs at least in the end. -/
def ofB (I : Ins) (n : Nod) : Int := sumOf [n.cost, boundS I n.s]

/-! ### Once of each state -/
def putOnce (x : Nod) : List Nod → List Nod
  | [] => [x]
  | y :: out => if y.s = x.s then (if x.cost < y.cost then x else y) :: out else y :: putOnce x out
def onceL (l : List Nod) : List Nod := l.foldl (fun out x => putOnce x out) []
theorem onceL_snoc (l : List Nod) (x : Nod) : onceL (l ++ [x]) = putOnce x (onceL l) := by unfold onceL; rw [List.foldl_append]; rfl
theorem snoc_indN {P : List Nod → Prop} (h0 : P []) (h1 : ∀ t x, P t → P (t ++ [x])) (t : List Nod) : P t := by
  have : ∀ r : List Nod, P r.reverse := by
    intro r
    induction r with
    | nil => exact h0
    | cons x r ih => rw [List.reverse_cons]; exact h1 _ x ih
  have h := this t.reverse
  rwa [List.reverse_reverse] at h
theorem put_mem {x : Nod} : ∀ {out : List Nod} {y : Nod}, y ∈ putOnce x out → y = x ∨ y ∈ out
  | [], y, h => by simp [putOnce] at h; exact .inl h
  | z :: out, y, h => by
    rw [putOnce] at h
    by_cases hz : z.s = x.s
    · rw [if_pos hz] at h
      rcases List.mem_cons.1 h with h | h
      · by_cases hc : x.cost < z.cost
        · rw [if_pos hc] at h; exact .inl h
        · rw [if_neg hc] at h; exact .inr (by rw [h]; simp)
      · exact .inr (by simp [h])
    · rw [if_neg hz] at h
      rcases List.mem_cons.1 h with h | h
      · exact .inr (by rw [h]; simp)
      · exact (put_mem h).imp id (fun h => by simp [h])
theorem put_apart {x : Nod} : ∀ {out : List Nod}, out.Pairwise (fun a b => a.s ≠ b.s) → (putOnce x out).Pairwise (fun a b => a.s ≠ b.s)
  | [], _ => by simp [putOnce]
  | z :: out, h => by
    have h' := List.pairwise_cons.1 h
    rw [putOnce]
    by_cases hz : z.s = x.s
    · rw [if_pos hz]
      refine List.pairwise_cons.2 ⟨fun b hb => ?_, h'.2⟩
      have e : (if x.cost < z.cost then x else z).s = z.s := by split; exact hz.symm; rfl
      rw [e]; exact h'.1 b hb
    · rw [if_neg hz]
      refine List.pairwise_cons.2 ⟨fun b hb => ?_, put_apart h'.2⟩
      rcases put_mem hb with hb | hb
      · rw [hb]; exact hz
      · exact h'.1 b hb
theorem put_keeps {x y : Nod} : ∀ {out : List Nod}, y ∈ out → ∃ z ∈ putOnce x out, z.s = y.s ∧ z.cost ≤ y.cost
  | z :: out, h => by
    rw [putOnce]
    by_cases hz : z.s = x.s
    · rw [if_pos hz]
      rcases List.mem_cons.1 h with h | h
      · refine ⟨_, List.mem_cons_self, ?_, ?_⟩
        · subst h; split; exact hz.symm; rfl
        · subst h; split
          · omega
          · exact Int.le_refl _
      · exact ⟨y, by simp [h], rfl, Int.le_refl _⟩
    · rw [if_neg hz]
      rcases List.mem_cons.1 h with h | h
      · exact ⟨z, by simp, by rw [h], by rw [h]; exact Int.le_refl _⟩
      · obtain ⟨w, h1, h2, h3⟩ := put_keeps (x := x) h
        exact ⟨w, by simp [h1], h2, h3⟩
theorem put_new (x : Nod) : ∀ (out : List Nod), ∃ z ∈ putOnce x out, z.s = x.s ∧ z.cost ≤ x.cost
  | [] => ⟨x, by simp [putOnce], rfl, Int.le_refl _⟩
  | y :: out => by
    rw [putOnce]
    by_cases hy : y.s = x.s
    · rw [if_pos hy]
      refine ⟨_, List.mem_cons_self, ?_, ?_⟩
      · split; rfl; exact hy
      · split
        · exact Int.le_refl _
        · omega
    · rw [if_neg hy]
      obtain ⟨z, h1, h2, h3⟩ := put_new x out
      exact ⟨z, by simp [h1], h2, h3⟩
theorem once_mem {l : List Nod} : ∀ y ∈ onceL l, y ∈ l := by
  refine snoc_indN (P := fun l => ∀ y ∈ onceL l, y ∈ l) (fun y hy => (nomatch hy)) ?_ l
  intro t x ih y hy
  rw [onceL_snoc] at hy
  rcases put_mem hy with hy | hy
  · rw [hy]; simp
  · simp [ih y hy]
theorem once_apart (l : List Nod) : (onceL l).Pairwise (fun a b => a.s ≠ b.s) := by
  refine snoc_indN (P := fun l => (onceL l).Pairwise (fun a b => a.s ≠ b.s)) List.Pairwise.nil ?_ l
  intro t x ih
  rw [onceL_snoc]; exact put_apart ih
theorem once_has {l : List Nod} : ∀ x ∈ l, ∃ y ∈ onceL l, y.s = x.s ∧ y.cost ≤ x.cost := by
  refine snoc_indN (P := fun l => ∀ x ∈ l, ∃ y ∈ onceL l, y.s = x.s ∧ y.cost ≤ x.cost) (fun x hx => (nomatch hx)) ?_ l
  intro t x ih y hy
  rw [onceL_snoc]
  rcases List.mem_append.1 hy with hy | hy
  · obtain ⟨z, h1, h2, h3⟩ := ih y hy
    obtain ⟨w, k1, k2, k3⟩ := put_keeps (x := x) h1
    exact ⟨w, k1, k2.trans h2, Int.le_trans k3 h3⟩
  · rw [List.mem_singleton.1 hy]
    exact put_new x _
theorem sub_lenG {α : Type} [DecidableEq α] : ∀ {R D : List α}, R.Nodup → (∀ x ∈ R, x ∈ D) → R.length ≤ D.length
  | [], _, _, _ => by simp
  | x :: R, D, hn, h => by
    have hx := h x (by simp)
    have hn' := List.nodup_cons.1 hn
    have := sub_lenG (R := R) (D := D.erase x) hn'.2 (fun y hy => by
      have hne : y ≠ x := fun e => hn'.1 (by rw [← e]; exact hy)
      exact (List.mem_erase_of_ne hne).2 (h y (by simp [hy])))
    rw [List.length_erase_of_mem hx] at this
    have h0 : 0 < D.length := List.length_pos_of_mem hx
    simp; omega
theorem once_len (l : List Nod) : (onceL l).length ≤ l.length := by
  refine snoc_indN (P := fun l => (onceL l).length ≤ l.length) (Nat.le_refl _) ?_ l
  intro t x ih
  rw [onceL_snoc, List.length_append]
  have : ∀ out : List Nod, (putOnce x out).length ≤ out.length + 1 := fun out => by
    induction out with
    | nil => simp [putOnce]
    | cons y out ih2 =>
      rw [putOnce]
      split
      · simp
      · simp; exact ih2
  have := this (onceL t)
  simp; omega

/-! ### Sorted -/
section
variable {α : Type} (f : α → Int)
def insG (x : α) : List α → List α
  | [] => [x]
  | y :: l => if f x < f y then x :: y :: l else y :: insG x l
def sortG (l : List α) : List α := l.foldl (fun s x => insG f x s) []
def OrdG (l : List α) : Prop := l.Pairwise (fun a b => f a ≤ f b)
theorem sortG_snoc (l : List α) (x : α) : sortG f (l ++ [x]) = insG f x (sortG f l) := by unfold sortG; rw [List.foldl_append]; rfl
theorem insG_split (x : α) : ∀ {l : List α}, OrdG f l → ∃ a b, l = a ++ b ∧ insG f x l = a ++ x :: b ∧ (∀ y ∈ a, f y ≤ f x) ∧ ∀ y ∈ b, f x < f y
  | [], _ => ⟨[], [], rfl, rfl, fun y hy => (nomatch hy), fun y hy => (nomatch hy)⟩
  | z :: l, h => by
    have h' := List.pairwise_cons.1 h
    rw [insG]
    by_cases hz : f x < f z
    · refine ⟨[], z :: l, rfl, by rw [if_pos hz]; rfl, fun y hy => (nomatch hy), fun y hy => ?_⟩
      rcases List.mem_cons.1 hy with rfl | hy
      · exact hz
      · have := h'.1 y hy; omega
    · obtain ⟨a, b, e1, e2, h1, h2⟩ := insG_split x h'.2
      refine ⟨z :: a, b, by rw [e1]; rfl, by rw [if_neg hz, e2]; rfl, fun y hy => ?_, h2⟩
      rcases List.mem_cons.1 hy with rfl | hy
      · omega
      · exact h1 y hy
theorem ordG_ins {x : α} {l : List α} (h : OrdG f l) : OrdG f (insG f x l) := by
  obtain ⟨a, b, e1, e2, h1, h2⟩ := insG_split f x h
  rw [e2]
  rw [e1] at h
  have hs := List.pairwise_append.1 h
  refine List.pairwise_append.2 ⟨hs.1, List.pairwise_cons.2 ⟨fun y hy => Int.le_of_lt (h2 y hy), hs.2.1⟩, fun y hy z hz => ?_⟩
  rcases List.mem_cons.1 hz with rfl | hz
  · exact h1 y hy
  · exact hs.2.2 y hy z hz
theorem snoc_indG {P : List α → Prop} (h0 : P []) (h1 : ∀ t x, P t → P (t ++ [x])) (t : List α) : P t := by
  have : ∀ r : List α, P r.reverse := by
    intro r
    induction r with
    | nil => exact h0
    | cons x r ih => rw [List.reverse_cons]; exact h1 _ x ih
  have h := this t.reverse
  rwa [List.reverse_reverse] at h
theorem sortG_ord (l : List α) : OrdG f (sortG f l) := by
  refine snoc_indG (P := fun l => OrdG f (sortG f l)) List.Pairwise.nil ?_ l
  intro t x ih
  rw [sortG_snoc]; exact ordG_ins f ih
theorem insG_perm (x : α) : ∀ (l : List α), (insG f x l).Perm (x :: l)
  | [] => List.Perm.refl _
  | y :: l => by
    rw [insG]
    split
    · exact List.Perm.refl _
    · exact (List.Perm.cons y (insG_perm x l)).trans (List.Perm.swap x y l)
theorem sortG_perm (l : List α) : (sortG f l).Perm l := by
  refine snoc_indG (P := fun l => (sortG f l).Perm l) (List.Perm.refl _) ?_ l
  intro t x ih
  rw [sortG_snoc]
  exact (insG_perm f x _).trans ((List.Perm.cons x ih).trans (List.perm_append_singleton x t).symm)
end
def sortedL (I : Ins) (l : List Nod) : List Nod := sortG (ofB I) l
theorem sorted_len (I : Ins) (l : List Nod) : (sortedL I l).length = l.length := (sortG_perm _ l).length_eq

/-! ### All moves of some nodes -/
def childN (I : Ins) (n : Nod) (j : Int) : Nod := ⟨nextS I n.s j, sumOf [n.cost, farS1 I n.s j], n.path ++ [j]⟩
def kidsN (I : Ins) (n : Nod) : List Nod := (movesS I n.s).map (childN I n)
def kidsL (I : Ins) (up : Int) (l : List Nod) : List Nod := (l.flatMap (kidsN I)).filter (fun c => decide (ofB I c < up))
def expandL (I : Ins) (up : Int) (l : List Nod) : List Nod := onceL (kidsL I up l)
def endN (I : Ins) (n : Nod) : Nod := ⟨n.s, sumOf [n.cost, endC I n.s], n.path⟩
def bestStep (I : Ins) (o : Option Nod) (n : Nod) : Option Nod := if EndS I n.s then (match o with | none => some (endN I n) | some b => if (endN I n).cost < b.cost then some (endN I n) else some b) else o
def bestL (I : Ins) (l : List Nod) : Option Nod := l.foldl (bestStep I) none
theorem mem_kids {I : Ins} {up : Int} {l : List Nod} {c : Nod} : c ∈ kidsL I up l ↔ (∃ n ∈ l, ∃ j, Can I n.s j ∧ c = childN I n j) ∧ ofB I c < up := by
  unfold kidsL kidsN
  simp only [List.mem_filter, List.mem_flatMap, List.mem_map, decide_eq_true_eq]
  constructor
  · rintro ⟨⟨n, hn, j, hj, rfl⟩, h⟩; exact ⟨⟨n, hn, j, mem_moves.1 hj, rfl⟩, h⟩
  · rintro ⟨⟨n, hn, j, hj, rfl⟩, h⟩; exact ⟨⟨n, hn, j, mem_moves.2 hj, rfl⟩, h⟩
/-- Each node of the answer is behind one move. -/
theorem expand_mem {I : Ins} {up : Int} {l : List Nod} {c : Nod} (h : c ∈ expandL I up l) : (∃ n ∈ l, ∃ j, Can I n.s j ∧ c = childN I n j) ∧ ofB I c < up := mem_kids.1 (once_mem c h)
theorem cost_nn {I : Ins} (hm : mayB I = true) {t : List Int} {s : Sta} {c : Int} (h : followS I t = some (s, c)) : 0 ≤ c := by
  obtain ⟨⟨ts, hi⟩, _⟩ := follow_inv hm t s c h
  rw [hi.cost]
  have h1 := (farS_bds _ ((firstE_zero I _).2 hi.done)).1
  have h2 := (goE_bds (fine_of hm) _ _ hi.go).2.1.1
  omega
theorem bestL_snoc (I : Ins) (l : List Nod) (n : Nod) : bestL I (l ++ [n]) = bestStep I (bestL I l) n := by unfold bestL; rw [List.foldl_append]; rfl
/-- The best one that can be ended. -/
theorem best_is {I : Ins} (l : List Nod) : (bestL I l = none ↔ ∀ n ∈ l, ¬ EndS I n.s) ∧ ∀ b, bestL I l = some b → (∃ n ∈ l, EndS I n.s ∧ b = endN I n) ∧ ∀ n ∈ l, EndS I n.s → b.cost ≤ (endN I n).cost := by
  refine snoc_indN (P := fun l => (bestL I l = none ↔ ∀ n ∈ l, ¬ EndS I n.s) ∧ ∀ b, bestL I l = some b → (∃ n ∈ l, EndS I n.s ∧ b = endN I n) ∧ ∀ n ∈ l, EndS I n.s → b.cost ≤ (endN I n).cost) ?_ ?_ l
  · exact ⟨⟨fun _ n hn => (nomatch hn), fun _ => rfl⟩, fun b h => (by cases h)⟩
  · intro t x ⟨ih1, ih2⟩
    rw [bestL_snoc]
    unfold bestStep
    by_cases hx : EndS I x.s
    · rw [if_pos hx]
      cases ho : bestL I t with
      | none =>
        have hno := ih1.1 ho
        refine ⟨⟨fun h => (by cases h), fun h => absurd hx (h x (by simp))⟩, fun b hb => ?_⟩
        simp only [Option.some.injEq] at hb
        subst hb
        refine ⟨⟨x, by simp, hx, rfl⟩, fun n hn he => ?_⟩
        rcases List.mem_append.1 hn with hn | hn
        · exact absurd he (hno n hn)
        · rw [List.mem_singleton.1 hn]; exact Int.le_refl _
      | some b0 =>
        obtain ⟨⟨n0, k1, k2, k3⟩, k4⟩ := ih2 b0 ho
        simp only
        by_cases hc : (endN I x).cost < b0.cost
        · rw [if_pos hc]
          refine ⟨⟨fun h => (by cases h), fun h => absurd hx (h x (by simp))⟩, fun b hb => ?_⟩
          simp only [Option.some.injEq] at hb
          subst hb
          refine ⟨⟨x, by simp, hx, rfl⟩, fun n hn he => ?_⟩
          rcases List.mem_append.1 hn with hn | hn
          · have := k4 n hn he; omega
          · rw [List.mem_singleton.1 hn]; exact Int.le_refl _
        · rw [if_neg hc]
          refine ⟨⟨fun h => (by cases h), fun h => absurd hx (h x (by simp))⟩, fun b hb => ?_⟩
          simp only [Option.some.injEq] at hb
          subst hb
          refine ⟨⟨n0, by simp [k1], k2, k3⟩, fun n hn he => ?_⟩
          rcases List.mem_append.1 hn with hn | hn
          · exact k4 n hn he
          · rw [List.mem_singleton.1 hn]; omega
    · rw [if_neg hx]
      refine ⟨ih1.trans ⟨fun h n hn => ?_, fun h n hn => h n (by simp [hn])⟩, fun b hb => ?_⟩
      · rcases List.mem_append.1 hn with hn | hn
        · exact h n hn
        · rw [List.mem_singleton.1 hn]; exact hx
      · obtain ⟨⟨n0, k1, k2, k3⟩, k4⟩ := ih2 b hb
        refine ⟨⟨n0, by simp [k1], k2, k3⟩, fun n hn he => ?_⟩
        rcases List.mem_append.1 hn with hn | hn
        · exact k4 n hn he
        · rw [List.mem_singleton.1 hn] at he; exact absurd he hx
end Go.Proofs.YtgplajofemencaaGreat
