/- A route that can be gone: without a pair it can be gone, too, no later and no longer; in a wider window and with more room, no later; begun so, it is as wrong. Nothing of the program stands here. -/
import Derived.Test.YtolaiccgbngomaaTHeld
namespace Go.Proofs.Ytolaiccgbngomaa

/-- One list of times beside another one, none later. -/
def NoLater (a b : List Tm) : Prop := a.length = b.length ∧ ∀ k (h : k < a.length) (h' : k < b.length), (a[k]).come ≤ (b[k]).come ∧ (a[k]).begn ≤ (b[k]).begn ∧ (a[k]).leave ≤ (b[k]).leave
theorem NoLater.nil : NoLater [] [] := ⟨rfl, fun k h => by simp at h⟩
theorem NoLater.snoc {a b : List Tm} (h : NoLater a b) {x y : Tm} (h1 : x.come ≤ y.come) (h2 : x.begn ≤ y.begn) (h3 : x.leave ≤ y.leave) : NoLater (a ++ [x]) (b ++ [y]) := by
  refine ⟨by simp [h.1], fun k hk hk' => ?_⟩
  by_cases c : k < a.length
  · rw [List.getElem_append_left c, List.getElem_append_left (by have := h.1; omega)]
    exact h.2 k c (by have := h.1; omega)
  · have e : k = a.length := by simp at hk; omega
    subst e
    have hb := h.1
    rw [List.getElem_append_right (Nat.le_refl _), List.getElem_append_right (by omega)]
    simp only [Nat.sub_self, hb, List.getElem_cons_zero]
    exact ⟨h1, h2, h3⟩
/-! ### A wider window -/
structure Wider (I K : Ins) : Prop where
  p : K.p = I.p
  r : I.r ≤ K.r
  yard : nth K.l 0 = nth I.l 0
  at' : ∀ i : Int, 1 ≤ i → i ≤ 2 * I.p → (stp K i).x = (stp I i).x ∧ (stp K i).y = (stp I i).y ∧ (stp K i).d = (stp I i).d ∧ (stp K i).s = (stp I i).s ∧ (stp K i).r ≤ (stp I i).r ∧ (stp I i).u ≤ (stp K i).u
theorem Wider.held {I K : Ins} (h : Wider I K) : ∀ (l : List Int), (∀ i, i ∈ l → 1 ≤ i ∧ i ≤ 2 * I.p) → heldL K l = heldL I l := by
  intro l hl
  unfold heldL
  rw [List.map_congr_left (fun i hi => (h.at' i (hl i hi).1 (hl i hi).2).2.2.1)]
theorem wider_go {I K : Ins} (hw : Wider I K) : ∀ (l : List Int) (s : TS), goE I l = .ok s → ∃ s', goE K l = .ok s' ∧ s'.seen = s.seen ∧ s'.now ≤ s.now ∧ s'.far = s.far ∧ s'.last.x = s.last.x ∧ s'.last.y = s.last.y ∧ NoLater s'.out s.out :=
  goE_ind ⟨startT K, rfl, rfl, by unfold startT; rw [hw.yard]; exact Int.le_refl _, rfl, by unfold startT; rw [hw.yard], by unfold startT; rw [hw.yard], NoLater.nil⟩ (fun l i s s1 hg hp h => by
    obtain ⟨s', g1, g2, g3, g4, g5, g6, g7⟩ := hp
    obtain ⟨hz, hb, rfl⟩ := stepE_ok h
    have hgd := goE_good l s hg
    have hse := (goE_seen l s hg).1
    rw [hse] at hz
    obtain ⟨z1, z2, z3, z4, z5⟩ := wrongE_zero hz
    obtain ⟨a1, a2, a3, a4, a5, a6⟩ := hw.at' i z1 z2
    have hfe : farF s'.last (stp K i) = farF s.last (stp I i) := farF_eq g5 g6 a1 a2
    have hz' : wrongE K s'.seen i = 0 := by
      rw [g2, hse]
      have := hw.r
      have hh := hw.held l hgd.rng
      have hp := hw.p
      exact wrongE_of z1 (by omega) z3 (fun hx => by rw [hp]; exact z4 (by omega)) (by omega)
    have c1 : (tmAt s' (stp K i)).come ≤ (tmAt s (stp I i)).come := by simp only [tmAt]; omega
    have c2 : (tmAt s' (stp K i)).begn ≤ (tmAt s (stp I i)).begn := by simp only [tmAt]; omega
    have c3 : (tmAt s' (stp K i)).leave ≤ (tmAt s (stp I i)).leave := by simp only [tmAt]; omega
    refine ⟨nextT s' i (stp K i), ?_, by simp [nextT, g2], c3, by simp only [nextT]; omega, a1, a2, g7.snoc c1 c2 c3⟩
    rw [goE_snoc, g1]
    show stepE K s' i = _
    unfold stepE
    rw [if_neg (by omega), if_neg (by omega)])
theorem wider_times {I K : Ins} (hw : Wider I K) (hm : mayB K = true) {l : List Int} {s : TS} (h : timesE I l = .ok s) : ∃ s', timesE K l = .ok s' ∧ s'.far + farF s'.last (nth K.l 0) = s.far + farF s.last (nth I.l 0) ∧ NoLater s'.out s.out := by
  obtain ⟨_, h2, h3, h4⟩ := timesE_ok h
  obtain ⟨s', g1, _, g3, g4, g5, g6, g7⟩ := wider_go hw l s h2
  have hfe : farF s'.last (nth K.l 0) = farF s.last (nth I.l 0) := farF_eq g5 g6 (by rw [hw.yard]) (by rw [hw.yard])
  refine ⟨s', timesE_of hm g1 ?_ ?_, by omega, g7⟩
  · refine endE_of (fun i hi hp => ?_)
    rw [hw.p] at *
    exact endE_zero h3 i hi hp
  · unfold backT at *
    rw [hw.yard] at *
    omega
/-! ### A pair less -/
def other (I : Ins) (c : Int) (i : Int) : Bool := decide (i ≠ c ∧ i ≠ c + I.p)
def lessL (I : Ins) (c : Int) (l : List Int) : List Int := l.filter (other I c)
def wasL (I : Ins) (c : Int) (l : List Int) (o : List Tm) : List Tm := ((l.zip o).filter (fun x => other I c x.1)).map (·.2)
theorem lessL_snoc (I : Ins) (c : Int) (l : List Int) (i : Int) : lessL I c (l ++ [i]) = if other I c i = true then lessL I c l ++ [i] else lessL I c l := by
  unfold lessL
  rw [List.filter_append]
  cases ho : other I c i <;> simp [ho]
theorem wasL_snoc (I : Ins) (c : Int) (l : List Int) (o : List Tm) (hl : l.length = o.length) (i : Int) (x : Tm) : wasL I c (l ++ [i]) (o ++ [x]) = if other I c i = true then wasL I c l o ++ [x] else wasL I c l o := by
  unfold wasL
  rw [List.zip_append hl, List.filter_append, List.map_append]
  simp only [List.zip_cons_cons, List.zip_nil_right]
  cases ho : other I c i <;> simp [ho]
theorem mem_less {I : Ins} {c i : Int} {l : List Int} : i ∈ lessL I c l ↔ i ∈ l ∧ i ≠ c ∧ i ≠ c + I.p := by
  unfold lessL other; rw [List.mem_filter]; simp
theorem held_less {I : Ins} (hf : Fine I) {c : Int} (hc : 1 ≤ c ∧ c ≤ I.p) {l : List Int} {s s' : TS} (h : goE I l = .ok s) (h' : goE I (lessL I c l) = .ok s') : heldL I (lessL I c l) ≤ heldL I l := by
  rw [held_sum hf l s h, held_sum hf _ s' h']
  have hch := sumN_change (f := termI I l) (g := termI I (lessL I c l)) (k := c.toNat - 1) (n := I.p.toNat) (by omega) (fun j hj hn => by
    unfold termI
    have b1 : ((j : Int) + 1 ∈ lessL I c l) = ((j : Int) + 1 ∈ l) := by
      rw [mem_less, eq_iff_iff]
      exact ⟨fun h => h.1, fun h => ⟨h, by omega, by omega⟩⟩
    have b2 : ((j : Int) + 1 + I.p ∈ lessL I c l) = ((j : Int) + 1 + I.p ∈ l) := by
      rw [mem_less, eq_iff_iff]
      exact ⟨fun h => h.1, fun h => ⟨h, by omega, by omega⟩⟩
    simp only [b1, b2])
  have e : ((c.toNat - 1 : Nat) : Int) + 1 = c := by omega
  have a2 : termI I (lessL I c l) (c.toNat - 1) = 0 := by
    unfold termI
    rw [e, if_neg]
    rintro ⟨hx, _⟩
    exact (mem_less.1 hx).2.1 rfl
  have a1 := term_nonneg hf l (c.toNat - 1) (by omega)
  omega
theorem less_go {I : Ins} (hf : Fine I) {c : Int} (hc : 1 ≤ c ∧ c ≤ I.p) : ∀ (l : List Int) (s : TS), goE I l = .ok s →
    ∃ s', goE I (lessL I c l) = .ok s' ∧ (∀ z, s'.now + farF s'.last z ≤ s.now + farF s.last z) ∧ (∀ z, s'.far + farF s'.last z ≤ s.far + farF s.last z) ∧ NoLater s'.out (wasL I c l s.out) :=
  goE_ind ⟨startT I, rfl, fun _ => Int.le_refl _, fun _ => Int.le_refl _, NoLater.nil⟩ (fun l i s s1 hg hp h => by
    obtain ⟨s', g1, g2, g3, g4⟩ := hp
    obtain ⟨hz, hb, rfl⟩ := stepE_ok h
    have hgd := goE_good l s hg
    obtain ⟨hse, hol⟩ := goE_seen l s hg
    have hse' := (goE_seen _ s' g1).1
    rw [hse] at hz
    obtain ⟨z1, z2, z3, z4, z5⟩ := wrongE_zero hz
    have hst := hf.ok i (by omega) z2
    have hsv : 0 ≤ (stp I i).s := by
      unfold stopOk at hst
      simp only [Bool.and_eq_true, inb_iff] at hst
      omega
    rw [lessL_snoc]
    simp only [nextT]
    rw [wasL_snoc I c l s.out hol.symm i]
    by_cases ho : other I c i = true
    · rw [if_pos ho, if_pos ho]
      have hne : i ≠ c ∧ i ≠ c + I.p := by unfold other at ho; exact decide_eq_true_iff.1 ho
      have k1 := g2 (stp I i)
      have k2 := g3 (stp I i)
      have c1 : (tmAt s' (stp I i)).come ≤ (tmAt s (stp I i)).come := by simp only [tmAt]; omega
      have c2 : (tmAt s' (stp I i)).begn ≤ (tmAt s (stp I i)).begn := by simp only [tmAt]; omega
      have c3 : (tmAt s' (stp I i)).leave ≤ (tmAt s (stp I i)).leave := by simp only [tmAt]; omega
      have hz' : wrongE I s'.seen i = 0 := by
        rw [hse']
        have := held_less hf hc hg g1
        exact wrongE_of z1 z2 (fun hx => z3 (mem_less.1 hx).1) (fun hx => mem_less.2 ⟨z4 hx, by omega, by omega⟩) (by omega)
      refine ⟨nextT s' i (stp I i), ?_, fun z => by simp only [nextT]; omega, fun z => by simp only [nextT]; omega, g4.snoc c1 c2 c3⟩
      rw [goE_snoc, g1]
      show stepE I s' i = _
      unfold stepE
      rw [if_neg (by omega), if_neg (by omega)]
    · rw [if_neg ho, if_neg ho]
      refine ⟨s', g1, fun z => ?_, fun z => ?_, g4⟩
      · have k1 := g2 z
        have k2 := farF_by s.last z (stp I i)
        simp only [tmAt]
        omega
      · have k1 := g3 z
        have k2 := farF_by s.last z (stp I i)
        omega)
theorem less_times {I : Ins} {c : Int} (hc : 1 ≤ c ∧ c ≤ I.p) {l : List Int} {s : TS} (h : timesE I l = .ok s) : ∃ s', timesE I (lessL I c l) = .ok s' ∧ s'.far + farF s'.last (nth I.l 0) ≤ s.far + farF s.last (nth I.l 0) ∧ NoLater s'.out (wasL I c l s.out) := by
  obtain ⟨hm, h2, h3, h4⟩ := timesE_ok h
  obtain ⟨s', g1, g2, g3, g4⟩ := less_go (fine_of hm) hc l s h2
  refine ⟨s', timesE_of hm g1 (endE_of (fun i hi hp => ?_)) ?_, g3 _, g4⟩
  · obtain ⟨h5, h6, h7⟩ := mem_less.1 hi
    exact mem_less.2 ⟨endE_zero h3 i h5 hp, by have := (goE_good l s h2).rng i h5; omega, by omega⟩
  · have := g2 (nth I.l 0)
    unfold backT at *
    omega
/-! ### A route that begins so -/
theorem head_same {I : Ins} {l m : List Int} (h : errT I l = 1 ∨ errT I l = 5 ∨ errT I l = 6) : errT I (l ++ m) = errT I l := by
  unfold errT timesE at *
  by_cases hm : mayB I = true
  · rw [if_pos hm] at h ⊢
    rw [if_pos hm]
    unfold finE at *
    cases hg : goE I l with
    | error e => rw [goE_stays hg]; rfl
    | ok s =>
      exfalso
      rw [hg] at h
      simp only [Except.bind] at h
      split at h
      · next e he =>
        split at he
        · cases he; omega
        · split at he
          · cases he; omega
          · cases he
      · omega
  · rw [if_neg hm]; rw [if_neg hm]
end Go.Proofs.Ytolaiccgbngomaa
