/- Looking at all levels: plain mathematics. -/
import Derived.Test.YtaaljploegiihaaGreatXB
namespace Go.Proofs.YtaaljploegiihaaGreat

/-! ### How many moves may follow -/
def missS (I : Ins) (m : Nat) : List Nat := (List.range (2 * I.p).toNat).filter (fun i => !has m ((i : Int) + 1))
def rankS (I : Ins) (s : Sta) : Nat := (missS I s.must).length + (I.c - s.car).toNat
theorem can_p {I : Ins} {s : Sta} {j : Int} (h : Can I s j) : I.p ≠ 0 := by
  intro hp
  have hr := h.1.2.1
  rcases h.2 with h | h | h
  · have := h.1; omega
  · have := h.1; omega
  · have := h.2.1; omega
theorem filter_less {α : Type} {p q : α → Bool} : ∀ {l : List α} {x : α}, (∀ y, q y = true → p y = true) → x ∈ l → p x = true → q x = false → (l.filter q).length < (l.filter p).length
  | y :: l, x, h, hx, hp, hq => by
    have hle : ∀ l : List α, (l.filter q).length ≤ (l.filter p).length := fun l => by
      induction l with
      | nil => exact Nat.le_refl _
      | cons z l ih =>
        rw [List.filter_cons, List.filter_cons]
        by_cases hz : q z = true
        · rw [if_pos hz, if_pos (h z hz)]; simp; exact ih
        · rw [if_neg hz]
          split
          · simp; omega
          · exact ih
    rw [List.filter_cons, List.filter_cons]
    rcases List.mem_cons.1 hx with rfl | hx
    · rw [if_neg (by rw [hq]; simp), if_pos hp]
      have := hle l
      simp; omega
    · have ih := filter_less h hx hp hq
      by_cases hz : q y = true
      · rw [if_pos hz, if_pos (h y hz)]; simp; exact ih
      · rw [if_neg hz]
        split
        · simp; omega
        · exact ih
theorem rank_less {I : Ins} {s : Sta} {j : Int} (h : Can I s j) : rankS I (nextS I s j) < rankS I s := by
  unfold rankS nextS
  by_cases hj : j = 0
  · rw [if_pos hj]
    subst hj
    have hc := (can_zero h).2.2.2.1
    show (missS I s.must).length + (I.c - (s.car + 1)).toNat < _
    omega
  · rw [if_neg hj]
    obtain ⟨hc, h1, h2⟩ := can_pos h hj
    have hmust : has s.must j = false := by rcases hc with hc | hc; exact hc.2.1; exact hc.2.2.1
    have hp := (fine_of h.1.1).p1
    have : (missS I (s.must ||| bitN j)).length < (missS I s.must).length := by
      refine filter_less (x := (j - 1).toNat) (fun y hy => ?_) (by simp; omega) ?_ ?_
      · rw [has_or] at hy
        cases hh : has s.must ((y : Int) + 1) with
        | false => rfl
        | true => rw [hh] at hy; simp at hy
      · rw [show (((j - 1).toNat : Nat) : Int) + 1 = j by omega, hmust]; rfl
      · rw [show (((j - 1).toNat : Nat) : Int) + 1 = j by omega, has_or, has_bitN]
        simp; omega
    show (missS I (s.must ||| bitN j)).length + (I.c - s.car).toNat < _
    omega

/-! ### Nodes whose paths can be followed -/
def GoodN (I : Ins) (n : Nod) : Prop := followS I n.path = some (n.s, n.cost)
theorem inv_fits {I : Ins} {D : List (List Int)} {r : List Int} {s : Sta} {c : Int} {ts : TS} (h : InvR I D r s c ts) : Fits64 s ∧ NumOk s := by
  have hb := goE_bds (fine_of h.mayI) _ _ h.go
  have hg := h.goOn
  refine ⟨⟨by rw [h.seen]; exact ofN_lt _, by rw [h.same, h.seen]; exact ofN_lt _, h.onlt⟩, hg.2.2.1.1, hg.2.2.2.1.1, hg.2.2.2.2.1⟩
theorem good_fits {I : Ins} (hm : mayB I = true) {n : Nod} (h : GoodN I n) : Fits64 n.s ∧ NumOk n.s := by
  obtain ⟨⟨ts, hi⟩, _⟩ := follow_inv hm _ _ _ h
  exact inv_fits hi
theorem cost_bd {I : Ins} (hm : mayB I = true) {t : List Int} {s : Sta} {c : Int} (h : followS I t = some (s, c)) : c ≤ 100000000 := by
  obtain ⟨⟨ts, hi⟩, _⟩ := follow_inv hm t s c h
  have h1 := (farS_bds _ ((firstE_zero I _).2 hi.done)).2
  have h2 := (goE_bds (fine_of hm) _ _ hi.go).2.1.2
  have h3 := goE_len (fine_of hm) hi.go
  have h4 := hi.car
  have h5 := hi.carc
  have h6 := (inb_iff _ _ _).1 ((may_iff I).1 hm).2.1
  have := hi.cost
  omega
theorem good_child {I : Ins} (hm : mayB I = true) {n : Nod} (h : GoodN I n) {j : Int} (hc : Can I n.s j) : GoodN I (childN I n j) := by
  have h1 := cost_nn hm h
  have h2 := cost_bd hm h
  have h3 := far_bd1 I n.s j
  unfold GoodN
  show followS I (n.path ++ [j]) = some (nextS I n.s j, sumOf [n.cost, farS1 I n.s j])
  rw [follow_more h hc, sum_add h1 h3.1 (by omega)]
theorem good_end {I : Ins} (hm : mayB I = true) {n : Nod} (h : GoodN I n) : (endN I n).cost = n.cost + endC I n.s := by
  have h1 := cost_nn hm h
  have h2 := cost_bd hm h
  have h3 := endC_bd I n.s
  show sumOf [n.cost, endC I n.s] = _
  exact sum_add h1 h3.1 (by omega)
theorem expand_good {I : Ins} (hm : mayB I = true) {l : List Nod} (h : ∀ x ∈ l, GoodN I x) {up : Int} : ∀ x ∈ expandL I up l, GoodN I x := fun x hx => by
  obtain ⟨⟨n, hn, j, hj, rfl⟩, _⟩ := expand_mem hx
  exact good_child hm (h n hn) hj
theorem expand_rank {I : Ins} {l : List Nod} {f : Nat} (h : ∀ x ∈ l, rankS I x.s < f + 1) {up : Int} : ∀ x ∈ expandL I up l, rankS I x.s < f := fun x hx => by
  obtain ⟨⟨n, hn, j, hj, rfl⟩, _⟩ := expand_mem hx
  have h1 := rank_less hj
  have h2 := h n hn
  show rankS I (nextS I n.s j) < f
  omega
theorem front_sub {l : List Nod} {x : Nod} (h : x ∈ frontL l) : x ∈ l := by
  obtain ⟨k, hk, _, rfl⟩ := mem_front.1 h
  exact nodAt_mem hk

/-! ### Level by level -/
def stepUp (b : Option Nod) (up : Int) (e : Option Nod) : Option Nod × Int := match e with | some n => if n.cost < up then (some n, n.cost) else (b, up) | none => (b, up)
def exactRun (I : Ins) (most : Int) : Nat → List Nod → Option Nod → Int → Int → Option Nod × Bool × Int
  | _, [], b, _, st => (b, true, st)
  | 0, _ :: _, b, _, st => (b, true, st)
  | f + 1, n :: l, b, up, st => if most < (((n :: l).length : Nat) : Int) then (b, false, st) else exactRun I most f (frontL (expandL I up (n :: l))) (stepUp b up (bestL I (n :: l))).1 (stepUp b up (bestL I (n :: l))).2 (st + (((n :: l).length : Nat) : Int))
/-- The bound that goes with what was found. -/
def upOf (lim : Int) : Option Nod → Int
  | none => lim
  | some n => n.cost
/-- What was found is a way, and costs less than the bound. -/
def FoundOk (I : Ins) (lim : Int) : Option Nod → Prop
  | none => True
  | some n => ∃ c, followS I n.path = some (n.s, c) ∧ EndS I n.s ∧ n.cost = c + endC I n.s ∧ n.cost < lim
theorem stepUp_up {lim : Int} {b e : Option Nod} : (stepUp b (upOf lim b) e).2 = upOf lim (stepUp b (upOf lim b) e).1 := by
  unfold stepUp
  cases e with
  | none => rfl
  | some n =>
    simp only
    split
    · rfl
    · rfl
theorem stepUp_le {b e : Option Nod} {up : Int} : (stepUp b up e).2 ≤ up := by
  unfold stepUp
  cases e with
  | none => exact Int.le_refl _
  | some n =>
    simp only
    split
    · next h => exact Int.le_of_lt h
    · exact Int.le_refl _
theorem stepUp_some {b : Option Nod} {n : Nod} {up : Int} : (stepUp b up (some n)).2 ≤ n.cost := by
  unfold stepUp
  simp only
  split
  · exact Int.le_refl _
  · next h => simp only; omega
theorem upOf_le {I : Ins} {lim : Int} {b : Option Nod} (h : FoundOk I lim b) : upOf lim b ≤ lim := by
  cases b with
  | none => exact Int.le_refl _
  | some n => obtain ⟨_, _, _, _, h⟩ := h; exact Int.le_of_lt h
theorem found_step {I : Ins} (hm : mayB I = true) {lim : Int} {b : Option Nod} (h : FoundOk I lim b) {l : List Nod} (hl : ∀ x ∈ l, GoodN I x) : FoundOk I lim (stepUp b (upOf lim b) (bestL I l)).1 := by
  unfold stepUp
  cases he : bestL I l with
  | none => exact h
  | some e =>
    simp only
    split
    · next hlt =>
      obtain ⟨⟨n, hn, h1, h2⟩, _⟩ := (best_is l).2 e he
      have hle := upOf_le h
      refine ⟨n.cost, ?_, ?_, ?_, by omega⟩
      · rw [h2]; exact hl n hn
      · rw [h2]; exact h1
      · rw [h2]; exact good_end hm (hl n hn)
    · exact h
/-- Each way that ends at less than the bound goes on from a node of the level that can do all that it can, for no more. -/
def Ways (I : Ins) (l : List Nod) (up : Int) (k : Nat) : Prop := ∀ t s c, followS I t = some (s, c) → EndS I s → c + endC I s < up →
  k ≤ t.length ∧ ∃ s1 c1, followS I (t.take k) = some (s1, c1) ∧ ∃ y ∈ l, (y.s = s1 ∨ I.p ≠ 0) ∧ Covers y.s s1 ∧ y.cost ≤ c1
theorem fits_follow {I : Ins} (hm : mayB I = true) {t : List Int} {s : Sta} {c : Int} (h : followS I t = some (s, c)) : Fits64 s := by
  obtain ⟨⟨ts, hi⟩, _⟩ := follow_inv hm _ _ _ h
  exact (inv_fits hi).1
/-- What is behind a level's expansion, before any are left out. -/
theorem ways_kids {I : Ins} (hm : mayB I = true) {l : List Nod} (hl : ∀ x ∈ l, GoodN I x) {b : Option Nod} {up : Int} {k : Nat} (h : Ways I l up k) {t : List Int} {s : Sta} {c : Int} (ht : followS I t = some (s, c)) (he : EndS I s)
    (hu : c + endC I s < (stepUp b up (bestL I l)).2) : k + 1 ≤ t.length ∧ ∃ s2 c2, followS I (t.take (k + 1)) = some (s2, c2) ∧ I.p ≠ 0 ∧ ∃ z ∈ expandL I up l, Covers z.s s2 ∧ z.cost ≤ c2 := by
  have hle := stepUp_le (b := b) (e := bestL I l) (up := up)
  obtain ⟨hk, s1, c1, h1, y, hy, hor, hcov, hcost⟩ := h t s c ht he (by omega)
  have hyg := hl y hy
  obtain ⟨yf, yn⟩ := good_fits hm hyg
  have yc := cost_nn hm hyg
  have sf := fits_follow hm h1
  by_cases hkt : k = t.length
  · exfalso
    rw [hkt, List.take_length, ht] at h1
    simp only [Option.some.injEq, Prod.mk.injEq] at h1
    obtain ⟨rfl, rfl⟩ := h1
    have hend : EndS I y.s ∧ endC I y.s = endC I s := by
      rcases hor with e | hp
      · rw [e]; exact ⟨he, rfl⟩
      · exact covers_end yf sf hcov yn hp he
    have e1 := good_end hm hyg
    cases hb : bestL I l with
    | none => exact (best_is l).1.1 hb y hy hend.1
    | some e =>
      have h2 := ((best_is l).2 e hb).2 y hy hend.1
      rw [hb] at hu
      have h3 := stepUp_some (b := b) (n := e) (up := up)
      rw [hend.2] at e1
      omega
  · have hklt : k < t.length := by omega
    obtain ⟨s2, c2, h2, h3⟩ := bound_all hm ht he (k + 1)
    refine ⟨by omega, s2, c2, h2, ?_⟩
    have h4 := h2
    rw [take_snoc hklt] at h4
    obtain ⟨s0, c0, h5, h6, rfl, rfl⟩ := follow_step h4
    rw [h1] at h5
    simp only [Option.some.injEq, Prod.mk.injEq] at h5
    obtain ⟨rfl, rfl⟩ := h5
    have hcan : Can I y.s (t.getD k 0) := by
      rcases hor with e | _
      · rw [e]; exact h6
      · exact covers_can yf sf hcov yn h6
    have hfar : farS1 I y.s (t.getD k 0) = farS1 I s1 (t.getD k 0) := (covers_beg hcov _).2.2
    have hfp := far_bd1 I y.s (t.getD k 0)
    have hnc := covers_next (I := I) yf sf hcov (t.getD k 0)
    have hbc := bound_covers (I := I) (fits_next sf _) hnc
    have hsl := sum_le yc hfp.1
    have hz : childN I y (t.getD k 0) ∈ kidsL I up l := by
      refine mem_kids.2 ⟨⟨y, hy, _, hcan, rfl⟩, ?_⟩
      have := sum_le (sum_nn y.cost (farS1 I y.s (t.getD k 0))) (bound_pos I (nextS I y.s (t.getD k 0)))
      show sumOf [sumOf [y.cost, farS1 I y.s (t.getD k 0)], boundS I (nextS I y.s (t.getD k 0))] < up
      omega
    obtain ⟨z, z1, z2, z3⟩ := once_has _ hz
    refine ⟨can_p h6, z, z1, ?_, ?_⟩
    · rw [z2]; exact hnc
    · have : (childN I y (t.getD k 0)).cost = sumOf [y.cost, farS1 I y.s (t.getD k 0)] := rfl
      omega
theorem nod_mem {l : List Nod} {x : Nod} (h : x ∈ l) : ∃ k, k < l.length ∧ nodAt l k = x := by
  obtain ⟨k, hk, he⟩ := List.getElem_of_mem h
  exact ⟨k, hk, by unfold nodAt; rw [List.getD_eq_getElem?_getD, List.getElem?_eq_getElem hk]; exact he⟩
theorem ways_front {I : Ins} (hm : mayB I = true) {l : List Nod} (hl : ∀ x ∈ l, GoodN I x) {b : Option Nod} {up : Int} {k : Nat} (h : Ways I l up k) : Ways I (frontL (expandL I up l)) (stepUp b up (bestL I l)).2 (k + 1) := by
  intro t s c ht he hu
  obtain ⟨h1, s2, c2, h2, hp, z, z1, z2, z3⟩ := ways_kids hm hl h ht he hu
  have hg := expand_good hm hl (up := up)
  obtain ⟨q, hq, rfl⟩ := nod_mem z1
  obtain ⟨f, f1, f2⟩ := front_all (fun x hx => (good_fits hm (hg x hx)).1) hq
  refine ⟨h1, s2, c2, h2, f, f1, .inr hp, ?_, Int.le_trans f2.2.2.2.2 z3⟩
  exact covers_trans (good_fits hm (hg f (front_sub f1))).1 (good_fits hm (hg _ (nodAt_mem hq))).1 (fits_follow hm h2) f2.2.2.2.1 z2
/-- What a whole look comes to. -/
theorem exact_spec {I : Ins} (hm : mayB I = true) {most lim : Int} : ∀ (f : Nat) (l : List Nod) (b : Option Nod) (st : Int) (k : Nat), (∀ x ∈ l, rankS I x.s < f) → (∀ x ∈ l, GoodN I x) → FoundOk I lim b → Ways I l (upOf lim b) k →
    FoundOk I lim (exactRun I most f l b (upOf lim b) st).1 ∧ ((exactRun I most f l b (upOf lim b) st).2.1 = true → ∀ t s c, followS I t = some (s, c) → EndS I s → upOf lim (exactRun I most f l b (upOf lim b) st).1 ≤ c + endC I s)
  | f, [], b, st, k, _, _, hb, hw => by
    have e : exactRun I most f [] b (upOf lim b) st = (b, true, st) := by cases f <;> rfl
    rw [e]
    refine ⟨hb, fun _ t s c ht he => Int.not_lt.1 (fun hlt => ?_)⟩
    obtain ⟨_, _, _, _, y, hy, _⟩ := hw t s c ht he hlt
    cases hy
  | 0, n :: l, _, _, _, hr, _, _, _ => absurd (hr n (by simp)) (Nat.not_lt_zero _)
  | f + 1, n :: l, b, st, k, hr, hg, hb, hw => by
    rw [exactRun]
    split
    · exact ⟨hb, fun h => by cases h⟩
    · rw [stepUp_up]
      refine exact_spec hm f _ _ _ (k + 1) (fun x hx => expand_rank hr x (front_sub hx)) (fun x hx => expand_good hm hg x (front_sub hx)) (found_step hm hb hg) ?_
      rw [← stepUp_up]
      exact ways_front hm hg hw
def rootN' (I : Ins) : Nod := ⟨rootS I, 0, []⟩
theorem good_root (I : Ins) : GoodN I (rootN' I) := follow_nil I
theorem ways_root {I : Ins} (hm : mayB I = true) (up : Int) : Ways I [rootN' I] up 0 := fun t s c _ _ _ =>
  ⟨Nat.zero_le _, rootS I, 0, rfl, rootN' I, by simp, .inl rfl, covers_refl (good_fits hm (good_root I)).1, Int.le_refl _⟩
/-- From the beginning. -/
theorem exact_root {I : Ins} (hm : mayB I = true) {most lim : Int} {f : Nat} (hf : rankS I (rootS I) < f) :
    FoundOk I lim (exactRun I most f [rootN' I] none lim 0).1 ∧ ((exactRun I most f [rootN' I] none lim 0).2.1 = true → ∀ t s c, followS I t = some (s, c) → EndS I s → upOf lim (exactRun I most f [rootN' I] none lim 0).1 ≤ c + endC I s) :=
  exact_spec hm f [rootN' I] none 0 0 (fun x hx => by rw [List.mem_singleton.1 hx]; exact hf) (fun x hx => by rw [List.mem_singleton.1 hx]; exact good_root I) trivial (ways_root hm lim)
end Go.Proofs.YtaaljploegiihaaGreat
/- More nodes on a level; how many nodes a level may have; each way alone: plain mathematics. -/
namespace Go.Proofs.YtaaljploegiihaaGreat

/-! ### More nodes on a level -/
/-! ### How many nodes a level may have -/
/-- The nodes of a level: their paths can be followed, have so many moves, and their states differ. -/
structure LevelOk (I : Ins) (k : Nat) (l : List Nod) : Prop where
  good : ∀ x ∈ l, GoodN I x
  len : ∀ x ∈ l, x.path.length = k
  apart : l.Pairwise (fun a b => a.s ≠ b.s)
end Go.Proofs.YtaaljploegiihaaGreat
/- Each way alone: plain mathematics. -/
namespace Go.Proofs.YtaaljploegiihaaGreat

theorem follow_rank {I : Ins} {t : List Int} : ∀ {s : Sta} {c : Int}, followS I t = some (s, c) → t.length + rankS I s ≤ rankS I (rootS I) := by
  refine snoc_ind (P := fun t => ∀ {s : Sta} {c : Int}, followS I t = some (s, c) → t.length + rankS I s ≤ rankS I (rootS I)) ?_ ?_ t
  · intro s c h
    rw [follow_nil] at h
    simp only [Option.some.injEq, Prod.mk.injEq] at h
    rw [h.1]; simp
  · intro t j ih s c h
    obtain ⟨s0, c0, h1, h2, rfl, _⟩ := follow_step h
    have := ih h1
    have := rank_less h2
    simp; omega
theorem rank_root {I : Ins} (hm : mayB I = true) : (rankS I (rootS I) : Int) = 2 * I.p + I.c - 1 := by
  have hp := (fine_of hm).p0
  have hc := (inb_iff _ _ _).1 ((may_iff I).1 hm).2.1
  have : missS I 0 = List.range (2 * I.p).toNat := by
    unfold missS
    rw [List.filter_eq_self]
    intro i _
    rw [has_zero]; rfl
  unfold rankS
  rw [root_may hm]
  show (((missS I 0).length + (I.c - 1).toNat : Nat) : Int) = _
  rw [this, List.length_range]
  omega
end Go.Proofs.YtaaljploegiihaaGreat
/- Looking at few: plain mathematics. -/
namespace Go.Proofs.YtaaljploegiihaaGreat

end Go.Proofs.YtaaljploegiihaaGreat
