/- Looking at all levels: plain mathematics. -/
import Derived.Test.YtgplajofemencaaGreatXB
namespace Go.Proofs.YtgplajofemencaaGreat

/-! ### How many moves may follow -/
def missS (I : Ins) (m : Nat) : List Nat := (List.range (2 * I.p).toNat).filter (fun i => !has m ((i : Int) + 1))
def rankS (I : Ins) (s : Sta) : Nat := (missS I s.must).length + (I.c - s.car).toNat
theorem can_p {I : Ins} {s : Sta} {j : Int} (h : Can I s j) : I.p ≠ 0 := by
  intro hp
  have hr := h.1.2.1
  rcases h.2 with h | h | h
  · have := h.1; omega
  · have := h.1; omega
  · have := h.2.1; omega
theorem filter_less {α : Type} {p q : α → Bool} : ∀ {l : List α} {x : α}, (∀ y, q y = true → p y = true) → x ∈ l → p x = true → q x = false → (l.filter q).length < (l.filter p).length
  | y :: l, x, h, hx, hp, hq => by
    have hle : ∀ l : List α, (l.filter q).length ≤ (l.filter p).length := fun l => by
      induction l with
      | nil => exact Nat.le_refl _
      | cons z l ih =>
        rw [List.filter_cons, List.filter_cons]
        by_cases hz : q z = true
        · rw [if_pos hz, if_pos (h z hz)]; simp; exact ih
        · rw [if_neg hz]
          split
          · simp; omega
          · exact ih
    rw [List.filter_cons, List.filter_cons]
    rcases List.mem_cons.1 hx with rfl | hx
    · rw [if_neg (by rw [hq]; simp), if_pos hp]
      have := hle l
      simp; omega
    · have ih := filter_less h hx hp hq
      by_cases hz : q y = true
      · rw [if_pos hz, if_pos (h y hz)]; simp; exact ih
      · rw [if_neg hz]
        split
        · simp; omega
        · exact ih
theorem rank_less {I : Ins} {s : Sta} {j : Int} (h : Can I s j) : rankS I (nextS I s j) < rankS I s := by
  unfold rankS nextS
  by_cases hj : j = 0
  · rw [if_pos hj]
    subst hj
    have hc := (can_zero h).2.2.2.1
    show (missS I s.must).length + (I.c - (s.car + 1)).toNat < _
    omega
  · rw [if_neg hj]
    obtain ⟨hc, h1, h2⟩ := can_pos h hj
    have hmust : has s.must j = false := by rcases hc with hc | hc; exact hc.2.1; exact hc.2.2.1
    have hp := (fine_of h.1.1).p1
    have : (missS I (s.must ||| bitN j)).length < (missS I s.must).length := by
      refine filter_less (x := (j - 1).toNat) (fun y hy => ?_) (by simp; omega) ?_ ?_
      · rw [has_or] at hy
        cases hh : has s.must ((y : Int) + 1) with
        | false => rfl
        | true => rw [hh] at hy; simp at hy
      · rw [show (((j - 1).toNat : Nat) : Int) + 1 = j by omega, hmust]; rfl
      · rw [show (((j - 1).toNat : Nat) : Int) + 1 = j by omega, has_or, has_bitN]
        simp; omega
    show (missS I (s.must ||| bitN j)).length + (I.c - s.car).toNat < _
    omega

/-! ### Nodes whose paths can be followed -/
def GoodN (I : Ins) (n : Nod) : Prop := followS I n.path = some (n.s, n.cost)
theorem inv_fits {I : Ins} {D : List (List Int)} {r : List Int} {s : Sta} {c : Int} {ts : TS} (h : InvR I D r s c ts) : Fits64 s ∧ NumOk s := by
  have hb := goE_bds (fine_of h.mayI) _ _ h.go
  have hg := h.goOn
  refine ⟨⟨by rw [h.seen]; exact ofN_lt _, by rw [h.same, h.seen]; exact ofN_lt _, h.onlt⟩, hg.2.2.1.1, hg.2.2.2.1.1, hg.2.2.2.2.1⟩
theorem good_fits {I : Ins} (hm : mayB I = true) {n : Nod} (h : GoodN I n) : Fits64 n.s ∧ NumOk n.s := by
  obtain ⟨⟨ts, hi⟩, _⟩ := follow_inv hm _ _ _ h
  exact inv_fits hi
theorem cost_bd {I : Ins} (hm : mayB I = true) {t : List Int} {s : Sta} {c : Int} (h : followS I t = some (s, c)) : c ≤ 100000000 := by
  obtain ⟨⟨ts, hi⟩, _⟩ := follow_inv hm t s c h
  have h1 := (farS_bds _ ((firstE_zero I _).2 hi.done)).2
  have h2 := (goE_bds (fine_of hm) _ _ hi.go).2.1.2
  have h3 := goE_len (fine_of hm) hi.go
  have h4 := hi.car
  have h5 := hi.carc
  have h6 := (inb_iff _ _ _).1 ((may_iff I).1 hm).2.1
  have := hi.cost
  omega
theorem good_child {I : Ins} (hm : mayB I = true) {n : Nod} (h : GoodN I n) {j : Int} (hc : Can I n.s j) : GoodN I (childN I n j) := by
  have h1 := cost_nn hm h
  have h2 := cost_bd hm h
  have h3 := far_bd1 I n.s j
  unfold GoodN
  show followS I (n.path ++ [j]) = some (nextS I n.s j, sumOf [n.cost, farS1 I n.s j])
  rw [follow_more h hc, sum_add h1 h3.1 (by omega)]
theorem good_end {I : Ins} (hm : mayB I = true) {n : Nod} (h : GoodN I n) : (endN I n).cost = n.cost + endC I n.s := by
  have h1 := cost_nn hm h
  have h2 := cost_bd hm h
  have h3 := endC_bd I n.s
  show sumOf [n.cost, endC I n.s] = _
  exact sum_add h1 h3.1 (by omega)
theorem expand_good {I : Ins} (hm : mayB I = true) {l : List Nod} (h : ∀ x ∈ l, GoodN I x) {up : Int} : ∀ x ∈ expandL I up l, GoodN I x := fun x hx => by
  obtain ⟨⟨n, hn, j, hj, rfl⟩, _⟩ := expand_mem hx
  exact good_child hm (h n hn) hj
theorem expand_rank {I : Ins} {l : List Nod} {f : Nat} (h : ∀ x ∈ l, rankS I x.s < f + 1) {up : Int} : ∀ x ∈ expandL I up l, rankS I x.s < f := fun x hx => by
  obtain ⟨⟨n, hn, j, hj, rfl⟩, _⟩ := expand_mem hx
  have h1 := rank_less hj
  have h2 := h n hn
  show rankS I (nextS I n.s j) < f
  omega
theorem front_sub {l : List Nod} {x : Nod} (h : x ∈ frontL l) : x ∈ l := by
  obtain ⟨k, hk, _, rfl⟩ := mem_front.1 h
  exact nodAt_mem hk

/-! ### Level by level -/
def stepUp (b : Option Nod) (up : Int) (e : Option Nod) : Option Nod × Int := match e with | some n => if n.cost < up then (some n, n.cost) else (b, up) | none => (b, up)
def exactRun (I : Ins) (most : Int) : Nat → List Nod → Option Nod → Int → Int → Option Nod × Bool × Int
  | _, [], b, _, st => (b, true, st)
  | 0, _ :: _, b, _, st => (b, true, st)
  | f + 1, n :: l, b, up, st => if most < (((n :: l).length : Nat) : Int) then (b, false, st) else exactRun I most f (frontL (expandL I up (n :: l))) (stepUp b up (bestL I (n :: l))).1 (stepUp b up (bestL I (n :: l))).2 (st + (((n :: l).length : Nat) : Int))
/-- The bound that goes with what was found. -/
def upOf (lim : Int) : Option Nod → Int
  | none => lim
  | some n => n.cost
/-- What was found is a way, and costs less than the bound. -/
def FoundOk (I : Ins) (lim : Int) : Option Nod → Prop
  | none => True
  | some n => ∃ c, followS I n.path = some (n.s, c) ∧ EndS I n.s ∧ n.cost = c + endC I n.s ∧ n.cost < lim
theorem stepUp_up {lim : Int} {b e : Option Nod} : (stepUp b (upOf lim b) e).2 = upOf lim (stepUp b (upOf lim b) e).1 := by
  unfold stepUp
  cases e with
  | none => rfl
  | some n =>
    simp only
    split
    · rfl
    · rfl
theorem stepUp_le {b e : Option Nod} {up : Int} : (stepUp b up e).2 ≤ up := by
  unfold stepUp
  cases e with
  | none => exact Int.le_refl _
  | some n =>
    simp only
    split
    · next h => exact Int.le_of_lt h
    · exact Int.le_refl _
theorem stepUp_some {b : Option Nod} {n : Nod} {up : Int} : (stepUp b up (some n)).2 ≤ n.cost := by
  unfold stepUp
  simp only
  split
  · exact Int.le_refl _
  · next h => simp only; omega
theorem upOf_le {I : Ins} {lim : Int} {b : Option Nod} (h : FoundOk I lim b) : upOf lim b ≤ lim := by
  cases b with
  | none => exact Int.le_refl _
  | some n => obtain ⟨_, _, _, _, h⟩ := h; exact Int.le_of_lt h
theorem found_step {I : Ins} (hm : mayB I = true) {lim : Int} {b : Option Nod} (h : FoundOk I lim b) {l : List Nod} (hl : ∀ x ∈ l, GoodN I x) : FoundOk I lim (stepUp b (upOf lim b) (bestL I l)).1 := by
  unfold stepUp
  cases he : bestL I l with
  | none => exact h
  | some e =>
    simp only
    split
    · next hlt =>
      obtain ⟨⟨n, hn, h1, h2⟩, _⟩ := (best_is l).2 e he
      have hle := upOf_le h
      refine ⟨n.cost, ?_, ?_, ?_, by omega⟩
      · rw [h2]; exact hl n hn
      · rw [h2]; exact h1
      · rw [h2]; exact good_end hm (hl n hn)
    · exact h
/-- Each way that ends at less than the bound goes on from a node of the level that can do all that it can, for no more. -/
def Ways (I : Ins) (l : List Nod) (up : Int) (k : Nat) : Prop := ∀ t s c, followS I t = some (s, c) → EndS I s → c + endC I s < up →
  k ≤ t.length ∧ ∃ s1 c1, followS I (t.take k) = some (s1, c1) ∧ ∃ y ∈ l, (y.s = s1 ∨ I.p ≠ 0) ∧ Covers y.s s1 ∧ y.cost ≤ c1
theorem fits_follow {I : Ins} (hm : mayB I = true) {t : List Int} {s : Sta} {c : Int} (h : followS I t = some (s, c)) : Fits64 s := by
  obtain ⟨⟨ts, hi⟩, _⟩ := follow_inv hm _ _ _ h
  exact (inv_fits hi).1
/-- What is behind a level's expansion, before any are left out. -/
theorem ways_kids {I : Ins} (hm : mayB I = true) {l : List Nod} (hl : ∀ x ∈ l, GoodN I x) {b : Option Nod} {up : Int} {k : Nat} (h : Ways I l up k) {t : List Int} {s : Sta} {c : Int} (ht : followS I t = some (s, c)) (he : EndS I s)
    (hu : c + endC I s < (stepUp b up (bestL I l)).2) : k + 1 ≤ t.length ∧ ∃ s2 c2, followS I (t.take (k + 1)) = some (s2, c2) ∧ I.p ≠ 0 ∧ ∃ z ∈ expandL I up l, Covers z.s s2 ∧ z.cost ≤ c2 := by
  have hle := stepUp_le (b := b) (e := bestL I l) (up := up)
  obtain ⟨hk, s1, c1, h1, y, hy, hor, hcov, hcost⟩ := h t s c ht he (by omega)
  have hyg := hl y hy
  obtain ⟨yf, yn⟩ := good_fits hm hyg
  have yc := cost_nn hm hyg
  have sf := fits_follow hm h1
  by_cases hkt : k = t.length
  · exfalso
    rw [hkt, List.take_length, ht] at h1
    simp only [Option.some.injEq, Prod.mk.injEq] at h1
    obtain ⟨rfl, rfl⟩ := h1
    have hend : EndS I y.s ∧ endC I y.s = endC I s := by
      rcases hor with e | hp
      · rw [e]; exact ⟨he, rfl⟩
      · exact covers_end yf sf hcov yn hp he
    have e1 := good_end hm hyg
    cases hb : bestL I l with
    | none => exact (best_is l).1.1 hb y hy hend.1
    | some e =>
      have h2 := ((best_is l).2 e hb).2 y hy hend.1
      rw [hb] at hu
      have h3 := stepUp_some (b := b) (n := e) (up := up)
      rw [hend.2] at e1
      omega
  · have hklt : k < t.length := by omega
    obtain ⟨s2, c2, h2, h3⟩ := bound_all hm ht he (k + 1)
    refine ⟨by omega, s2, c2, h2, ?_⟩
    have h4 := h2
    rw [take_snoc hklt] at h4
    obtain ⟨s0, c0, h5, h6, rfl, rfl⟩ := follow_step h4
    rw [h1] at h5
    simp only [Option.some.injEq, Prod.mk.injEq] at h5
    obtain ⟨rfl, rfl⟩ := h5
    have hcan : Can I y.s (t.getD k 0) := by
      rcases hor with e | _
      · rw [e]; exact h6
      · exact covers_can yf sf hcov yn h6
    have hfar : farS1 I y.s (t.getD k 0) = farS1 I s1 (t.getD k 0) := (covers_beg hcov _).2.2
    have hfp := far_bd1 I y.s (t.getD k 0)
    have hnc := covers_next (I := I) yf sf hcov (t.getD k 0)
    have hbc := bound_covers (I := I) (fits_next sf _) hnc
    have hsl := sum_le yc hfp.1
    have hz : childN I y (t.getD k 0) ∈ kidsL I up l := by
      refine mem_kids.2 ⟨⟨y, hy, _, hcan, rfl⟩, ?_⟩
      have := sum_le (sum_nn y.cost (farS1 I y.s (t.getD k 0))) (bound_pos I (nextS I y.s (t.getD k 0)))
      show sumOf [sumOf [y.cost, farS1 I y.s (t.getD k 0)], boundS I (nextS I y.s (t.getD k 0))] < up
      omega
    obtain ⟨z, z1, z2, z3⟩ := once_has _ hz
    refine ⟨can_p h6, z, z1, ?_, ?_⟩
    · rw [z2]; exact hnc
    · have : (childN I y (t.getD k 0)).cost = sumOf [y.cost, farS1 I y.s (t.getD k 0)] := rfl
      omega
theorem nod_mem {l : List Nod} {x : Nod} (h : x ∈ l) : ∃ k, k < l.length ∧ nodAt l k = x := by
  obtain ⟨k, hk, he⟩ := List.getElem_of_mem h
  exact ⟨k, hk, by unfold nodAt; rw [List.getD_eq_getElem?_getD, List.getElem?_eq_getElem hk]; exact he⟩
theorem ways_front {I : Ins} (hm : mayB I = true) {l : List Nod} (hl : ∀ x ∈ l, GoodN I x) {b : Option Nod} {up : Int} {k : Nat} (h : Ways I l up k) : Ways I (frontL (expandL I up l)) (stepUp b up (bestL I l)).2 (k + 1) := by
  intro t s c ht he hu
  obtain ⟨h1, s2, c2, h2, hp, z, z1, z2, z3⟩ := ways_kids hm hl h ht he hu
  have hg := expand_good hm hl (up := up)
  obtain ⟨q, hq, rfl⟩ := nod_mem z1
  obtain ⟨f, f1, f2⟩ := front_all (fun x hx => (good_fits hm (hg x hx)).1) hq
  refine ⟨h1, s2, c2, h2, f, f1, .inr hp, ?_, Int.le_trans f2.2.2.2.2 z3⟩
  exact covers_trans (good_fits hm (hg f (front_sub f1))).1 (good_fits hm (hg _ (nodAt_mem hq))).1 (fits_follow hm h2) f2.2.2.2.1 z2
/-- What a whole look comes to. -/
theorem exact_spec {I : Ins} (hm : mayB I = true) {most lim : Int} : ∀ (f : Nat) (l : List Nod) (b : Option Nod) (st : Int) (k : Nat), (∀ x ∈ l, rankS I x.s < f) → (∀ x ∈ l, GoodN I x) → FoundOk I lim b → Ways I l (upOf lim b) k →
    FoundOk I lim (exactRun I most f l b (upOf lim b) st).1 ∧ ((exactRun I most f l b (upOf lim b) st).2.1 = true → ∀ t s c, followS I t = some (s, c) → EndS I s → upOf lim (exactRun I most f l b (upOf lim b) st).1 ≤ c + endC I s)
  | f, [], b, st, k, _, _, hb, hw => by
    have e : exactRun I most f [] b (upOf lim b) st = (b, true, st) := by cases f <;> rfl
    rw [e]
    refine ⟨hb, fun _ t s c ht he => Int.not_lt.1 (fun hlt => ?_)⟩
    obtain ⟨_, _, _, _, y, hy, _⟩ := hw t s c ht he hlt
    cases hy
  | 0, n :: l, _, _, _, hr, _, _, _ => absurd (hr n (by simp)) (Nat.not_lt_zero _)
  | f + 1, n :: l, b, st, k, hr, hg, hb, hw => by
    rw [exactRun]
    split
    · exact ⟨hb, fun h => by cases h⟩
    · rw [stepUp_up]
      refine exact_spec hm f _ _ _ (k + 1) (fun x hx => expand_rank hr x (front_sub hx)) (fun x hx => expand_good hm hg x (front_sub hx)) (found_step hm hb hg) ?_
      rw [← stepUp_up]
      exact ways_front hm hg hw
def rootN' (I : Ins) : Nod := ⟨rootS I, 0, []⟩
theorem good_root (I : Ins) : GoodN I (rootN' I) := follow_nil I
theorem ways_root {I : Ins} (hm : mayB I = true) (up : Int) : Ways I [rootN' I] up 0 := fun t s c _ _ _ =>
  ⟨Nat.zero_le _, rootS I, 0, rfl, rootN' I, by simp, .inl rfl, covers_refl (good_fits hm (good_root I)).1, Int.le_refl _⟩
/-- From the beginning. -/
theorem exact_root {I : Ins} (hm : mayB I = true) {most lim : Int} {f : Nat} (hf : rankS I (rootS I) < f) :
    FoundOk I lim (exactRun I most f [rootN' I] none lim 0).1 ∧ ((exactRun I most f [rootN' I] none lim 0).2.1 = true → ∀ t s c, followS I t = some (s, c) → EndS I s → upOf lim (exactRun I most f [rootN' I] none lim 0).1 ≤ c + endC I s) :=
  exact_spec hm f [rootN' I] none 0 0 (fun x hx => by rw [List.mem_singleton.1 hx]; exact hf) (fun x hx => by rw [List.mem_singleton.1 hx]; exact good_root I) trivial (ways_root hm lim)
end Go.Proofs.YtgplajofemencaaGreat
/- More nodes on a level; how many nodes a level may have; each way alone: plain mathematics. -/
namespace Go.Proofs.YtgplajofemencaaGreat

/-! ### More nodes on a level -/
/-! ### How many nodes a level may have -/
theorem cutP_mem (t : List Int) : ∀ x : Int, 0 < x → (x ∈ t ↔ x ∈ (cutP t).1.flatten ++ (cutP t).2) := by
  refine snoc_ind (P := fun t => ∀ x : Int, 0 < x → (x ∈ t ↔ x ∈ (cutP t).1.flatten ++ (cutP t).2)) (fun x _ => by simp [cutP]) ?_ t
  intro t j ih x hx
  have h := ih x hx
  rw [cutP_snoc]
  unfold cutStep
  by_cases hj : 0 < j
  · rw [if_pos hj]
    simp only [List.mem_append] at h ⊢
    rw [h, or_assoc]
  · rw [if_neg hj]
    simp only [List.mem_append, flat_snoc, List.mem_singleton, List.not_mem_nil, or_false] at h ⊢
    rw [h]
    constructor
    · rintro (h | h)
      · exact h
      · omega
    · exact .inl
theorem follow_pos {I : Ins} {t : List Int} {s : Sta} {c : Int} (hm : mayB I = true) (h : followS I t = some (s, c)) : s.pos = t.getLastD 0 := by
  rcases List.eq_nil_or_concat t with rfl | ⟨a, j, rfl⟩
  · rw [follow_nil] at h
    simp only [Option.some.injEq, Prod.mk.injEq] at h
    rw [← h.1, root_may hm]; rfl
  · rw [List.concat_eq_append] at h ⊢
    obtain ⟨s0, c0, _, h2, rfl, _⟩ := follow_step h
    rw [(next_known h2).1]; simp
/-- What may come next, by what has come alone. -/
def candB (p : Nat) (t : List Int) (j : Nat) : Bool :=
  if j = 0 then decide (t.getLastD 0 ≠ 0) && (List.range p).all (fun i => !t.contains ((i : Int) + 1) || t.contains ((i : Int) + 1 + p)) && (List.range (2 * p)).any (fun i => !t.contains ((i : Int) + 1))
  else !t.contains (j : Int) && (decide (j ≤ p) || (decide (t.getLastD 0 ≠ 0) && t.contains ((j : Int) - p)))
def pathsC (p : Nat) : Nat → List (List Int)
  | 0 => [[]]
  | k + 1 => (pathsC p k).flatMap (fun t => ((List.range (2 * p + 1)).filter (candB p t)).map (fun j : Nat => t ++ [(j : Int)]))
theorem path_in {I : Ins} (hm : mayB I = true) (t : List Int) : ∀ s c, followS I t = some (s, c) → t ∈ pathsC I.p.toNat t.length := by
  have hf := fine_of hm
  have hp0 := hf.p0
  have hp1 := hf.p1
  refine snoc_ind (P := fun t => ∀ s c, followS I t = some (s, c) → t ∈ pathsC I.p.toNat t.length) (fun _ _ _ => by simp [pathsC]) ?_ t
  intro t j ih s c h
  obtain ⟨s0, c0, h1, h2, rfl, rfl⟩ := follow_step h
  have hin := ih s0 c0 h1
  obtain ⟨⟨ts, hi⟩, _⟩ := follow_inv hm t s0 c0 h1
  have hpos := follow_pos hm h1
  have hr := can_rng h2
  have hmem : ∀ x : Int, 1 ≤ x → x ≤ 2 * I.p → (has s0.must x = true ↔ x ∈ t) := fun x h3 h4 => by
    rw [hi.has_must (by omega) (by omega), ← cutP_mem t x (by omega)]
  rw [List.length_append, List.length_singleton, pathsC, List.mem_flatMap]
  refine ⟨t, hin, List.mem_map.2 ⟨j.toNat, List.mem_filter.2 ⟨List.mem_range.2 (by omega), ?_⟩, by rw [show ((j.toNat : Nat) : Int) = j by omega]⟩⟩
  unfold candB
  by_cases hj : j = 0
  · subst hj
    rw [if_pos (show Int.toNat 0 = 0 from rfl), ← hpos]
    obtain ⟨_, a1, a2, a3, a4, a5⟩ := can_zero h2
    rw [Bool.and_eq_true, Bool.and_eq_true]
    refine ⟨⟨decide_eq_true a1, List.all_eq_true.2 (fun i hi2 => ?_)⟩, ?_⟩
    · have hil := List.mem_range.1 hi2
      rw [show ((I.p.toNat : Nat) : Int) = I.p by omega]
      rw [Bool.or_eq_true, Bool.not_eq_true']
      by_cases hc : t.contains ((i : Int) + 1) = true
      · right
        have h3 : ((i : Int) + 1) ∈ t := by simpa using hc
        have h4 := (cutP_mem t _ (by omega)).1 h3
        have h5 : ((i : Int) + 1 + I.p) ∈ t := by
          refine (cutP_mem t _ (by omega)).2 ?_
          rcases List.mem_append.1 h4 with h6 | h6
          · obtain ⟨l, hl, hil2⟩ := List.mem_flatten.1 h6
            exact List.mem_append.2 (.inl (List.mem_flatten.2 ⟨l, hl, (hi.closed hl).2 _ hil2 (by omega)⟩))
          · refine List.mem_append.2 (.inr (Decidable.byContradiction (fun hn => ?_)))
            have := (hi.on ((i : Int) + 1)).2 ⟨by omega, by omega, h6, hn⟩
            rw [a2, has_zero] at this; cases this
        simpa using h5
      · left; simpa using hc
    · refine Decidable.byContradiction (fun hn => ?_)
      rw [Bool.not_eq_true, List.any_eq_false] at hn
      have : within (allS I) s0.must = true := (within_all hm).2 (fun i h3 h4 => by
        have := hn (i - 1).toNat (List.mem_range.2 (by omega))
        rw [show (((i - 1).toNat : Nat) : Int) + 1 = i by omega] at this
        refine (hmem i h3 h4).2 ?_
        simpa using this)
      rw [this] at a4; cases a4
  · obtain ⟨hc, h3, h4⟩ := can_pos h2 hj
    have hmust : has s0.must j = false := by rcases hc with hc | hc; exact hc.2.1; exact hc.2.2.1
    have hnt : j ∉ t := fun hx => by rw [(hmem j h3 h4).2 hx] at hmust; cases hmust
    rw [if_neg (by omega), show ((j.toNat : Nat) : Int) = j by omega, Bool.and_eq_true, Bool.not_eq_true']
    refine ⟨by simpa using hnt, ?_⟩
    rw [Bool.or_eq_true, decide_eq_true_eq, Bool.and_eq_true]
    by_cases hjp : j ≤ I.p
    · left; omega
    · right
      rcases hc with hc | hc
      · have := hc.1; omega
      · refine ⟨decide_eq_true (by rw [← hpos]; exact hc.2.1), ?_⟩
        rw [show ((I.p.toNat : Nat) : Int) = I.p by omega]
        have h5 := hc.2.2.2.1
        rw [hi.same] at h5
        have := (hmem (j - I.p) (by omega) (by omega)).1 h5
        simpa using this
theorem paths_none {p k : Nat} (h : pathsC p k = []) : ∀ m, pathsC p (k + m) = []
  | 0 => h
  | m + 1 => by
    rw [← Nat.add_assoc, pathsC, paths_none h m]; rfl
theorem paths_two : ∀ p : Fin 3, ∀ k : Fin 7, (pathsC p.val k.val).length ≤ 1000 := by decide +kernel
theorem paths_two_end : ∀ p : Fin 3, pathsC p.val 7 = [] := by decide +kernel
theorem paths_three : ∀ k : Fin 10, (pathsC 3 k.val).length ≤ 1000 := by decide +kernel
theorem paths_three_end : pathsC 3 10 = [] := by decide +kernel
theorem paths_few {p : Nat} (hp : p ≤ 3) (k : Nat) : (pathsC p k).length ≤ 1000 := by
  rcases Nat.lt_or_ge p 3 with h | h
  · rcases Nat.lt_or_ge k 7 with hk | hk
    · exact paths_two ⟨p, h⟩ ⟨k, hk⟩
    · have := paths_none (paths_two_end ⟨p, h⟩) (k - 7)
      rw [show 7 + (k - 7) = k by omega] at this
      simp only at this
      rw [this]; exact Nat.zero_le _
  · obtain rfl : p = 3 := by omega
    rcases Nat.lt_or_ge k 10 with hk | hk
    · exact paths_three ⟨k, hk⟩
    · have := paths_none paths_three_end (k - 10)
      rw [show 10 + (k - 10) = k by omega] at this
      rw [this]; exact Nat.zero_le _
theorem front_sublist (l : List Nod) : (frontL l).Sublist l := by
  have h : ((List.range l.length).filter (fun k => decide (Stays l k))).Sublist (List.range l.length) := List.filter_sublist
  have h2 := h.map (nodAt l)
  have e : (List.range l.length).map (nodAt l) = l := by
    refine List.ext_getElem (by simp) (fun i h1 h2 => ?_)
    simp [nodAt, List.getD_eq_getElem?_getD, h2]
  rw [e] at h2
  exact h2
/-- The nodes of a level: their paths can be followed, have so many moves, and their states differ. -/
structure LevelOk (I : Ins) (k : Nat) (l : List Nod) : Prop where
  good : ∀ x ∈ l, GoodN I x
  len : ∀ x ∈ l, x.path.length = k
  apart : l.Pairwise (fun a b => a.s ≠ b.s)
theorem level_expand {I : Ins} (hm : mayB I = true) {k : Nat} {l : List Nod} (h : LevelOk I k l) (up : Int) : LevelOk I (k + 1) (expandL I up l) :=
  ⟨expand_good hm h.good, fun x hx => by
    obtain ⟨⟨n, hn, j, hj, rfl⟩, _⟩ := expand_mem hx
    show (n.path ++ [j]).length = k + 1
    rw [List.length_append, h.len n hn]; rfl, once_apart _⟩
theorem level_sub {I : Ins} {k : Nat} {l m : List Nod} (h : LevelOk I k l) (hs : m.Sublist l) : LevelOk I k m :=
  ⟨fun x hx => h.good x (hs.subset hx), fun x hx => h.len x (hs.subset hx), h.apart.sublist hs⟩
theorem level_front {I : Ins} {k : Nat} {l : List Nod} (h : LevelOk I k l) : LevelOk I k (frontL l) := level_sub h (front_sublist l)
theorem level_root (I : Ins) : LevelOk I 0 [rootN' I] := ⟨fun x hx => by rw [List.mem_singleton.1 hx]; exact good_root I, fun x hx => by rw [List.mem_singleton.1 hx]; rfl, by simp⟩
theorem level_few {I : Ins} (hm : mayB I = true) {k : Nat} {l : List Nod} (h : LevelOk I k l) : l.length ≤ (pathsC I.p.toNat k).length := by
  have := sub_lenG (R := l.map (·.path)) (D := pathsC I.p.toNat k) (by
    refine List.Pairwise.map _ (fun a b (hab : a.path ≠ b.path) => hab) (h.apart.imp_of_mem (fun {a b} ha hb hne e => hne ?_))
    have h1 := h.good a ha
    have h2 := h.good b hb
    unfold GoodN at h1 h2
    rw [e, h2] at h1
    simp only [Option.some.injEq, Prod.mk.injEq] at h1
    exact h1.1.symm) (fun x hx => by
    obtain ⟨n, hn, rfl⟩ := List.mem_map.1 hx
    have := path_in hm n.path _ _ (h.good n hn)
    rwa [h.len n hn] at this)
  simpa using this
/-- With at most three pairs all is looked at, if a level may have a thousand nodes. -/
theorem run_all {I : Ins} (hm : mayB I = true) (hp : I.p ≤ 3) {most : Int} (h : 1000 ≤ most) : ∀ (f : Nat) (l : List Nod) (b : Option Nod) (up st : Int) (k : Nat), LevelOk I k l → (exactRun I most f l b up st).2.1 = true
  | f, [], b, up, st, _, _ => by cases f <;> rfl
  | 0, _ :: _, _, _, _, _, _ => rfl
  | f + 1, n :: l, b, up, st, k, hl => by
    have h1 := level_few hm hl
    have h2 := paths_few (p := I.p.toNat) (by omega) k
    rw [exactRun, if_neg (by omega)]
    exact run_all hm hp h f _ _ _ _ (k + 1) (level_front (level_expand hm hl up))
end Go.Proofs.YtgplajofemencaaGreat
/- Each way alone: plain mathematics. -/
namespace Go.Proofs.YtgplajofemencaaGreat

theorem follow_rank {I : Ins} {t : List Int} : ∀ {s : Sta} {c : Int}, followS I t = some (s, c) → t.length + rankS I s ≤ rankS I (rootS I) := by
  refine snoc_ind (P := fun t => ∀ {s : Sta} {c : Int}, followS I t = some (s, c) → t.length + rankS I s ≤ rankS I (rootS I)) ?_ ?_ t
  · intro s c h
    rw [follow_nil] at h
    simp only [Option.some.injEq, Prod.mk.injEq] at h
    rw [h.1]; simp
  · intro t j ih s c h
    obtain ⟨s0, c0, h1, h2, rfl, _⟩ := follow_step h
    have := ih h1
    have := rank_less h2
    simp; omega
theorem rank_root {I : Ins} (hm : mayB I = true) : (rankS I (rootS I) : Int) = 2 * I.p + I.c - 1 := by
  have hp := (fine_of hm).p0
  have hc := (inb_iff _ _ _).1 ((may_iff I).1 hm).2.1
  have : missS I 0 = List.range (2 * I.p).toNat := by
    unfold missS
    rw [List.filter_eq_self]
    intro i _
    rw [has_zero]; rfl
  unfold rankS
  rw [root_may hm]
  show (((missS I 0).length + (I.c - 1).toNat : Nat) : Int) = _
  rw [this, List.length_range]
  omega
end Go.Proofs.YtgplajofemencaaGreat
/- Looking at few: plain mathematics. -/
namespace Go.Proofs.YtgplajofemencaaGreat

/-- Level by level, each cut. -/
def narrowRun (I : Ins) (width : Nat) : Nat → List Nod → Option Nod → Int → Int → Option Nod × Int
  | _, [], b, _, st => (b, st)
  | 0, _ :: _, b, _, st => (b, st)
  | f + 1, n :: l, b, up, st => narrowRun I width f ((sortedL I (expandL I up (n :: l))).take width) (stepUp b up (bestL I (n :: l))).1 (stepUp b up (bestL I (n :: l))).2 (st + (((n :: l).length : Nat) : Int))
theorem cut_mem {I : Ins} {w : Nat} {l : List Nod} {x : Nod} (h : x ∈ (sortedL I l).take w) : x ∈ l := (sortG_perm _ l).mem_iff.1 (List.mem_of_mem_take h)
theorem narrow_fuel {I : Ins} {w : Nat} : ∀ (f g : Nat) (l : List Nod) (b : Option Nod) (up st : Int), (∀ x ∈ l, rankS I x.s < f) → f ≤ g → narrowRun I w g l b up st = narrowRun I w f l b up st
  | f, g, [], b, up, st, _, _ => by cases f <;> cases g <;> rfl
  | 0, _, n :: l, _, _, _, h, _ => absurd (h n (by simp)) (Nat.not_lt_zero _)
  | f + 1, 0, _ :: _, _, _, _, _, hg => absurd hg (by omega)
  | f + 1, g + 1, n :: l, b, up, st, h, hg => by
    rw [narrowRun, narrowRun]
    exact narrow_fuel f g _ _ _ _ (fun x hx => expand_rank h x (cut_mem hx)) (by omega)
/-- What is found is a way that can be ended, and costs less than the bound. -/
theorem narrow_found {I : Ins} (hm : mayB I = true) {w : Nat} {lim : Int} : ∀ (f : Nat) (l : List Nod) (b : Option Nod) (st : Int), (∀ x ∈ l, GoodN I x) → FoundOk I lim b → FoundOk I lim (narrowRun I w f l b (upOf lim b) st).1
  | f, [], b, st, _, hb => by
    have e : narrowRun I w f [] b (upOf lim b) st = (b, st) := by cases f <;> rfl
    rw [e]; exact hb
  | 0, _ :: _, _, _, _, hb => hb
  | f + 1, n :: l, b, st, hg, hb => by
    rw [narrowRun, stepUp_up]
    exact narrow_found hm f _ _ _ (fun x hx => expand_good hm hg x (cut_mem hx)) (found_step hm hb hg)
/-- No more steps than so many levels of so many nodes. -/
theorem narrow_steps {I : Ins} {w : Nat} : ∀ (f : Nat) (l : List Nod) (b : Option Nod) (up st : Int), l.length ≤ w → (narrowRun I w f l b up st).2 ≤ st + ((w * f : Nat) : Int)
  | f, [], b, up, st, _ => by
    have e : narrowRun I w f [] b up st = (b, st) := by cases f <;> rfl
    rw [e]; show st ≤ _; omega
  | 0, _ :: _, _, _, st, _ => by show st ≤ _; omega
  | f + 1, n :: l, b, up, st, hl => by
    rw [narrowRun]
    have := narrow_steps (I := I) (w := w) f ((sortedL I (expandL I up (n :: l))).take w) (stepUp b up (bestL I (n :: l))).1 (stepUp b up (bestL I (n :: l))).2 (st + (((n :: l).length : Nat) : Int)) (by rw [List.length_take]; omega)
    rw [Nat.mul_succ]
    omega
theorem narrow_first {I : Ins} {w : Nat} : ∀ (f : Nat) (l : List Nod) (b : Option Nod) (up st : Int), st ≤ (narrowRun I w f l b up st).2
  | f, [], b, up, st => by
    have e : narrowRun I w f [] b up st = (b, st) := by cases f <;> rfl
    rw [e]; exact Int.le_refl _
  | 0, _ :: _, _, _, st => Int.le_refl _
  | f + 1, n :: l, b, up, st => by
    rw [narrowRun]
    have := narrow_first (I := I) (w := w) f ((sortedL I (expandL I up (n :: l))).take w) (stepUp b up (bestL I (n :: l))).1 (stepUp b up (bestL I (n :: l))).2 (st + (((n :: l).length : Nat) : Int))
    omega
/-- From the beginning: at least one step, no more than one and as many levels as may be of so many nodes. -/
theorem narrow_root_steps {I : Ins} (hm : mayB I = true) {w f : Nat} (hf : rankS I (rootS I) < f) {up : Int} : 1 ≤ (narrowRun I w f [rootN' I] none up 0).2 ∧ (narrowRun I w f [rootN' I] none up 0).2 ≤ 1 + (w : Int) * (2 * I.p + I.c - 1) := by
  have hr := rank_root hm
  have e : narrowRun I w f [rootN' I] none up 0 = narrowRun I w (rankS I (rootS I) + 1) [rootN' I] none up 0 := narrow_fuel _ _ _ _ _ _ (fun x hx => by rw [List.mem_singleton.1 hx]; exact Nat.lt_succ_self _) (by omega)
  rw [e, narrowRun]
  have h1 := narrow_first (I := I) (w := w) (rankS I (rootS I)) ((sortedL I (expandL I up [rootN' I])).take w) (stepUp none up (bestL I [rootN' I])).1 (stepUp none up (bestL I [rootN' I])).2 (0 + (([rootN' I].length : Nat) : Int))
  have h2 := narrow_steps (I := I) (w := w) (rankS I (rootS I)) ((sortedL I (expandL I up [rootN' I])).take w) (stepUp none up (bestL I [rootN' I])).1 (stepUp none up (bestL I [rootN' I])).2 (0 + (([rootN' I].length : Nat) : Int)) (by rw [List.length_take]; omega)
  have h3 : ((w * rankS I (rootS I) : Nat) : Int) = (w : Int) * (2 * I.p + I.c - 1) := by rw [Int.natCast_mul, hr]
  simp only [List.length_singleton] at h1 h2 ⊢
  omega
/-- Where no level is cut nothing is lost. -/
theorem narrow_all {I : Ins} (hm : mayB I = true) {w : Nat} (hw : ∀ k, (pathsC I.p.toNat k).length ≤ w) {lim : Int} : ∀ (f : Nat) (l : List Nod) (b : Option Nod) (st : Int) (k : Nat), (∀ x ∈ l, rankS I x.s < f) → LevelOk I k l → FoundOk I lim b → Ways I l (upOf lim b) k →
    ∀ t s c, followS I t = some (s, c) → EndS I s → upOf lim (narrowRun I w f l b (upOf lim b) st).1 ≤ c + endC I s
  | f, [], b, st, k, _, _, _, hwa => by
    have e : narrowRun I w f [] b (upOf lim b) st = (b, st) := by cases f <;> rfl
    rw [e]
    refine fun t s c ht he => Int.not_lt.1 (fun hlt => ?_)
    obtain ⟨_, _, _, _, y, hy, _⟩ := hwa t s c ht he hlt
    cases hy
  | 0, n :: l, _, _, _, hr, _, _, _ => absurd (hr n (by simp)) (Nat.not_lt_zero _)
  | f + 1, n :: l, b, st, k, hr, hg, hb, hwa => by
    rw [narrowRun, stepUp_up]
    have hlev := level_expand hm hg (upOf lim b)
    have hlen : (sortedL I (expandL I (upOf lim b) (n :: l))).length ≤ w := by
      rw [sorted_len]
      exact Nat.le_trans (level_few hm hlev) (hw _)
    have hcut : (sortedL I (expandL I (upOf lim b) (n :: l))).take w = sortedL I (expandL I (upOf lim b) (n :: l)) := List.take_of_length_le hlen
    have hperm := sortG_perm (ofB I) (expandL I (upOf lim b) (n :: l))
    rw [hcut]
    refine narrow_all hm hw f _ _ _ (k + 1) (fun x hx => expand_rank hr x (hperm.mem_iff.1 hx)) ⟨fun x hx => hlev.good x (hperm.mem_iff.1 hx), fun x hx => hlev.len x (hperm.mem_iff.1 hx), (hperm.pairwise_iff (fun {a b} h => Ne.symm h)).2 hlev.apart⟩ (found_step hm hb hg.good) ?_
    rw [← stepUp_up]
    intro t s c ht he hu
    obtain ⟨h1, s2, c2, h2, hp, z, z1, z2, z3⟩ := ways_kids hm hg.good hwa ht he hu
    exact ⟨h1, s2, c2, h2, z, hperm.mem_iff.2 z1, .inr hp, z2, z3⟩
theorem narrow_least {I : Ins} (hm : mayB I = true) {w f : Nat} (hf : rankS I (rootS I) < f) (hw : ∀ k, (pathsC I.p.toNat k).length ≤ w) {lim : Int} : ∀ t s c, followS I t = some (s, c) → EndS I s → upOf lim (narrowRun I w f [rootN' I] none lim 0).1 ≤ c + endC I s :=
  narrow_all hm hw f [rootN' I] none 0 0 (fun x hx => by rw [List.mem_singleton.1 hx]; exact hf) (level_root I) trivial (ways_root hm lim)
theorem narrow_ok {I : Ins} (hm : mayB I = true) {w f : Nat} {lim : Int} : FoundOk I lim (narrowRun I w f [rootN' I] none lim 0).1 := narrow_found hm f [rootN' I] none 0 (fun x hx => by rw [List.mem_singleton.1 hx]; exact good_root I) trivial
end Go.Proofs.YtgplajofemencaaGreat
