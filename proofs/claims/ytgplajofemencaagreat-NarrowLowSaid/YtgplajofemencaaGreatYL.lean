/- Looking at all levels: plain mathematics. -/
import Derived.Test.YtgplajofemencaaGreatXB
namespace Go.Proofs.YtgplajofemencaaGreat

/-! ### How many moves may follow -/
def missS (I : Ins) (m : Nat) : List Nat := (List.range (2 * I.p).toNat).filter (fun i => !has m ((i : Int) + 1))
def rankS (I : Ins) (s : Sta) : Nat := (missS I s.must).length + (I.c - s.car).toNat
theorem filter_less {α : Type} {p q : α → Bool} : ∀ {l : List α} {x : α}, (∀ y, q y = true → p y = true) → x ∈ l → p x = true → q x = false → (l.filter q).length < (l.filter p).length
  | y :: l, x, h, hx, hp, hq => by
    have hle : ∀ l : List α, (l.filter q).length ≤ (l.filter p).length := fun l => by
      induction l with
      | nil => exact Nat.le_refl _
      | cons z l ih =>
        rw [List.filter_cons, List.filter_cons]
        by_cases hz : q z = true
        · rw [if_pos hz, if_pos (h z hz)]; simp; exact ih
        · rw [if_neg hz]
          split
          · simp; omega
          · exact ih
    rw [List.filter_cons, List.filter_cons]
    rcases List.mem_cons.1 hx with rfl | hx
    · rw [if_neg (by rw [hq]; simp), if_pos hp]
      have := hle l
      simp; omega
    · have ih := filter_less h hx hp hq
      by_cases hz : q y = true
      · rw [if_pos hz, if_pos (h y hz)]; simp; exact ih
      · rw [if_neg hz]
        split
        · simp; omega
        · exact ih
theorem rank_less {I : Ins} {s : Sta} {j : Int} (h : Can I s j) : rankS I (nextS I s j) < rankS I s := by
  unfold rankS nextS
  by_cases hj : j = 0
  · rw [if_pos hj]
    subst hj
    have hc := (can_zero h).2.2.2.1
    show (missS I s.must).length + (I.c - (s.car + 1)).toNat < _
    omega
  · rw [if_neg hj]
    obtain ⟨hc, h1, h2⟩ := can_pos h hj
    have hmust : has s.must j = false := by rcases hc with hc | hc; exact hc.2.1; exact hc.2.2.1
    have hp := (fine_of h.1.1).p1
    have : (missS I (s.must ||| bitN j)).length < (missS I s.must).length := by
      refine filter_less (x := (j - 1).toNat) (fun y hy => ?_) (by simp; omega) ?_ ?_
      · rw [has_or] at hy
        cases hh : has s.must ((y : Int) + 1) with
        | false => rfl
        | true => rw [hh] at hy; simp at hy
      · rw [show (((j - 1).toNat : Nat) : Int) + 1 = j by omega, hmust]; rfl
      · rw [show (((j - 1).toNat : Nat) : Int) + 1 = j by omega, has_or, has_bitN]
        simp; omega
    show (missS I (s.must ||| bitN j)).length + (I.c - s.car).toNat < _
    omega

/-! ### Nodes whose paths can be followed -/
def GoodN (I : Ins) (n : Nod) : Prop := followS I n.path = some (n.s, n.cost)
theorem cost_bd {I : Ins} (hm : mayB I = true) {t : List Int} {s : Sta} {c : Int} (h : followS I t = some (s, c)) : c ≤ 100000000 := by
  obtain ⟨⟨ts, hi⟩, _⟩ := follow_inv hm t s c h
  have h1 := (farS_bds _ ((firstE_zero I _).2 hi.done)).2
  have h2 := (goE_bds (fine_of hm) _ _ hi.go).2.1.2
  have h3 := goE_len (fine_of hm) hi.go
  have h4 := hi.car
  have h5 := hi.carc
  have h6 := (inb_iff _ _ _).1 ((may_iff I).1 hm).2.1
  have := hi.cost
  omega
theorem good_child {I : Ins} (hm : mayB I = true) {n : Nod} (h : GoodN I n) {j : Int} (hc : Can I n.s j) : GoodN I (childN I n j) := by
  have h1 := cost_nn hm h
  have h2 := cost_bd hm h
  have h3 := far_bd1 I n.s j
  unfold GoodN
  show followS I (n.path ++ [j]) = some (nextS I n.s j, sumOf [n.cost, farS1 I n.s j])
  rw [follow_more h hc, sum_add h1 h3.1 (by omega)]
theorem good_end {I : Ins} (hm : mayB I = true) {n : Nod} (h : GoodN I n) : (endN I n).cost = n.cost + endC I n.s := by
  have h1 := cost_nn hm h
  have h2 := cost_bd hm h
  have h3 := endC_bd I n.s
  show sumOf [n.cost, endC I n.s] = _
  exact sum_add h1 h3.1 (by omega)
theorem expand_good {I : Ins} (hm : mayB I = true) {l : List Nod} (h : ∀ x ∈ l, GoodN I x) {up : Int} : ∀ x ∈ expandL I up l, GoodN I x := fun x hx => by
  obtain ⟨⟨n, hn, j, hj, rfl⟩, _⟩ := expand_mem hx
  exact good_child hm (h n hn) hj
theorem expand_rank {I : Ins} {l : List Nod} {f : Nat} (h : ∀ x ∈ l, rankS I x.s < f + 1) {up : Int} : ∀ x ∈ expandL I up l, rankS I x.s < f := fun x hx => by
  obtain ⟨⟨n, hn, j, hj, rfl⟩, _⟩ := expand_mem hx
  have h1 := rank_less hj
  have h2 := h n hn
  show rankS I (nextS I n.s j) < f
  omega
/-! ### Level by level -/
def stepUp (b : Option Nod) (up : Int) (e : Option Nod) : Option Nod × Int := match e with | some n => if n.cost < up then (some n, n.cost) else (b, up) | none => (b, up)
/-- The bound that goes with what was found. -/
def upOf (lim : Int) : Option Nod → Int
  | none => lim
  | some n => n.cost
/-- What was found is a way, and costs less than the bound. -/
def FoundOk (I : Ins) (lim : Int) : Option Nod → Prop
  | none => True
  | some n => ∃ c, followS I n.path = some (n.s, c) ∧ EndS I n.s ∧ n.cost = c + endC I n.s ∧ n.cost < lim
theorem stepUp_up {lim : Int} {b e : Option Nod} : (stepUp b (upOf lim b) e).2 = upOf lim (stepUp b (upOf lim b) e).1 := by
  unfold stepUp
  cases e with
  | none => rfl
  | some n =>
    simp only
    split
    · rfl
    · rfl
theorem upOf_le {I : Ins} {lim : Int} {b : Option Nod} (h : FoundOk I lim b) : upOf lim b ≤ lim := by
  cases b with
  | none => exact Int.le_refl _
  | some n => obtain ⟨_, _, _, _, h⟩ := h; exact Int.le_of_lt h
theorem found_step {I : Ins} (hm : mayB I = true) {lim : Int} {b : Option Nod} (h : FoundOk I lim b) {l : List Nod} (hl : ∀ x ∈ l, GoodN I x) : FoundOk I lim (stepUp b (upOf lim b) (bestL I l)).1 := by
  unfold stepUp
  cases he : bestL I l with
  | none => exact h
  | some e =>
    simp only
    split
    · next hlt =>
      obtain ⟨⟨n, hn, h1, h2⟩, _⟩ := (best_is l).2 e he
      have hle := upOf_le h
      refine ⟨n.cost, ?_, ?_, ?_, by omega⟩
      · rw [h2]; exact hl n hn
      · rw [h2]; exact h1
      · rw [h2]; exact good_end hm (hl n hn)
    · exact h
def rootN' (I : Ins) : Nod := ⟨rootS I, 0, []⟩
theorem good_root (I : Ins) : GoodN I (rootN' I) := follow_nil I
end Go.Proofs.YtgplajofemencaaGreat
/- More nodes on a level; how many nodes a level may have; each way alone: plain mathematics. -/
namespace Go.Proofs.YtgplajofemencaaGreat

/-! ### More nodes on a level -/
/-! ### How many nodes a level may have -/
/-- The nodes of a level: their paths can be followed, have so many moves, and their states differ. -/
structure LevelOk (I : Ins) (k : Nat) (l : List Nod) : Prop where
  good : ∀ x ∈ l, GoodN I x
  len : ∀ x ∈ l, x.path.length = k
  apart : l.Pairwise (fun a b => a.s ≠ b.s)
end Go.Proofs.YtgplajofemencaaGreat
/- Each way alone: plain mathematics. -/
namespace Go.Proofs.YtgplajofemencaaGreat

theorem rank_root {I : Ins} (hm : mayB I = true) : (rankS I (rootS I) : Int) = 2 * I.p + I.c - 1 := by
  have hp := (fine_of hm).p0
  have hc := (inb_iff _ _ _).1 ((may_iff I).1 hm).2.1
  have : missS I 0 = List.range (2 * I.p).toNat := by
    unfold missS
    rw [List.filter_eq_self]
    intro i _
    rw [has_zero]; rfl
  unfold rankS
  rw [root_may hm]
  show (((missS I 0).length + (I.c - 1).toNat : Nat) : Int) = _
  rw [this, List.length_range]
  omega
end Go.Proofs.YtgplajofemencaaGreat
/- Looking at few: plain mathematics. -/
namespace Go.Proofs.YtgplajofemencaaGreat

/-- Level by level, each cut. -/
def narrowRun (I : Ins) (width : Nat) : Nat → List Nod → Option Nod → Int → Int → Option Nod × Int
  | _, [], b, _, st => (b, st)
  | 0, _ :: _, b, _, st => (b, st)
  | f + 1, n :: l, b, up, st => narrowRun I width f ((sortedL I (expandL I up (n :: l))).take width) (stepUp b up (bestL I (n :: l))).1 (stepUp b up (bestL I (n :: l))).2 (st + (((n :: l).length : Nat) : Int))
theorem cut_mem {I : Ins} {w : Nat} {l : List Nod} {x : Nod} (h : x ∈ (sortedL I l).take w) : x ∈ l := (sortG_perm _ l).mem_iff.1 (List.mem_of_mem_take h)
theorem narrow_fuel {I : Ins} {w : Nat} : ∀ (f g : Nat) (l : List Nod) (b : Option Nod) (up st : Int), (∀ x ∈ l, rankS I x.s < f) → f ≤ g → narrowRun I w g l b up st = narrowRun I w f l b up st
  | f, g, [], b, up, st, _, _ => by cases f <;> cases g <;> rfl
  | 0, _, n :: l, _, _, _, h, _ => absurd (h n (by simp)) (Nat.not_lt_zero _)
  | f + 1, 0, _ :: _, _, _, _, _, hg => absurd hg (by omega)
  | f + 1, g + 1, n :: l, b, up, st, h, hg => by
    rw [narrowRun, narrowRun]
    exact narrow_fuel f g _ _ _ _ (fun x hx => expand_rank h x (cut_mem hx)) (by omega)
/-- What is found is a way that can be ended, and costs less than the bound. -/
theorem narrow_found {I : Ins} (hm : mayB I = true) {w : Nat} {lim : Int} : ∀ (f : Nat) (l : List Nod) (b : Option Nod) (st : Int), (∀ x ∈ l, GoodN I x) → FoundOk I lim b → FoundOk I lim (narrowRun I w f l b (upOf lim b) st).1
  | f, [], b, st, _, hb => by
    have e : narrowRun I w f [] b (upOf lim b) st = (b, st) := by cases f <;> rfl
    rw [e]; exact hb
  | 0, _ :: _, _, _, _, hb => hb
  | f + 1, n :: l, b, st, hg, hb => by
    rw [narrowRun, stepUp_up]
    exact narrow_found hm f _ _ _ (fun x hx => expand_good hm hg x (cut_mem hx)) (found_step hm hb hg)
/-- No more steps than so many levels of so many nodes. -/
theorem narrow_steps {I : Ins} {w : Nat} : ∀ (f : Nat) (l : List Nod) (b : Option Nod) (up st : Int), l.length ≤ w → (narrowRun I w f l b up st).2 ≤ st + ((w * f : Nat) : Int)
  | f, [], b, up, st, _ => by
    have e : narrowRun I w f [] b up st = (b, st) := by cases f <;> rfl
    rw [e]; show st ≤ _; omega
  | 0, _ :: _, _, _, st, _ => by show st ≤ _; omega
  | f + 1, n :: l, b, up, st, hl => by
    rw [narrowRun]
    have := narrow_steps (I := I) (w := w) f ((sortedL I (expandL I up (n :: l))).take w) (stepUp b up (bestL I (n :: l))).1 (stepUp b up (bestL I (n :: l))).2 (st + (((n :: l).length : Nat) : Int)) (by rw [List.length_take]; omega)
    rw [Nat.mul_succ]
    omega
theorem narrow_first {I : Ins} {w : Nat} : ∀ (f : Nat) (l : List Nod) (b : Option Nod) (up st : Int), st ≤ (narrowRun I w f l b up st).2
  | f, [], b, up, st => by
    have e : narrowRun I w f [] b up st = (b, st) := by cases f <;> rfl
    rw [e]; exact Int.le_refl _
  | 0, _ :: _, _, _, st => Int.le_refl _
  | f + 1, n :: l, b, up, st => by
    rw [narrowRun]
    have := narrow_first (I := I) (w := w) f ((sortedL I (expandL I up (n :: l))).take w) (stepUp b up (bestL I (n :: l))).1 (stepUp b up (bestL I (n :: l))).2 (st + (((n :: l).length : Nat) : Int))
    omega
/-- From the beginning: at least one step, no more than one and as many levels as may be of so many nodes. -/
theorem narrow_root_steps {I : Ins} (hm : mayB I = true) {w f : Nat} (hf : rankS I (rootS I) < f) {up : Int} : 1 ≤ (narrowRun I w f [rootN' I] none up 0).2 ∧ (narrowRun I w f [rootN' I] none up 0).2 ≤ 1 + (w : Int) * (2 * I.p + I.c - 1) := by
  have hr := rank_root hm
  have e : narrowRun I w f [rootN' I] none up 0 = narrowRun I w (rankS I (rootS I) + 1) [rootN' I] none up 0 := narrow_fuel _ _ _ _ _ _ (fun x hx => by rw [List.mem_singleton.1 hx]; exact Nat.lt_succ_self _) (by omega)
  rw [e, narrowRun]
  have h1 := narrow_first (I := I) (w := w) (rankS I (rootS I)) ((sortedL I (expandL I up [rootN' I])).take w) (stepUp none up (bestL I [rootN' I])).1 (stepUp none up (bestL I [rootN' I])).2 (0 + (([rootN' I].length : Nat) : Int))
  have h2 := narrow_steps (I := I) (w := w) (rankS I (rootS I)) ((sortedL I (expandL I up [rootN' I])).take w) (stepUp none up (bestL I [rootN' I])).1 (stepUp none up (bestL I [rootN' I])).2 (0 + (([rootN' I].length : Nat) : Int)) (by rw [List.length_take]; omega)
  have h3 : ((w * rankS I (rootS I) : Nat) : Int) = (w : Int) * (2 * I.p + I.c - 1) := by rw [Int.natCast_mul, hr]
  simp only [List.length_singleton] at h1 h2 ⊢
  omega
theorem narrow_ok {I : Ins} (hm : mayB I = true) {w f : Nat} {lim : Int} : FoundOk I lim (narrowRun I w f [rootN' I] none lim 0).1 := narrow_found hm f [rootN' I] none 0 (fun x hx => by rw [List.mem_singleton.1 hx]; exact good_root I) trivial
end Go.Proofs.YtgplajofemencaaGreat
