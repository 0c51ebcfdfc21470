/- Looking at all levels: plain mathematics. -/
import Derived.Test.YtaaljploegiihaaGreatXB
namespace Go.Proofs.YtaaljploegiihaaGreat

/-! ### How many moves may follow -/
def missS (I : Ins) (m : Nat) : List Nat := (List.range (2 * I.p).toNat).filter (fun i => !has m ((i : Int) + 1))
def rankS (I : Ins) (s : Sta) : Nat := (missS I s.must).length + (I.c - s.car).toNat
theorem filter_less {α : Type} {p q : α → Bool} : ∀ {l : List α} {x : α}, (∀ y, q y = true → p y = true) → x ∈ l → p x = true → q x = false → (l.filter q).length < (l.filter p).length
  | y :: l, x, h, hx, hp, hq => by
    have hle : ∀ l : List α, (l.filter q).length ≤ (l.filter p).length := fun l => by
      induction l with
      | nil => exact Nat.le_refl _
      | cons z l ih =>
        rw [List.filter_cons, List.filter_cons]
        by_cases hz : q z = true
        · rw [if_pos hz, if_pos (h z hz)]; simp; exact ih
        · rw [if_neg hz]
          split
          · simp; omega
          · exact ih
    rw [List.filter_cons, List.filter_cons]
    rcases List.mem_cons.1 hx with rfl | hx
    · rw [if_neg (by rw [hq]; simp), if_pos hp]
      have := hle l
      simp; omega
    · have ih := filter_less h hx hp hq
      by_cases hz : q y = true
      · rw [if_pos hz, if_pos (h y hz)]; simp; exact ih
      · rw [if_neg hz]
        split
        · simp; omega
        · exact ih
theorem rank_less {I : Ins} {s : Sta} {j : Int} (h : Can I s j) : rankS I (nextS I s j) < rankS I s := by
  unfold rankS nextS
  by_cases hj : j = 0
  · rw [if_pos hj]
    subst hj
    have hc := (can_zero h).2.2.2.1
    show (missS I s.must).length + (I.c - (s.car + 1)).toNat < _
    omega
  · rw [if_neg hj]
    obtain ⟨hc, h1, h2⟩ := can_pos h hj
    have hmust : has s.must j = false := by rcases hc with hc | hc; exact hc.2.1; exact hc.2.2.1
    have hp := (fine_of h.1.1).p1
    have : (missS I (s.must ||| bitN j)).length < (missS I s.must).length := by
      refine filter_less (x := (j - 1).toNat) (fun y hy => ?_) (by simp; omega) ?_ ?_
      · rw [has_or] at hy
        cases hh : has s.must ((y : Int) + 1) with
        | false => rfl
        | true => rw [hh] at hy; simp at hy
      · rw [show (((j - 1).toNat : Nat) : Int) + 1 = j by omega, hmust]; rfl
      · rw [show (((j - 1).toNat : Nat) : Int) + 1 = j by omega, has_or, has_bitN]
        simp; omega
    show (missS I (s.must ||| bitN j)).length + (I.c - s.car).toNat < _
    omega

/-! ### Nodes whose paths can be followed -/
def GoodN (I : Ins) (n : Nod) : Prop := followS I n.path = some (n.s, n.cost)
/-! ### Level by level -/
def stepUp (b : Option Nod) (up : Int) (e : Option Nod) : Option Nod × Int := match e with | some n => if n.cost < up then (some n, n.cost) else (b, up) | none => (b, up)
def exactRun (I : Ins) (most : Int) : Nat → List Nod → Option Nod → Int → Int → Option Nod × Bool × Int
  | _, [], b, _, st => (b, true, st)
  | 0, _ :: _, b, _, st => (b, true, st)
  | f + 1, n :: l, b, up, st => if most < (((n :: l).length : Nat) : Int) then (b, false, st) else exactRun I most f (frontL (expandL I up (n :: l))) (stepUp b up (bestL I (n :: l))).1 (stepUp b up (bestL I (n :: l))).2 (st + (((n :: l).length : Nat) : Int))
end Go.Proofs.YtaaljploegiihaaGreat
/- More nodes on a level; how many nodes a level may have; each way alone: plain mathematics. -/
namespace Go.Proofs.YtaaljploegiihaaGreat

/-! ### More nodes on a level -/
/-! ### How many nodes a level may have -/
/-- The nodes of a level: their paths can be followed, have so many moves, and their states differ. -/
structure LevelOk (I : Ins) (k : Nat) (l : List Nod) : Prop where
  good : ∀ x ∈ l, GoodN I x
  len : ∀ x ∈ l, x.path.length = k
  apart : l.Pairwise (fun a b => a.s ≠ b.s)
end Go.Proofs.YtaaljploegiihaaGreat
/- Each way alone: plain mathematics. -/
namespace Go.Proofs.YtaaljploegiihaaGreat

end Go.Proofs.YtaaljploegiihaaGreat
/- Looking at few: plain mathematics. -/
namespace Go.Proofs.YtaaljploegiihaaGreat

end Go.Proofs.YtaaljploegiihaaGreat
