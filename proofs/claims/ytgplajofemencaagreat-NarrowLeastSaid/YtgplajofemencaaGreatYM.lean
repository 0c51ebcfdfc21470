/- Looking at all levels: the document's answer. -/
import Derived.Test.YtgplajofemencaaGreatYK
import Derived.Test.YtgplajofemencaaGreatYJ
import Derived.Test.YtgplajofemencaaGreatYL
namespace Go.Proofs.YtgplajofemencaaGreat
open Go.ChangeShapes Go.WideShapes Go.ChangeAt Go.RowKit

theorem qrun_nil (I : Ins) (most : Int) (f : Nat) (b : Option Nod) (up st : Int) : exactRun I most f [] b up st = (b, true, st) := by cases f <;> rfl
theorem qrun_more {I : Ins} {most : Int} {f : Nat} {l : List Nod} {b : Option Nod} {up st : Int} (h : l ≠ []) (hm : most < (l.length : Int)) : exactRun I most (f + 1) l b up st = (b, false, st) := by
  cases l with
  | nil => exact absurd rfl h
  | cons n l => rw [exactRun, if_pos hm]
theorem qrun_on {I : Ins} {most : Int} {f : Nat} {l : List Nod} {b : Option Nod} {up st : Int} (h : l ≠ []) (hm : ¬ most < (l.length : Int)) : exactRun I most (f + 1) l b up st = exactRun I most f (frontL (expandL I up l)) (stepUp b up (bestL I l)).1 (stepUp b up (bestL I l)).2 (st + (l.length : Int)) := by
  cases l with
  | nil => exact absurd rfl h
  | cons n l => rw [exactRun, if_neg hm]
/-- What is known of the nodes of a level that has f levels behind it at most. -/
structure LevOk (I : Ins) (f : Nat) (l : List Nod) : Prop where
  sets : ∀ n ∈ l, SetsOk n.s
  path : ∀ n ∈ l, n.path.length + f ≤ 2000
  rank : ∀ n ∈ l, ∀ j, Can I n.s j → rankS I n.s + 1 < f
  one : l ≠ [] → 1 ≤ f
theorem rank_small {I : Ins} {s : Sta} {j : Int} (h : Can I s j) : rankS I s ≤ 40 := by
  have hf := fine_of h.1.1
  have hp := hf.p1
  have hc := (inb_iff _ _ _).1 ((may_iff I).1 h.1.1).2.1
  have hca := h.1.2.2.1
  unfold rankS missS
  have := List.length_filter_le (fun i : Nat => !has s.must ((i : Int) + 1)) (List.range (2 * I.p).toNat)
  rw [List.length_range] at this
  omega
theorem lev_first {I : Ins} {n : Nod} (hs : SetsOk n.s) (hp : n.path.length ≤ 1000) : LevOk I 44 [n] :=
  ⟨fun x hx => by rw [List.mem_singleton.1 hx]; exact hs, fun x hx => by rw [List.mem_singleton.1 hx]; omega, fun x hx j hc => by
    have := rank_small hc
    omega, fun _ => by omega⟩
theorem lev_next {I : Ins} {f : Nat} {l : List Nod} {up : Int} (h : LevOk I (f + 1) l) {m : List Nod} (hm : ∀ x ∈ m, x ∈ expandL I up l) : LevOk I f m := by
  have hk : ∀ x ∈ m, ∃ n ∈ l, ∃ j, Can I n.s j ∧ x = childN I n j := fun x hx => (expand_mem (hm x hx)).1
  refine ⟨fun x hx => ?_, fun x hx => ?_, fun x hx i hi => ?_, fun hne => ?_⟩
  · obtain ⟨n, hn, j, hc, rfl⟩ := hk x hx
    exact of_fits (fits_next (I := I) (fits_of (h.sets n hn)) j)
  · obtain ⟨n, hn, j, hc, rfl⟩ := hk x hx
    have := h.path n hn
    show (n.path ++ [j]).length + f ≤ 2000
    rw [List.length_append, List.length_cons, List.length_nil]; omega
  · obtain ⟨n, hn, j, hc, rfl⟩ := hk x hx
    have h1 := h.rank n hn j hc
    have h2 := rank_less hc
    show rankS I (nextS I n.s j) + 1 < f
    omega
  · obtain ⟨x, hx⟩ := List.exists_mem_of_ne_nil _ hne
    obtain ⟨n, hn, j, hc, rfl⟩ := hk x hx
    have h1 := h.rank n hn j hc
    omega
theorem expand_len {I : Ins} {up : Int} {l : List Nod} : (expandL I up l).length ≤ 33 * l.length := by
  refine Nat.le_trans (once_len _) ?_
  have := kids_len I up l l.length (Nat.le_refl _)
  rw [List.take_length] at this
  exact this
theorem step_is (b e : Option Nod) (up : Int) : stepUp b up e = if (e.isSome && decide ((bestV e).cost < up)) = true then (e, (bestV e).cost) else (b, up) := by
  cases e with
  | none => rfl
  | some n =>
    show (if n.cost < up then (some n, n.cost) else (b, up)) = if (true && decide (n.cost < up)) = true then (some n, n.cost) else (b, up)
    by_cases h : n.cost < up
    · rw [if_pos h, if_pos (by rw [decide_eq_true h]; rfl)]
    · rw [if_neg h, if_neg (by rw [decide_eq_false h]; decide)]
theorem boxes_best (w : World) (I : Ins) (v : Value) (s : Sta) (c : Int) (u : Value) : YBox ((((w.alloc (boxI I v)).alloc (boxN s c u)).alloc (boxN noughtS 0 (.slice none 0 0))).alloc (boxN noughtS 0 (.slice none 0 0))) w.heap.size I v ∧ NodB ((((w.alloc (boxI I v)).alloc (boxN s c u)).alloc (boxN noughtS 0 (.slice none 0 0))).alloc (boxN noughtS 0 (.slice none 0 0))) (w.heap.size + 1) s c u ∧
    NodB ((((w.alloc (boxI I v)).alloc (boxN s c u)).alloc (boxN noughtS 0 (.slice none 0 0))).alloc (boxN noughtS 0 (.slice none 0 0))) (w.heap.size + 2) noughtS 0 (.slice none 0 0) ∧ NodB ((((w.alloc (boxI I v)).alloc (boxN s c u)).alloc (boxN noughtS 0 (.slice none 0 0))).alloc (boxN noughtS 0 (.slice none 0 0))) (w.heap.size + 3) noughtS 0 (.slice none 0 0) ∧
    Below w.heap.size w ((((w.alloc (boxI I v)).alloc (boxN s c u)).alloc (boxN noughtS 0 (.slice none 0 0))).alloc (boxN noughtS 0 (.slice none 0 0))) := by
  obtain ⟨h1, h2, h3⟩ := boxes_in w I v s c u
  have e1 : ((w.alloc (boxI I v)).alloc (boxN s c u)).heap.size = w.heap.size + 2 := by simp
  have a3 := nod_new ((w.alloc (boxI I v)).alloc (boxN s c u)) noughtS 0 (.slice none 0 0)
  rw [e1] at a3
  have hb1 : Below ((w.alloc (boxI I v)).alloc (boxN s c u)).heap.size ((w.alloc (boxI I v)).alloc (boxN s c u)) (((w.alloc (boxI I v)).alloc (boxN s c u)).alloc (boxN noughtS 0 (.slice none 0 0))) := (Below.refl _ _).alloc (Nat.le_refl _) _
  have e2 : (((w.alloc (boxI I v)).alloc (boxN s c u)).alloc (boxN noughtS 0 (.slice none 0 0))).heap.size = w.heap.size + 3 := by simp
  have a4 := nod_new (((w.alloc (boxI I v)).alloc (boxN s c u)).alloc (boxN noughtS 0 (.slice none 0 0))) noughtS 0 (.slice none 0 0)
  rw [e2] at a4
  have hb2 : Below (((w.alloc (boxI I v)).alloc (boxN s c u)).alloc (boxN noughtS 0 (.slice none 0 0))).heap.size (((w.alloc (boxI I v)).alloc (boxN s c u)).alloc (boxN noughtS 0 (.slice none 0 0))) ((((w.alloc (boxI I v)).alloc (boxN s c u)).alloc (boxN noughtS 0 (.slice none 0 0))).alloc (boxN noughtS 0 (.slice none 0 0))) := (Below.refl _ _).alloc (Nat.le_refl _) _
  exact ⟨(h1.later hb1).later hb2, (h2.later hb1).later hb2, a3.later hb2, a4, (h3.alloc (by rw [e1]; omega) _).alloc (by rw [e2]; omega) _⟩
end Go.Proofs.YtgplajofemencaaGreat
/- Looking at few: the document's answer. -/
namespace Go.Proofs.YtgplajofemencaaGreat
open Go.ChangeShapes Go.WideShapes Go.ChangeAt Go.RowKit

theorem nrun_nil (I : Ins) (wn : Nat) (f : Nat) (b : Option Nod) (up st : Int) : narrowRun I wn f [] b up st = (b, st) := by cases f <;> rfl
theorem nrun_on {I : Ins} {wn : Nat} {f : Nat} {l : List Nod} {b : Option Nod} {up st : Int} (h : l ≠ []) : narrowRun I wn (f + 1) l b up st = narrowRun I wn f ((sortedL I (expandL I up l)).take wn) (stepUp b up (bestL I l)).1 (stepUp b up (bestL I l)).2 (st + (l.length : Int)) := by
  cases l with
  | nil => exact absurd rfl h
  | cons n l => rw [narrowRun]
/-- How many nodes a level may have. -/
def widN (width : Int) : Nat := if width < 1 then 1 else width.toNat
theorem NRowB.cut {w0 w : World} {a : Option Addr} {n cap : Nat} {l : List Nod} (h : NRowB w0 w (.slice a n cap) l) (q : Nat) (hq : q ≤ l.length) : NRowB w0 w (.slice a q cap) (l.take q) := by
  obtain ⟨raw, h1, h2⟩ := h
  exact ⟨raw.take q, h1.cut q (by rw [h2.len]; exact hq), h2.take q⟩
end Go.Proofs.YtgplajofemencaaGreat
