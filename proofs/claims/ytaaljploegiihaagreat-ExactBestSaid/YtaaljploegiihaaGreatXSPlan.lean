/- What is known of a plan up to a stop: plain mathematics. -/
import Derived.Test.YtaaljploegiihaaGreatYE
import Derived.Test.YtaaljploegiihaaGreatXU
import Derived.Test.YtaaljploegiihaaGreatXE
namespace Go.Proofs.YtaaljploegiihaaGreat

structure Sta where
  pos : Int
  car : Int
  time : Int
  load : Int
  first : Int
  must : Nat
  may : Nat
  on : Nat
deriving DecidableEq
def noughtS : Sta := ⟨0, 0, 0, 0, 0, 0, 0, 0⟩
def rootS (I : Ins) : Sta := if mayB I = true then ⟨0, 1, (nth I.l 0).r, 0, 0, 0, 0, 0⟩ else noughtS
/-- It may go on. -/
def GoOn (I : Ins) (s : Sta) : Prop := mayB I = true ∧ (0 ≤ s.pos ∧ s.pos ≤ 2 * I.p) ∧ (1 ≤ s.car ∧ s.car ≤ I.c) ∧ (0 ≤ s.time ∧ s.time ≤ 1073741824) ∧ (0 ≤ s.load ∧ s.load ≤ 1000)
instance (I : Ins) (s : Sta) : Decidable (GoOn I s) := by unfold GoOn; infer_instance
def allS (I : Ins) : Nat := uptoN (2 * I.p).toNat
def comeS (I : Ins) (s : Sta) (j : Int) : Int := s.time + farF (stp I s.pos) (stp I j)
def begS (I : Ins) (s : Sta) (j : Int) : Int := max (comeS I s j) (stp I j).r
def CanTake (I : Ins) (s : Sta) (j : Int) : Prop := (1 ≤ j ∧ j ≤ I.p) ∧ has s.must j = false ∧ s.load + (stp I j).d ≤ I.r ∧ begS I s j ≤ (stp I j).u ∧ (s.pos = 0 → s.first < j)
def CanBring (I : Ins) (s : Sta) (j : Int) : Prop := (I.p < j ∧ j ≤ 2 * I.p) ∧ s.pos ≠ 0 ∧ has s.must j = false ∧ has s.may (j - I.p) = true ∧ begS I s j ≤ (stp I j).u
def CanHome (I : Ins) (s : Sta) (j : Int) : Prop := j = 0 ∧ s.pos ≠ 0 ∧ s.on = 0 ∧ s.car < I.c ∧ within (allS I) s.must = false ∧ comeS I s 0 ≤ (nth I.l 0).u
/-- What can be next. -/
def Can (I : Ins) (s : Sta) (j : Int) : Prop := GoOn I s ∧ (CanTake I s j ∨ CanBring I s j ∨ CanHome I s j)
instance (I : Ins) (s : Sta) (j : Int) : Decidable (CanTake I s j) := by unfold CanTake; infer_instance
instance (I : Ins) (s : Sta) (j : Int) : Decidable (CanBring I s j) := by unfold CanBring; infer_instance
instance (I : Ins) (s : Sta) (j : Int) : Decidable (CanHome I s j) := by unfold CanHome; infer_instance
instance (I : Ins) (s : Sta) (j : Int) : Decidable (Can I s j) := by unfold Can; infer_instance
def homeS (I : Ins) (s : Sta) : Sta := ⟨0, s.car + 1, (nth I.l 0).r, 0, s.first, s.must, s.may, s.on⟩
def visitS (I : Ins) (s : Sta) (j : Int) : Sta :=
  ⟨j, s.car, begS I s j + (stp I j).s, max (s.load + (stp I j).d) 0, if s.pos = 0 then j else s.first, s.must ||| bitN j, s.may ||| bitN j, if j ≤ I.p then s.on ||| bitN j else minus s.on (bitN (j - I.p))⟩
def nextS (I : Ins) (s : Sta) (j : Int) : Sta := if j = 0 then homeS I s else visitS I s j
def farS1 (I : Ins) (s : Sta) (j : Int) : Int := farF (stp I s.pos) (stp I j)
def moveS (I : Ins) (s : Sta) (j : Int) : Sta := if Can I s j then nextS I s j else s
def moveC (I : Ins) (s : Sta) (j : Int) : Int := if Can I s j then farS1 I s j else 0
def movesN (I : Ins) (s : Sta) (n : Nat) : List Int := ((List.range n).map (fun k : Nat => (k : Int))).filter (fun j => decide (Can I s j))
def movesS (I : Ins) (s : Sta) : List Int := movesN I s (2 * I.p + 1).toNat
def EndS (I : Ins) (s : Sta) : Prop := (mayB I = true ∧ I.p = 0 ∧ s = rootS I) ∨ (GoOn I s ∧ s.pos ≠ 0 ∧ s.on = 0 ∧ within (allS I) s.may = true ∧ comeS I s 0 ≤ (nth I.l 0).u)
instance (I : Ins) (s : Sta) : Decidable (EndS I s) := by unfold EndS; infer_instance
def endC (I : Ins) (s : Sta) : Int := if EndS I s then farS1 I s 0 else 0
def stepS (I : Ins) (x : Sta × Int) (j : Int) : Option (Sta × Int) := if Can I x.1 j then some (nextS I x.1 j, x.2 + farS1 I x.1 j) else none
def followS (I : Ins) (t : List Int) : Option (Sta × Int) := t.foldl (fun o j => o.bind (fun x => stepS I x j)) (some (rootS I, 0))
theorem root_may {I : Ins} (h : mayB I = true) : rootS I = ⟨0, 1, (nth I.l 0).r, 0, 0, 0, 0, 0⟩ := by unfold rootS; rw [if_pos h]

/-! ### What is so behind moves that can be followed: D the routes that lie behind, r the one under way -/
structure InvR (I : Ins) (D : List (List Int)) (r : List Int) (s : Sta) (c : Int) (ts : TS) : Prop where
  mayI : mayB I = true
  go : goE I r = .ok ts
  now : ts.now = s.time
  last : ts.last = stp I s.pos
  pos : s.pos = 0 ↔ r = []
  posr : 0 ≤ s.pos ∧ s.pos ≤ 2 * I.p
  done : ∀ l ∈ D, errR I l = 0
  car : s.car = D.length + 1
  carc : s.car ≤ I.c
  seen : s.must = ofN (D.flatten ++ r)
  same : s.may = s.must
  nodup : (D.flatten ++ r).Nodup
  onlt : s.on < 18446744073709551616
  on : ∀ i : Int, has s.on i = true ↔ (1 ≤ i ∧ i ≤ I.p ∧ i ∈ r ∧ i + I.p ∉ r)
  load : s.load = heldL I r
  first0 : r = [] → (∀ a ∈ D, key a ≤ s.first) ∧ (s.first = 0 ∨ ∃ a ∈ D, s.first = key a)
  first1 : r ≠ [] → s.first = key r
  rise : D.Pairwise (fun a b => key a < key b)
  rise1 : r ≠ [] → ∀ a ∈ D, key a < key r
  cost : c = farS I D + ts.far
section
variable {I : Ins} {D : List (List Int)} {r : List Int} {s : Sta} {c : Int} {ts : TS}
theorem InvR.closed (h : InvR I D r s c ts) {l : List Int} (hl : l ∈ D) : GoodR I l ∧ ∀ i, i ∈ l → i ≤ I.p → i + I.p ∈ l := by
  obtain ⟨s', hs⟩ := errT_zero (errR_zero (h.done l hl)).2
  obtain ⟨_, hg, he, _⟩ := timesE_ok hs
  exact ⟨goE_good _ _ hg, endE_zero he⟩
theorem InvR.rng (h : InvR I D r s c ts) : ∀ i ∈ D.flatten ++ r, 1 ≤ i ∧ i ≤ 2 * I.p := by
  intro i hi
  rcases List.mem_append.1 hi with hi | hi
  · obtain ⟨l, hl, hil⟩ := List.mem_flatten.1 hi
    exact (h.closed hl).1.rng i hil
  · exact (goE_good _ _ h.go).rng i hi
theorem InvR.room (h : InvR I D r s c ts) : heldL I r ≤ I.r := by
  by_cases hr : r = []
  · rw [hr, heldL_nil]; have := (fine_of h.mayI).room; omega
  · have hl := List.length_pos_iff.2 hr
    have := load_room h.go (k := r.length - 1) (by omega)
    rwa [show r.length - 1 + 1 = r.length by omega, List.take_length] at this
end
theorem can_zero {I : Ins} {s : Sta} (h : Can I s 0) : CanHome I s 0 := by
  have hp := (fine_of h.1.1).p0
  rcases h.2 with h | h | h
  · have := h.1; omega
  · have := h.1; omega
  · exact h
theorem can_pos {I : Ins} {s : Sta} {j : Int} (h : Can I s j) (h0 : j ≠ 0) : (CanTake I s j ∨ CanBring I s j) ∧ 1 ≤ j ∧ j ≤ 2 * I.p := by
  have hp := (fine_of h.1.1).p0
  rcases h.2 with h | h | h
  · exact ⟨.inl h, h.1.1, by have := h.1; omega⟩
  · exact ⟨.inr h, by have := h.1; omega, h.1.2⟩
  · exact absurd h.1 h0
end Go.Proofs.YtaaljploegiihaaGreat
/- What can be followed and ended is the tour of a plan that may be, and such a tour can; what was seen; what a sooner car can: plain mathematics. -/
namespace Go.Proofs.YtaaljploegiihaaGreat

theorem endC_none {I : Ins} {s : Sta} (h : ¬ EndS I s) : endC I s = 0 := by unfold endC; rw [if_neg h]
theorem endC_is {I : Ins} {s : Sta} (h : EndS I s) : endC I s = farS1 I s 0 := by unfold endC; rw [if_pos h]
section
variable {I : Ins} {D : List (List Int)} {r : List Int} {s : Sta} {c : Int} {ts : TS}
theorem InvR.full (h : InvR I D r s c ts) : Full D := fun l hl => (errR_zero (h.done l hl)).1
end
/-! ### A plan that may be is followed as its tour -/
end Go.Proofs.YtaaljploegiihaaGreat
/- What was seen behind moves; what a sooner car can; where a state can be ended; its moves: plain mathematics. -/
namespace Go.Proofs.YtaaljploegiihaaGreat

/-! ### What was seen -/
/-! ### A sooner car -/
/-! ### Ends -/
/-! ### Moves -/
theorem can_rng {I : Ins} {s : Sta} {j : Int} (h : Can I s j) : 0 ≤ j ∧ j ≤ 2 * I.p := by
  have hp := (fine_of h.1.1).p0
  by_cases hj : j = 0
  · omega
  · obtain ⟨_, h4, h5⟩ := can_pos h hj; omega
theorem movesN_succ (I : Ins) (s : Sta) (n : Nat) : movesN I s (n + 1) = if Can I s n then movesN I s n ++ [(n : Int)] else movesN I s n := by
  unfold movesN
  rw [List.range_succ, List.map_append, List.filter_append]
  by_cases h : Can I s n
  · rw [if_pos h]; simp [h]
  · rw [if_neg h]; simp [h]
theorem movesN_zero (I : Ins) (s : Sta) : movesN I s 0 = [] := rfl
theorem movesN_len (I : Ins) (s : Sta) (n : Nat) : (movesN I s n).length ≤ n := by
  unfold movesN
  refine Nat.le_trans (List.length_filter_le _ _) ?_
  simp
theorem movesN_more {I : Ins} {s : Sta} {n m : Nat} (h : n ≤ m) : ∃ B, movesN I s m = movesN I s n ++ B ∧ ∀ x ∈ B, (n : Int) ≤ x := by
  induction m with
  | zero =>
    obtain rfl : n = 0 := by omega
    exact ⟨[], by simp, fun x hx => (nomatch hx)⟩
  | succ m ih =>
    by_cases he : n = m + 1
    · subst he; exact ⟨[], by simp, fun x hx => (nomatch hx)⟩
    · obtain ⟨B, h1, h2⟩ := ih (by omega)
      rw [movesN_succ]
      by_cases hc : Can I s m
      · rw [if_pos hc, h1]
        refine ⟨B ++ [(m : Int)], by rw [List.append_assoc], fun x hx => ?_⟩
        rcases List.mem_append.1 hx with hx | hx
        · exact h2 x hx
        · rw [List.mem_singleton.1 hx]; omega
      · rw [if_neg hc]; exact ⟨B, h1, h2⟩
/-- Above all stops there are no moves. -/
theorem movesN_all {I : Ins} {s : Sta} {n : Nat} (h : (2 * I.p + 1).toNat ≤ n) : movesN I s n = movesS I s := by
  obtain ⟨B, h1, h2⟩ := movesN_more (I := I) (s := s) h
  rw [h1]
  have : B = [] := by
    cases B with
    | nil => rfl
    | cons x B =>
      have hx := h2 x (by simp)
      have hm : x ∈ movesN I s n := by rw [h1]; simp
      unfold movesN at hm
      have hc := of_decide_eq_true (List.mem_filter.1 hm).2
      have := can_rng hc
      omega
  rw [this, List.append_nil]; rfl
end Go.Proofs.YtaaljploegiihaaGreat
