/- What is known of a plan up to a stop: plain mathematics. -/
import Derived.Test.YtgplajofemencaaGreatYE
import Derived.Test.YtgplajofemencaaGreatXU
import Derived.Test.YtgplajofemencaaGreatXE
namespace Go.Proofs.YtgplajofemencaaGreat

structure Sta where
  pos : Int
  car : Int
  time : Int
  load : Int
  first : Int
  must : Nat
  may : Nat
  on : Nat
deriving DecidableEq
def noughtS : Sta := ⟨0, 0, 0, 0, 0, 0, 0, 0⟩
def rootS (I : Ins) : Sta := if mayB I = true then ⟨0, 1, (nth I.l 0).r, 0, 0, 0, 0, 0⟩ else noughtS
/-- It may go on. -/
def GoOn (I : Ins) (s : Sta) : Prop := mayB I = true ∧ (0 ≤ s.pos ∧ s.pos ≤ 2 * I.p) ∧ (1 ≤ s.car ∧ s.car ≤ I.c) ∧ (0 ≤ s.time ∧ s.time ≤ 1073741824) ∧ (0 ≤ s.load ∧ s.load ≤ 1000)
instance (I : Ins) (s : Sta) : Decidable (GoOn I s) := by unfold GoOn; infer_instance
def allS (I : Ins) : Nat := uptoN (2 * I.p).toNat
def comeS (I : Ins) (s : Sta) (j : Int) : Int := s.time + farF (stp I s.pos) (stp I j)
def begS (I : Ins) (s : Sta) (j : Int) : Int := max (comeS I s j) (stp I j).r
def CanTake (I : Ins) (s : Sta) (j : Int) : Prop := (1 ≤ j ∧ j ≤ I.p) ∧ has s.must j = false ∧ s.load + (stp I j).d ≤ I.r ∧ begS I s j ≤ (stp I j).u ∧ (s.pos = 0 → s.first < j)
def CanBring (I : Ins) (s : Sta) (j : Int) : Prop := (I.p < j ∧ j ≤ 2 * I.p) ∧ s.pos ≠ 0 ∧ has s.must j = false ∧ has s.may (j - I.p) = true ∧ begS I s j ≤ (stp I j).u
def CanHome (I : Ins) (s : Sta) (j : Int) : Prop := j = 0 ∧ s.pos ≠ 0 ∧ s.on = 0 ∧ s.car < I.c ∧ within (allS I) s.must = false ∧ comeS I s 0 ≤ (nth I.l 0).u
/-- What can be next. -/
def Can (I : Ins) (s : Sta) (j : Int) : Prop := GoOn I s ∧ (CanTake I s j ∨ CanBring I s j ∨ CanHome I s j)
instance (I : Ins) (s : Sta) (j : Int) : Decidable (CanTake I s j) := by unfold CanTake; infer_instance
instance (I : Ins) (s : Sta) (j : Int) : Decidable (CanBring I s j) := by unfold CanBring; infer_instance
instance (I : Ins) (s : Sta) (j : Int) : Decidable (CanHome I s j) := by unfold CanHome; infer_instance
instance (I : Ins) (s : Sta) (j : Int) : Decidable (Can I s j) := by unfold Can; infer_instance
def homeS (I : Ins) (s : Sta) : Sta := ⟨0, s.car + 1, (nth I.l 0).r, 0, s.first, s.must, s.may, s.on⟩
def visitS (I : Ins) (s : Sta) (j : Int) : Sta :=
  ⟨j, s.car, begS I s j + (stp I j).s, max (s.load + (stp I j).d) 0, if s.pos = 0 then j else s.first, s.must ||| bitN j, s.may ||| bitN j, if j ≤ I.p then s.on ||| bitN j else minus s.on (bitN (j - I.p))⟩
def nextS (I : Ins) (s : Sta) (j : Int) : Sta := if j = 0 then homeS I s else visitS I s j
def farS1 (I : Ins) (s : Sta) (j : Int) : Int := farF (stp I s.pos) (stp I j)
def moveS (I : Ins) (s : Sta) (j : Int) : Sta := if Can I s j then nextS I s j else s
def moveC (I : Ins) (s : Sta) (j : Int) : Int := if Can I s j then farS1 I s j else 0
def movesN (I : Ins) (s : Sta) (n : Nat) : List Int := ((List.range n).map (fun k : Nat => (k : Int))).filter (fun j => decide (Can I s j))
def movesS (I : Ins) (s : Sta) : List Int := movesN I s (2 * I.p + 1).toNat
def EndS (I : Ins) (s : Sta) : Prop := (mayB I = true ∧ I.p = 0 ∧ s = rootS I) ∨ (GoOn I s ∧ s.pos ≠ 0 ∧ s.on = 0 ∧ within (allS I) s.may = true ∧ comeS I s 0 ≤ (nth I.l 0).u)
instance (I : Ins) (s : Sta) : Decidable (EndS I s) := by unfold EndS; infer_instance
def endC (I : Ins) (s : Sta) : Int := if EndS I s then farS1 I s 0 else 0
def stepS (I : Ins) (x : Sta × Int) (j : Int) : Option (Sta × Int) := if Can I x.1 j then some (nextS I x.1 j, x.2 + farS1 I x.1 j) else none
def followS (I : Ins) (t : List Int) : Option (Sta × Int) := t.foldl (fun o j => o.bind (fun x => stepS I x j)) (some (rootS I, 0))
theorem follow_nil (I : Ins) : followS I [] = some (rootS I, 0) := rfl
theorem follow_snoc (I : Ins) (t : List Int) (j : Int) : followS I (t ++ [j]) = (followS I t).bind (fun x => stepS I x j) := by unfold followS; rw [List.foldl_append]; rfl
theorem follow_step {I : Ins} {t : List Int} {j : Int} {s : Sta} {c : Int} (h : followS I (t ++ [j]) = some (s, c)) : ∃ s0 c0, followS I t = some (s0, c0) ∧ Can I s0 j ∧ s = nextS I s0 j ∧ c = c0 + farS1 I s0 j := by
  rw [follow_snoc] at h
  cases hf : followS I t with
  | none => rw [hf] at h; cases h
  | some x =>
    rw [hf] at h
    obtain ⟨s0, c0⟩ := x
    simp only [Option.bind_some, stepS] at h
    by_cases hc : Can I s0 j
    · rw [if_pos hc] at h
      simp only [Option.some.injEq, Prod.mk.injEq] at h
      exact ⟨s0, c0, rfl, hc, h.1.symm, h.2.symm⟩
    · rw [if_neg hc] at h; cases h
theorem follow_more {I : Ins} {t : List Int} {j : Int} {s : Sta} {c : Int} (h : followS I t = some (s, c)) (hc : Can I s j) : followS I (t ++ [j]) = some (nextS I s j, c + farS1 I s j) := by
  rw [follow_snoc, h]
  simp only [Option.bind_some, stepS]
  rw [if_pos hc]
/-- An error stays. -/
theorem follow_none {I : Ins} {t : List Int} (h : followS I t = none) (u : List Int) : followS I (t ++ u) = none := by
  refine snoc_ind (P := fun u => followS I (t ++ u) = none) (by rw [List.append_nil]; exact h) ?_ u
  intro u x ih
  rw [← List.append_assoc, follow_snoc, ih]; rfl
theorem root_may {I : Ins} (h : mayB I = true) : rootS I = ⟨0, 1, (nth I.l 0).r, 0, 0, 0, 0, 0⟩ := by unfold rootS; rw [if_pos h]

/-! ### What is so behind moves that can be followed: D the routes that lie behind, r the one under way -/
structure InvR (I : Ins) (D : List (List Int)) (r : List Int) (s : Sta) (c : Int) (ts : TS) : Prop where
  mayI : mayB I = true
  go : goE I r = .ok ts
  now : ts.now = s.time
  last : ts.last = stp I s.pos
  pos : s.pos = 0 ↔ r = []
  posr : 0 ≤ s.pos ∧ s.pos ≤ 2 * I.p
  done : ∀ l ∈ D, errR I l = 0
  car : s.car = D.length + 1
  carc : s.car ≤ I.c
  seen : s.must = ofN (D.flatten ++ r)
  same : s.may = s.must
  nodup : (D.flatten ++ r).Nodup
  onlt : s.on < 18446744073709551616
  on : ∀ i : Int, has s.on i = true ↔ (1 ≤ i ∧ i ≤ I.p ∧ i ∈ r ∧ i + I.p ∉ r)
  load : s.load = heldL I r
  first0 : r = [] → (∀ a ∈ D, key a ≤ s.first) ∧ (s.first = 0 ∨ ∃ a ∈ D, s.first = key a)
  first1 : r ≠ [] → s.first = key r
  rise : D.Pairwise (fun a b => key a < key b)
  rise1 : r ≠ [] → ∀ a ∈ D, key a < key r
  cost : c = farS I D + ts.far
theorem inv_root {I : Ins} (h : mayB I = true) : InvR I [] [] (rootS I) 0 (startT I) := by
  have hf := fine_of h
  have hp := hf.p0
  have hc := (inb_iff _ _ _).1 ((may_iff I).1 h).2.1
  rw [root_may h]
  exact { mayI := h, go := rfl, now := rfl, last := rfl, pos := ⟨fun _ => rfl, fun _ => rfl⟩, posr := ⟨Int.le_refl _, by show (0 : Int) ≤ _; omega⟩, done := fun l hl => (nomatch hl), car := rfl, carc := hc.1, seen := rfl, same := rfl, nodup := List.nodup_nil,
          onlt := by show (0 : Nat) < _; decide, on := fun i => ⟨fun h => (by rw [has_zero] at h; cases h), fun h => (nomatch h.2.2.1)⟩, load := rfl, first0 := fun _ => ⟨fun a ha => (nomatch ha), .inl rfl⟩, first1 := fun h => absurd rfl h, rise := List.Pairwise.nil, rise1 := fun h => absurd rfl h, cost := rfl }
section
variable {I : Ins} {D : List (List Int)} {r : List Int} {s : Sta} {c : Int} {ts : TS}
theorem InvR.closed (h : InvR I D r s c ts) {l : List Int} (hl : l ∈ D) : GoodR I l ∧ ∀ i, i ∈ l → i ≤ I.p → i + I.p ∈ l := by
  obtain ⟨s', hs⟩ := errT_zero (errR_zero (h.done l hl)).2
  obtain ⟨_, hg, he, _⟩ := timesE_ok hs
  exact ⟨goE_good _ _ hg, endE_zero he⟩
theorem InvR.rng (h : InvR I D r s c ts) : ∀ i ∈ D.flatten ++ r, 1 ≤ i ∧ i ≤ 2 * I.p := by
  intro i hi
  rcases List.mem_append.1 hi with hi | hi
  · obtain ⟨l, hl, hil⟩ := List.mem_flatten.1 hi
    exact (h.closed hl).1.rng i hil
  · exact (goE_good _ _ h.go).rng i hi
theorem InvR.has_must (h : InvR I D r s c ts) {j : Int} (h0 : 0 ≤ j) (h1 : j ≤ 63) : has s.must j = true ↔ j ∈ D.flatten ++ r := by
  obtain ⟨k, rfl⟩ : ∃ k : Nat, j = k := ⟨j.toNat, by omega⟩
  rw [h.seen, has_ofN _ k (by omega)]
theorem InvR.goOn (h : InvR I D r s c ts) : GoOn I s := by
  obtain ⟨h1, _, h3, _⟩ := goE_bds (fine_of h.mayI) _ _ h.go
  have := h.now
  have := h.load
  have := h.car
  exact ⟨h.mayI, h.posr, ⟨by omega, h.carc⟩, by omega, by omega⟩
theorem InvR.room (h : InvR I D r s c ts) : heldL I r ≤ I.r := by
  by_cases hr : r = []
  · rw [hr, heldL_nil]; have := (fine_of h.mayI).room; omega
  · have hl := List.length_pos_iff.2 hr
    have := load_room h.go (k := r.length - 1) (by omega)
    rwa [show r.length - 1 + 1 = r.length by omega, List.take_length] at this
theorem InvR.beg (h : InvR I D r s c ts) (j : Int) : (tmAt ts (stp I j)).begn = begS I s j := by
  unfold tmAt begS comeS
  rw [h.now, h.last]
/-- A stop more. -/
theorem InvR.visit (h : InvR I D r s c ts) {j : Int} (hc : CanTake I s j ∨ CanBring I s j) : ∃ ts', InvR I D (r ++ [j]) (visitS I s j) (c + farS1 I s j) ts' := by
  have hf := fine_of h.mayI
  have hp0 := hf.p0
  have hp1 := hf.p1
  have hg := goE_good _ _ h.go
  have hrange : 1 ≤ j ∧ j ≤ 2 * I.p := by rcases hc with hc | hc <;> (have := hc.1; omega)
  have hmust : has s.must j = false := by rcases hc with hc | hc; exact hc.2.1; exact hc.2.2.1
  have hbeg : begS I s j ≤ (stp I j).u := by rcases hc with hc | hc; exact hc.2.2.2.1; exact hc.2.2.2.2
  have hnot : j ∉ D.flatten ++ r := fun hm => by rw [(h.has_must (by omega) (by omega)).2 hm] at hmust; cases hmust
  have hnr : j ∉ r := fun hm => hnot (List.mem_append.2 (.inr hm))
  have hbr : I.p < j → j - I.p ∈ r := by
    intro hj
    rcases hc with hc | hc
    · have := hc.1; omega
    · have h1 := hc.2.2.2.1
      rw [h.same] at h1
      have h2 := (h.has_must (by omega) (by omega)).1 h1
      rcases List.mem_append.1 h2 with h3 | h3
      · obtain ⟨l, hl, hil⟩ := List.mem_flatten.1 h3
        have := (h.closed hl).2 _ hil (by omega)
        rw [show j - I.p + I.p = j by omega] at this
        exact absurd (List.mem_append.2 (.inl (List.mem_flatten.2 ⟨l, hl, this⟩))) hnot
      · exact h3
  have hload : heldL I r + (stp I j).d ≤ I.r := by
    by_cases hj : I.p < j
    · have h1 := hf.bring j hj hrange.2
      have h2 := hf.take (j - I.p) (by omega) (by omega)
      have := h.room
      omega
    · rcases hc with hc | hc
      · have := hc.2.2.1; rw [h.load] at this; exact this
      · have := hc.1; omega
  have hw : wrongE I ts.seen j = 0 := by rw [(goE_seen _ _ h.go).1]; exact wrongE_of hrange.1 hrange.2 hnr hbr hload
  have hstep : stepE I ts j = .ok (nextT ts j (stp I j)) := by
    unfold stepE
    rw [if_neg (by simpa using hw), if_neg (by rw [h.beg]; omega)]
  have hgo : goE I (r ++ [j]) = .ok (nextT ts j (stp I j)) := by rw [goE_snoc, h.go]; exact hstep
  have hne : r ++ [j] ≠ [] := by simp
  have hheld := held_nonneg hf hgo
  rw [heldL_snoc] at hheld
  have hkey : key (r ++ [j]) = if r = [] then j else key r := by
    unfold key
    cases r with
    | nil => rfl
    | cons x r => rw [if_neg (by simp)]; rfl
  have hj64 : 0 ≤ j ∧ j ≤ 63 := by omega
  refine ⟨_, { mayI := h.mayI, go := hgo, now := ?_, last := rfl, pos := ⟨fun e => ?_, fun e => absurd e hne⟩, posr := ⟨by show 0 ≤ j; omega, hrange.2⟩, done := h.done, car := h.car, carc := h.carc, seen := ?_, same := ?_, nodup := ?_,
               onlt := ?_, on := ?_, load := ?_, first0 := fun e => absurd e hne, first1 := fun _ => ?_, rise := h.rise, rise1 := fun _ => ?_, cost := ?_ }⟩
  · show (tmAt ts (stp I j)).begn + (stp I j).s = begS I s j + (stp I j).s
    rw [h.beg]
  · have : j = 0 := e; omega
  · show s.must ||| bitN j = _
    rw [h.seen, ← List.append_assoc, ofN_snoc]
  · show s.may ||| bitN j = s.must ||| bitN j
    rw [h.same]
  · rw [← List.append_assoc, List.nodup_append]
    refine ⟨h.nodup, by simp, fun a ha b hb => ?_⟩
    simp only [List.mem_singleton] at hb
    subst hb
    intro e; subst e; exact hnot ha
  · show (if j ≤ I.p then s.on ||| bitN j else minus s.on (bitN (j - I.p))) < _
    split
    · exact or_lt h.onlt (bitN_lt j)
    · exact minus_lt h.onlt
  · intro i
    show has (if j ≤ I.p then s.on ||| bitN j else minus s.on (bitN (j - I.p))) i = true ↔ _
    by_cases hj : j ≤ I.p
    · rw [if_pos hj, has_or, has_bitN, Bool.or_eq_true, h.on i]
      simp only [Bool.and_eq_true, decide_eq_true_eq, List.mem_append, List.mem_singleton, not_or]
      constructor
      · rintro (⟨a, b, d, e⟩ | ⟨_, e⟩)
        · exact ⟨a, b, .inl d, e, by omega⟩
        · subst e
          refine ⟨hrange.1, hj, .inr rfl, fun hm => ?_, by omega⟩
          have := hg.clos _ hm (by omega)
          rw [show j + I.p - I.p = j by omega] at this
          exact hnr this
      · rintro ⟨a, b, d | d, e, _⟩
        · exact .inl ⟨a, b, d, e⟩
        · exact .inr ⟨hj64, d.symm⟩
    · rw [if_neg hj, has_minus _ _ _ h.onlt, has_bitN, Bool.and_eq_true, h.on i]
      simp only [Bool.not_eq_true', Bool.and_eq_false_iff, decide_eq_false_iff_not, List.mem_append, List.mem_singleton, not_or]
      constructor
      · rintro ⟨⟨a, b, d, e⟩, g⟩
        exact ⟨a, b, .inl d, e, by omega⟩
      · rintro ⟨a, b, d | d, e, g⟩
        · exact ⟨⟨a, b, d, e⟩, .inr (by omega)⟩
        · omega
  · show max (s.load + (stp I j).d) 0 = heldL I (r ++ [j])
    rw [heldL_snoc, h.load]; omega
  · show (if s.pos = 0 then j else s.first) = key (r ++ [j])
    rw [hkey]
    by_cases hr : r = []
    · rw [if_pos hr, if_pos (h.pos.2 hr)]
    · rw [if_neg hr, if_neg (fun e => hr (h.pos.1 e)), h.first1 hr]
  · intro a ha
    rw [hkey]
    by_cases hr : r = []
    · rw [if_pos hr]
      have h1 := (h.first0 hr).1 a ha
      have h2 : s.first < j := by
        rcases hc with hc | hc
        · exact hc.2.2.2.2 (h.pos.2 hr)
        · exact absurd (h.pos.2 hr) hc.2.1
      omega
    · rw [if_neg hr]; exact h.rise1 hr a ha
  · show c + farS1 I s j = farS I D + (ts.far + farF ts.last (stp I j))
    have := h.cost
    unfold farS1
    rw [h.last]; omega
/-- The route under way is one that may be. -/
theorem InvR.close (h : InvR I D r s c ts) (h0 : s.pos ≠ 0) (h1 : s.on = 0) (h2 : comeS I s 0 ≤ (nth I.l 0).u) : r ≠ [] ∧ timesE I r = .ok ts ∧ errR I r = 0 ∧ farT I r = ts.far + farS1 I s 0 ∧ heldL I r = 0 := by
  have hr : r ≠ [] := fun e => h0 (h.pos.2 e)
  have hg := goE_good _ _ h.go
  have he : endE I r = 0 := endE_of (fun i hi hp => by
    refine Decidable.byContradiction (fun hn => ?_)
    have := (h.on i).2 ⟨(hg.rng i hi).1, hp, hi, hn⟩
    rw [h1, has_zero] at this; cases this)
  have ht : timesE I r = .ok ts := timesE_of h.mayI h.go he (by
    unfold backT; rw [h.now, h.last]; exact h2)
  refine ⟨hr, ht, ?_, ?_, held_end (fine_of h.mayI) h.go he⟩
  · unfold errR errT; rw [if_neg hr, ht]
  · unfold farT farS1; rw [ht, ← h.last]; rfl
theorem InvR.home (h : InvR I D r s c ts) (hc : CanHome I s 0) : InvR I (D ++ [r]) [] (homeS I s) (c + farS1 I s 0) (startT I) := by
  obtain ⟨_, h0, h1, h2, _, h3⟩ := hc
  obtain ⟨hr, _, he, hfar, _⟩ := h.close h0 h1 h3
  have hp := (fine_of h.mayI).p0
  exact { mayI := h.mayI, go := rfl, now := rfl, last := rfl, pos := ⟨fun _ => rfl, fun _ => rfl⟩, posr := ⟨Int.le_refl _, by show (0 : Int) ≤ _; omega⟩,
          done := fun l hl => by
            rcases List.mem_append.1 hl with hl | hl
            · exact h.done l hl
            · rw [List.mem_singleton.1 hl]; exact he
          car := by show s.car + 1 = _; rw [h.car, List.length_append]; rfl
          carc := by show s.car + 1 ≤ _; omega
          seen := by show s.must = _; rw [h.seen, flat_snoc, List.append_nil]
          same := h.same
          nodup := by rw [flat_snoc, List.append_nil]; exact h.nodup
          onlt := h.onlt
          on := fun i => by
            show has s.on i = true ↔ _
            rw [h1, has_zero]
            exact ⟨fun h => (nomatch h), fun h => (nomatch h.2.2.1)⟩
          load := rfl
          first0 := fun _ => ⟨fun a ha => by
            show key a ≤ s.first
            rw [h.first1 hr]
            rcases List.mem_append.1 ha with ha | ha
            · exact Int.le_of_lt (h.rise1 hr a ha)
            · rw [List.mem_singleton.1 ha]; exact Int.le_refl _, .inr ⟨r, by simp, h.first1 hr⟩⟩
          first1 := fun h => absurd rfl h
          rise := List.pairwise_append.2 ⟨h.rise, by simp, fun a ha b hb => by rw [List.mem_singleton.1 hb]; exact h.rise1 hr a ha⟩
          rise1 := fun h => absurd rfl h
          cost := by
            rw [farS_snoc, hfar]
            have := h.cost
            show c + farS1 I s 0 = farS I D + (ts.far + farS1 I s 0) + 0
            omega }
end
theorem can_zero {I : Ins} {s : Sta} (h : Can I s 0) : CanHome I s 0 := by
  have hp := (fine_of h.1.1).p0
  rcases h.2 with h | h | h
  · have := h.1; omega
  · have := h.1; omega
  · exact h
theorem can_pos {I : Ins} {s : Sta} {j : Int} (h : Can I s j) (h0 : j ≠ 0) : (CanTake I s j ∨ CanBring I s j) ∧ 1 ≤ j ∧ j ≤ 2 * I.p := by
  have hp := (fine_of h.1.1).p0
  rcases h.2 with h | h | h
  · exact ⟨.inl h, h.1.1, by have := h.1; omega⟩
  · exact ⟨.inr h, by have := h.1; omega, h.1.2⟩
  · exact absurd h.1 h0
/-- Behind moves that can be followed. -/
theorem follow_inv {I : Ins} (hm : mayB I = true) (t : List Int) : ∀ s c, followS I t = some (s, c) → (∃ ts, InvR I (cutP t).1 (cutP t).2 s c ts) ∧ ∀ x ∈ t, 0 ≤ x ∧ x ≤ 2 * I.p := by
  refine snoc_ind (P := fun t => ∀ s c, followS I t = some (s, c) → (∃ ts, InvR I (cutP t).1 (cutP t).2 s c ts) ∧ ∀ x ∈ t, 0 ≤ x ∧ x ≤ 2 * I.p) ?_ ?_ t
  · intro s c h
    rw [follow_nil] at h
    simp only [Option.some.injEq, Prod.mk.injEq] at h
    obtain ⟨rfl, rfl⟩ := h
    exact ⟨⟨_, inv_root hm⟩, fun x hx => (nomatch hx)⟩
  · intro t j ih s c h
    obtain ⟨s0, c0, h1, h2, rfl, rfl⟩ := follow_step h
    obtain ⟨⟨ts, hi⟩, hx⟩ := ih s0 c0 h1
    have hp := (fine_of hm).p0
    rw [cutP_snoc]
    unfold cutStep nextS
    by_cases hj : j = 0
    · subst hj
      rw [if_neg (by omega), if_pos rfl]
      refine ⟨⟨_, hi.home (can_zero h2)⟩, fun x hx2 => ?_⟩
      rcases List.mem_append.1 hx2 with hx2 | hx2
      · exact hx x hx2
      · rw [List.mem_singleton.1 hx2]; omega
    · obtain ⟨h3, h4, h5⟩ := can_pos h2 hj
      rw [if_pos (by omega), if_neg hj]
      refine ⟨hi.visit h3, fun x hx2 => ?_⟩
      rcases List.mem_append.1 hx2 with hx2 | hx2
      · exact hx x hx2
      · rw [List.mem_singleton.1 hx2]; omega
end Go.Proofs.YtgplajofemencaaGreat
/- What can be followed and ended is the tour of a plan that may be, and such a tour can; what was seen; what a sooner car can: plain mathematics. -/
namespace Go.Proofs.YtgplajofemencaaGreat

theorem uS_len {I : Ins} (hm : mayB I = true) : (2 * I.p).toNat ≤ 63 := by have := (fine_of hm).p1; omega
theorem has_all {I : Ins} (hm : mayB I = true) (i : Int) : has (allS I) i = true ↔ 1 ≤ i ∧ i ≤ 2 * I.p := by
  unfold allS
  rw [has_upto _ (uS_len hm), Bool.and_eq_true, decide_eq_true_eq, decide_eq_true_eq]
  have := (fine_of hm).p0
  constructor <;> (rintro ⟨a, b⟩; exact ⟨a, by omega⟩)
theorem within_all {I : Ins} (hm : mayB I = true) {s : Nat} : within (allS I) s = true ↔ ∀ i : Int, 1 ≤ i → i ≤ 2 * I.p → has s i = true := by
  have hp := (fine_of hm).p1
  rw [within_iff (allS I) s (upto_lt _)]
  constructor
  · intro h i h1 h2
    have := h i.toNat (by omega)
    rw [show ((i.toNat : Nat) : Int) = i by omega] at this
    exact this ((has_all hm i).2 ⟨h1, h2⟩)
  · intro h k _ h2
    have := (has_all hm k).1 h2
    exact h k this.1 this.2
theorem endC_none {I : Ins} {s : Sta} (h : ¬ EndS I s) : endC I s = 0 := by unfold endC; rw [if_neg h]
theorem endC_is {I : Ins} {s : Sta} (h : EndS I s) : endC I s = farS1 I s 0 := by unfold endC; rw [if_pos h]
theorem cut_empty {t : List Int} (h0 : ∀ x ∈ t, 0 ≤ x) (h1 : (cutP t).1 = []) (h2 : (cutP t).2 = []) : t = [] := by
  have := glue_cut t h0
  unfold cutL at this
  rw [h1, h2] at this
  simp [glue] at this
  exact this
theorem flat_nil_full {D : List (List Int)} (hf : ∀ l ∈ D, l ≠ []) (h : D.flatten = []) : D = [] := by
  cases D with
  | nil => rfl
  | cons l D =>
    rw [List.flatten_cons, List.append_eq_nil_iff] at h
    exact absurd h.1 (hf l (by simp))
theorem ofN_zero {l : List Int} (h : ∀ i ∈ l, 1 ≤ i ∧ i ≤ 63) (h0 : ofN l = 0) : l = [] := by
  cases l with
  | nil => rfl
  | cons x l =>
    have hx := h x (by simp)
    have := (has_ofN (x :: l) x.toNat (by omega)).2 (by rw [show ((x.toNat : Nat) : Int) = x by omega]; simp)
    rw [h0, has_zero] at this; cases this
section
variable {I : Ins} {D : List (List Int)} {r : List Int} {s : Sta} {c : Int} {ts : TS}
theorem InvR.full (h : InvR I D r s c ts) : Full D := fun l hl => (errR_zero (h.done l hl)).1
theorem InvR.r63 (h : InvR I D r s c ts) : ∀ i ∈ D.flatten ++ r, 1 ≤ i ∧ i ≤ 63 := fun i hi => by
  have := h.rng i hi
  have := (fine_of h.mayI).p1
  omega
theorem InvR.empty (h : InvR I D r s c ts) (h0 : s.must = 0) : D = [] ∧ r = [] := by
  rw [h.seen] at h0
  have := ofN_zero h.r63 h0
  rw [List.append_eq_nil_iff] at this
  exact ⟨flat_nil_full h.full this.1, this.2⟩
/-- Where it can be ended, not at the yard. -/
theorem InvR.ends (h : InvR I D r s c ts) (h0 : s.pos ≠ 0) (h1 : s.on = 0) (h2 : within (allS I) s.may = true) (h3 : comeS I s 0 ≤ (nth I.l 0).u) :
    costE I (D ++ [r]) = 0 ∧ costN I (D ++ [r]) = c + farS1 I s 0 ∧ RiseL (D ++ [r]) ∧ Full (D ++ [r]) := by
  obtain ⟨hr, _, he, hfar, _⟩ := h.close h0 h1 h3
  have hp := fine_of h.mayI
  have hfl : (D ++ [r]).flatten = D.flatten ++ r := by rw [flat_snoc]
  have hc : costE I (D ++ [r]) = 0 := by
    rw [costE_of h.mayI (by rw [List.length_append]; have := h.car; have := h.carc; simp; omega) ((firstE_zero I _).2 (fun l hl => by
      rcases List.mem_append.1 hl with hl | hl
      · exact h.done l hl
      · rw [List.mem_singleton.1 hl]; exact he)), hfl]
    refine togE_ok h.nodup ?_
    have := rng_full (D := D.flatten ++ r) (n := (2 * I.p).toNat) (fun i h4 h5 => by
      have h6 := (within_all h.mayI).1 h2 i h4 (by have := hp.p0; omega)
      rw [h.same] at h6
      exact (h.has_must (by omega) (by have := hp.p1; omega)).1 h6)
    have := hp.p0
    omega
  refine ⟨hc, ?_, pair_rise (List.pairwise_append.2 ⟨h.rise, by simp, fun a ha b hb => by rw [List.mem_singleton.1 hb]; exact h.rise1 hr a ha⟩), full_snoc.2 ⟨h.full, hr⟩⟩
  rw [costN_ok hc, farS_snoc, hfar, h.cost]; omega
end
/-- What can be followed and ended is the tour of a plan that may be, and that costs as much. -/
theorem tours {I : Ins} (hm : mayB I = true) {t : List Int} {s : Sta} {c : Int} (h : followS I t = some (s, c)) (he : EndS I s) : splitE t = 0 ∧ costE I (splitR t) = 0 ∧ costN I (splitR t) = c + endC I s := by
  obtain ⟨⟨ts, hi⟩, hx⟩ := follow_inv hm t s c h
  rw [endC_is he]
  rcases he with ⟨_, hp, hs⟩ | ⟨_, h1, h2, h3, h4⟩
  · have h0 : s.must = 0 := by rw [hs, root_may hm]
    have hD := hi.empty h0
    have ht := cut_empty (fun x hx2 => (hx x hx2).1) hD.1 hD.2
    subst ht
    rw [follow_nil] at h
    simp only [Option.some.injEq, Prod.mk.injEq] at h
    obtain ⟨_, rfl⟩ := h
    have hcc := (inb_iff _ _ _).1 ((may_iff I).1 hm).2.1
    have hc : costE I [] = 0 := by
      rw [costE_of hm (by show (0 : Int) ≤ _; omega) rfl]
      exact togE_ok List.nodup_nil (by rw [hp]; decide)
    refine ⟨split_nil.1, by rw [split_nil.2]; exact hc, ?_⟩
    rw [split_nil.2, costN_ok hc, hs, root_may hm]
    show (0 : Int) = 0 + farF (nth I.l 0) (nth I.l 0)
    rw [farF_self]; rfl
  · obtain ⟨k1, k2, k3, k4⟩ := hi.ends h1 h2 h3 h4
    have ht : t ≠ [] := by
      rintro rfl
      exact h1 (hi.pos.2 rfl)
    have hF : FormT t := (form_iff ht).2 ⟨fun x hx2 => (hx x hx2).1, k4⟩
    obtain ⟨e1, e2⟩ := split_fine ht hF k3
    rw [e2]
    exact ⟨e1, k1, k2⟩

/-! ### A plan that may be is followed as its tour -/
end Go.Proofs.YtgplajofemencaaGreat
/- What was seen behind moves; what a sooner car can; where a state can be ended; its moves: plain mathematics. -/
namespace Go.Proofs.YtgplajofemencaaGreat

/-! ### What was seen -/
/-! ### A sooner car -/
theorem late {I : Ins} {s : Sta} {j u v : Int} (h : Can I s j) (hu : 0 ≤ u ∧ u ≤ s.time) (hv : 0 ≤ v ∧ v ≤ s.load) :
    Can I ⟨s.pos, s.car, s.time - u, s.load - v, s.first, s.must, s.may, s.on⟩ j ∧
    (nextS I ⟨s.pos, s.car, s.time - u, s.load - v, s.first, s.must, s.may, s.on⟩ j).time ≤ (nextS I s j).time ∧
    (nextS I ⟨s.pos, s.car, s.time - u, s.load - v, s.first, s.must, s.may, s.on⟩ j).load ≤ (nextS I s j).load ∧
    (nextS I ⟨s.pos, s.car, s.time - u, s.load - v, s.first, s.must, s.may, s.on⟩ j).must = (nextS I s j).must ∧
    (nextS I ⟨s.pos, s.car, s.time - u, s.load - v, s.first, s.must, s.may, s.on⟩ j).pos = (nextS I s j).pos := by
  have hb : ∀ j, begS I ⟨s.pos, s.car, s.time - u, s.load - v, s.first, s.must, s.may, s.on⟩ j ≤ begS I s j := fun j => by
    unfold begS comeS
    simp only
    omega
  have hcm : comeS I ⟨s.pos, s.car, s.time - u, s.load - v, s.first, s.must, s.may, s.on⟩ 0 ≤ comeS I s 0 := by
    unfold comeS
    simp only
    omega
  obtain ⟨⟨g1, g2, g3, g4, g5⟩, hc⟩ := h
  refine ⟨⟨⟨g1, g2, g3, by show 0 ≤ s.time - u ∧ s.time - u ≤ _; omega, by show 0 ≤ s.load - v ∧ s.load - v ≤ _; omega⟩, ?_⟩, ?_⟩
  · rcases hc with ⟨a, b, d, e, f⟩ | ⟨a, b, d, e, f⟩ | ⟨a, b, d, e, f, g⟩
    · exact .inl ⟨a, b, by show s.load - v + _ ≤ _; omega, Int.le_trans (hb j) e, f⟩
    · exact .inr (.inl ⟨a, b, d, e, Int.le_trans (hb j) f⟩)
    · exact .inr (.inr ⟨a, b, d, e, f, Int.le_trans hcm g⟩)
  · unfold nextS
    by_cases hj : j = 0
    · rw [if_pos hj, if_pos hj]
      exact ⟨Int.le_refl _, Int.le_refl _, rfl, rfl⟩
    · rw [if_neg hj, if_neg hj]
      have := hb j
      refine ⟨?_, ?_, rfl, rfl⟩
      · show begS I _ j + (stp I j).s ≤ begS I s j + (stp I j).s
        omega
      · show max (s.load - v + (stp I j).d) 0 ≤ max (s.load + (stp I j).d) 0
        omega

/-! ### Ends -/
theorem endC_pos (I : Ins) (s : Sta) : 0 ≤ endC I s := by
  unfold endC farS1
  split
  · exact (farF_bd _ _).1
  · exact Int.le_refl _
/-! ### Moves -/
theorem can_rng {I : Ins} {s : Sta} {j : Int} (h : Can I s j) : 0 ≤ j ∧ j ≤ 2 * I.p := by
  have hp := (fine_of h.1.1).p0
  by_cases hj : j = 0
  · omega
  · obtain ⟨_, h4, h5⟩ := can_pos h hj; omega
theorem movesN_succ (I : Ins) (s : Sta) (n : Nat) : movesN I s (n + 1) = if Can I s n then movesN I s n ++ [(n : Int)] else movesN I s n := by
  unfold movesN
  rw [List.range_succ, List.map_append, List.filter_append]
  by_cases h : Can I s n
  · rw [if_pos h]; simp [h]
  · rw [if_neg h]; simp [h]
theorem movesN_zero (I : Ins) (s : Sta) : movesN I s 0 = [] := rfl
theorem movesN_len (I : Ins) (s : Sta) (n : Nat) : (movesN I s n).length ≤ n := by
  unfold movesN
  refine Nat.le_trans (List.length_filter_le _ _) ?_
  simp
theorem movesN_more {I : Ins} {s : Sta} {n m : Nat} (h : n ≤ m) : ∃ B, movesN I s m = movesN I s n ++ B ∧ ∀ x ∈ B, (n : Int) ≤ x := by
  induction m with
  | zero =>
    obtain rfl : n = 0 := by omega
    exact ⟨[], by simp, fun x hx => (nomatch hx)⟩
  | succ m ih =>
    by_cases he : n = m + 1
    · subst he; exact ⟨[], by simp, fun x hx => (nomatch hx)⟩
    · obtain ⟨B, h1, h2⟩ := ih (by omega)
      rw [movesN_succ]
      by_cases hc : Can I s m
      · rw [if_pos hc, h1]
        refine ⟨B ++ [(m : Int)], by rw [List.append_assoc], fun x hx => ?_⟩
        rcases List.mem_append.1 hx with hx | hx
        · exact h2 x hx
        · rw [List.mem_singleton.1 hx]; omega
      · rw [if_neg hc]; exact ⟨B, h1, h2⟩
/-- Above all stops there are no moves. -/
theorem movesN_all {I : Ins} {s : Sta} {n : Nat} (h : (2 * I.p + 1).toNat ≤ n) : movesN I s n = movesS I s := by
  obtain ⟨B, h1, h2⟩ := movesN_more (I := I) (s := s) h
  rw [h1]
  have : B = [] := by
    cases B with
    | nil => rfl
    | cons x B =>
      have hx := h2 x (by simp)
      have hm : x ∈ movesN I s n := by rw [h1]; simp
      unfold movesN at hm
      have hc := of_decide_eq_true (List.mem_filter.1 hm).2
      have := can_rng hc
      omega
  rw [this, List.append_nil]; rfl
/-- What a move leaves. -/
theorem next_known {I : Ins} {s : Sta} {j : Int} (h : Can I s j) : (nextS I s j).pos = j ∧ 0 ≤ farS1 I s j ∧ (0 < j → s.time + farS1 I s j ≤ (nextS I s j).time ∧ (nextS I s j).car = s.car) ∧ (j = 0 → (nextS I s j).car = s.car + 1) := by
  refine ⟨?_, (farF_bd _ _).1, fun hj => ?_, fun hj => ?_⟩
  · unfold nextS
    by_cases hj : j = 0
    · rw [if_pos hj, hj]; rfl
    · rw [if_neg hj]; rfl
  · have hr := can_rng h
    have hs := stop_in ((fine_of h.1.1).ok j hr.1 hr.2)
    unfold nextS
    rw [if_neg (by omega)]
    refine ⟨?_, rfl⟩
    show s.time + farF (stp I s.pos) (stp I j) ≤ max (s.time + farF (stp I s.pos) (stp I j)) (stp I j).r + (stp I j).s
    omega
  · unfold nextS; rw [if_pos hj]; rfl
end Go.Proofs.YtgplajofemencaaGreat
