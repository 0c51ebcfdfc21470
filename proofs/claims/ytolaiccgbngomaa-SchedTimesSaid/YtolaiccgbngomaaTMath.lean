/- The plain mathematics of when a car is where: a route gone stop by stop, what is wrong with it, its times and loads. Nothing of the program stands here. -/
import Derived.Test.YtolaiccgbngomaaPMath
namespace Go.Proofs.Ytolaiccgbngomaa

/-- The times at a stop. -/
structure Tm where
  come : Int
  begn : Int
  leave : Int
deriving DecidableEq
/-- Where a car is, and what it has done. -/
structure TS where
  seen : List Int
  now : Int
  last : Stp
  far : Int
  out : List Tm
def stp (I : Ins) (i : Int) : Stp := nth I.l i.toNat
def heldL (I : Ins) (l : List Int) : Int := (l.map (fun i => (stp I i).d)).foldl (· + ·) 0
theorem foldl_add : ∀ (l : List Int) (a : Int), l.foldl (· + ·) a = a + l.foldl (· + ·) 0
  | [], a => by simp
  | x :: l, a => by
    rw [List.foldl_cons, List.foldl_cons, foldl_add l (a + x), foldl_add l (0 + x)]
    omega
theorem heldL_snoc (I : Ins) (l : List Int) (i : Int) : heldL I (l ++ [i]) = heldL I l + (stp I i).d := by
  unfold heldL
  rw [List.map_append, List.foldl_append]
  simp
theorem heldL_nil (I : Ins) : heldL I [] = 0 := rfl
/-- What is wrong with a stop behind some others. -/
def wrongE (I : Ins) (ahead : List Int) (i : Int) : Int :=
  if i < 1 ∨ 2 * I.p < i then 1 else if i ∈ ahead then 5 else if I.p < i ∧ i - I.p ∉ ahead then 8 else if I.r < heldL I ahead + (stp I i).d then 6 else 0
def tmAt (s : TS) (t : Stp) : Tm := ⟨s.now + farF s.last t, max (s.now + farF s.last t) t.r, max (s.now + farF s.last t) t.r + t.s⟩
def nextT (s : TS) (i : Int) (t : Stp) : TS := ⟨s.seen ++ [i], (tmAt s t).leave, t, s.far + farF s.last t, s.out ++ [tmAt s t]⟩
def stepE (I : Ins) (s : TS) (i : Int) : Except Int TS :=
  if wrongE I s.seen i ≠ 0 then .error (wrongE I s.seen i) else if (stp I i).u < (tmAt s (stp I i)).begn then .error 7 else .ok (nextT s i (stp I i))
def runE (I : Ins) (s : Except Int TS) (l : List Int) : Except Int TS := l.foldl (fun s i => s.bind (fun s => stepE I s i)) s
def startT (I : Ins) : TS := ⟨[], (nth I.l 0).r, nth I.l 0, 0, []⟩
def goE (I : Ins) (l : List Int) : Except Int TS := runE I (.ok (startT I)) l
theorem runE_err (I : Ins) (e : Int) : ∀ (l : List Int), runE I (.error e) l = .error e
  | [] => rfl
  | _ :: l => runE_err I e l
theorem runE_append (I : Ins) (s : Except Int TS) (a b : List Int) : runE I s (a ++ b) = runE I (runE I s a) b := by unfold runE; rw [List.foldl_append]
theorem goE_snoc (I : Ins) (l : List Int) (i : Int) : goE I (l ++ [i]) = (goE I l).bind (fun s => stepE I s i) := by unfold goE; rw [runE_append]; rfl
/-- An error stays. -/
theorem goE_stays {I : Ins} {a b : List Int} {e : Int} (h : goE I a = .error e) : goE I (a ++ b) = .error e := by
  unfold goE at *; rw [runE_append, h, runE_err]
theorem stepE_ok {I : Ins} {s s' : TS} {i : Int} (h : stepE I s i = .ok s') : wrongE I s.seen i = 0 ∧ (tmAt s (stp I i)).begn ≤ (stp I i).u ∧ s' = nextT s i (stp I i) := by
  unfold stepE at h
  split at h
  · cases h
  · next h1 =>
    split at h
    · cases h
    · next h2 => cases h; exact ⟨by omega, by omega, rfl⟩
theorem goE_step {I : Ins} {l : List Int} {i : Int} {s' : TS} (h : goE I (l ++ [i]) = .ok s') : ∃ s, goE I l = .ok s ∧ stepE I s i = .ok s' := by
  rw [goE_snoc] at h
  cases hg : goE I l with
  | error e => rw [hg] at h; cases h
  | ok s => rw [hg] at h; exact ⟨s, rfl, h⟩
theorem goE_head {I : Ins} {a b : List Int} {s' : TS} (h : goE I (a ++ b) = .ok s') : ∃ s, goE I a = .ok s := by
  cases hg : goE I a with
  | error e => rw [goE_stays hg] at h; cases h
  | ok s => exact ⟨s, rfl⟩
/-- Induction along a route that can be gone. -/
theorem goE_ind {I : Ins} {P : List Int → TS → Prop} (h0 : P [] (startT I)) (hs : ∀ l i s s', goE I l = .ok s → P l s → stepE I s i = .ok s' → P (l ++ [i]) s') : ∀ (l : List Int) (s : TS), goE I l = .ok s → P l s := by
  have key : ∀ (n : Nat) (l : List Int) (s : TS), l.length = n → goE I l = .ok s → P l s := by
    intro n
    induction n with
    | zero =>
      intro l s hl hg
      have : l = [] := List.eq_nil_of_length_eq_zero hl
      subst this
      cases hg
      exact h0
    | succ n ih =>
      intro l s hl hg
      obtain ⟨a, i, rfl⟩ : ∃ a i, l = a ++ [i] := ⟨l.dropLast, l.getLast (by intro e; subst e; simp at hl), (List.dropLast_concat_getLast _).symm⟩
      obtain ⟨s0, h1, h2⟩ := goE_step hg
      exact hs a i s0 s h1 (ih a s0 (by simp at hl; omega) h1) h2
  exact fun l s => key l.length l s rfl
theorem goE_seen {I : Ins} : ∀ (l : List Int) (s : TS), goE I l = .ok s → s.seen = l ∧ s.out.length = l.length :=
  goE_ind ⟨rfl, rfl⟩ (fun l i s s' _ hp h => by
    obtain ⟨_, _, rfl⟩ := stepE_ok h
    exact ⟨by rw [nextT, hp.1], by simp [nextT, hp.2]⟩)
/-- What is wrong at the end of a route. -/
def endE (I : Ins) (l : List Int) : Int := if ∃ i ∈ l, i ≤ I.p ∧ i + I.p ∉ l then 8 else 0
def backT (I : Ins) (s : TS) : Int := s.now + farF s.last (nth I.l 0)
/-- What Times answers: what is wrong, the times, how far. -/
def finE (I : Ins) (l : List Int) : Except Int TS :=
  (goE I l).bind (fun s => if endE I l ≠ 0 then .error 8 else if (nth I.l 0).u < backT I s then .error 7 else .ok s)
def timesE (I : Ins) (l : List Int) : Except Int TS := if mayB I = true then finE I l else .error 1
def errT (I : Ins) (l : List Int) : Int := match timesE I l with | .error e => e | .ok _ => 0
def outT (I : Ins) (l : List Int) : List Tm := match timesE I l with | .error _ => [] | .ok s => s.out
def farT (I : Ins) (l : List Int) : Int := match timesE I l with | .error _ => 0 | .ok s => s.far + farF s.last (nth I.l 0)
def loadsT (I : Ins) (l : List Int) : List Int := if errT I l = 0 then (List.range l.length).map (fun k => heldL I (l.take (k + 1))) else []
theorem wrongE_cases (I : Ins) (a : List Int) (i : Int) : wrongE I a i = 1 ∨ wrongE I a i = 5 ∨ wrongE I a i = 8 ∨ wrongE I a i = 6 ∨ wrongE I a i = 0 := by
  unfold wrongE; split
  · exact .inl rfl
  · split
    · exact .inr (.inl rfl)
    · split
      · exact .inr (.inr (.inl rfl))
      · split
        · exact .inr (.inr (.inr (.inl rfl)))
        · exact .inr (.inr (.inr (.inr rfl)))
theorem stepE_err {I : Ins} {s : TS} {i : Int} {e : Int} (h : stepE I s i = .error e) : e ≠ 0 := by
  unfold stepE at h
  split at h
  · next h1 => cases h; exact h1
  · split at h
    · cases h; decide
    · cases h
theorem goE_err {I : Ins} {l : List Int} {e : Int} (h : goE I l = .error e) : e ≠ 0 := by
  have key : ∀ (n : Nat) (l : List Int), l.length = n → goE I l = .error e → e ≠ 0 := by
    intro n
    induction n with
    | zero =>
      intro l hl hg
      have : l = [] := List.eq_nil_of_length_eq_zero hl
      subst this
      cases hg
    | succ n ih =>
      intro l hl hg
      obtain ⟨a, i, rfl⟩ : ∃ a i, l = a ++ [i] := ⟨l.dropLast, l.getLast (by intro e; subst e; simp at hl), (List.dropLast_concat_getLast _).symm⟩
      rw [goE_snoc] at hg
      cases hc : goE I a with
      | error e' =>
        rw [hc] at hg; cases hg
        exact ih a (by simp at hl; omega) hc
      | ok s => rw [hc] at hg; exact stepE_err hg
  exact key l.length l rfl h
theorem timesE_err {I : Ins} {l : List Int} {e : Int} (h : timesE I l = .error e) : e ≠ 0 := by
  unfold timesE at h
  split at h
  · unfold finE at h
    cases hg : goE I l with
    | error e' => rw [hg] at h; cases h; exact goE_err hg
    | ok s =>
      rw [hg] at h
      simp only [Except.bind] at h
      split at h
      · cases h; decide
      · split at h
        · cases h; decide
        · cases h
  · cases h; decide
theorem errT_zero {I : Ins} {l : List Int} (h : errT I l = 0) : ∃ s, timesE I l = .ok s := by
  unfold errT at h
  cases ht : timesE I l with
  | error e => rw [ht] at h; exact absurd h (timesE_err ht)
  | ok s => exact ⟨s, rfl⟩
theorem timesE_ok {I : Ins} {l : List Int} {s : TS} (h : timesE I l = .ok s) : mayB I = true ∧ goE I l = .ok s ∧ endE I l = 0 ∧ backT I s ≤ (nth I.l 0).u := by
  unfold timesE at h
  split at h
  · next hm =>
    unfold finE at h
    cases hg : goE I l with
    | error e' => rw [hg] at h; cases h
    | ok s' =>
      rw [hg] at h
      simp only [Except.bind] at h
      split at h
      · cases h
      · next h1 =>
        split at h
        · cases h
        · next h2 =>
          cases h
          exact ⟨hm, rfl, by omega, by omega⟩
  · cases h
theorem timesE_of {I : Ins} {l : List Int} {s : TS} (h1 : mayB I = true) (h2 : goE I l = .ok s) (h3 : endE I l = 0) (h4 : backT I s ≤ (nth I.l 0).u) : timesE I l = .ok s := by
  unfold timesE finE
  rw [if_pos h1, h2]
  simp only [Except.bind]
  rw [if_neg (by omega), if_neg (by omega)]
end Go.Proofs.Ytolaiccgbngomaa
