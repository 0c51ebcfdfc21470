/- A route that can be gone, stop by stop: where the car is, what it holds, when; what it holds at most; a pair alone. Nothing of the program stands here. -/
import Derived.Test.YtolaiccgbngomaaTLess
namespace Go.Proofs.Ytolaiccgbngomaa

/-- Where the car is behind k stops. -/
def sK (I : Ins) (l : List Int) (k : Nat) : TS := match goE I (l.take k) with | .ok s => s | .error _ => startT I
def atK (l : List Int) (k : Nat) : Int := (l.take k).getLastD 0
theorem take_snoc {l : List Int} {k : Nat} (hk : k < l.length) : l.take (k + 1) = l.take k ++ [l.getD k 0] := by
  rw [List.take_add_one, List.getElem?_eq_getElem hk, List.getD_eq_getElem?_getD, List.getElem?_eq_getElem hk]; rfl
theorem atK_zero (l : List Int) : atK l 0 = 0 := rfl
theorem atK_next {l : List Int} {k : Nat} (hk : k < l.length) : atK l (k + 1) = l.getD k 0 := by
  unfold atK; rw [take_snoc hk]; simp
theorem sK_of {I : Ins} {l : List Int} {k : Nat} {s : TS} (h : goE I (l.take k) = .ok s) : sK I l k = s := by unfold sK; rw [h]
theorem sK_ok {I : Ins} {l : List Int} {s : TS} (h : goE I l = .ok s) (k : Nat) : goE I (l.take k) = .ok (sK I l k) := by
  obtain ⟨s', hs⟩ := goE_head (a := l.take k) (b := l.drop k) (by rw [List.take_append_drop]; exact h)
  rw [sK_of hs]; exact hs
theorem sK_all {I : Ins} {l : List Int} {s : TS} (h : goE I l = .ok s) : sK I l l.length = s := sK_of (by rw [List.take_length]; exact h)
theorem sK_zero (I : Ins) (l : List Int) : sK I l 0 = startT I := rfl
theorem sK_seen {I : Ins} {l : List Int} {s : TS} (h : goE I l = .ok s) (k : Nat) : (sK I l k).seen = l.take k := (goE_seen _ _ (sK_ok h k)).1
/-- One stop more. -/
theorem sK_step {I : Ins} {l : List Int} {s : TS} (h : goE I l = .ok s) {k : Nat} (hk : k < l.length) :
    wrongE I (l.take k) (l.getD k 0) = 0 ∧ (tmAt (sK I l k) (stp I (l.getD k 0))).begn ≤ (stp I (l.getD k 0)).u ∧ sK I l (k + 1) = nextT (sK I l k) (l.getD k 0) (stp I (l.getD k 0)) := by
  have h1 := sK_ok h (k + 1)
  rw [take_snoc hk] at h1
  obtain ⟨s0, h2, h3⟩ := goE_step h1
  rw [← sK_of h2] at h3
  obtain ⟨h4, h5, h6⟩ := stepE_ok h3
  rw [sK_seen h k] at h4
  exact ⟨h4, h5, h6⟩
theorem sK_last {I : Ins} {l : List Int} {s : TS} (h : goE I l = .ok s) {k : Nat} (hk : k ≤ l.length) : (sK I l k).last = stp I (atK l k) := by
  match k with
  | 0 => rfl
  | k + 1 => rw [(sK_step h (show k < l.length by omega)).2.2, atK_next (by omega)]; rfl
theorem sK_out {I : Ins} : ∀ (l : List Int) (s : TS), goE I l = .ok s → ∀ k, k < l.length → s.out[k]? = some (tmAt (sK I l k) (stp I (l.getD k 0))) :=
  goE_ind (fun k hk => by simp at hk) (fun l i s s' hg hp h => by
    obtain ⟨_, _, rfl⟩ := stepE_ok h
    have hl := (goE_seen l s hg).2
    intro k hk
    simp only [nextT]
    by_cases c : k < l.length
    · rw [List.getElem?_append_left (by omega), hp k c]
      congr 2
      · unfold sK; rw [List.take_append_of_le_length (by omega)]
      · rw [List.getD_eq_getElem?_getD, List.getD_eq_getElem?_getD, List.getElem?_append_left c]
    · have e : k = l.length := by simp at hk; omega
      subst e
      rw [List.getElem?_append_right (by omega), hl, Nat.sub_self]
      have e1 : sK I (l ++ [i]) l.length = s := sK_of (by rw [List.take_left]; exact hg)
      have e2 : (l ++ [i]).getD l.length 0 = i := by rw [List.getD_eq_getElem?_getD, List.getElem?_append_right (Nat.le_refl _)]; simp
      rw [e1, e2]; rfl)
theorem atK_rng {I : Ins} {l : List Int} {s : TS} (hf : Fine I) (h : goE I l = .ok s) {k : Nat} (hk : k ≤ l.length) : 0 ≤ atK l k ∧ atK l k ≤ 2 * I.p := by
  match k with
  | 0 => rw [atK_zero]; have := hf.p0; omega
  | k + 1 =>
    rw [atK_next (by omega)]
    have := wrongE_zero (sK_step h (show k < l.length by omega)).1
    omega
/-- What the car holds on the way. -/
theorem load_next {I : Ins} {l : List Int} {k : Nat} (hk : k < l.length) : heldL I (l.take (k + 1)) = heldL I (l.take k) + (stp I (l.getD k 0)).d := by rw [take_snoc hk, heldL_snoc]
theorem load_room {I : Ins} {l : List Int} {s : TS} (h : goE I l = .ok s) {k : Nat} (hk : k < l.length) : heldL I (l.take (k + 1)) ≤ I.r := by
  rw [load_next hk]; exact (wrongE_zero (sK_step h hk).1).2.2.2.2
theorem load_pos {I : Ins} (hf : Fine I) {l : List Int} {s : TS} (h : goE I l = .ok s) (k : Nat) : 0 ≤ heldL I (l.take k) := held_nonneg hf (sK_ok h k)
theorem load_ge {I : Ins} (hf : Fine I) {l : List Int} {s : TS} (h : goE I l = .ok s) {k : Nat} (hk : k < l.length) (hp : l.getD k 0 ≤ I.p) : (stp I (l.getD k 0)).d ≤ heldL I (l.take (k + 1)) := by
  obtain ⟨w1, w2, w3, w4, w5⟩ := wrongE_zero (sK_step h hk).1
  have hg := goE_good _ _ (sK_ok h k)
  refine held_ge hf (sK_ok h (k + 1)) (by rw [take_snoc hk]; simp) hp ?_
  rw [take_snoc hk]
  simp only [List.mem_append, List.mem_singleton]
  rintro (hm | hm)
  · have := hg.clos _ hm (by omega)
    rw [show l.getD k 0 + I.p - I.p = l.getD k 0 by omega] at this
    exact w3 this
  · omega
theorem load_first {I : Ins} (hf : Fine I) {l : List Int} {s : TS} (h : goE I l = .ok s) (hl : 0 < l.length) : 1 ≤ heldL I (l.take 1) := by
  obtain ⟨w1, w2, w3, w4, w5⟩ := wrongE_zero (sK_step h hl).1
  have hp : l.getD 0 0 ≤ I.p := by
    apply Int.not_lt.1
    intro hc
    have := w4 hc
    simp at this
  have h1 := load_ge hf h hl hp
  have h2 := hf.take _ w1 hp
  rw [Nat.zero_add] at h1
  omega
theorem not_twice {I : Ins} {l : List Int} {s : TS} (h : goE I l = .ok s) {j k : Nat} (hk : k < l.length) (hj : j < k) : l.getD j 0 ≠ l.getD k 0 := by
  obtain ⟨w1, w2, w3, w4, w5⟩ := wrongE_zero (sK_step h hk).1
  intro e
  apply w3
  rw [← e, List.getD_eq_getElem?_getD, List.getElem?_eq_getElem (by omega)]
  exact List.mem_take_iff_getElem.2 ⟨j, by omega, rfl⟩
/-- The most of some numbers from 0 on. -/
def mostK (q : List Int) (k : Nat) : Int := (q.take k).foldl max 0
theorem mostK_next {q : List Int} {k : Nat} (hk : k < q.length) : mostK q (k + 1) = max (mostK q k) (q.getD k 0) := by
  unfold mostK; rw [take_snoc hk, List.foldl_append]; rfl
theorem mostK_ge (q : List Int) : ∀ (n : Nat), n ≤ q.length → ∀ k, k < n → q.getD k 0 ≤ mostK q n
  | 0, _, k, hk => by omega
  | n + 1, hn, k, hk => by
    rw [mostK_next (by omega)]
    by_cases c : k = n
    · subst c; omega
    · have := mostK_ge q n (by omega) k (by omega)
      omega
theorem mostK_le (q : List Int) (b : Int) (hb : 0 ≤ b) (h : ∀ k, k < q.length → q.getD k 0 ≤ b) : ∀ (n : Nat), n ≤ q.length → mostK q n ≤ b
  | 0, _ => hb
  | n + 1, hn => by
    rw [mostK_next (by omega)]
    have := mostK_le q b hb h n (by omega)
    have := h n (by omega)
    omega
theorem loadsT_at {I : Ins} {l : List Int} {s : TS} (h : timesE I l = .ok s) : loadsT I l = (List.range l.length).map (fun k => heldL I (l.take (k + 1))) := by
  unfold loadsT errT; rw [h, if_pos rfl]
theorem loadsT_getD {I : Ins} {l : List Int} {s : TS} (h : timesE I l = .ok s) {k : Nat} (hk : k < l.length) : (loadsT I l).getD k 0 = heldL I (l.take (k + 1)) := by
  rw [loadsT_at h, List.getD_eq_getElem?_getD, List.getElem?_map, List.getElem?_range hk]; rfl
theorem loadsT_len {I : Ins} {l : List Int} {s : TS} (h : timesE I l = .ok s) : (loadsT I l).length = l.length := by rw [loadsT_at h]; simp
/-! ### A pair alone -/
def begF (I : Ins) (c : Int) : Int := max ((nth I.l 0).r + farF (nth I.l 0) (stp I c)) (stp I c).r
def thenF (I : Ins) (c : Int) : Int := max (begF I c + (stp I c).s + farF (stp I c) (stp I (c + I.p))) (stp I (c + I.p)).r
def backF (I : Ins) (c : Int) : Int := thenF I c + (stp I (c + I.p)).s + farF (stp I (c + I.p)) (nth I.l 0)
def aloneOk (I : Ins) (c : Int) : Prop := (stp I c).d ≤ I.r ∧ begF I c ≤ (stp I c).u ∧ thenF I c ≤ (stp I (c + I.p)).u ∧ backF I c ≤ (nth I.l 0).u
theorem alone {I : Ins} (hm : mayB I = true) {c : Int} (hc : 1 ≤ c ∧ c ≤ I.p) :
    (aloneOk I c → ∃ s, timesE I [c, c + I.p] = .ok s ∧ s.out.length = 2 ∧ (∃ t0 t1, s.out = [t0, t1] ∧ t0.begn = begF I c ∧ t1.begn = thenF I c) ∧ s.far + farF s.last (nth I.l 0) = farF (nth I.l 0) (stp I c) + farF (stp I c) (stp I (c + I.p)) + farF (stp I (c + I.p)) (nth I.l 0)) ∧
    (¬ aloneOk I c → errT I [c, c + I.p] = 6 ∨ errT I [c, c + I.p] = 7) := by
  have hf := fine_of hm
  have hbr := hf.bring (c + I.p) (by omega) (by omega)
  rw [show c + I.p - I.p = c by omega] at hbr
  have hro := hf.room
  have hend : endE I [c, c + I.p] = 0 := endE_of (fun i hi hp => by
    simp only [List.mem_cons, List.not_mem_nil, or_false] at hi ⊢
    rcases hi with rfl | rfl
    · exact .inr rfl
    · omega)
  have hgo : goE I [c, c + I.p] = (stepE I (startT I) c).bind (fun s => stepE I s (c + I.p)) := rfl
  have e0 : heldL I [] = 0 := rfl
  have e1 : heldL I [c] = (stp I c).d := by unfold heldL; simp
  by_cases k1 : (stp I c).d ≤ I.r
  · have w1 : wrongE I (startT I).seen c = 0 := wrongE_of hc.1 (by omega) (by simp [startT]) (fun h => by omega) (by show heldL I [] + _ ≤ _; omega)
    by_cases k2 : begF I c ≤ (stp I c).u
    · have s1 : stepE I (startT I) c = .ok (nextT (startT I) c (stp I c)) := by
        unfold stepE
        rw [if_neg (by omega), if_neg (by show ¬ (_ < begF I c); omega)]
      rw [s1] at hgo
      have w2 : wrongE I (nextT (startT I) c (stp I c)).seen (c + I.p) = 0 := wrongE_of (by omega) (by omega) (by show c + I.p ∉ [c]; simp; omega) (fun h => by show c + I.p - I.p ∈ [c]; simp) (by show heldL I [c] + _ ≤ _; omega)
      by_cases k3 : thenF I c ≤ (stp I (c + I.p)).u
      · have s2 : stepE I (nextT (startT I) c (stp I c)) (c + I.p) = .ok (nextT (nextT (startT I) c (stp I c)) (c + I.p) (stp I (c + I.p))) := by
          unfold stepE
          rw [if_neg (by omega), if_neg (by show ¬ (_ < thenF I c); omega)]
        have hgo2 : goE I [c, c + I.p] = .ok (nextT (nextT (startT I) c (stp I c)) (c + I.p) (stp I (c + I.p))) := hgo.trans s2
        by_cases k4 : backF I c ≤ (nth I.l 0).u
        · refine ⟨fun _ => ⟨_, timesE_of hm hgo2 hend k4, rfl, ⟨_, _, rfl, rfl, rfl⟩, ?_⟩, fun hn => absurd ⟨k1, k2, k3, k4⟩ hn⟩
          show 0 + farF (nth I.l 0) (stp I c) + farF (stp I c) (stp I (c + I.p)) + farF (stp I (c + I.p)) (nth I.l 0) = _
          omega
        · refine ⟨fun h => absurd h.2.2.2 k4, fun _ => .inr ?_⟩
          unfold errT timesE finE
          rw [if_pos hm, hgo2]
          simp only [Except.bind]
          rw [if_neg (by omega), if_pos (by show _ < backF I c; omega)]
      · refine ⟨fun h => absurd h.2.2.1 k3, fun _ => .inr ?_⟩
        have s2 : stepE I (nextT (startT I) c (stp I c)) (c + I.p) = .error 7 := by
          unfold stepE
          rw [if_neg (by omega), if_pos (by show _ < thenF I c; omega)]
        have hgo2 : goE I [c, c + I.p] = .error 7 := hgo.trans s2
        unfold errT timesE finE
        rw [if_pos hm, hgo2]; rfl
    · refine ⟨fun h => absurd h.2.1 k2, fun _ => .inr ?_⟩
      have s1 : stepE I (startT I) c = .error 7 := by
        unfold stepE
        rw [if_neg (by omega), if_pos (by show _ < begF I c; omega)]
      rw [s1] at hgo
      unfold errT timesE finE
      rw [if_pos hm, hgo]; rfl
  · refine ⟨fun h => absurd h.1 k1, fun _ => .inl ?_⟩
    have w1 : wrongE I (startT I).seen c = 6 := by
      unfold wrongE
      rw [if_neg (by omega), if_neg (by simp [startT]), if_neg (by omega), if_pos (by show _ < heldL I [] + _; omega)]
    have s1 : stepE I (startT I) c = .error 6 := by
      unfold stepE
      rw [if_pos (by omega), w1]
    rw [s1] at hgo
    unfold errT timesE finE
    rw [if_pos hm, hgo]; rfl
end Go.Proofs.Ytolaiccgbngomaa
