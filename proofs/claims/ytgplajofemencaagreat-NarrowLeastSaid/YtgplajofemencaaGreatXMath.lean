/- The plain mathematics of lines of numbers: a machine that goes over bytes, and the document's words, lines and texts. -/
import Derived.Lib.ItoaNum
import Derived.RowKit
import Derived.Laws.BitsAllLaws
import Derived.IntWalk
namespace Go.Proofs.YtgplajofemencaaGreat

/-- What a byte is good for: 1 a space, 2 a minus, 3 a digit, 4 a #, 5 a line feed, 0 anything else. -/
def kd (c : Int) : Int := if c = 32 then 1 else if c = 45 then 2 else if c = 35 then 4 else if c = 10 then 5 else if 48 ≤ c ∧ c ≤ 57 then 3 else 0
theorem kd_cases (c : Int) : (c = 32 ∧ kd c = 1) ∨ (c = 45 ∧ kd c = 2) ∨ (c = 35 ∧ kd c = 4) ∨ (c = 10 ∧ kd c = 5) ∨ (48 ≤ c ∧ c ≤ 57 ∧ kd c = 3) ∨
    (c ≠ 32 ∧ c ≠ 45 ∧ c ≠ 35 ∧ c ≠ 10 ∧ ¬ (48 ≤ c ∧ c ≤ 57) ∧ kd c = 0) := by
  unfold kd
  split
  · exact .inl ⟨by assumption, rfl⟩
  · split
    · exact .inr (.inl ⟨by assumption, rfl⟩)
    · split
      · exact .inr (.inr (.inl ⟨by assumption, rfl⟩))
      · split
        · exact .inr (.inr (.inr (.inl ⟨by assumption, rfl⟩)))
        · split
          · rename_i h; exact .inr (.inr (.inr (.inr (.inl ⟨h.1, h.2, rfl⟩))))
          · exact .inr (.inr (.inr (.inr (.inr ⟨by assumption, by assumption, by assumption, by assumption, by assumption, rfl⟩))))
def dv (c : Int) : Nat := (c - 48).toNat

/-- What a machine holds: the lines, the line, the number that it is at (its size, its digits, its sign), and where it is: 0 where a number may begin, 1 behind a minus, 2 at a digit, 3 behind a #. -/
structure M where
  ls : List (List Int)
  l : List Int
  sz : Nat
  dg : Nat
  neg : Bool
  ph : Nat
def sgn (neg : Bool) (sz : Nat) : Int := if neg then -(sz : Int) else sz
def addL (ls : List (List Int)) (l : List Int) : List (List Int) := if l = [] then ls else ls ++ [l]
def gapM (ls : List (List Int)) (l : List Int) : M := ⟨ls, l, 0, 0, false, 0⟩
def noteM (ls : List (List Int)) (l : List Int) : M := ⟨ls, l, 0, 0, false, 3⟩
def take (m : M) (c : Int) : Option M := if m.dg = 12 then none else some ⟨m.ls, m.l, 10 * m.sz + dv c, m.dg + 1, m.neg, 2⟩
def step (m : M) (c : Int) : Option M :=
  if m.ph = 0 then
    if kd c = 1 then some (gapM m.ls m.l) else if kd c = 2 then some ⟨m.ls, m.l, 0, 0, true, 1⟩ else if kd c = 3 then take ⟨m.ls, m.l, 0, 0, false, 0⟩ c
    else if kd c = 4 then some (noteM m.ls m.l) else if kd c = 5 then some (gapM (addL m.ls m.l) []) else none
  else if m.ph = 1 then
    if kd c = 3 then take m c else none
  else if m.ph = 2 then
    if kd c = 3 then take m c else if kd c = 1 then some (gapM m.ls (m.l ++ [sgn m.neg m.sz])) else if kd c = 4 then some (noteM m.ls (m.l ++ [sgn m.neg m.sz]))
    else if kd c = 5 then some (gapM (addL m.ls (m.l ++ [sgn m.neg m.sz])) []) else none
  else
    if kd c = 5 then some (gapM (addL m.ls m.l) []) else some (noteM m.ls m.l)
def steps : M → List Int → Option M
  | m, [] => some m
  | m, c :: r => (step m c).bind (fun m' => steps m' r)
/-- The lines of what is left, from where the machine is. -/
def run (m : M) (r : List Int) : Option (List (List Int)) := ((steps m r).bind (fun m' => step m' 10)).map (·.ls)
def parse (bs : List Int) : Option (List (List Int)) := run (gapM [] []) bs
theorem run_nil (m : M) : run m [] = (step m 10).map (·.ls) := rfl
theorem run_cons (m : M) (c : Int) (r : List Int) : run m (c :: r) = (step m c).bind (fun m' => run m' r) := by
  unfold run
  rw [steps]
  cases step m c <;> rfl
theorem steps_append : ∀ (a : List Int) (m : M) (b : List Int), steps m (a ++ b) = (steps m a).bind (fun m' => steps m' b)
  | [], m, b => rfl
  | c :: r, m, b => by
    simp only [List.cons_append, steps]
    cases step m c with
    | none => rfl
    | some m' => exact steps_append r m' b
theorem steps_mid (w : List Int) (m : M) (c : Int) (r : List Int) : steps m (w ++ c :: r) = ((steps m w).bind (fun m' => step m' c)).bind (fun m' => steps m' r) := by
  rw [steps_append]
  cases steps m w <;> rfl
/-- What follows where no number of the line may follow. -/
def restOf (ls : List (List Int)) (l : List Int) (k : Int) (r : List Int) : Option (List (List Int)) :=
  if k = 4 then run (noteM ls l) r else if k = 5 then run (gapM (addL ls l) []) r else if k = 6 then some (addL ls l) else none
theorem gap_space (ls l) (c : Int) (r : List Int) (h : kd c = 1) : run (gapM ls l) (c :: r) = run (gapM ls l) r := by
  rw [run_cons]; simp [step, gapM, h]
theorem gap_minus (ls l) (c : Int) (r : List Int) (h : kd c = 2) : run (gapM ls l) (c :: r) = run ⟨ls, l, 0, 0, true, 1⟩ r := by
  rw [run_cons]; simp [step, gapM, h]
theorem gap_digit (ls l) (c : Int) (r : List Int) (h : kd c = 3) : run (gapM ls l) (c :: r) = (take ⟨ls, l, 0, 0, false, 0⟩ c).bind (fun m => run m r) := by
  rw [run_cons]; simp [step, gapM, h]
theorem gap_rest (ls l) (c : Int) (r : List Int) (h1 : kd c ≠ 1) (h2 : kd c ≠ 2) (h3 : kd c ≠ 3) : run (gapM ls l) (c :: r) = restOf ls l (kd c) r := by
  rw [run_cons]
  have := kd_cases c
  unfold restOf
  by_cases h4 : kd c = 4
  · simp [step, gapM, h4]
  · by_cases h5 : kd c = 5
    · simp [step, gapM, h5]
    · have h6 : kd c ≠ 6 := by omega
      simp [step, gapM, h1, h2, h3, h4, h5, h6]
theorem kd_ten : kd 10 = 5 := by decide
theorem gap_end (ls l) : run (gapM ls l) [] = restOf ls l 6 [] := by
  rw [run_nil]; simp [step, gapM, kd_ten, restOf]
theorem sign_digit (ls l) (c : Int) (r : List Int) (h : kd c = 3) : run ⟨ls, l, 0, 0, true, 1⟩ (c :: r) = (take ⟨ls, l, 0, 0, true, 0⟩ c).bind (fun m => run m r) := by
  rw [run_cons]; simp [step, h, take]
theorem sign_bad (ls l) (c : Int) (r : List Int) (h : kd c ≠ 3) : run ⟨ls, l, 0, 0, true, 1⟩ (c :: r) = none := by
  rw [run_cons]; simp [step, h]
theorem sign_end (ls l) : run ⟨ls, l, 0, 0, true, 1⟩ [] = none := by
  rw [run_nil]; simp [step, kd_ten]
theorem num_digit (ls l) (sz dg neg) (c : Int) (r : List Int) (h : kd c = 3) : run ⟨ls, l, sz, dg, neg, 2⟩ (c :: r) = (take ⟨ls, l, sz, dg, neg, 0⟩ c).bind (fun m => run m r) := by
  rw [run_cons]; simp [step, h, take]
theorem num_space (ls l) (sz dg neg) (c : Int) (r : List Int) (h : kd c = 1) : run ⟨ls, l, sz, dg, neg, 2⟩ (c :: r) = run (gapM ls (l ++ [sgn neg sz])) r := by
  rw [run_cons]; simp [step, h]
theorem num_rest (ls l) (sz dg neg) (c : Int) (r : List Int) (h1 : kd c ≠ 1) (h3 : kd c ≠ 3) : run ⟨ls, l, sz, dg, neg, 2⟩ (c :: r) = restOf ls (l ++ [sgn neg sz]) (kd c) r := by
  rw [run_cons]
  have := kd_cases c
  unfold restOf
  by_cases h4 : kd c = 4
  · simp [step, h4]
  · by_cases h5 : kd c = 5
    · simp [step, h5]
    · have h6 : kd c ≠ 6 := by omega
      simp [step, h1, h3, h4, h5, h6]
theorem num_end (ls l) (sz dg neg) : run ⟨ls, l, sz, dg, neg, 2⟩ [] = restOf ls (l ++ [sgn neg sz]) 6 [] := by
  rw [run_nil]; simp [step, kd_ten, restOf, gapM]
theorem note_feed (ls l) (c : Int) (r : List Int) (h : kd c = 5) : run (noteM ls l) (c :: r) = restOf ls l 5 r := by
  rw [run_cons]; simp [step, noteM, h, restOf]
theorem note_on (ls l) (c : Int) (r : List Int) (h : kd c ≠ 5) : run (noteM ls l) (c :: r) = run (noteM ls l) r := by
  rw [run_cons]; simp [step, noteM, h]
theorem note_end (ls l) : run (noteM ls l) [] = restOf ls l 6 [] := by
  rw [run_nil]; simp [step, noteM, kd_ten, restOf, gapM]

/-! ### The document's words, lines, texts -/
def digs : Int → List Int → Option Int
  | n, [] => some n
  | n, c :: r => if c < 48 ∨ 57 < c then none else digs (10 * n + (c - 48)) r
def wordS (b : List Int) : Option Int :=
  if b.head? = some 45 then (if b.tail.length < 1 ∨ 12 < b.tail.length then none else (digs 0 b.tail).map (fun n => -n))
  else (if b.length < 1 ∨ 12 < b.length then none else digs 0 b)
/-- No byte of a word ends it. -/
def Plain (w : List Int) : Prop := ∀ c ∈ w, c ≠ 32 ∧ c ≠ 35 ∧ c ≠ 10
theorem Plain.snoc {w : List Int} {c : Int} (h : Plain w) (h1 : c ≠ 32) (h2 : c ≠ 35) (h3 : c ≠ 10) : Plain (w ++ [c]) := by
  intro x hx
  simp only [List.mem_append, List.mem_singleton] at hx
  rcases hx with hx | rfl
  · exact h x hx
  · exact ⟨h1, h2, h3⟩
theorem digs_nonneg : ∀ (d : List Int) (n m : Int), 0 ≤ n → digs n d = some m → 0 ≤ m
  | [], n, m, hn, h => by simp [digs] at h; omega
  | c :: r, n, m, hn, h => by
    unfold digs at h
    split at h
    · simp at h
    · exact digs_nonneg r _ m (by omega) h
/-- The digits of a number, one behind the other. -/
theorem steps_digs (ls l neg) : ∀ (d : List Int), Plain d → ∀ (sz dg : Nat), dg ≤ 12 →
    steps ⟨ls, l, sz, dg, neg, 2⟩ d = if 12 < dg + d.length then none else (digs sz d).map (fun n => ⟨ls, l, n.toNat, dg + d.length, neg, 2⟩)
  | [], _, sz, dg, hd => by simp [steps, digs]; omega
  | c :: r, hp, sz, dg, hd => by
    have hc := hp c (by simp)
    have hr : Plain r := fun x hx => hp x (by simp [hx])
    unfold steps
    have hk := kd_cases c
    by_cases h3 : kd c = 3
    · have hin : 48 ≤ c ∧ c ≤ 57 := by omega
      by_cases h12 : dg = 12
      · subst h12
        simp [step, h3, take]
      · have ih := steps_digs ls l neg r hr (10 * sz + dv c) (dg + 1) (by omega)
        have e : ((10 * sz + dv c : Nat) : Int) = 10 * (sz : Int) + (c - 48) := by unfold dv; omega
        rw [e] at ih
        simp only [step, h3, take, h12, if_false, if_true, digs]
        simp only [show ¬ (2 : Nat) = 0 by decide, show ¬ (2 : Nat) = 1 by decide, if_false]
        rw [if_neg (show ¬ (c < 48 ∨ 57 < c) by omega)]
        simp only [Option.bind_some, List.length_cons]
        rw [ih]
        have e2 : dg + 1 + r.length = dg + (r.length + 1) := by omega
        rw [e2]
    · have hb : c < 48 ∨ 57 < c := by omega
      have h1 : kd c ≠ 1 := by omega
      have h4 : kd c ≠ 4 := by omega
      have h5 : kd c ≠ 5 := by omega
      simp [step, h3, h1, h4, h5, digs, hb]

/-- A word, and what ends it. -/
theorem word_end (ls : List (List Int)) (l w : List Int) (hw : w ≠ []) (hp : Plain w) (c : Int) (hc : c = 32 ∨ c = 35 ∨ c = 10) :
    (steps (gapM ls l) w).bind (fun m => step m c) = (wordS w).bind (fun n => step (gapM ls (l ++ [n])) c) := by
  have hkc : kd c = 1 ∨ kd c = 4 ∨ kd c = 5 := by
    have := kd_cases c; omega
  have hk3 : kd c ≠ 3 := by omega
  have hk2 : kd c ≠ 2 := by omega
  have fin : ∀ (sz dg : Nat) (neg : Bool), step ⟨ls, l, sz, dg, neg, 2⟩ c = step (gapM ls (l ++ [sgn neg sz])) c := by
    intro sz dg neg
    rcases hkc with h | h | h <;> simp [step, gapM, h]
  match w, hw with
  | x :: r, _ =>
    have hx := hp x (by simp)
    have hr : Plain r := fun y hy => hp y (by simp [hy])
    have hk := kd_cases x
    unfold steps wordS
    by_cases h45 : x = 45
    · subst h45
      have e1 : step (gapM ls l) 45 = some ⟨ls, l, 0, 0, true, 1⟩ := by simp [step, gapM, show kd 45 = 2 by decide]
      rw [e1]
      simp only [Option.bind_some, List.head?_cons, List.tail_cons, if_true]
      match r, hr with
      | [], _ => simp [steps, step, hk3]
      | y :: s, hr =>
        have hy := hr y (by simp)
        have hs : Plain s := fun z hz => hr z (by simp [hz])
        have hky := kd_cases y
        unfold steps digs
        by_cases h3 : kd y = 3
        · have e2 : step ⟨ls, l, 0, 0, true, 1⟩ y = some ⟨ls, l, dv y, 1, true, 2⟩ := by simp [step, h3, take]
          have e3 : ((dv y : Nat) : Int) = 10 * 0 + (y - 48) := by unfold dv; omega
          rw [e2]
          simp only [Option.bind_some]
          rw [steps_digs ls l true s hs (dv y) 1 (by omega), e3, if_neg (show ¬ (y < 48 ∨ 57 < y) by omega)]
          have hl : (1 + s.length) = (y :: s).length := by simp; omega
          rw [hl]
          by_cases hlen : 12 < (y :: s).length
          · rw [if_pos hlen, if_pos (.inr hlen)]; rfl
          · rw [if_neg hlen, if_neg (by simp at hlen ⊢; omega)]
            cases hd : digs (10 * 0 + (y - 48)) s with
            | none => rfl
            | some n =>
              have hn : 0 ≤ n := digs_nonneg s _ _ (by omega) hd
              simp only [Option.map_some, Option.bind_some]
              rw [fin]
              simp [sgn, Int.toNat_of_nonneg hn]
        · have e2 : step ⟨ls, l, 0, 0, true, 1⟩ y = none := by simp [step, h3]
          rw [e2, if_pos (show y < 48 ∨ 57 < y by omega)]
          simp
    · rw [if_neg (by simpa using h45)]
      by_cases h3 : kd x = 3
      · have e2 : step (gapM ls l) x = some ⟨ls, l, dv x, 1, false, 2⟩ := by simp [step, gapM, h3, take]
        have e3 : ((dv x : Nat) : Int) = 10 * 0 + (x - 48) := by unfold dv; omega
        rw [e2]
        simp only [Option.bind_some]
        unfold digs
        rw [steps_digs ls l false r hr (dv x) 1 (by omega), e3, if_neg (show ¬ (x < 48 ∨ 57 < x) by omega)]
        have hl : (1 + r.length) = (x :: r).length := by simp; omega
        rw [hl]
        by_cases hlen : 12 < (x :: r).length
        · rw [if_pos hlen, if_pos (.inr hlen)]; rfl
        · rw [if_neg hlen, if_neg (by simp at hlen ⊢; omega)]
          cases hd : digs (10 * 0 + (x - 48)) r with
          | none => rfl
          | some n =>
            have hn : 0 ≤ n := digs_nonneg r _ _ (by omega) hd
            simp only [Option.map_some, Option.bind_some]
            rw [fin]
            simp [sgn, Int.toNat_of_nonneg hn]
      · have hb : x < 48 ∨ 57 < x := by omega
        have e2 : step (gapM ls l) x = none := by
          have h0 : kd x = 0 := by omega
          simp [step, gapM, h0]
        rw [e2]
        unfold digs
        rw [if_pos hb]
        simp
/-! ### What the laws say -/
/-- What is answered. -/
def errOf (bs : List Int) : Int := if 4096 < bs.length then 6 else if (parse bs).isNone then 2 else 0
def resOf (bs : List Int) : List (List Int) := if 4096 < bs.length then [] else (parse bs).getD []
end Go.Proofs.YtgplajofemencaaGreat
/- The plain mathematics of printing: what is printed is read as it was. -/
namespace Go.Proofs.YtgplajofemencaaGreat

/-- A number's digits, as bytes. -/
def toI (l : List UInt8) : List Int := l.map (fun b => (b.toNat : Int))
def decI (u : Nat) : List Int := toI (Lib.decDigits u)
def itoaI (n : Int) : List Int := toI (Lib.itoa n)
theorem itoaI_neg (n : Int) (h : n < 0) : itoaI n = 45 :: decI n.natAbs := by unfold itoaI Lib.itoa; rw [if_pos h]; rfl
theorem itoaI_pos (n : Int) (h : ¬ n < 0) : itoaI n = decI n.toNat := by unfold itoaI Lib.itoa; rw [if_neg h]; rfl
theorem byte_dig (u : Nat) (h : u < 10) : ((UInt8.ofNat (48 + u)).toNat : Int) = 48 + u := by
  have : (UInt8.ofNat (48 + u)).toNat = 48 + u := by simp [UInt8.toNat_ofNat']; omega
  omega
theorem decI_small (u : Nat) (h : u < 10) : decI u = [48 + (u : Int)] := by
  unfold decI; rw [Lib.decDigits_one h]
  simp only [toI, List.map_cons, List.map_nil]
  rw [byte_dig u h]
theorem decI_big (u : Nat) (h : ¬ u < 10) : decI u = decI (u / 10) ++ [48 + ((u % 10 : Nat) : Int)] := by
  unfold decI; rw [Lib.decDigits, dif_neg h]
  simp only [toI, List.map_append, List.map_cons, List.map_nil]
  rw [byte_dig (u % 10) (by omega)]
theorem digs_app : ∀ (a : List Int) (n : Int) (b : List Int), digs n (a ++ b) = (digs n a).bind (fun m => digs m b)
  | [], n, b => rfl
  | c :: r, n, b => by
    simp only [List.cons_append, digs]
    split
    · rfl
    · exact digs_app r _ b
theorem decI_digs (u : Nat) : digs 0 (decI u) = some (u : Int) := by
  induction u using Nat.strongRecOn with
  | _ u ih =>
    by_cases h : u < 10
    · rw [decI_small u h]
      simp only [digs]
      rw [if_neg (by omega)]
      congr 1; omega
    · rw [decI_big u h, digs_app, ih (u / 10) (by omega)]
      simp only [Option.bind_some, digs]
      rw [if_neg (by omega)]
      congr 1; omega
theorem decI_in (u : Nat) : ∀ c ∈ decI u, 48 ≤ c ∧ c ≤ 57 := by
  induction u using Nat.strongRecOn with
  | _ u ih =>
    intro c hc
    by_cases h : u < 10
    · rw [decI_small u h] at hc
      simp at hc; omega
    · rw [decI_big u h] at hc
      simp only [List.mem_append, List.mem_singleton] at hc
      rcases hc with hc | hc
      · exact ih (u / 10) (by omega) c hc
      · omega
theorem decI_pos (u : Nat) : 1 ≤ (decI u).length := by
  by_cases h : u < 10
  · rw [decI_small u h]; simp
  · rw [decI_big u h]; simp
theorem decI_len : ∀ (k u : Nat), u < 10 ^ (k + 1) → (decI u).length ≤ k + 1
  | 0, u, h => by rw [decI_small u (by omega)]; simp
  | k + 1, u, h => by
    by_cases h1 : u < 10
    · rw [decI_small u h1]; simp
    · rw [decI_big u h1]
      have := decI_len k (u / 10) (by rw [Nat.pow_succ] at h; omega)
      simp; omega
theorem itoaI_plain (n : Int) : Plain (itoaI n) := by
  intro c hc
  by_cases h : n < 0
  · rw [itoaI_neg n h] at hc
    simp only [List.mem_cons] at hc
    rcases hc with rfl | hc
    · decide
    · have := decI_in _ c hc; omega
  · rw [itoaI_pos n h] at hc
    have := decI_in _ c hc; omega
theorem itoaI_some (n : Int) : itoaI n ≠ [] := by
  intro e
  by_cases h : n < 0
  · rw [itoaI_neg n h] at e; simp at e
  · rw [itoaI_pos n h] at e
    have := decI_pos n.toNat
    rw [e] at this; simp at this
theorem head_dec (u : Nat) (r : List Int) : (decI u ++ r).head? ≠ some 45 := by
  intro e
  have hp := decI_pos u
  match hd : decI u, hp with
  | c :: t, _ =>
    rw [hd] at e
    simp at e
    have := decI_in u c (by rw [hd]; simp)
    omega
theorem wordS_minus (r : List Int) : wordS (45 :: r) = if r.length < 1 ∨ 12 < r.length then none else (digs 0 r).map (fun n => -n) := by unfold wordS; simp
theorem word_itoa (n : Int) (h1 : -1000000000000 < n) (h2 : n < 1000000000000) : wordS (itoaI n) = some n := by
  by_cases h : n < 0
  · rw [itoaI_neg n h]
    have hl := decI_len 11 n.natAbs (by omega)
    have hp := decI_pos n.natAbs
    rw [wordS_minus, if_neg (by omega), decI_digs]
    simp; omega
  · rw [itoaI_pos n h]
    have hl := decI_len 11 n.toNat (by omega)
    have hp := decI_pos n.toNat
    unfold wordS
    rw [if_neg (by have := head_dec n.toNat []; simpa using this), if_neg (by omega), decI_digs]
    congr 1; omega
/-! ### Lines and texts -/
def lineT : List Int → List Int
  | [] => []
  | [n] => itoaI n ++ [10]
  | n :: m :: r => itoaI n ++ 32 :: lineT (m :: r)
def textOf : List (List Int) → List Int
  | [] => []
  | l :: L => lineT l ++ textOf L
/-- Numbers that may be read. -/
def Small (l : List Int) : Prop := ∀ n ∈ l, -1000000000000 < n ∧ n < 1000000000000
theorem steps_line (ls : List (List Int)) : ∀ (l acc : List Int), l ≠ [] → Small l → steps (gapM ls acc) (lineT l) = some (gapM (ls ++ [acc ++ l]) [])
  | [], _, h, _ => (h rfl).elim
  | [n], acc, _, hs => by
    have hn := hs n (by simp)
    rw [lineT, steps_mid, word_end ls acc _ (itoaI_some n) (itoaI_plain n) 10 (by simp), word_itoa n hn.1 hn.2]
    simp [step, gapM, kd_ten, addL, steps]
  | n :: m :: r, acc, _, hs => by
    have hn := hs n (by simp)
    have ih := steps_line ls (m :: r) (acc ++ [n]) (by simp) (fun x hx => hs x (by simp only [List.mem_cons] at hx ⊢; exact .inr hx))
    rw [lineT, steps_mid, word_end ls acc _ (itoaI_some n) (itoaI_plain n) 32 (by simp), word_itoa n hn.1 hn.2]
    have e : step (gapM ls (acc ++ [n])) 32 = some (gapM ls (acc ++ [n])) := by simp [step, gapM, show kd 32 = 1 by decide]
    simp only [Option.bind_some, e]
    rw [ih]
    simp
def full (L : List (List Int)) : List (List Int) := L.filter (fun l => l ≠ [])
theorem steps_text : ∀ (L ls : List (List Int)), (∀ l ∈ L, Small l) → steps (gapM ls []) (textOf L) = some (gapM (ls ++ full L) [])
  | [], ls, _ => by simp [textOf, steps, full]
  | l :: L, ls, h => by
    have ih := steps_text L
    have hl := h l (by simp)
    have hL : ∀ x ∈ L, Small x := fun x hx => h x (by simp [hx])
    by_cases he : l = []
    · subst he
      rw [textOf, lineT, List.nil_append, ih ls hL]
      simp [full]
    · rw [textOf, steps_append, steps_line ls l [] he hl]
      simp only [Option.bind_some, List.nil_append]
      rw [ih _ hL]
      simp [full, he]
theorem parse_text (L : List (List Int)) (h : ∀ l ∈ L, Small l) : parse (textOf L) = some (full L) := by
  unfold parse run
  rw [steps_text L [] h]
  simp [step, gapM, kd_ten, addL]
/-- How many numbers lines have. -/
def cnt : List (List Int) → Nat
  | [] => 0
  | l :: L => l.length + cnt L
theorem cnt_append : ∀ a b, cnt (a ++ b) = cnt a + cnt b
  | [], b => by simp [cnt]
  | l :: L, b => by simp [cnt, cnt_append L b]; omega
/-- What holds of all that has been read. -/
structure Good (m : M) : Prop where
  ls : ∀ l ∈ m.ls, l ≠ [] ∧ Small l
  l : Small m.l
  sz : m.sz < 10 ^ m.dg
  dg : m.dg ≤ 12
theorem sgn_small (neg : Bool) (sz dg : Nat) (h : sz < 10 ^ dg) (hd : dg ≤ 12) : -1000000000000 < sgn neg sz ∧ sgn neg sz < 1000000000000 := by
  have : 10 ^ dg ≤ 10 ^ 12 := Nat.pow_le_pow_right (by decide) hd
  cases neg <;> simp [sgn] <;> omega
theorem small_snoc {l : List Int} {n : Int} (h : Small l) (h1 : -1000000000000 < n) (h2 : n < 1000000000000) : Small (l ++ [n]) := by
  intro x hx
  simp only [List.mem_append, List.mem_singleton] at hx
  rcases hx with hx | rfl
  · exact h x hx
  · exact ⟨h1, h2⟩
theorem addL_good {L : List (List Int)} {l : List Int} (h : ∀ x ∈ L, x ≠ [] ∧ Small x) (hl : Small l) : ∀ x ∈ addL L l, x ≠ [] ∧ Small x := by
  intro x hx
  unfold addL at hx
  split at hx
  · exact h x hx
  · simp only [List.mem_append, List.mem_singleton] at hx
    rcases hx with hx | rfl
    · exact h x hx
    · exact ⟨by assumption, hl⟩
theorem gap_good {L : List (List Int)} {l : List Int} (h : ∀ x ∈ L, x ≠ [] ∧ Small x) (hl : Small l) : Good (gapM L l) := ⟨h, hl, by simp [gapM], by simp [gapM]⟩
theorem note_good {L : List (List Int)} {l : List Int} (h : ∀ x ∈ L, x ≠ [] ∧ Small x) (hl : Small l) : Good (noteM L l) := ⟨h, hl, by simp [noteM], by simp [noteM]⟩
theorem take_good {m m' : M} {c : Int} (hc : kd c = 3) (h : Good m) (ht : take m c = some m') : Good m' := by
  unfold take at ht
  split at ht
  · simp at ht
  · simp at ht
    subst ht
    have h1 := h.sz
    have h2 := h.dg
    have h3 := kd_cases c
    refine ⟨h.ls, h.l, ?_, by simp; omega⟩
    show 10 * m.sz + dv c < 10 ^ (m.dg + 1)
    rw [Nat.pow_succ]
    unfold dv
    omega
theorem nil_small : Small [] := fun x hx => by simp at hx
theorem step_good {m m' : M} {c : Int} (h : Good m) (hs : step m c = some m') : Good m' := by
  have hsg := sgn_small m.neg m.sz m.dg h.sz h.dg
  unfold step at hs
  split at hs
  · split at hs
    · simp at hs; subst hs; exact gap_good h.ls h.l
    · split at hs
      · simp at hs; subst hs; exact ⟨h.ls, h.l, by simp, by simp⟩
      · split at hs
        · exact take_good (by assumption) (show Good ⟨m.ls, m.l, 0, 0, false, 0⟩ from ⟨h.ls, h.l, by simp, by simp⟩) hs
        · split at hs
          · simp at hs; subst hs; exact note_good h.ls h.l
          · split at hs
            · simp at hs; subst hs; exact gap_good (addL_good h.ls h.l) nil_small
            · simp at hs
  · split at hs
    · split at hs
      · exact take_good (by assumption) h hs
      · simp at hs
    · split at hs
      · split at hs
        · exact take_good (by assumption) h hs
        · split at hs
          · simp at hs; subst hs; exact gap_good h.ls (small_snoc h.l hsg.1 hsg.2)
          · split at hs
            · simp at hs; subst hs; exact note_good h.ls (small_snoc h.l hsg.1 hsg.2)
            · split at hs
              · simp at hs; subst hs; exact gap_good (addL_good h.ls (small_snoc h.l hsg.1 hsg.2)) nil_small
              · simp at hs
      · split at hs
        · simp at hs; subst hs; exact gap_good (addL_good h.ls h.l) nil_small
        · simp at hs; subst hs; exact note_good h.ls h.l
theorem steps_good : ∀ (r : List Int) (m m' : M), Good m → steps m r = some m' → Good m'
  | [], m, m', h, hs => by simp [steps] at hs; subst hs; exact h
  | c :: r, m, m', h, hs => by
    unfold steps at hs
    cases h1 : step m c with
    | none => rw [h1] at hs; simp at hs
    | some m2 => rw [h1] at hs; exact steps_good r m2 m' (step_good h h1) hs
/-- How many numbers a machine has read, and is at. -/
def qm (m : M) : Nat := cnt m.ls + m.l.length + (if m.ph = 2 then 1 else 0)
theorem cnt_addL (L : List (List Int)) (l : List Int) : cnt (addL L l) = cnt L + l.length := by
  unfold addL
  split
  · rename_i h; subst h; simp
  · rw [cnt_append]; simp [cnt]
theorem take_q {m m' : M} {c : Int} (ht : take m c = some m') : qm m' ≤ cnt m.ls + m.l.length + 1 := by
  unfold take at ht
  split at ht
  · simp at ht
  · simp at ht; subst ht; simp [qm]
theorem step_q {m m' : M} {c : Int} (hs : step m c = some m') : qm m' ≤ qm m + 1 := by
  have hq : cnt m.ls + m.l.length ≤ qm m := by unfold qm; omega
  unfold step at hs
  split at hs
  · split at hs
    · simp at hs; subst hs; simp [qm, gapM]; omega
    · split at hs
      · simp at hs; subst hs; simp [qm]; omega
      · split at hs
        · have := take_q hs; simp at this; omega
        · split at hs
          · simp at hs; subst hs; simp [qm, noteM]; omega
          · split at hs
            · simp at hs; subst hs; simp [qm, gapM, cnt_addL]; omega
            · simp at hs
  · split at hs
    · split at hs
      · have := take_q hs; omega
      · simp at hs
    · split at hs
      · have hq2 : qm m = cnt m.ls + m.l.length + 1 := by unfold qm; simp [*]
        split at hs
        · have := take_q hs; omega
        · split at hs
          · simp at hs; subst hs; simp [qm, gapM]; omega
          · split at hs
            · simp at hs; subst hs; simp [qm, noteM]; omega
            · split at hs
              · simp at hs; subst hs; simp [qm, gapM, cnt_addL]; omega
              · simp at hs
      · split at hs
        · simp at hs; subst hs; simp [qm, gapM, cnt_addL]; omega
        · simp at hs; subst hs; simp [qm, noteM]; omega
theorem steps_q : ∀ (r : List Int) (m m' : M), steps m r = some m' → qm m' ≤ qm m + r.length
  | [], m, m', hs => by simp [steps] at hs; subst hs; simp
  | c :: r, m, m', hs => by
    unfold steps at hs
    cases h1 : step m c with
    | none => rw [h1] at hs; simp at hs
    | some m2 =>
      rw [h1] at hs
      have := step_q h1
      have := steps_q r m2 m' hs
      simp; omega
theorem parse_good (bs : List Int) (L : List (List Int)) (h : parse bs = some L) : (∀ l ∈ L, l ≠ [] ∧ Small l) ∧ cnt L ≤ bs.length + 1 := by
  unfold parse run at h
  cases h1 : steps (gapM [] []) bs with
  | none => rw [h1] at h; simp at h
  | some m =>
    rw [h1] at h
    simp only [Option.bind_some] at h
    cases h2 : step m 10 with
    | none => rw [h2] at h; simp at h
    | some m2 =>
      rw [h2] at h
      simp at h
      subst h
      have g := step_good (steps_good bs _ m (gap_good (fun x hx => by simp at hx) nil_small) h1) h2
      have q1 := steps_q bs _ m h1
      have q2 := step_q h2
      refine ⟨g.ls, ?_⟩
      have : qm (gapM [] []) = 0 := rfl
      have : cnt m2.ls ≤ qm m2 := by unfold qm; omega
      omega
theorem full_all (L : List (List Int)) (h : ∀ l ∈ L, l ≠ []) : full L = L := by
  unfold full
  rw [List.filter_eq_self]
  intro l hl
  simpa using h l hl
end Go.Proofs.YtgplajofemencaaGreat
/- The plain mathematics of instances: which may be, what their lines are, what a text is parsed as. -/
namespace Go.Proofs.YtgplajofemencaaGreat

structure Stp where
  x : Int
  y : Int
  d : Int
  r : Int
  u : Int
  s : Int
theorem Stp.eq_iff (a b : Stp) : (a.x = b.x ∧ a.y = b.y ∧ a.d = b.d ∧ a.r = b.r ∧ a.u = b.u ∧ a.s = b.s) ↔ a = b := by
  cases a; cases b; simp
instance : DecidableEq Stp := fun a b => decidable_of_iff _ (Stp.eq_iff a b)
def nth (l : List Stp) (i : Nat) : Stp := l.getD i ⟨0, 0, 0, 0, 0, 0⟩
structure Ins where
  p : Int
  c : Int
  r : Int
  l : List Stp
theorem Ins.eq_iff (a b : Ins) : (a.p = b.p ∧ a.c = b.c ∧ a.r = b.r ∧ a.l = b.l) ↔ a = b := by
  cases a; cases b; simp
instance : DecidableEq Ins := fun a b => decidable_of_iff _ (Ins.eq_iff a b)

/-- Is a number from one to another one? -/
def inb (a b n : Int) : Bool := decide (a ≤ n ∧ n ≤ b)
def stopOk (t : Stp) : Bool := inb 0 10000 t.x && (inb 0 10000 t.y && (inb 0 1048576 t.r && (inb t.r 1048576 t.u && inb 0 1000 t.s)))
def stopsOk (l : List Stp) : Bool := decide (∀ t ∈ l, stopOk t = true)
def yardOk (t : Stp) : Bool := inb 0 0 t.d && inb 0 0 t.s
def demAt (T B : List Stp) (i : Nat) : Prop := inb 1 1000 (nth T i).d = true ∧ (nth B i).d = -(nth T i).d
instance (T B : List Stp) (i : Nat) : Decidable (demAt T B i) := by unfold demAt; infer_instance
def demOk (T B : List Stp) : Bool := decide (∀ i, i < T.length → demAt T B i)
/-- As many stops as there must be. -/
def lenOk (p : Int) (n : Nat) : Bool := decide ((n : Int) = 2 * p + 1)
def mayB (I : Ins) : Bool :=
  inb 0 16 I.p && (inb 1 8 I.c && (inb 1 1000 I.r && (lenOk I.p I.l.length && (stopsOk I.l && (yardOk (nth I.l 0) && demOk ((I.l.drop 1).take I.p.toNat) (I.l.drop (1 + I.p.toNat)))))))

theorem inb_iff (a b n : Int) : inb a b n = true ↔ a ≤ n ∧ n ≤ b := by unfold inb; exact decide_eq_true_iff
theorem nth_mem {l : List Stp} {i : Nat} (h : i < l.length) : nth l i ∈ l := by
  unfold nth; rw [List.getD_eq_getElem?_getD, List.getElem?_eq_getElem h]; simp
theorem nth_of_mem {l : List Stp} {t : Stp} (h : t ∈ l) : ∃ i, i < l.length ∧ nth l i = t := by
  obtain ⟨i, hi, rfl⟩ := List.getElem_of_mem h
  exact ⟨i, hi, by unfold nth; rw [List.getD_eq_getElem?_getD, List.getElem?_eq_getElem hi]; rfl⟩
theorem nth_drop (l : List Stp) (k i : Nat) : nth (l.drop k) i = nth l (k + i) := by unfold nth; simp [List.getD_eq_getElem?_getD]
theorem nth_take (l : List Stp) (k i : Nat) (h : i < k) : nth (l.take k) i = nth l i := by unfold nth; simp [List.getD_eq_getElem?_getD, h]
/-! ### What the document says of each stop -/
def okAt (p : Nat) (l : List Stp) (i : Nat) : Prop :=
  stopOk (nth l i) = true ∧ (i = 0 → (nth l i).d = 0 ∧ (nth l i).s = 0) ∧ (0 < i → i ≤ p → inb 1 1000 (nth l i).d = true) ∧ (p < i → (nth l i).d = -(nth l (i - p)).d)
theorem stops_iff (l : List Stp) : stopsOk l = true ↔ ∀ i, i < l.length → stopOk (nth l i) = true := by
  unfold stopsOk
  rw [decide_eq_true_iff]
  constructor
  · intro h i hi; exact h _ (nth_mem hi)
  · intro h t ht
    obtain ⟨i, hi, rfl⟩ := nth_of_mem ht
    exact h i hi
theorem may_parts (I : Ins) : mayB I = true ↔ inb 0 16 I.p = true ∧ inb 1 8 I.c = true ∧ inb 1 1000 I.r = true ∧ lenOk I.p I.l.length = true ∧ stopsOk I.l = true ∧ yardOk (nth I.l 0) = true ∧ demOk ((I.l.drop 1).take I.p.toNat) (I.l.drop (1 + I.p.toNat)) = true := by
  unfold mayB; simp only [Bool.and_eq_true]
theorem rest_iff (p : Nat) (l : List Stp) (hl : l.length = 2 * p + 1) : (stopsOk l = true ∧ yardOk (nth l 0) = true ∧ demOk ((l.drop 1).take p) (l.drop (1 + p)) = true) ↔ ∀ i, i < l.length → okAt p l i := by
  rw [stops_iff]
  unfold yardOk demOk
  rw [decide_eq_true_iff]
  have hT : ((l.drop 1).take p).length = p := by simp; omega
  rw [hT]
  constructor
  · rintro ⟨h1, h2, h3⟩ i hi
    simp only [Bool.and_eq_true, inb_iff] at h2
    refine ⟨h1 i hi, fun h0 => by subst h0; omega, fun h0 hp => ?_, fun hp => ?_⟩
    · have := (h3 (i - 1) (by omega)).1
      rw [nth_take _ _ _ (by omega), nth_drop, show 1 + (i - 1) = i by omega] at this
      exact this
    · have := (h3 (i - p - 1) (by omega)).2
      rw [nth_take _ _ _ (by omega), nth_drop, nth_drop, show 1 + (i - p - 1) = i - p by omega, show 1 + p + (i - p - 1) = i by omega] at this
      exact this
  · intro h
    refine ⟨fun i hi => (h i hi).1, ?_, fun i hi => ⟨?_, ?_⟩⟩
    · have := (h 0 (by omega)).2.1 rfl
      simp only [Bool.and_eq_true, inb_iff]; omega
    · rw [nth_take _ _ _ hi, nth_drop]
      exact (h (1 + i) (by omega)).2.2.1 (by omega) (by omega)
    · rw [nth_take _ _ _ hi, nth_drop, nth_drop]
      have := (h (1 + p + i) (by omega)).2.2.2 (by omega)
      rw [show 1 + p + i - p = 1 + i by omega] at this
      exact this
theorem may_iff (I : Ins) : mayB I = true ↔ inb 0 16 I.p = true ∧ inb 1 8 I.c = true ∧ inb 1 1000 I.r = true ∧ lenOk I.p I.l.length = true ∧ ∀ i, i < I.l.length → okAt I.p.toNat I.l i := by
  rw [may_parts]
  constructor
  · rintro ⟨h1, h2, h3, h4, h5⟩
    have hp := (inb_iff _ _ _).1 h1
    have hl : I.l.length = 2 * I.p.toNat + 1 := by unfold lenOk at h4; rw [decide_eq_true_iff] at h4; omega
    exact ⟨h1, h2, h3, h4, (rest_iff _ _ hl).1 h5⟩
  · rintro ⟨h1, h2, h3, h4, h5⟩
    have hp := (inb_iff _ _ _).1 h1
    have hl : I.l.length = 2 * I.p.toNat + 1 := by unfold lenOk at h4; rw [decide_eq_true_iff] at h4; omega
    exact ⟨h1, h2, h3, h4, (rest_iff _ _ hl).2 h5⟩
theorem may_len {I : Ins} (h : mayB I = true) : (0 ≤ I.p ∧ I.p ≤ 16) ∧ (1 ≤ I.c ∧ I.c ≤ 8) ∧ (1 ≤ I.r ∧ I.r ≤ 1000) ∧ (I.l.length : Int) = 2 * I.p + 1 := by
  obtain ⟨h1, h2, h3, h4, _⟩ := (may_iff I).1 h
  unfold lenOk at h4
  exact ⟨(inb_iff _ _ _).1 h1, (inb_iff _ _ _).1 h2, (inb_iff _ _ _).1 h3, decide_eq_true_iff.1 h4⟩
theorem stop_in {t : Stp} (h : stopOk t = true) : (0 ≤ t.x ∧ t.x ≤ 10000) ∧ (0 ≤ t.y ∧ t.y ≤ 10000) ∧ (0 ≤ t.r ∧ t.r ≤ 1048576) ∧ (t.r ≤ t.u ∧ t.u ≤ 1048576) ∧ (0 ≤ t.s ∧ t.s ≤ 1000) := by
  unfold stopOk at h
  simp only [Bool.and_eq_true, inb_iff] at h
  obtain ⟨h1, h2, h3, h4, h5⟩ := h
  exact ⟨h1, h2, h3, h4, h5⟩
theorem dem_in {I : Ins} (h : mayB I = true) (i : Nat) (hi : i < I.l.length) : -1000 ≤ (nth I.l i).d ∧ (nth I.l i).d ≤ 1000 := by
  obtain ⟨_, _, _, h4, h5⟩ := (may_iff I).1 h
  have hp := may_len h
  obtain ⟨_, k0, k1, k2⟩ := h5 i hi
  by_cases h0 : i = 0
  · have := k0 h0; omega
  · by_cases h1 : i ≤ I.p.toNat
    · have := (inb_iff _ _ _).1 (k1 (by omega) h1); omega
    · have a := k2 (by omega)
      obtain ⟨_, _, m1, _⟩ := h5 (i - I.p.toNat) (by omega)
      have := (inb_iff _ _ _).1 (m1 (by omega) (by omega))
      omega

/-! ### Lines -/
def rowS (t : Stp) : List Int := [t.x, t.y, t.d, t.r, t.u, t.s]
def headI (I : Ins) : List Int := [I.p, I.c, I.r]
def linesI (I : Ins) : List (List Int) := headI I :: I.l.map rowS
def stpOf (l : List Int) : Stp := ⟨l.getD 0 0, l.getD 1 0, l.getD 2 0, l.getD 3 0, l.getD 4 0, l.getD 5 0⟩
def insOf (L : List (List Int)) : Ins := ⟨(L.getD 0 []).getD 0 0, (L.getD 0 []).getD 1 0, (L.getD 0 []).getD 2 0, (L.drop 1).map stpOf⟩
def wf (L : List (List Int)) : Bool := decide (L ≠ [] ∧ (L.getD 0 []).length = 3 ∧ ∀ l ∈ L.drop 1, l.length = 6)
def noIns : Ins := ⟨0, 0, 0, []⟩
/-- Why a text is no instance, and which one it is. -/
def perr (bs : List Int) : Int := if errOf bs ≠ 0 then errOf bs else if wf (resOf bs) = false then 2 else if mayB (insOf (resOf bs)) = false then 1 else 0
def pins (bs : List Int) : Ins := if perr bs = 0 then insOf (resOf bs) else noIns
theorem stpOf_row (t : Stp) : stpOf (rowS t) = t := rfl
theorem row_stpOf (l : List Int) (h : l.length = 6) : rowS (stpOf l) = l := by
  match l, h with
  | [a, b, c, d, e, f], _ => rfl
theorem insOf_lines (I : Ins) : insOf (linesI I) = I := by
  unfold insOf linesI
  simp only [List.drop_succ_cons, List.drop_zero, List.map_map, List.getD_cons_zero]
  have : (stpOf ∘ rowS) = id := by funext t; exact stpOf_row t
  rw [this, List.map_id]
  rfl
theorem wf_lines (I : Ins) : wf (linesI I) = true := by
  unfold wf linesI
  rw [decide_eq_true_iff]
  refine ⟨by simp, rfl, ?_⟩
  simp only [List.drop_succ_cons, List.drop_zero, List.mem_map]
  rintro l ⟨t, _, rfl⟩
  rfl
theorem small_itoa (n : Int) (h1 : -1000000 < n) (h2 : n < 10000000) : (itoaI n).length ≤ 7 := by
  by_cases h : n < 0
  · rw [itoaI_neg n h]
    have := decI_len 5 n.natAbs (by omega)
    simp; omega
  · rw [itoaI_pos n h]
    have := decI_len 6 n.toNat (by omega)
    omega
def Tiny (l : List Int) : Prop := ∀ n ∈ l, -1000000 < n ∧ n < 10000000
theorem lineT_tiny : ∀ (l : List Int), Tiny l → (lineT l).length ≤ 8 * l.length
  | [], _ => by simp [lineT]
  | [n], h => by
    have := small_itoa n (h n (by simp)).1 (h n (by simp)).2
    simp [lineT]; omega
  | n :: m :: r, h => by
    have := small_itoa n (h n (by simp)).1 (h n (by simp)).2
    have := lineT_tiny (m :: r) (fun x hx => h x (by simp only [List.mem_cons] at hx ⊢; exact .inr hx))
    simp [lineT] at *; omega
theorem textOf_tiny : ∀ (L : List (List Int)), (∀ l ∈ L, Tiny l) → (textOf L).length ≤ 8 * cnt L
  | [], _ => by simp [textOf, cnt]
  | l :: L, h => by
    have := lineT_tiny l (h l (by simp))
    have := textOf_tiny L (fun x hx => h x (by simp [hx]))
    simp [textOf, cnt]; omega
theorem cnt_rows : ∀ (l : List Stp), cnt (l.map rowS) = 6 * l.length
  | [] => rfl
  | t :: l => by
    have := cnt_rows l
    simp [cnt, rowS]; omega
theorem may_tiny {I : Ins} (h : mayB I = true) : ∀ l ∈ linesI I, Tiny l := by
  have hl := may_len h
  intro l hm
  unfold linesI at hm
  simp only [List.mem_cons, List.mem_map] at hm
  rcases hm with rfl | ⟨t, ht, rfl⟩
  · intro n hn
    simp only [headI, List.mem_cons, List.not_mem_nil, or_false] at hn
    rcases hn with rfl | rfl | rfl <;> omega
  · obtain ⟨i, hi, rfl⟩ := nth_of_mem ht
    have hs := stop_in (((may_iff I).1 h).2.2.2.2 i hi).1
    have hd := dem_in h i hi
    intro n hn
    simp only [rowS, List.mem_cons, List.not_mem_nil, or_false] at hn
    rcases hn with rfl | rfl | rfl | rfl | rfl | rfl <;> omega
theorem may_text {I : Ins} (h : mayB I = true) : (textOf (linesI I)).length ≤ 4000 := by
  have h1 := textOf_tiny _ (may_tiny h)
  have h2 : cnt (linesI I) = 3 + 6 * I.l.length := by unfold linesI; simp [cnt, headI, cnt_rows]
  have := may_len h
  omega
theorem may_small {I : Ins} (h : mayB I = true) : ∀ l ∈ linesI I, Small l := fun l hl n hn => by
  have := may_tiny h l hl n hn
  omega
theorem parse_lines {I : Ins} (h : mayB I = true) : errOf (textOf (linesI I)) = 0 ∧ resOf (textOf (linesI I)) = linesI I := by
  have h4 : ¬ 4096 < (textOf (linesI I)).length := by have := may_text h; omega
  have hp := parse_text _ (may_small h)
  rw [full_all _ (fun l hl => by
    unfold linesI at hl
    simp only [List.mem_cons, List.mem_map] at hl
    rcases hl with rfl | ⟨t, _, rfl⟩ <;> simp [headI, rowS])] at hp
  simp [errOf, resOf, h4, hp]
/-- What is printed is parsed as it was. -/
theorem back {I : Ins} (h : mayB I = true) : perr (textOf (linesI I)) = 0 ∧ pins (textOf (linesI I)) = I := by
  obtain ⟨h1, h2⟩ := parse_lines h
  have he : perr (textOf (linesI I)) = 0 := by
    unfold perr
    rw [h1, h2, wf_lines, insOf_lines, h]
    simp
  exact ⟨he, by unfold pins; rw [if_pos he, h2, insOf_lines]⟩
theorem perr_bad {bs : List Int} (h : perr bs ≠ 0) : pins bs = noIns := by unfold pins; rw [if_neg h]
end Go.Proofs.YtgplajofemencaaGreat
/- Plain mathematics of roots: nothing of the program stands here. -/
namespace Go.Proofs.YtgplajofemencaaGreat

def IsRoot (m r : Int) : Prop := 1 ≤ r ∧ (r - 1) * (r - 1) < m ∧ m ≤ r * r

theorem sq_mono (a b : Int) (h0 : 0 ≤ a) (h : a ≤ b) : a * a ≤ b * b := Int.mul_le_mul h h h0 (by omega)

theorem root_one (m r s : Int) (hr : IsRoot m r) (hs : IsRoot m s) : r = s := by
  obtain ⟨r0, r1, r2⟩ := hr
  obtain ⟨s0, s1, s2⟩ := hs
  rcases Int.lt_trichotomy r s with h | h | h
  · have := sq_mono r (s - 1) (by omega) (by omega)
    omega
  · exact h
  · have := sq_mono s (r - 1) (by omega) (by omega)
    omega

def rootN : Nat → Nat
  | 0 => 0
  | m + 1 => if m + 1 ≤ rootN m * rootN m then rootN m else rootN m + 1

theorem rootN_is (m : Nat) : IsRoot ((m + 1 : Nat) : Int) (rootN (m + 1) : Int) := by
  induction m with
  | zero => refine ⟨by decide, by decide, by decide⟩
  | succ m ih =>
    obtain ⟨h0, h1, h2⟩ := ih
    rw [rootN]
    split
    · next h =>
      refine ⟨h0, by omega, ?_⟩
      have : (((m + 1 + 1 : Nat)) : Int) ≤ ((rootN (m + 1) * rootN (m + 1) : Nat) : Int) := by exact_mod_cast h
      rw [Int.natCast_mul] at this
      exact this
    · next h =>
      have h' : ((rootN (m + 1) * rootN (m + 1) : Nat) : Int) < ((m + 1 + 1 : Nat) : Int) := by exact_mod_cast (Nat.lt_of_not_le h)
      rw [Int.natCast_mul] at h'
      have e : ((rootN (m + 1) + 1 : Nat) : Int) = (rootN (m + 1) : Int) + 1 := by omega
      rw [e]
      generalize (rootN (m + 1) : Int) = r at *
      have e1 : (r + 1) * (r + 1) = r * r + 2 * r + 1 := by rw [Int.add_mul, Int.mul_add]; omega
      refine ⟨by omega, ?_, by rw [e1]; omega⟩
      rw [show r + 1 - 1 = r by omega]
      exact h'

def rootOf (n : Int) : Int := (rootN (min n 1152921504606846976).toNat : Int)

theorem rootOf_is (n : Int) (h1 : 1 ≤ n) (h2 : n ≤ 1152921504606846976) : IsRoot n (rootOf n) := by
  unfold rootOf
  rw [Int.min_eq_left h2]
  obtain ⟨k, rfl⟩ : ∃ k : Nat, n = ((k + 1 : Nat) : Int) := ⟨n.toNat - 1, by omega⟩
  exact rootN_is k

theorem rootOf_eq (n r : Int) (h1 : 1 ≤ n) (h2 : n ≤ 1152921504606846976) (h : IsRoot n r) : rootOf n = r := root_one n _ _ (rootOf_is n h1 h2) h

theorem rootOf_low (n : Int) (h : n < 1) : rootOf n = 0 := by
  unfold rootOf
  have e : (min n 1152921504606846976).toNat = 0 := by omega
  rw [e]
  rfl

theorem rootOf_high (n : Int) (h : 1152921504606846976 ≤ n) : rootOf n = rootOf 1152921504606846976 := by
  unfold rootOf
  rw [Int.min_eq_right h, Int.min_self]

/-- What the search bit by bit keeps: below is made of bits above this one, and the root is between. -/
def RootInv (m B T : Int) : Prop :=
  ∃ k c : Nat, k ≤ 29 ∧ T = ((2 ^ k : Nat) : Int) ∧ B = ((c * 2 ^ (k + 1) : Nat) : Int) ∧ B * B < m ∧ m ≤ (B + 2 * T) * (B + 2 * T) ∧ B + 2 * T ≤ 1073741824

theorem inv_start (m : Int) (h1 : 1 ≤ m) (h2 : m ≤ 1152921504606846976) : RootInv m 0 536870912 :=
  ⟨29, 0, by omega, by decide, by simp, by omega, by omega, by omega⟩

theorem pow_le29 (k : Nat) (h : k ≤ 29) : 2 ^ k ≤ 536870912 := by
  have := Nat.pow_le_pow_right (n := 2) (by omega) h
  simpa using this

theorem inv_bd (m B T : Int) (h : RootInv m B T) : 0 ≤ B ∧ 1 ≤ T ∧ T ≤ 536870912 ∧ B + 2 * T ≤ 1073741824 := by
  obtain ⟨k, c, hk, rfl, rfl, -, -, h3⟩ := h
  have := pow_le29 k hk
  have := Nat.two_pow_pos k
  omega

theorem i64_or_nat (a b : Nat) (ha : a < 4294967296) (hb : b < 4294967296) : bits .or .i64 (a : Int) (b : Int) = ((a ||| b : Nat) : Int) := by
  have hx : a ||| b < 2 ^ 32 := Nat.or_lt_two_pow (by omega) (by omega)
  show IntKind.i64.wrap ((BitVec.ofInt 64 (a : Int) ||| BitVec.ofInt 64 (b : Int)).toNat : Int) = _
  rw [BitVec.toNat_or, ofInt_u64 a (by omega), ofInt_u64 b (by omega), IntKind.wrap_i64]
  omega

theorem inv_or (m B T : Int) (h : RootInv m B T) : bits .or .i64 B T = B + T := by
  have hb := inv_bd m B T h
  obtain ⟨k, c, hk, rfl, rfl, -, -, h3⟩ := h
  rw [i64_or_nat _ _ (by omega) (by omega), nat_join (k + 1) _ _ (Nat.mul_mod_left _ _) (by rw [Nat.pow_succ]; have := Nat.two_pow_pos k; omega)]
  omega

theorem inv_sq (m B T : Int) (h : RootInv m B T) : 0 ≤ (B + T) * (B + T) ∧ (B + T) * (B + T) ≤ 1152921504606846976 := by
  obtain ⟨h1, h2, h3, h4⟩ := inv_bd m B T h
  have := sq_mono 0 (B + T) (by omega) (by omega)
  have := sq_mono (B + T) 1073741824 (by omega) (by omega)
  omega

theorem inv_half (m B T : Int) (h : RootInv m B T) (ht : 0 < T / 2) : ∃ k : Nat, k + 1 ≤ 29 ∧ T = ((2 ^ (k + 1) : Nat) : Int) ∧ T / 2 = ((2 ^ k : Nat) : Int) ∧ T = 2 * (T / 2) ∧ ∃ c : Nat, B = ((c * 2 ^ (k + 1 + 1) : Nat) : Int) := by
  obtain ⟨k, c, hk, rfl, rfl, -, -, h3⟩ := h
  cases k with
  | zero => simp at ht
  | succ k =>
    have e : 2 ^ (k + 1) = 2 ^ k * 2 := Nat.pow_succ ..
    exact ⟨k, hk, rfl, by omega, by omega, c, rfl⟩

theorem inv_hi (m B T : Int) (h : RootInv m B T) (hs : (B + T) * (B + T) < m) (ht : 0 < T / 2) : RootInv m (B + T) (T / 2) := by
  obtain ⟨k, hk, e1, e2, e3, c, e4⟩ := inv_half m B T h ht
  obtain ⟨-, -, -, -, -, -, h2, h3⟩ := h
  refine ⟨k, 2 * c + 1, by omega, e2, ?_, hs, ?_, by omega⟩
  · rw [e4, e1]
    have : 2 ^ (k + 1 + 1) = 2 ^ (k + 1) * 2 := Nat.pow_succ ..
    rw [this, Nat.add_mul, ← Nat.mul_assoc, Nat.mul_comm 2 c, Nat.mul_assoc c 2, Nat.mul_comm 2 (2 ^ (k + 1)), ← Nat.mul_assoc]
    omega
  · rw [show B + T + 2 * (T / 2) = B + 2 * T by omega]
    exact h2

theorem inv_lo (m B T : Int) (h : RootInv m B T) (hs : m ≤ (B + T) * (B + T)) (ht : 0 < T / 2) : RootInv m B (T / 2) := by
  obtain ⟨k, hk, e1, e2, e3, c, e4⟩ := inv_half m B T h ht
  obtain ⟨-, -, -, -, -, h1, h2, h3⟩ := h
  refine ⟨k, 2 * c, by omega, e2, ?_, h1, ?_, by omega⟩
  · rw [e4]
    have : 2 ^ (k + 1 + 1) = 2 ^ (k + 1) * 2 := Nat.pow_succ ..
    rw [this, Nat.mul_comm 2 c, Nat.mul_assoc c 2, Nat.mul_comm 2 (2 ^ (k + 1))]
  · rw [show B + 2 * (T / 2) = B + T by omega]
    exact hs

theorem inv_end_hi (m B T : Int) (h : RootInv m B T) (hs : (B + T) * (B + T) < m) (ht : T / 2 ≤ 0) : IsRoot m (B + T + 1) := by
  obtain ⟨b1, b2, b3, b4⟩ := inv_bd m B T h
  obtain ⟨-, -, -, -, -, h1, h2, h3⟩ := h
  obtain rfl : T = 1 := by omega
  refine ⟨by omega, ?_, ?_⟩
  · rw [show B + 1 + 1 - 1 = B + 1 by omega]; exact hs
  · rw [show B + 1 + 1 = B + 2 * 1 by omega]; exact h2

theorem inv_end_lo (m B T : Int) (h : RootInv m B T) (hs : m ≤ (B + T) * (B + T)) (ht : T / 2 ≤ 0) : IsRoot m (B + 1) := by
  obtain ⟨b1, b2, b3, b4⟩ := inv_bd m B T h
  obtain ⟨-, -, -, -, -, h1, h2, h3⟩ := h
  obtain rfl : T = 1 := by omega
  refine ⟨by omega, ?_, hs⟩
  rw [show B + 1 - 1 = B by omega]; exact h1


end Go.Proofs.YtgplajofemencaaGreat
/- The plain mathematics of how far it is: from one place to another one, there and back, by a third one; the least of some numbers. Nothing of the program stands here. -/
namespace Go.Proofs.YtgplajofemencaaGreat

/-- A coordinate as it counts. -/
def cl (n : Int) : Int := min (max n 0) 10000
theorem cl_bd (n : Int) : 0 ≤ cl n ∧ cl n ≤ 10000 := by unfold cl; omega
/-- How far it is across and along. -/
def farD (dx dy : Int) : Int := rootOf (dx * dx + dy * dy)
def farF (a b : Stp) : Int := farD (cl b.x - cl a.x) (cl b.y - cl a.y)
theorem neg_sq (x y : Int) (h : y = -x) : y * y = x * x := by subst h; rw [Int.neg_mul, Int.mul_neg, Int.neg_neg]
theorem farF_comm (a b : Stp) : farF a b = farF b a := by
  unfold farF farD
  rw [neg_sq (cl a.x - cl b.x) (cl b.x - cl a.x) (by omega), neg_sq (cl a.y - cl b.y) (cl b.y - cl a.y) (by omega)]
theorem sq_pos (x : Int) : 0 ≤ x * x := by
  rcases Int.le_total 0 x with h | h
  · exact Int.mul_nonneg h h
  · have := Int.mul_nonneg (a := -x) (b := -x) (by omega) (by omega)
    rwa [Int.neg_mul, Int.mul_neg, Int.neg_neg] at this
theorem sq_bd (x : Int) (h0 : -10000 ≤ x) (h1 : x ≤ 10000) : 0 ≤ x * x ∧ x * x ≤ 100000000 := by
  refine ⟨sq_pos x, ?_⟩
  rcases Int.le_total 0 x with h | h
  · exact sq_mono x 10000 h h1
  · have := sq_mono (-x) 10000 (by omega) (by omega)
    rwa [Int.neg_mul, Int.mul_neg, Int.neg_neg] at this
/-- What a root is: the least number whose square is not less. -/
theorem root_sq (n : Int) (h2 : n ≤ 1152921504606846976) : 0 ≤ rootOf n ∧ n ≤ rootOf n * rootOf n := by
  by_cases h1 : 1 ≤ n
  · have := rootOf_is n h1 h2
    exact ⟨by have := this.1; omega, this.2.2⟩
  · rw [rootOf_low n (by omega)]; omega
theorem root_le (n k : Int) (hk : 0 ≤ k) (h2 : n ≤ 1152921504606846976) (h : n ≤ k * k) : rootOf n ≤ k := by
  by_cases h1 : 1 ≤ n
  · have hr := rootOf_is n h1 h2
    have h3 := hr.2.1
    apply Int.not_lt.1
    intro hlt
    have := sq_mono k (rootOf n - 1) hk (by omega)
    omega
  · rw [rootOf_low n (by omega)]; exact hk
theorem farD_bd (dx dy : Int) (h0 : -10000 ≤ dx) (h1 : dx ≤ 10000) (h2 : -10000 ≤ dy) (h3 : dy ≤ 10000) : 0 ≤ farD dx dy ∧ farD dx dy ≤ 14143 := by
  have a := sq_bd dx h0 h1
  have b := sq_bd dy h2 h3
  unfold farD
  exact ⟨(root_sq _ (by omega)).1, root_le _ 14143 (by omega) (by omega) (by omega)⟩
theorem farF_bd (a b : Stp) : 0 ≤ farF a b ∧ farF a b ≤ 14143 := by
  have h1 := cl_bd a.x
  have h2 := cl_bd a.y
  have h3 := cl_bd b.x
  have h4 := cl_bd b.y
  exact farD_bd _ _ (by omega) (by omega) (by omega) (by omega)
theorem farF_self (a : Stp) : farF a a = 0 := by
  unfold farF
  rw [show cl a.x - cl a.x = 0 by omega, show cl a.y - cl a.y = 0 by omega]
  exact rootOf_low _ (by decide)
end Go.Proofs.YtgplajofemencaaGreat
/- The plain mathematics of when a car is where: a route gone stop by stop, what is wrong with it, its times and loads. Nothing of the program stands here. -/
namespace Go.Proofs.YtgplajofemencaaGreat

/-- The times at a stop. -/
structure Tm where
  come : Int
  begn : Int
  leave : Int
deriving DecidableEq
/-- Where a car is, and what it has done. -/
structure TS where
  seen : List Int
  now : Int
  last : Stp
  far : Int
  out : List Tm
def stp (I : Ins) (i : Int) : Stp := nth I.l i.toNat
def heldL (I : Ins) (l : List Int) : Int := (l.map (fun i => (stp I i).d)).foldl (· + ·) 0
theorem heldL_snoc (I : Ins) (l : List Int) (i : Int) : heldL I (l ++ [i]) = heldL I l + (stp I i).d := by
  unfold heldL
  rw [List.map_append, List.foldl_append]
  simp
theorem heldL_nil (I : Ins) : heldL I [] = 0 := rfl
/-- What is wrong with a stop behind some others. -/
def wrongE (I : Ins) (ahead : List Int) (i : Int) : Int :=
  if i < 1 ∨ 2 * I.p < i then 1 else if i ∈ ahead then 5 else if I.p < i ∧ i - I.p ∉ ahead then 8 else if I.r < heldL I ahead + (stp I i).d then 6 else 0
def tmAt (s : TS) (t : Stp) : Tm := ⟨s.now + farF s.last t, max (s.now + farF s.last t) t.r, max (s.now + farF s.last t) t.r + t.s⟩
def nextT (s : TS) (i : Int) (t : Stp) : TS := ⟨s.seen ++ [i], (tmAt s t).leave, t, s.far + farF s.last t, s.out ++ [tmAt s t]⟩
def stepE (I : Ins) (s : TS) (i : Int) : Except Int TS :=
  if wrongE I s.seen i ≠ 0 then .error (wrongE I s.seen i) else if (stp I i).u < (tmAt s (stp I i)).begn then .error 7 else .ok (nextT s i (stp I i))
def runE (I : Ins) (s : Except Int TS) (l : List Int) : Except Int TS := l.foldl (fun s i => s.bind (fun s => stepE I s i)) s
def startT (I : Ins) : TS := ⟨[], (nth I.l 0).r, nth I.l 0, 0, []⟩
def goE (I : Ins) (l : List Int) : Except Int TS := runE I (.ok (startT I)) l
theorem runE_err (I : Ins) (e : Int) : ∀ (l : List Int), runE I (.error e) l = .error e
  | [] => rfl
  | _ :: l => runE_err I e l
theorem runE_append (I : Ins) (s : Except Int TS) (a b : List Int) : runE I s (a ++ b) = runE I (runE I s a) b := by unfold runE; rw [List.foldl_append]
theorem goE_snoc (I : Ins) (l : List Int) (i : Int) : goE I (l ++ [i]) = (goE I l).bind (fun s => stepE I s i) := by unfold goE; rw [runE_append]; rfl
/-- An error stays. -/
theorem goE_stays {I : Ins} {a b : List Int} {e : Int} (h : goE I a = .error e) : goE I (a ++ b) = .error e := by
  unfold goE at *; rw [runE_append, h, runE_err]
theorem stepE_ok {I : Ins} {s s' : TS} {i : Int} (h : stepE I s i = .ok s') : wrongE I s.seen i = 0 ∧ (tmAt s (stp I i)).begn ≤ (stp I i).u ∧ s' = nextT s i (stp I i) := by
  unfold stepE at h
  split at h
  · cases h
  · next h1 =>
    split at h
    · cases h
    · next h2 => cases h; exact ⟨by omega, by omega, rfl⟩
theorem goE_step {I : Ins} {l : List Int} {i : Int} {s' : TS} (h : goE I (l ++ [i]) = .ok s') : ∃ s, goE I l = .ok s ∧ stepE I s i = .ok s' := by
  rw [goE_snoc] at h
  cases hg : goE I l with
  | error e => rw [hg] at h; cases h
  | ok s => rw [hg] at h; exact ⟨s, rfl, h⟩
theorem goE_head {I : Ins} {a b : List Int} {s' : TS} (h : goE I (a ++ b) = .ok s') : ∃ s, goE I a = .ok s := by
  cases hg : goE I a with
  | error e => rw [goE_stays hg] at h; cases h
  | ok s => exact ⟨s, rfl⟩
/-- Induction along a route that can be gone. -/
theorem goE_ind {I : Ins} {P : List Int → TS → Prop} (h0 : P [] (startT I)) (hs : ∀ l i s s', goE I l = .ok s → P l s → stepE I s i = .ok s' → P (l ++ [i]) s') : ∀ (l : List Int) (s : TS), goE I l = .ok s → P l s := by
  have key : ∀ (n : Nat) (l : List Int) (s : TS), l.length = n → goE I l = .ok s → P l s := by
    intro n
    induction n with
    | zero =>
      intro l s hl hg
      have : l = [] := List.eq_nil_of_length_eq_zero hl
      subst this
      cases hg
      exact h0
    | succ n ih =>
      intro l s hl hg
      obtain ⟨a, i, rfl⟩ : ∃ a i, l = a ++ [i] := ⟨l.dropLast, l.getLast (by intro e; subst e; simp at hl), (List.dropLast_concat_getLast _).symm⟩
      obtain ⟨s0, h1, h2⟩ := goE_step hg
      exact hs a i s0 s h1 (ih a s0 (by simp at hl; omega) h1) h2
  exact fun l s => key l.length l s rfl
theorem goE_seen {I : Ins} : ∀ (l : List Int) (s : TS), goE I l = .ok s → s.seen = l ∧ s.out.length = l.length :=
  goE_ind ⟨rfl, rfl⟩ (fun l i s s' _ hp h => by
    obtain ⟨_, _, rfl⟩ := stepE_ok h
    exact ⟨by rw [nextT, hp.1], by simp [nextT, hp.2]⟩)
/-- What is wrong at the end of a route. -/
def endE (I : Ins) (l : List Int) : Int := if ∃ i ∈ l, i ≤ I.p ∧ i + I.p ∉ l then 8 else 0
def backT (I : Ins) (s : TS) : Int := s.now + farF s.last (nth I.l 0)
/-- What Times answers: what is wrong, the times, how far. -/
def finE (I : Ins) (l : List Int) : Except Int TS :=
  (goE I l).bind (fun s => if endE I l ≠ 0 then .error 8 else if (nth I.l 0).u < backT I s then .error 7 else .ok s)
def timesE (I : Ins) (l : List Int) : Except Int TS := if mayB I = true then finE I l else .error 1
def errT (I : Ins) (l : List Int) : Int := match timesE I l with | .error e => e | .ok _ => 0
def outT (I : Ins) (l : List Int) : List Tm := match timesE I l with | .error _ => [] | .ok s => s.out
def farT (I : Ins) (l : List Int) : Int := match timesE I l with | .error _ => 0 | .ok s => s.far + farF s.last (nth I.l 0)
def loadsT (I : Ins) (l : List Int) : List Int := if errT I l = 0 then (List.range l.length).map (fun k => heldL I (l.take (k + 1))) else []
theorem stepE_err {I : Ins} {s : TS} {i : Int} {e : Int} (h : stepE I s i = .error e) : e ≠ 0 := by
  unfold stepE at h
  split at h
  · next h1 => cases h; exact h1
  · split at h
    · cases h; decide
    · cases h
theorem goE_err {I : Ins} {l : List Int} {e : Int} (h : goE I l = .error e) : e ≠ 0 := by
  have key : ∀ (n : Nat) (l : List Int), l.length = n → goE I l = .error e → e ≠ 0 := by
    intro n
    induction n with
    | zero =>
      intro l hl hg
      have : l = [] := List.eq_nil_of_length_eq_zero hl
      subst this
      cases hg
    | succ n ih =>
      intro l hl hg
      obtain ⟨a, i, rfl⟩ : ∃ a i, l = a ++ [i] := ⟨l.dropLast, l.getLast (by intro e; subst e; simp at hl), (List.dropLast_concat_getLast _).symm⟩
      rw [goE_snoc] at hg
      cases hc : goE I a with
      | error e' =>
        rw [hc] at hg; cases hg
        exact ih a (by simp at hl; omega) hc
      | ok s => rw [hc] at hg; exact stepE_err hg
  exact key l.length l rfl h
theorem timesE_err {I : Ins} {l : List Int} {e : Int} (h : timesE I l = .error e) : e ≠ 0 := by
  unfold timesE at h
  split at h
  · unfold finE at h
    cases hg : goE I l with
    | error e' => rw [hg] at h; cases h; exact goE_err hg
    | ok s =>
      rw [hg] at h
      simp only [Except.bind] at h
      split at h
      · cases h; decide
      · split at h
        · cases h; decide
        · cases h
  · cases h; decide
theorem errT_zero {I : Ins} {l : List Int} (h : errT I l = 0) : ∃ s, timesE I l = .ok s := by
  unfold errT at h
  cases ht : timesE I l with
  | error e => rw [ht] at h; exact absurd h (timesE_err ht)
  | ok s => exact ⟨s, rfl⟩
theorem timesE_ok {I : Ins} {l : List Int} {s : TS} (h : timesE I l = .ok s) : mayB I = true ∧ goE I l = .ok s ∧ endE I l = 0 ∧ backT I s ≤ (nth I.l 0).u := by
  unfold timesE at h
  split at h
  · next hm =>
    unfold finE at h
    cases hg : goE I l with
    | error e' => rw [hg] at h; cases h
    | ok s' =>
      rw [hg] at h
      simp only [Except.bind] at h
      split at h
      · cases h
      · next h1 =>
        split at h
        · cases h
        · next h2 =>
          cases h
          exact ⟨hm, rfl, by omega, by omega⟩
  · cases h
theorem timesE_of {I : Ins} {l : List Int} {s : TS} (h1 : mayB I = true) (h2 : goE I l = .ok s) (h3 : endE I l = 0) (h4 : backT I s ≤ (nth I.l 0).u) : timesE I l = .ok s := by
  unfold timesE finE
  rw [if_pos h1, h2]
  simp only [Except.bind]
  rw [if_neg (by omega), if_neg (by omega)]
end Go.Proofs.YtgplajofemencaaGreat
/- What a car holds behind the stops of a route that can be gone: never less than nothing, nothing at the end; what is left out. Nothing of the program stands here. -/
namespace Go.Proofs.YtgplajofemencaaGreat

def sumN (f : Nat → Int) : Nat → Int
  | 0 => 0
  | n + 1 => sumN f n + f n
theorem sumN_congr {f g : Nat → Int} : ∀ {n : Nat}, (∀ j, j < n → f j = g j) → sumN f n = sumN g n
  | 0, _ => rfl
  | n + 1, h => by rw [sumN, sumN, sumN_congr (fun j hj => h j (by omega)), h n (by omega)]
theorem sumN_change {f g : Nat → Int} {k : Nat} : ∀ {n : Nat}, k < n → (∀ j, j < n → j ≠ k → f j = g j) → sumN g n = sumN f n + (g k - f k)
  | 0, h, _ => by omega
  | n + 1, hk, h => by
    rw [sumN, sumN]
    by_cases c : k = n
    · subst c
      rw [sumN_congr (f := g) (g := f) (fun j hj => (h j (by omega) (by omega)).symm)]
      omega
    · rw [sumN_change (f := f) (g := g) (n := n) (by omega) (fun j hj hn => h j (by omega) hn), h n (by omega) (fun e => c e.symm)]
      omega
theorem sumN_nonneg {f : Nat → Int} : ∀ {n : Nat}, (∀ j, j < n → 0 ≤ f j) → 0 ≤ sumN f n
  | 0, _ => Int.le_refl _
  | n + 1, h => by
    rw [sumN]
    have := sumN_nonneg (f := f) (n := n) (fun j hj => h j (by omega))
    have := h n (by omega)
    omega
theorem sumN_ge {f : Nat → Int} {k : Nat} : ∀ {n : Nat}, k < n → (∀ j, j < n → 0 ≤ f j) → f k ≤ sumN f n
  | 0, h, _ => by omega
  | n + 1, hk, h => by
    rw [sumN]
    have h0 := h n (by omega)
    by_cases c : k = n
    · subst c
      have := sumN_nonneg (f := f) (n := k) (fun j hj => h j (by omega))
      omega
    · have := sumN_ge (f := f) (k := k) (n := n) (by omega) (fun j hj => h j (by omega))
      omega
theorem sumN_zero {f : Nat → Int} : ∀ {n : Nat}, (∀ j, j < n → f j = 0) → sumN f n = 0
  | 0, _ => rfl
  | n + 1, h => by rw [sumN, sumN_zero (fun j hj => h j (by omega)), h n (by omega)]; rfl

theorem wrongE_zero {I : Ins} {a : List Int} {i : Int} (h : wrongE I a i = 0) : 1 ≤ i ∧ i ≤ 2 * I.p ∧ i ∉ a ∧ (I.p < i → i - I.p ∈ a) ∧ heldL I a + (stp I i).d ≤ I.r := by
  unfold wrongE at h
  split at h
  · cases h
  · next h1 =>
    split at h
    · cases h
    · next h2 =>
      split at h
      · cases h
      · next h3 =>
        split at h
        · cases h
        · next h4 =>
          refine ⟨by omega, by omega, h2, fun hp => ?_, by omega⟩
          exact Decidable.byContradiction (fun hc => h3 ⟨hp, hc⟩)
theorem wrongE_of {I : Ins} {a : List Int} {i : Int} (h1 : 1 ≤ i) (h2 : i ≤ 2 * I.p) (h3 : i ∉ a) (h4 : I.p < i → i - I.p ∈ a) (h5 : heldL I a + (stp I i).d ≤ I.r) : wrongE I a i = 0 := by
  unfold wrongE
  rw [if_neg (by omega), if_neg h3, if_neg (fun h => h.2 (h4 h.1)), if_neg (by omega)]
/-- The stops of a route that can be gone. -/
structure GoodR (I : Ins) (l : List Int) : Prop where
  rng : ∀ i, i ∈ l → 1 ≤ i ∧ i ≤ 2 * I.p
  nodup : l.Nodup
  clos : ∀ i, i ∈ l → I.p < i → i - I.p ∈ l
theorem good_nil (I : Ins) : GoodR I [] := ⟨fun i h => by simp at h, List.nodup_nil, fun i h => by simp at h⟩
theorem GoodR.snoc {I : Ins} {l : List Int} (h : GoodR I l) {i : Int} (hw : wrongE I l i = 0) : GoodR I (l ++ [i]) := by
  obtain ⟨h1, h2, h3, h4, _⟩ := wrongE_zero hw
  refine ⟨fun j hj => ?_, ?_, fun j hj hp => ?_⟩
  · simp only [List.mem_append, List.mem_singleton] at hj
    rcases hj with hj | rfl
    · exact h.rng j hj
    · exact ⟨h1, h2⟩
  · rw [List.nodup_append]
    refine ⟨h.nodup, by simp, fun a ha b hb => ?_⟩
    simp only [List.mem_singleton] at hb
    subst hb
    intro e
    subst e
    exact h3 ha
  · simp only [List.mem_append, List.mem_singleton] at hj ⊢
    rcases hj with hj | rfl
    · exact .inl (h.clos j hj hp)
    · exact .inl (h4 hp)
theorem goE_good {I : Ins} : ∀ (l : List Int) (s : TS), goE I l = .ok s → GoodR I l :=
  goE_ind (good_nil I) (fun l i s s' hg hp h => by
    obtain ⟨hw, _, _⟩ := stepE_ok h
    rw [(goE_seen l s hg).1] at hw
    exact hp.snoc hw)
/-- What an instance that may be says of its stops. -/
structure Fine (I : Ins) : Prop where
  p0 : 0 ≤ I.p
  p1 : I.p ≤ 16
  len : (I.l.length : Int) = 2 * I.p + 1
  room : 1 ≤ I.r ∧ I.r ≤ 1000
  ok : ∀ i : Int, 0 ≤ i → i ≤ 2 * I.p → stopOk (stp I i) = true
  yard : (stp I 0).d = 0 ∧ (stp I 0).s = 0
  take : ∀ i : Int, 1 ≤ i → i ≤ I.p → 1 ≤ (stp I i).d ∧ (stp I i).d ≤ 1000
  bring : ∀ i : Int, I.p < i → i ≤ 2 * I.p → (stp I i).d = -(stp I (i - I.p)).d
theorem fine_of {I : Ins} (h : mayB I = true) : Fine I := by
  obtain ⟨h1, h2, h3, h4, h5⟩ := (may_iff I).1 h
  have hp := (inb_iff _ _ _).1 h1
  have hr := (inb_iff _ _ _).1 h3
  have hl : (I.l.length : Int) = 2 * I.p + 1 := by unfold lenOk at h4; exact decide_eq_true_iff.1 h4
  refine ⟨hp.1, hp.2, hl, hr, fun i h0 hi => (h5 i.toNat (by omega)).1, (h5 0 (by omega)).2.1 rfl, fun i h0 hi => (inb_iff _ _ _).1 ((h5 i.toNat (by omega)).2.2.1 (by omega) (by omega)), fun i h0 hi => ?_⟩
  have := (h5 i.toNat (by omega)).2.2.2 (by omega)
  unfold stp
  rw [this, show (i - I.p).toNat = i.toNat - I.p.toNat by omega]
/-- What of a pair the car holds. -/
def termI (I : Ins) (l : List Int) (j : Nat) : Int := if ((j : Int) + 1 ∈ l ∧ (j : Int) + 1 + I.p ∉ l) then (stp I ((j : Int) + 1)).d else 0
theorem held_sum {I : Ins} (hf : Fine I) : ∀ (l : List Int) (s : TS), goE I l = .ok s → heldL I l = sumN (termI I l) I.p.toNat :=
  goE_ind (by rw [heldL_nil, sumN_zero]; intro j _; simp [termI]) (fun l i s s' hg hp h => by
    obtain ⟨hw, _, _⟩ := stepE_ok h
    rw [(goE_seen l s hg).1] at hw
    have hgd := goE_good l s hg
    obtain ⟨h1, h2, h3, h4, _⟩ := wrongE_zero hw
    have hp0 := hf.p0
    rw [heldL_snoc, hp]
    by_cases c : i ≤ I.p
    · have e : ((i.toNat - 1 : Nat) : Int) + 1 = i := by omega
      have hno : i + I.p ∉ l := fun hm => h3 (by have := hgd.clos _ hm (by omega); rwa [show i + I.p - I.p = i by omega] at this)
      rw [sumN_change (f := termI I l) (g := termI I (l ++ [i])) (k := i.toNat - 1) (by omega) (fun j hj hn => ?_)]
      · have a1 : termI I l (i.toNat - 1) = 0 := by unfold termI; rw [if_neg]; rw [e]; exact fun h => h3 h.1
        have a2 : termI I (l ++ [i]) (i.toNat - 1) = (stp I i).d := by
          unfold termI
          rw [e, if_pos]
          refine ⟨by simp, ?_⟩
          simp only [List.mem_append, List.mem_singleton]
          rintro (hm | hm)
          · exact hno hm
          · omega
        omega
      · unfold termI
        have b1 : ((j : Int) + 1 ∈ l ++ [i]) = ((j : Int) + 1 ∈ l) := by
          simp only [List.mem_append, List.mem_singleton, eq_iff_iff]
          exact ⟨fun h => h.elim id (fun e => by omega), .inl⟩
        have b2 : ((j : Int) + 1 + I.p ∈ l ++ [i]) = ((j : Int) + 1 + I.p ∈ l) := by
          simp only [List.mem_append, List.mem_singleton, eq_iff_iff]
          exact ⟨fun h => h.elim id (fun e => by omega), .inl⟩
        simp only [b1, b2]
    · have hm := h4 (by omega)
      have e : (((i - I.p).toNat - 1 : Nat) : Int) + 1 = i - I.p := by have := hgd.rng _ hm; omega
      rw [sumN_change (f := termI I l) (g := termI I (l ++ [i])) (k := (i - I.p).toNat - 1) (by have := hgd.rng _ hm; omega) (fun j hj hn => ?_)]
      · have a1 : termI I l ((i - I.p).toNat - 1) = (stp I (i - I.p)).d := by
          unfold termI
          rw [e, if_pos]
          exact ⟨hm, by rw [show i - I.p + I.p = i by omega]; exact h3⟩
        have a2 : termI I (l ++ [i]) ((i - I.p).toNat - 1) = 0 := by
          unfold termI
          rw [e, if_neg]
          rintro ⟨_, hx⟩
          exact hx (by rw [show i - I.p + I.p = i by omega]; simp)
        have := hf.bring i (by omega) h2
        omega
      · unfold termI
        have hr := hgd.rng _ hm
        have b1 : ((j : Int) + 1 ∈ l ++ [i]) = ((j : Int) + 1 ∈ l) := by
          simp only [List.mem_append, List.mem_singleton, eq_iff_iff]
          exact ⟨fun h => h.elim id (fun e => by omega), .inl⟩
        have b2 : ((j : Int) + 1 + I.p ∈ l ++ [i]) = ((j : Int) + 1 + I.p ∈ l) := by
          simp only [List.mem_append, List.mem_singleton, eq_iff_iff]
          exact ⟨fun h => h.elim id (fun e => by omega), .inl⟩
        simp only [b1, b2])
theorem term_nonneg {I : Ins} (hf : Fine I) (l : List Int) (j : Nat) (hj : j < I.p.toNat) : 0 ≤ termI I l j := by
  unfold termI
  split
  · have := hf.take ((j : Int) + 1) (by omega) (by omega); omega
  · exact Int.le_refl _
theorem held_nonneg {I : Ins} (hf : Fine I) {l : List Int} {s : TS} (h : goE I l = .ok s) : 0 ≤ heldL I l := by
  rw [held_sum hf l s h]; exact sumN_nonneg (fun j hj => term_nonneg hf l j hj)
theorem held_ge {I : Ins} (hf : Fine I) {l : List Int} {s : TS} (h : goE I l = .ok s) {i : Int} (h1 : i ∈ l) (h2 : i ≤ I.p) (h3 : i + I.p ∉ l) : (stp I i).d ≤ heldL I l := by
  have hr := (goE_good l s h).rng i h1
  rw [held_sum hf l s h]
  have := sumN_ge (f := termI I l) (k := i.toNat - 1) (n := I.p.toNat) (by omega) (fun j hj => term_nonneg hf l j hj)
  have e : ((i.toNat - 1 : Nat) : Int) + 1 = i := by omega
  have a : termI I l (i.toNat - 1) = (stp I i).d := by unfold termI; rw [e, if_pos ⟨h1, h3⟩]
  omega
theorem endE_zero {I : Ins} {l : List Int} (h : endE I l = 0) : ∀ i, i ∈ l → i ≤ I.p → i + I.p ∈ l := by
  intro i hi hp
  unfold endE at h
  split at h
  · cases h
  · next hn => exact Decidable.byContradiction (fun hc => hn ⟨i, hi, hp, hc⟩)
theorem endE_of {I : Ins} {l : List Int} (h : ∀ i, i ∈ l → i ≤ I.p → i + I.p ∈ l) : endE I l = 0 := by
  unfold endE
  rw [if_neg]
  rintro ⟨i, h1, h2, h3⟩
  exact h3 (h i h1 h2)
theorem held_end {I : Ins} (hf : Fine I) {l : List Int} {s : TS} (h : goE I l = .ok s) (he : endE I l = 0) : heldL I l = 0 := by
  rw [held_sum hf l s h]
  refine sumN_zero (fun j hj => ?_)
  unfold termI
  rw [if_neg]
  rintro ⟨h1, h2⟩
  exact h2 (endE_zero he _ h1 (by omega))
end Go.Proofs.YtgplajofemencaaGreat
/- A route that can be gone: without a pair it can be gone, too, no later and no longer; in a wider window and with more room, no later; begun so, it is as wrong. Nothing of the program stands here. -/
namespace Go.Proofs.YtgplajofemencaaGreat

/-- One list of times beside another one, none later. -/
def NoLater (a b : List Tm) : Prop := a.length = b.length ∧ ∀ k (h : k < a.length) (h' : k < b.length), (a[k]).come ≤ (b[k]).come ∧ (a[k]).begn ≤ (b[k]).begn ∧ (a[k]).leave ≤ (b[k]).leave
theorem NoLater.nil : NoLater [] [] := ⟨rfl, fun k h => by simp at h⟩
theorem NoLater.snoc {a b : List Tm} (h : NoLater a b) {x y : Tm} (h1 : x.come ≤ y.come) (h2 : x.begn ≤ y.begn) (h3 : x.leave ≤ y.leave) : NoLater (a ++ [x]) (b ++ [y]) := by
  refine ⟨by simp [h.1], fun k hk hk' => ?_⟩
  by_cases c : k < a.length
  · rw [List.getElem_append_left c, List.getElem_append_left (by have := h.1; omega)]
    exact h.2 k c (by have := h.1; omega)
  · have e : k = a.length := by simp at hk; omega
    subst e
    have hb := h.1
    rw [List.getElem_append_right (Nat.le_refl _), List.getElem_append_right (by omega)]
    simp only [Nat.sub_self, hb, List.getElem_cons_zero]
    exact ⟨h1, h2, h3⟩
/-! ### A wider window -/
structure Wider (I K : Ins) : Prop where
  p : K.p = I.p
  r : I.r ≤ K.r
  yard : nth K.l 0 = nth I.l 0
  at' : ∀ i : Int, 1 ≤ i → i ≤ 2 * I.p → (stp K i).x = (stp I i).x ∧ (stp K i).y = (stp I i).y ∧ (stp K i).d = (stp I i).d ∧ (stp K i).s = (stp I i).s ∧ (stp K i).r ≤ (stp I i).r ∧ (stp I i).u ≤ (stp K i).u
theorem Wider.held {I K : Ins} (h : Wider I K) : ∀ (l : List Int), (∀ i, i ∈ l → 1 ≤ i ∧ i ≤ 2 * I.p) → heldL K l = heldL I l := by
  intro l hl
  unfold heldL
  rw [List.map_congr_left (fun i hi => (h.at' i (hl i hi).1 (hl i hi).2).2.2.1)]
/-! ### A pair less -/
def other (I : Ins) (c : Int) (i : Int) : Bool := decide (i ≠ c ∧ i ≠ c + I.p)
/-! ### A route that begins so -/
end Go.Proofs.YtgplajofemencaaGreat
/- A route that can be gone, stop by stop: where the car is, what it holds, when; what it holds at most; a pair alone. Nothing of the program stands here. -/
namespace Go.Proofs.YtgplajofemencaaGreat

/-- Where the car is behind k stops. -/
def sK (I : Ins) (l : List Int) (k : Nat) : TS := match goE I (l.take k) with | .ok s => s | .error _ => startT I
theorem take_snoc {l : List Int} {k : Nat} (hk : k < l.length) : l.take (k + 1) = l.take k ++ [l.getD k 0] := by
  rw [List.take_add_one, List.getElem?_eq_getElem hk, List.getD_eq_getElem?_getD, List.getElem?_eq_getElem hk]; rfl
theorem sK_of {I : Ins} {l : List Int} {k : Nat} {s : TS} (h : goE I (l.take k) = .ok s) : sK I l k = s := by unfold sK; rw [h]
theorem sK_ok {I : Ins} {l : List Int} {s : TS} (h : goE I l = .ok s) (k : Nat) : goE I (l.take k) = .ok (sK I l k) := by
  obtain ⟨s', hs⟩ := goE_head (a := l.take k) (b := l.drop k) (by rw [List.take_append_drop]; exact h)
  rw [sK_of hs]; exact hs
theorem sK_seen {I : Ins} {l : List Int} {s : TS} (h : goE I l = .ok s) (k : Nat) : (sK I l k).seen = l.take k := (goE_seen _ _ (sK_ok h k)).1
/-- One stop more. -/
theorem sK_step {I : Ins} {l : List Int} {s : TS} (h : goE I l = .ok s) {k : Nat} (hk : k < l.length) :
    wrongE I (l.take k) (l.getD k 0) = 0 ∧ (tmAt (sK I l k) (stp I (l.getD k 0))).begn ≤ (stp I (l.getD k 0)).u ∧ sK I l (k + 1) = nextT (sK I l k) (l.getD k 0) (stp I (l.getD k 0)) := by
  have h1 := sK_ok h (k + 1)
  rw [take_snoc hk] at h1
  obtain ⟨s0, h2, h3⟩ := goE_step h1
  rw [← sK_of h2] at h3
  obtain ⟨h4, h5, h6⟩ := stepE_ok h3
  rw [sK_seen h k] at h4
  exact ⟨h4, h5, h6⟩
/-- What the car holds on the way. -/
theorem load_next {I : Ins} {l : List Int} {k : Nat} (hk : k < l.length) : heldL I (l.take (k + 1)) = heldL I (l.take k) + (stp I (l.getD k 0)).d := by rw [take_snoc hk, heldL_snoc]
theorem load_room {I : Ins} {l : List Int} {s : TS} (h : goE I l = .ok s) {k : Nat} (hk : k < l.length) : heldL I (l.take (k + 1)) ≤ I.r := by
  rw [load_next hk]; exact (wrongE_zero (sK_step h hk).1).2.2.2.2
theorem loadsT_at {I : Ins} {l : List Int} {s : TS} (h : timesE I l = .ok s) : loadsT I l = (List.range l.length).map (fun k => heldL I (l.take (k + 1))) := by
  unfold loadsT errT; rw [h, if_pos rfl]
/-! ### A pair alone -/
end Go.Proofs.YtgplajofemencaaGreat
