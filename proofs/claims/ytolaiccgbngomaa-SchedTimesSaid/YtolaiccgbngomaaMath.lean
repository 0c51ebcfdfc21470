/- The plain mathematics of lines of numbers: a machine that goes over bytes, and the document's words, lines and texts. -/
namespace Go.Proofs.Ytolaiccgbngomaa

/-- What a byte is good for: 1 a space, 2 a minus, 3 a digit, 4 a #, 5 a line feed, 0 anything else. -/
def kd (c : Int) : Int := if c = 32 then 1 else if c = 45 then 2 else if c = 35 then 4 else if c = 10 then 5 else if 48 ≤ c ∧ c ≤ 57 then 3 else 0
theorem kd_cases (c : Int) : (c = 32 ∧ kd c = 1) ∨ (c = 45 ∧ kd c = 2) ∨ (c = 35 ∧ kd c = 4) ∨ (c = 10 ∧ kd c = 5) ∨ (48 ≤ c ∧ c ≤ 57 ∧ kd c = 3) ∨
    (c ≠ 32 ∧ c ≠ 45 ∧ c ≠ 35 ∧ c ≠ 10 ∧ ¬ (48 ≤ c ∧ c ≤ 57) ∧ kd c = 0) := by
  unfold kd
  split
  · exact .inl ⟨by assumption, rfl⟩
  · split
    · exact .inr (.inl ⟨by assumption, rfl⟩)
    · split
      · exact .inr (.inr (.inl ⟨by assumption, rfl⟩))
      · split
        · exact .inr (.inr (.inr (.inl ⟨by assumption, rfl⟩)))
        · split
          · rename_i h; exact .inr (.inr (.inr (.inr (.inl ⟨h.1, h.2, rfl⟩))))
          · exact .inr (.inr (.inr (.inr (.inr ⟨by assumption, by assumption, by assumption, by assumption, by assumption, rfl⟩))))
def dv (c : Int) : Nat := (c - 48).toNat

/-- What a machine holds: the lines, the line, the number that it is at (its size, its digits, its sign), and where it is: 0 where a number may begin, 1 behind a minus, 2 at a digit, 3 behind a #. -/
structure M where
  ls : List (List Int)
  l : List Int
  sz : Nat
  dg : Nat
  neg : Bool
  ph : Nat
def sgn (neg : Bool) (sz : Nat) : Int := if neg then -(sz : Int) else sz
def addL (ls : List (List Int)) (l : List Int) : List (List Int) := if l = [] then ls else ls ++ [l]
def gapM (ls : List (List Int)) (l : List Int) : M := ⟨ls, l, 0, 0, false, 0⟩
def noteM (ls : List (List Int)) (l : List Int) : M := ⟨ls, l, 0, 0, false, 3⟩
def take (m : M) (c : Int) : Option M := if m.dg = 12 then none else some ⟨m.ls, m.l, 10 * m.sz + dv c, m.dg + 1, m.neg, 2⟩
def step (m : M) (c : Int) : Option M :=
  if m.ph = 0 then
    if kd c = 1 then some (gapM m.ls m.l) else if kd c = 2 then some ⟨m.ls, m.l, 0, 0, true, 1⟩ else if kd c = 3 then take ⟨m.ls, m.l, 0, 0, false, 0⟩ c
    else if kd c = 4 then some (noteM m.ls m.l) else if kd c = 5 then some (gapM (addL m.ls m.l) []) else none
  else if m.ph = 1 then
    if kd c = 3 then take m c else none
  else if m.ph = 2 then
    if kd c = 3 then take m c else if kd c = 1 then some (gapM m.ls (m.l ++ [sgn m.neg m.sz])) else if kd c = 4 then some (noteM m.ls (m.l ++ [sgn m.neg m.sz]))
    else if kd c = 5 then some (gapM (addL m.ls (m.l ++ [sgn m.neg m.sz])) []) else none
  else
    if kd c = 5 then some (gapM (addL m.ls m.l) []) else some (noteM m.ls m.l)
def steps : M → List Int → Option M
  | m, [] => some m
  | m, c :: r => (step m c).bind (fun m' => steps m' r)
/-- The lines of what is left, from where the machine is. -/
def run (m : M) (r : List Int) : Option (List (List Int)) := ((steps m r).bind (fun m' => step m' 10)).map (·.ls)
def parse (bs : List Int) : Option (List (List Int)) := run (gapM [] []) bs
theorem run_nil (m : M) : run m [] = (step m 10).map (·.ls) := rfl
theorem run_cons (m : M) (c : Int) (r : List Int) : run m (c :: r) = (step m c).bind (fun m' => run m' r) := by
  unfold run
  rw [steps]
  cases step m c <;> rfl
theorem steps_append : ∀ (a : List Int) (m : M) (b : List Int), steps m (a ++ b) = (steps m a).bind (fun m' => steps m' b)
  | [], m, b => rfl
  | c :: r, m, b => by
    simp only [List.cons_append, steps]
    cases step m c with
    | none => rfl
    | some m' => exact steps_append r m' b
theorem steps_mid (w : List Int) (m : M) (c : Int) (r : List Int) : steps m (w ++ c :: r) = ((steps m w).bind (fun m' => step m' c)).bind (fun m' => steps m' r) := by
  rw [steps_append]
  cases steps m w <;> rfl
theorem run_append (m : M) (a b : List Int) : run m (a ++ b) = (steps m a).bind (fun m' => run m' b) := by
  unfold run
  rw [steps_append]
  cases steps m a <;> rfl

/-- What follows where no number of the line may follow. -/
def restOf (ls : List (List Int)) (l : List Int) (k : Int) (r : List Int) : Option (List (List Int)) :=
  if k = 4 then run (noteM ls l) r else if k = 5 then run (gapM (addL ls l) []) r else if k = 6 then some (addL ls l) else none
theorem gap_space (ls l) (c : Int) (r : List Int) (h : kd c = 1) : run (gapM ls l) (c :: r) = run (gapM ls l) r := by
  rw [run_cons]; simp [step, gapM, h]
theorem gap_minus (ls l) (c : Int) (r : List Int) (h : kd c = 2) : run (gapM ls l) (c :: r) = run ⟨ls, l, 0, 0, true, 1⟩ r := by
  rw [run_cons]; simp [step, gapM, h]
theorem gap_digit (ls l) (c : Int) (r : List Int) (h : kd c = 3) : run (gapM ls l) (c :: r) = (take ⟨ls, l, 0, 0, false, 0⟩ c).bind (fun m => run m r) := by
  rw [run_cons]; simp [step, gapM, h]
theorem gap_rest (ls l) (c : Int) (r : List Int) (h1 : kd c ≠ 1) (h2 : kd c ≠ 2) (h3 : kd c ≠ 3) : run (gapM ls l) (c :: r) = restOf ls l (kd c) r := by
  rw [run_cons]
  have := kd_cases c
  unfold restOf
  by_cases h4 : kd c = 4
  · simp [step, gapM, h4]
  · by_cases h5 : kd c = 5
    · simp [step, gapM, h5]
    · have h6 : kd c ≠ 6 := by omega
      simp [step, gapM, h1, h2, h3, h4, h5, h6]
theorem kd_ten : kd 10 = 5 := by decide
theorem gap_end (ls l) : run (gapM ls l) [] = restOf ls l 6 [] := by
  rw [run_nil]; simp [step, gapM, kd_ten, restOf]
theorem sign_digit (ls l) (c : Int) (r : List Int) (h : kd c = 3) : run ⟨ls, l, 0, 0, true, 1⟩ (c :: r) = (take ⟨ls, l, 0, 0, true, 0⟩ c).bind (fun m => run m r) := by
  rw [run_cons]; simp [step, h, take]
theorem sign_bad (ls l) (c : Int) (r : List Int) (h : kd c ≠ 3) : run ⟨ls, l, 0, 0, true, 1⟩ (c :: r) = none := by
  rw [run_cons]; simp [step, h]
theorem sign_end (ls l) : run ⟨ls, l, 0, 0, true, 1⟩ [] = none := by
  rw [run_nil]; simp [step, kd_ten]
theorem num_digit (ls l) (sz dg neg) (c : Int) (r : List Int) (h : kd c = 3) : run ⟨ls, l, sz, dg, neg, 2⟩ (c :: r) = (take ⟨ls, l, sz, dg, neg, 0⟩ c).bind (fun m => run m r) := by
  rw [run_cons]; simp [step, h, take]
theorem num_space (ls l) (sz dg neg) (c : Int) (r : List Int) (h : kd c = 1) : run ⟨ls, l, sz, dg, neg, 2⟩ (c :: r) = run (gapM ls (l ++ [sgn neg sz])) r := by
  rw [run_cons]; simp [step, h]
theorem num_rest (ls l) (sz dg neg) (c : Int) (r : List Int) (h1 : kd c ≠ 1) (h3 : kd c ≠ 3) : run ⟨ls, l, sz, dg, neg, 2⟩ (c :: r) = restOf ls (l ++ [sgn neg sz]) (kd c) r := by
  rw [run_cons]
  have := kd_cases c
  unfold restOf
  by_cases h4 : kd c = 4
  · simp [step, h4]
  · by_cases h5 : kd c = 5
    · simp [step, h5]
    · have h6 : kd c ≠ 6 := by omega
      simp [step, h1, h3, h4, h5, h6]
theorem num_end (ls l) (sz dg neg) : run ⟨ls, l, sz, dg, neg, 2⟩ [] = restOf ls (l ++ [sgn neg sz]) 6 [] := by
  rw [run_nil]; simp [step, kd_ten, restOf, gapM]
theorem note_feed (ls l) (c : Int) (r : List Int) (h : kd c = 5) : run (noteM ls l) (c :: r) = restOf ls l 5 r := by
  rw [run_cons]; simp [step, noteM, h, restOf]
theorem note_on (ls l) (c : Int) (r : List Int) (h : kd c ≠ 5) : run (noteM ls l) (c :: r) = run (noteM ls l) r := by
  rw [run_cons]; simp [step, noteM, h]
theorem note_end (ls l) : run (noteM ls l) [] = restOf ls l 6 [] := by
  rw [run_nil]; simp [step, noteM, kd_ten, restOf, gapM]

/-! ### The document's words, lines, texts -/
def digs : Int → List Int → Option Int
  | n, [] => some n
  | n, c :: r => if c < 48 ∨ 57 < c then none else digs (10 * n + (c - 48)) r
def wordS (b : List Int) : Option Int :=
  if b.head? = some 45 then (if b.tail.length < 1 ∨ 12 < b.tail.length then none else (digs 0 b.tail).map (fun n => -n))
  else (if b.length < 1 ∨ 12 < b.length then none else digs 0 b)
def flush (out w : List Int) : Option (List Int) := if w = [] then some out else (wordS w).map (fun n => out ++ [n])
def lineRun : List Int → List Int → List Int → Option (List Int)
  | out, w, [] => flush out w
  | out, w, c :: r => if c = 35 then flush out w else if c = 32 then (flush out w).bind (fun o => lineRun o [] r) else lineRun out (w ++ [c]) r
def lineS (b : List Int) : Option (List Int) := lineRun [] [] b
def refRun : List (List Int) → List Int → List Int → Option (List (List Int))
  | out, b, [] => (lineS b).map (fun l => addL out l)
  | out, b, c :: r => if c = 10 then (lineS b).bind (fun l => refRun (addL out l) [] r) else refRun out (b ++ [c]) r

/-- No byte of a word ends it. -/
def Plain (w : List Int) : Prop := ∀ c ∈ w, c ≠ 32 ∧ c ≠ 35 ∧ c ≠ 10
theorem Plain.snoc {w : List Int} {c : Int} (h : Plain w) (h1 : c ≠ 32) (h2 : c ≠ 35) (h3 : c ≠ 10) : Plain (w ++ [c]) := by
  intro x hx
  simp only [List.mem_append, List.mem_singleton] at hx
  rcases hx with hx | rfl
  · exact h x hx
  · exact ⟨h1, h2, h3⟩
theorem digs_nonneg : ∀ (d : List Int) (n m : Int), 0 ≤ n → digs n d = some m → 0 ≤ m
  | [], n, m, hn, h => by simp [digs] at h; omega
  | c :: r, n, m, hn, h => by
    unfold digs at h
    split at h
    · simp at h
    · exact digs_nonneg r _ m (by omega) h
/-- The digits of a number, one behind the other. -/
theorem steps_digs (ls l neg) : ∀ (d : List Int), Plain d → ∀ (sz dg : Nat), dg ≤ 12 →
    steps ⟨ls, l, sz, dg, neg, 2⟩ d = if 12 < dg + d.length then none else (digs sz d).map (fun n => ⟨ls, l, n.toNat, dg + d.length, neg, 2⟩)
  | [], _, sz, dg, hd => by simp [steps, digs]; omega
  | c :: r, hp, sz, dg, hd => by
    have hc := hp c (by simp)
    have hr : Plain r := fun x hx => hp x (by simp [hx])
    unfold steps
    have hk := kd_cases c
    by_cases h3 : kd c = 3
    · have hin : 48 ≤ c ∧ c ≤ 57 := by omega
      by_cases h12 : dg = 12
      · subst h12
        simp [step, h3, take]
      · have ih := steps_digs ls l neg r hr (10 * sz + dv c) (dg + 1) (by omega)
        have e : ((10 * sz + dv c : Nat) : Int) = 10 * (sz : Int) + (c - 48) := by unfold dv; omega
        rw [e] at ih
        simp only [step, h3, take, h12, if_false, if_true, digs]
        simp only [show ¬ (2 : Nat) = 0 by decide, show ¬ (2 : Nat) = 1 by decide, if_false]
        rw [if_neg (show ¬ (c < 48 ∨ 57 < c) by omega)]
        simp only [Option.bind_some, List.length_cons]
        rw [ih]
        have e2 : dg + 1 + r.length = dg + (r.length + 1) := by omega
        rw [e2]
    · have hb : c < 48 ∨ 57 < c := by omega
      have h1 : kd c ≠ 1 := by omega
      have h4 : kd c ≠ 4 := by omega
      have h5 : kd c ≠ 5 := by omega
      simp [step, h3, h1, h4, h5, digs, hb]

/-- A word, and what ends it. -/
theorem word_end (ls : List (List Int)) (l w : List Int) (hw : w ≠ []) (hp : Plain w) (c : Int) (hc : c = 32 ∨ c = 35 ∨ c = 10) :
    (steps (gapM ls l) w).bind (fun m => step m c) = (wordS w).bind (fun n => step (gapM ls (l ++ [n])) c) := by
  have hkc : kd c = 1 ∨ kd c = 4 ∨ kd c = 5 := by
    have := kd_cases c; omega
  have hk3 : kd c ≠ 3 := by omega
  have hk2 : kd c ≠ 2 := by omega
  have fin : ∀ (sz dg : Nat) (neg : Bool), step ⟨ls, l, sz, dg, neg, 2⟩ c = step (gapM ls (l ++ [sgn neg sz])) c := by
    intro sz dg neg
    rcases hkc with h | h | h <;> simp [step, gapM, h]
  match w, hw with
  | x :: r, _ =>
    have hx := hp x (by simp)
    have hr : Plain r := fun y hy => hp y (by simp [hy])
    have hk := kd_cases x
    unfold steps wordS
    by_cases h45 : x = 45
    · subst h45
      have e1 : step (gapM ls l) 45 = some ⟨ls, l, 0, 0, true, 1⟩ := by simp [step, gapM, show kd 45 = 2 by decide]
      rw [e1]
      simp only [Option.bind_some, List.head?_cons, List.tail_cons, if_true]
      match r, hr with
      | [], _ => simp [steps, step, hk3]
      | y :: s, hr =>
        have hy := hr y (by simp)
        have hs : Plain s := fun z hz => hr z (by simp [hz])
        have hky := kd_cases y
        unfold steps digs
        by_cases h3 : kd y = 3
        · have e2 : step ⟨ls, l, 0, 0, true, 1⟩ y = some ⟨ls, l, dv y, 1, true, 2⟩ := by simp [step, h3, take]
          have e3 : ((dv y : Nat) : Int) = 10 * 0 + (y - 48) := by unfold dv; omega
          rw [e2]
          simp only [Option.bind_some]
          rw [steps_digs ls l true s hs (dv y) 1 (by omega), e3, if_neg (show ¬ (y < 48 ∨ 57 < y) by omega)]
          have hl : (1 + s.length) = (y :: s).length := by simp; omega
          rw [hl]
          by_cases hlen : 12 < (y :: s).length
          · rw [if_pos hlen, if_pos (.inr hlen)]; rfl
          · rw [if_neg hlen, if_neg (by simp at hlen ⊢; omega)]
            cases hd : digs (10 * 0 + (y - 48)) s with
            | none => rfl
            | some n =>
              have hn : 0 ≤ n := digs_nonneg s _ _ (by omega) hd
              simp only [Option.map_some, Option.bind_some]
              rw [fin]
              simp [sgn, Int.toNat_of_nonneg hn]
        · have e2 : step ⟨ls, l, 0, 0, true, 1⟩ y = none := by simp [step, h3]
          rw [e2, if_pos (show y < 48 ∨ 57 < y by omega)]
          simp
    · rw [if_neg (by simpa using h45)]
      by_cases h3 : kd x = 3
      · have e2 : step (gapM ls l) x = some ⟨ls, l, dv x, 1, false, 2⟩ := by simp [step, gapM, h3, take]
        have e3 : ((dv x : Nat) : Int) = 10 * 0 + (x - 48) := by unfold dv; omega
        rw [e2]
        simp only [Option.bind_some]
        unfold digs
        rw [steps_digs ls l false r hr (dv x) 1 (by omega), e3, if_neg (show ¬ (x < 48 ∨ 57 < x) by omega)]
        have hl : (1 + r.length) = (x :: r).length := by simp; omega
        rw [hl]
        by_cases hlen : 12 < (x :: r).length
        · rw [if_pos hlen, if_pos (.inr hlen)]; rfl
        · rw [if_neg hlen, if_neg (by simp at hlen ⊢; omega)]
          cases hd : digs (10 * 0 + (x - 48)) r with
          | none => rfl
          | some n =>
            have hn : 0 ≤ n := digs_nonneg r _ _ (by omega) hd
            simp only [Option.map_some, Option.bind_some]
            rw [fin]
            simp [sgn, Int.toNat_of_nonneg hn]
      · have hb : x < 48 ∨ 57 < x := by omega
        have e2 : step (gapM ls l) x = none := by
          have h0 : kd x = 0 := by omega
          simp [step, gapM, h0]
        rw [e2]
        unfold digs
        rw [if_pos hb]
        simp
/-- A line. -/
theorem steps_note (ls l) : ∀ (r : List Int), (∀ c ∈ r, c ≠ 10) → steps (noteM ls l) r = some (noteM ls l)
  | [], _ => rfl
  | c :: r, h => by
    unfold steps
    have h5 : kd c ≠ 5 := by have := kd_cases c; have := h c (by simp); omega
    have e : step (noteM ls l) c = some (noteM ls l) := by simp [step, noteM, h5]
    rw [e]
    exact steps_note ls l r (fun x hx => h x (by simp [hx]))
theorem flush_end (ls : List (List Int)) (out w : List Int) (hp : Plain w) (c : Int) (hc : c = 32 ∨ c = 35 ∨ c = 10) :
    (steps (gapM ls out) w).bind (fun m => step m c) = (flush out w).bind (fun o => step (gapM ls o) c) := by
  unfold flush
  by_cases hw : w = []
  · subst hw; simp [steps]
  · rw [if_neg hw, word_end ls out w hw hp c hc]
    cases wordS w <;> rfl
theorem line_end (ls : List (List Int)) : ∀ (b out w : List Int), Plain w → (∀ c ∈ b, c ≠ 10) →
    (steps (gapM ls out) (w ++ b)).bind (fun m => step m 10) = (lineRun out w b).map (fun o => gapM (addL ls o) [])
  | [], out, w, hp, _ => by
    rw [List.append_nil, flush_end ls out w hp 10 (by simp)]
    unfold lineRun
    cases flush out w with
    | none => rfl
    | some o => simp [step, gapM, kd_ten]
  | c :: r, out, w, hp, hb => by
    have hc := hb c (by simp)
    have hr : ∀ x ∈ r, x ≠ 10 := fun x hx => hb x (by simp [hx])
    unfold lineRun
    by_cases h35 : c = 35
    · subst h35
      rw [if_pos rfl, steps_mid]
      have h := flush_end ls out w hp 35 (by simp)
      have e : ∀ o, step (gapM ls o) 35 = some (noteM ls o) := by intro o; simp [step, gapM, noteM, show kd 35 = 4 by decide]
      simp only [e] at h
      rw [h]
      cases flush out w with
      | none => rfl
      | some o =>
        simp only [Option.bind_some, Option.map_some]
        rw [steps_note ls o r hr]
        simp [step, noteM, kd_ten]
    · rw [if_neg h35]
      by_cases h32 : c = 32
      · subst h32
        rw [if_pos rfl, steps_mid]
        have h := flush_end ls out w hp 32 (by simp)
        have e : ∀ o, step (gapM ls o) 32 = some (gapM ls o) := by intro o; simp [step, gapM, show kd 32 = 1 by decide]
        simp only [e] at h
        rw [h]
        cases flush out w with
        | none => rfl
        | some o =>
          simp only [Option.bind_some]
          exact line_end ls r o [] (fun x hx => by simp at hx) hr
      · rw [if_neg h32]
        have ih := line_end ls r out (w ++ [c]) (hp.snoc h32 h35 hc) hr
        rw [List.append_assoc] at ih
        exact ih
/-- A text. -/
theorem refRun_eq : ∀ (r : List Int) (out : List (List Int)) (b : List Int), (∀ c ∈ b, c ≠ 10) → refRun out b r = run (gapM out []) (b ++ r)
  | [], out, b, hb => by
    have h := line_end out b [] [] (fun x hx => by simp at hx) hb
    unfold refRun run lineS
    rw [List.append_nil]
    rw [List.nil_append] at h
    rw [h]
    cases lineRun [] [] b <;> rfl
  | c :: r, out, b, hb => by
    unfold refRun
    by_cases h10 : c = 10
    · subst h10
      rw [if_pos rfl, run_append]
      have h := line_end out b [] [] (fun x hx => by simp at hx) hb
      rw [List.nil_append] at h
      have h2 : ((steps (gapM out []) b).bind (fun m' => run m' (10 :: r))) = ((steps (gapM out []) b).bind (fun m => step m 10)).bind (fun m' => run m' r) := by
        cases steps (gapM out []) b with
        | none => rfl
        | some m => simp only [Option.bind_some]; rw [run_cons]
      rw [h2, h]
      unfold lineS
      cases lineRun [] [] b with
      | none => rfl
      | some o =>
        simp only [Option.bind_some, Option.map_some]
        exact refRun_eq r (addL out o) [] (fun x hx => by simp at hx)
    · rw [if_neg h10]
      have ih := refRun_eq r out (b ++ [c]) (fun x hx => by
        simp only [List.mem_append, List.mem_singleton] at hx
        rcases hx with hx | rfl
        · exact hb x hx
        · exact h10)
      rw [List.append_assoc] at ih
      exact ih
theorem refRun_parse (bs : List Int) : refRun [] [] bs = parse bs := refRun_eq bs [] [] (fun x hx => by simp at hx)

/-! ### What the laws say -/
/-- The lines ahead of a machine's are carried along. -/
theorem step_more (L ls l sz dg neg ph) (c : Int) : step ⟨L ++ ls, l, sz, dg, neg, ph⟩ c = (step ⟨ls, l, sz, dg, neg, ph⟩ c).map (fun m => ⟨L ++ m.ls, m.l, m.sz, m.dg, m.neg, m.ph⟩) := by
  unfold step take gapM noteM addL
  simp only []
  repeat' split
  all_goals first | rfl | simp_all
theorem steps_more (L) : ∀ (r : List Int) (m : M), steps ⟨L ++ m.ls, m.l, m.sz, m.dg, m.neg, m.ph⟩ r = (steps m r).map (fun m => ⟨L ++ m.ls, m.l, m.sz, m.dg, m.neg, m.ph⟩)
  | [], m => rfl
  | c :: r, m => by
    unfold steps
    rw [step_more L m.ls m.l m.sz m.dg m.neg m.ph c]
    cases step ⟨m.ls, m.l, m.sz, m.dg, m.neg, m.ph⟩ c with
    | none => rfl
    | some m' => exact steps_more L r m'
theorem run_more (L : List (List Int)) (r : List Int) : run (gapM L []) r = (parse r).map (fun x => L ++ x) := by
  have h := steps_more L r (gapM [] [])
  have e : (⟨L ++ (gapM [] []).ls, (gapM [] []).l, (gapM [] []).sz, (gapM [] []).dg, (gapM [] []).neg, (gapM [] []).ph⟩ : M) = gapM L [] := by simp [gapM]
  rw [e] at h
  unfold parse run
  rw [h]
  cases steps (gapM [] []) r with
  | none => rfl
  | some m =>
    simp only [Option.map_some, Option.bind_some]
    rw [step_more L m.ls m.l m.sz m.dg m.neg m.ph 10]
    cases step ⟨m.ls, m.l, m.sz, m.dg, m.neg, m.ph⟩ 10 <;> rfl
/-- A line feed: what is ahead of it is a text of its own. -/
theorem step_ten (m : M) : step m 10 = (((step m 10).map (·.ls)).map (fun L => gapM L [])) := by
  unfold step
  simp only [kd_ten]
  repeat' split
  all_goals first | rfl | simp_all
theorem parse_joins (a b : List Int) : parse (a ++ 10 :: b) = (parse a).bind (fun x => (parse b).map (fun y => x ++ y)) := by
  unfold parse
  rw [run_append]
  have h2 : ((steps (gapM [] []) a).bind (fun m' => run m' (10 :: b))) = ((steps (gapM [] []) a).bind (fun m => step m 10)).bind (fun m' => run m' b) := by
    cases steps (gapM [] []) a with
    | none => rfl
    | some m => simp only [Option.bind_some]; rw [run_cons]
  rw [h2]
  show _ = (((steps (gapM [] []) a).bind (fun m' => step m' 10)).map (·.ls)).bind _
  cases steps (gapM [] []) a with
  | none => rfl
  | some m =>
    simp only [Option.bind_some]
    rw [step_ten m]
    cases step m 10 with
    | none => rfl
    | some m' =>
      simp only [Option.map_some, Option.bind_some]
      rw [run_more]
      rfl
theorem parse_notes (h n t : List Int) (hn : ∀ c ∈ n, c ≠ 10) : parse (h ++ 35 :: (n ++ 10 :: t)) = parse (h ++ 35 :: 10 :: t) := by
  unfold parse
  rw [run_append, run_append]
  congr 1
  funext m
  rw [run_cons, run_cons]
  cases hs : step m 35 with
  | none => rfl
  | some m' =>
    simp only [Option.bind_some]
    have hm : ∃ ls l, m' = noteM ls l := by
      unfold step at hs
      simp only [show kd 35 = 4 by decide] at hs
      repeat' split at hs
      all_goals first | (simp at hs; done) | (simp at hs; exact ⟨_, _, hs.symm⟩) | (simp_all; done)
    obtain ⟨ls, l, rfl⟩ := hm
    rw [run_append, steps_note ls l n hn]
    rfl
/-- Each space told twice. -/
def twice : List Int → List Int
  | [] => []
  | c :: r => if c = 32 then c :: 32 :: twice r else c :: twice r
theorem step_space (m : M) : (step m 32).bind (fun m' => step m' 32) = step m 32 := by
  unfold step
  simp only [show kd 32 = 1 by decide]
  repeat' split
  all_goals first | rfl | simp_all
theorem steps_twice : ∀ (r : List Int) (m : M), steps m (twice r) = steps m r
  | [], m => rfl
  | c :: r, m => by
    unfold twice
    split
    · rename_i h; subst h
      have h2 := step_space m
      show (step m 32).bind (fun m' => (step m' 32).bind (fun m' => steps m' (twice r))) = (step m 32).bind (fun m' => steps m' r)
      cases hs : step m 32 with
      | none => rfl
      | some m' =>
        rw [hs] at h2
        simp only [Option.bind_some] at h2 ⊢
        rw [h2]
        exact steps_twice r m'
    · unfold steps
      cases step m c with
      | none => rfl
      | some m' => exact steps_twice r m'
theorem parse_twice (r : List Int) : parse (twice r) = parse r := by unfold parse run; rw [steps_twice]
theorem twice_append : ∀ a b, twice (a ++ b) = twice a ++ twice b
  | [], b => rfl
  | c :: r, b => by
    simp only [List.cons_append, twice, twice_append r b]
    split <;> rfl
theorem twice_len : ∀ r, (twice r).length ≤ 2 * r.length
  | [] => by simp [twice]
  | c :: r => by
    have := twice_len r
    unfold twice
    split <;> simp <;> omega
/-- What is answered. -/
def errOf (bs : List Int) : Int := if 4096 < bs.length then 6 else if (parse bs).isNone then 2 else 0
def resOf (bs : List Int) : List (List Int) := if 4096 < bs.length then [] else (parse bs).getD []
end Go.Proofs.Ytolaiccgbngomaa
