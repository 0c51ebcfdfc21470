/- The plain mathematics of printing: what is printed is read as it was. -/
import Derived.Test.YtolaiccgbngomaaMath
import Derived.Lib.ItoaNum
namespace Go.Proofs.Ytolaiccgbngomaa

/-- A number's digits, as bytes. -/
def toI (l : List UInt8) : List Int := l.map (fun b => (b.toNat : Int))
def decI (u : Nat) : List Int := toI (Lib.decDigits u)
def itoaI (n : Int) : List Int := toI (Lib.itoa n)
theorem itoaI_neg (n : Int) (h : n < 0) : itoaI n = 45 :: decI n.natAbs := by unfold itoaI Lib.itoa; rw [if_pos h]; rfl
theorem itoaI_pos (n : Int) (h : ¬ n < 0) : itoaI n = decI n.toNat := by unfold itoaI Lib.itoa; rw [if_neg h]; rfl
theorem byte_dig (u : Nat) (h : u < 10) : ((UInt8.ofNat (48 + u)).toNat : Int) = 48 + u := by
  have : (UInt8.ofNat (48 + u)).toNat = 48 + u := by simp [UInt8.toNat_ofNat']; omega
  omega
theorem decI_small (u : Nat) (h : u < 10) : decI u = [48 + (u : Int)] := by
  unfold decI; rw [Lib.decDigits_one h]
  simp only [toI, List.map_cons, List.map_nil]
  rw [byte_dig u h]
theorem decI_big (u : Nat) (h : ¬ u < 10) : decI u = decI (u / 10) ++ [48 + ((u % 10 : Nat) : Int)] := by
  unfold decI; rw [Lib.decDigits, dif_neg h]
  simp only [toI, List.map_append, List.map_cons, List.map_nil]
  rw [byte_dig (u % 10) (by omega)]
theorem digs_app : ∀ (a : List Int) (n : Int) (b : List Int), digs n (a ++ b) = (digs n a).bind (fun m => digs m b)
  | [], n, b => rfl
  | c :: r, n, b => by
    simp only [List.cons_append, digs]
    split
    · rfl
    · exact digs_app r _ b
theorem decI_digs (u : Nat) : digs 0 (decI u) = some (u : Int) := by
  induction u using Nat.strongRecOn with
  | _ u ih =>
    by_cases h : u < 10
    · rw [decI_small u h]
      simp only [digs]
      rw [if_neg (by omega)]
      congr 1; omega
    · rw [decI_big u h, digs_app, ih (u / 10) (by omega)]
      simp only [Option.bind_some, digs]
      rw [if_neg (by omega)]
      congr 1; omega
theorem decI_in (u : Nat) : ∀ c ∈ decI u, 48 ≤ c ∧ c ≤ 57 := by
  induction u using Nat.strongRecOn with
  | _ u ih =>
    intro c hc
    by_cases h : u < 10
    · rw [decI_small u h] at hc
      simp at hc; omega
    · rw [decI_big u h] at hc
      simp only [List.mem_append, List.mem_singleton] at hc
      rcases hc with hc | hc
      · exact ih (u / 10) (by omega) c hc
      · omega
theorem decI_pos (u : Nat) : 1 ≤ (decI u).length := by
  by_cases h : u < 10
  · rw [decI_small u h]; simp
  · rw [decI_big u h]; simp
theorem decI_len : ∀ (k u : Nat), u < 10 ^ (k + 1) → (decI u).length ≤ k + 1
  | 0, u, h => by rw [decI_small u (by omega)]; simp
  | k + 1, u, h => by
    by_cases h1 : u < 10
    · rw [decI_small u h1]; simp
    · rw [decI_big u h1]
      have := decI_len k (u / 10) (by rw [Nat.pow_succ] at h; omega)
      simp; omega
theorem decI_more : ∀ (k u : Nat), 10 ^ k ≤ u → k + 1 ≤ (decI u).length
  | 0, u, _ => decI_pos u
  | k + 1, u, h => by
    have h10 : ¬ u < 10 := by
      have : 10 ^ 1 ≤ 10 ^ (k + 1) := Nat.pow_le_pow_right (by decide) (by omega)
      omega
    rw [decI_big u h10]
    have := decI_more k (u / 10) (by rw [Nat.pow_succ] at h; omega)
    simp; omega
theorem itoaI_len (n : Int) (h1 : -1000000000000000000000 < n) (h2 : n < 1000000000000000000000) : (itoaI n).length ≤ 22 := by
  by_cases h : n < 0
  · rw [itoaI_neg n h]
    have := decI_len 20 n.natAbs (by omega)
    simp; omega
  · rw [itoaI_pos n h]
    have := decI_len 20 n.toNat (by omega)
    omega
theorem itoaI_plain (n : Int) : Plain (itoaI n) := by
  intro c hc
  by_cases h : n < 0
  · rw [itoaI_neg n h] at hc
    simp only [List.mem_cons] at hc
    rcases hc with rfl | hc
    · decide
    · have := decI_in _ c hc; omega
  · rw [itoaI_pos n h] at hc
    have := decI_in _ c hc; omega
theorem itoaI_some (n : Int) : itoaI n ≠ [] := by
  intro e
  by_cases h : n < 0
  · rw [itoaI_neg n h] at e; simp at e
  · rw [itoaI_pos n h] at e
    have := decI_pos n.toNat
    rw [e] at this; simp at this
theorem head_dec (u : Nat) (r : List Int) : (decI u ++ r).head? ≠ some 45 := by
  intro e
  have hp := decI_pos u
  match hd : decI u, hp with
  | c :: t, _ =>
    rw [hd] at e
    simp at e
    have := decI_in u c (by rw [hd]; simp)
    omega
theorem wordS_minus (r : List Int) : wordS (45 :: r) = if r.length < 1 ∨ 12 < r.length then none else (digs 0 r).map (fun n => -n) := by unfold wordS; simp
theorem word_itoa (n : Int) (h1 : -1000000000000 < n) (h2 : n < 1000000000000) : wordS (itoaI n) = some n := by
  by_cases h : n < 0
  · rw [itoaI_neg n h]
    have hl := decI_len 11 n.natAbs (by omega)
    have hp := decI_pos n.natAbs
    rw [wordS_minus, if_neg (by omega), decI_digs]
    simp; omega
  · rw [itoaI_pos n h]
    have hl := decI_len 11 n.toNat (by omega)
    have hp := decI_pos n.toNat
    unfold wordS
    rw [if_neg (by have := head_dec n.toNat []; simpa using this), if_neg (by omega), decI_digs]
    congr 1; omega
/-- A text of one word. -/
theorem parse_word (w : List Int) (hw : w ≠ []) (hp : Plain w) : parse w = (wordS w).map (fun n => [[n]]) := by
  unfold parse run
  rw [word_end [] [] w hw hp 10 (by simp)]
  cases wordS w with
  | none => rfl
  | some n => simp [step, gapM, kd_ten, addL]

/-! ### Lines and texts -/
def lineT : List Int → List Int
  | [] => []
  | [n] => itoaI n ++ [10]
  | n :: m :: r => itoaI n ++ 32 :: lineT (m :: r)
def sp : List Int → List Int
  | [] => []
  | n :: r => itoaI n ++ 32 :: sp r
theorem sp_line : ∀ (l : List Int), l ≠ [] → ∃ z, sp l = z ++ [32] ∧ lineT l = z ++ [10]
  | [], h => (h rfl).elim
  | [n], _ => ⟨itoaI n, by simp [sp], rfl⟩
  | n :: m :: r, _ => by
    obtain ⟨z, h1, h2⟩ := sp_line (m :: r) (by simp)
    exact ⟨itoaI n ++ 32 :: z, by rw [sp, h1]; simp, by rw [lineT, h2]; simp⟩
theorem sp_append : ∀ a b, sp (a ++ b) = sp a ++ sp b
  | [], b => rfl
  | n :: r, b => by simp [sp, sp_append r b]
def textOf : List (List Int) → List Int
  | [] => []
  | l :: L => lineT l ++ textOf L
theorem textOf_append : ∀ a b, textOf (a ++ b) = textOf a ++ textOf b
  | [], b => rfl
  | n :: r, b => by simp [textOf, textOf_append r b]
/-- Numbers that may be read. -/
def Small (l : List Int) : Prop := ∀ n ∈ l, -1000000000000 < n ∧ n < 1000000000000
theorem steps_line (ls : List (List Int)) : ∀ (l acc : List Int), l ≠ [] → Small l → steps (gapM ls acc) (lineT l) = some (gapM (ls ++ [acc ++ l]) [])
  | [], _, h, _ => (h rfl).elim
  | [n], acc, _, hs => by
    have hn := hs n (by simp)
    rw [lineT, steps_mid, word_end ls acc _ (itoaI_some n) (itoaI_plain n) 10 (by simp), word_itoa n hn.1 hn.2]
    simp [step, gapM, kd_ten, addL, steps]
  | n :: m :: r, acc, _, hs => by
    have hn := hs n (by simp)
    have ih := steps_line ls (m :: r) (acc ++ [n]) (by simp) (fun x hx => hs x (by simp only [List.mem_cons] at hx ⊢; exact .inr hx))
    rw [lineT, steps_mid, word_end ls acc _ (itoaI_some n) (itoaI_plain n) 32 (by simp), word_itoa n hn.1 hn.2]
    have e : step (gapM ls (acc ++ [n])) 32 = some (gapM ls (acc ++ [n])) := by simp [step, gapM, show kd 32 = 1 by decide]
    simp only [Option.bind_some, e]
    rw [ih]
    simp
def full (L : List (List Int)) : List (List Int) := L.filter (fun l => l ≠ [])
theorem steps_text : ∀ (L ls : List (List Int)), (∀ l ∈ L, Small l) → steps (gapM ls []) (textOf L) = some (gapM (ls ++ full L) [])
  | [], ls, _ => by simp [textOf, steps, full]
  | l :: L, ls, h => by
    have ih := steps_text L
    have hl := h l (by simp)
    have hL : ∀ x ∈ L, Small x := fun x hx => h x (by simp [hx])
    by_cases he : l = []
    · subst he
      rw [textOf, lineT, List.nil_append, ih ls hL]
      simp [full]
    · rw [textOf, steps_append, steps_line ls l [] he hl]
      simp only [Option.bind_some, List.nil_append]
      rw [ih _ hL]
      simp [full, he]
theorem parse_text (L : List (List Int)) (h : ∀ l ∈ L, Small l) : parse (textOf L) = some (full L) := by
  unfold parse run
  rw [steps_text L [] h]
  simp [step, gapM, kd_ten, addL]
/-- How many numbers lines have. -/
def cnt : List (List Int) → Nat
  | [] => 0
  | l :: L => l.length + cnt L
theorem cnt_append : ∀ a b, cnt (a ++ b) = cnt a + cnt b
  | [], b => by simp [cnt]
  | l :: L, b => by simp [cnt, cnt_append L b]; omega
/-- What holds of all that has been read. -/
structure Good (m : M) : Prop where
  ls : ∀ l ∈ m.ls, l ≠ [] ∧ Small l
  l : Small m.l
  sz : m.sz < 10 ^ m.dg
  dg : m.dg ≤ 12
theorem sgn_small (neg : Bool) (sz dg : Nat) (h : sz < 10 ^ dg) (hd : dg ≤ 12) : -1000000000000 < sgn neg sz ∧ sgn neg sz < 1000000000000 := by
  have : 10 ^ dg ≤ 10 ^ 12 := Nat.pow_le_pow_right (by decide) hd
  cases neg <;> simp [sgn] <;> omega
theorem small_snoc {l : List Int} {n : Int} (h : Small l) (h1 : -1000000000000 < n) (h2 : n < 1000000000000) : Small (l ++ [n]) := by
  intro x hx
  simp only [List.mem_append, List.mem_singleton] at hx
  rcases hx with hx | rfl
  · exact h x hx
  · exact ⟨h1, h2⟩
theorem addL_good {L : List (List Int)} {l : List Int} (h : ∀ x ∈ L, x ≠ [] ∧ Small x) (hl : Small l) : ∀ x ∈ addL L l, x ≠ [] ∧ Small x := by
  intro x hx
  unfold addL at hx
  split at hx
  · exact h x hx
  · simp only [List.mem_append, List.mem_singleton] at hx
    rcases hx with hx | rfl
    · exact h x hx
    · exact ⟨by assumption, hl⟩
theorem gap_good {L : List (List Int)} {l : List Int} (h : ∀ x ∈ L, x ≠ [] ∧ Small x) (hl : Small l) : Good (gapM L l) := ⟨h, hl, by simp [gapM], by simp [gapM]⟩
theorem note_good {L : List (List Int)} {l : List Int} (h : ∀ x ∈ L, x ≠ [] ∧ Small x) (hl : Small l) : Good (noteM L l) := ⟨h, hl, by simp [noteM], by simp [noteM]⟩
theorem take_good {m m' : M} {c : Int} (hc : kd c = 3) (h : Good m) (ht : take m c = some m') : Good m' := by
  unfold take at ht
  split at ht
  · simp at ht
  · simp at ht
    subst ht
    have h1 := h.sz
    have h2 := h.dg
    have h3 := kd_cases c
    refine ⟨h.ls, h.l, ?_, by simp; omega⟩
    show 10 * m.sz + dv c < 10 ^ (m.dg + 1)
    rw [Nat.pow_succ]
    unfold dv
    omega
theorem nil_small : Small [] := fun x hx => by simp at hx
theorem step_good {m m' : M} {c : Int} (h : Good m) (hs : step m c = some m') : Good m' := by
  have hsg := sgn_small m.neg m.sz m.dg h.sz h.dg
  unfold step at hs
  split at hs
  · split at hs
    · simp at hs; subst hs; exact gap_good h.ls h.l
    · split at hs
      · simp at hs; subst hs; exact ⟨h.ls, h.l, by simp, by simp⟩
      · split at hs
        · exact take_good (by assumption) (show Good ⟨m.ls, m.l, 0, 0, false, 0⟩ from ⟨h.ls, h.l, by simp, by simp⟩) hs
        · split at hs
          · simp at hs; subst hs; exact note_good h.ls h.l
          · split at hs
            · simp at hs; subst hs; exact gap_good (addL_good h.ls h.l) nil_small
            · simp at hs
  · split at hs
    · split at hs
      · exact take_good (by assumption) h hs
      · simp at hs
    · split at hs
      · split at hs
        · exact take_good (by assumption) h hs
        · split at hs
          · simp at hs; subst hs; exact gap_good h.ls (small_snoc h.l hsg.1 hsg.2)
          · split at hs
            · simp at hs; subst hs; exact note_good h.ls (small_snoc h.l hsg.1 hsg.2)
            · split at hs
              · simp at hs; subst hs; exact gap_good (addL_good h.ls (small_snoc h.l hsg.1 hsg.2)) nil_small
              · simp at hs
      · split at hs
        · simp at hs; subst hs; exact gap_good (addL_good h.ls h.l) nil_small
        · simp at hs; subst hs; exact note_good h.ls h.l
theorem steps_good : ∀ (r : List Int) (m m' : M), Good m → steps m r = some m' → Good m'
  | [], m, m', h, hs => by simp [steps] at hs; subst hs; exact h
  | c :: r, m, m', h, hs => by
    unfold steps at hs
    cases h1 : step m c with
    | none => rw [h1] at hs; simp at hs
    | some m2 => rw [h1] at hs; exact steps_good r m2 m' (step_good h h1) hs
/-- How many numbers a machine has read, and is at. -/
def qm (m : M) : Nat := cnt m.ls + m.l.length + (if m.ph = 2 then 1 else 0)
theorem cnt_addL (L : List (List Int)) (l : List Int) : cnt (addL L l) = cnt L + l.length := by
  unfold addL
  split
  · rename_i h; subst h; simp
  · rw [cnt_append]; simp [cnt]
theorem take_q {m m' : M} {c : Int} (ht : take m c = some m') : qm m' ≤ cnt m.ls + m.l.length + 1 := by
  unfold take at ht
  split at ht
  · simp at ht
  · simp at ht; subst ht; simp [qm]
theorem step_q {m m' : M} {c : Int} (hs : step m c = some m') : qm m' ≤ qm m + 1 := by
  have hq : cnt m.ls + m.l.length ≤ qm m := by unfold qm; omega
  unfold step at hs
  split at hs
  · split at hs
    · simp at hs; subst hs; simp [qm, gapM]; omega
    · split at hs
      · simp at hs; subst hs; simp [qm]; omega
      · split at hs
        · have := take_q hs; simp at this; omega
        · split at hs
          · simp at hs; subst hs; simp [qm, noteM]; omega
          · split at hs
            · simp at hs; subst hs; simp [qm, gapM, cnt_addL]; omega
            · simp at hs
  · split at hs
    · split at hs
      · have := take_q hs; omega
      · simp at hs
    · split at hs
      · have hq2 : qm m = cnt m.ls + m.l.length + 1 := by unfold qm; simp [*]
        split at hs
        · have := take_q hs; omega
        · split at hs
          · simp at hs; subst hs; simp [qm, gapM]; omega
          · split at hs
            · simp at hs; subst hs; simp [qm, noteM]; omega
            · split at hs
              · simp at hs; subst hs; simp [qm, gapM, cnt_addL]; omega
              · simp at hs
      · split at hs
        · simp at hs; subst hs; simp [qm, gapM, cnt_addL]; omega
        · simp at hs; subst hs; simp [qm, noteM]; omega
theorem steps_q : ∀ (r : List Int) (m m' : M), steps m r = some m' → qm m' ≤ qm m + r.length
  | [], m, m', hs => by simp [steps] at hs; subst hs; simp
  | c :: r, m, m', hs => by
    unfold steps at hs
    cases h1 : step m c with
    | none => rw [h1] at hs; simp at hs
    | some m2 =>
      rw [h1] at hs
      have := step_q h1
      have := steps_q r m2 m' hs
      simp; omega
theorem parse_good (bs : List Int) (L : List (List Int)) (h : parse bs = some L) : (∀ l ∈ L, l ≠ [] ∧ Small l) ∧ cnt L ≤ bs.length + 1 := by
  unfold parse run at h
  cases h1 : steps (gapM [] []) bs with
  | none => rw [h1] at h; simp at h
  | some m =>
    rw [h1] at h
    simp only [Option.bind_some] at h
    cases h2 : step m 10 with
    | none => rw [h2] at h; simp at h
    | some m2 =>
      rw [h2] at h
      simp at h
      subst h
      have g := step_good (steps_good bs _ m (gap_good (fun x hx => by simp at hx) nil_small) h1) h2
      have q1 := steps_q bs _ m h1
      have q2 := step_q h2
      refine ⟨g.ls, ?_⟩
      have : qm (gapM [] []) = 0 := rfl
      have : cnt m2.ls ≤ qm m2 := by unfold qm; omega
      omega
theorem full_all (L : List (List Int)) (h : ∀ l ∈ L, l ≠ []) : full L = L := by
  unfold full
  rw [List.filter_eq_self]
  intro l hl
  simpa using h l hl
theorem lineT_len : ∀ (l : List Int), (∀ n ∈ l, -1000000000000000000000 < n ∧ n < 1000000000000000000000) → (lineT l).length ≤ 23 * l.length
  | [], _ => by simp [lineT]
  | [n], h => by
    have := itoaI_len n (h n (by simp)).1 (h n (by simp)).2
    simp [lineT]; omega
  | n :: m :: r, h => by
    have := itoaI_len n (h n (by simp)).1 (h n (by simp)).2
    have := lineT_len (m :: r) (fun x hx => h x (by simp only [List.mem_cons] at hx ⊢; exact .inr hx))
    simp [lineT] at *; omega
theorem textOf_len : ∀ (L : List (List Int)), (∀ l ∈ L, ∀ n ∈ l, -1000000000000000000000 < n ∧ n < 1000000000000000000000) → (textOf L).length ≤ 23 * cnt L
  | [], _ => by simp [textOf, cnt]
  | l :: L, h => by
    have := lineT_len l (h l (by simp))
    have := textOf_len L (fun x hx => h x (by simp [hx]))
    simp [textOf, cnt]; omega
end Go.Proofs.Ytolaiccgbngomaa
