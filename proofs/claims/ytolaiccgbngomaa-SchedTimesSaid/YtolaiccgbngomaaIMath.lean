/- The plain mathematics of instances: which may be, what their lines are, what a text is parsed as. -/
import Derived.Test.YtolaiccgbngomaaMathp
namespace Go.Proofs.Ytolaiccgbngomaa

structure Stp where
  x : Int
  y : Int
  d : Int
  r : Int
  u : Int
  s : Int
theorem Stp.eq_iff (a b : Stp) : (a.x = b.x ∧ a.y = b.y ∧ a.d = b.d ∧ a.r = b.r ∧ a.u = b.u ∧ a.s = b.s) ↔ a = b := by
  cases a; cases b; simp
instance : DecidableEq Stp := fun a b => decidable_of_iff _ (Stp.eq_iff a b)
def nth (l : List Stp) (i : Nat) : Stp := l.getD i ⟨0, 0, 0, 0, 0, 0⟩
structure Ins where
  p : Int
  c : Int
  r : Int
  l : List Stp
theorem Ins.eq_iff (a b : Ins) : (a.p = b.p ∧ a.c = b.c ∧ a.r = b.r ∧ a.l = b.l) ↔ a = b := by
  cases a; cases b; simp
instance : DecidableEq Ins := fun a b => decidable_of_iff _ (Ins.eq_iff a b)

/-- Is a number from one to another one? -/
def inb (a b n : Int) : Bool := decide (a ≤ n ∧ n ≤ b)
def stopOk (t : Stp) : Bool := inb 0 10000 t.x && (inb 0 10000 t.y && (inb 0 1048576 t.r && (inb t.r 1048576 t.u && inb 0 1000 t.s)))
def stopsOk (l : List Stp) : Bool := decide (∀ t ∈ l, stopOk t = true)
def yardOk (t : Stp) : Bool := inb 0 0 t.d && inb 0 0 t.s
def demAt (T B : List Stp) (i : Nat) : Prop := inb 1 1000 (nth T i).d = true ∧ (nth B i).d = -(nth T i).d
instance (T B : List Stp) (i : Nat) : Decidable (demAt T B i) := by unfold demAt; infer_instance
def demOk (T B : List Stp) : Bool := decide (∀ i, i < T.length → demAt T B i)
/-- As many stops as there must be. -/
def lenOk (p : Int) (n : Nat) : Bool := decide ((n : Int) = 2 * p + 1)
def mayB (I : Ins) : Bool :=
  inb 0 16 I.p && (inb 1 8 I.c && (inb 1 1000 I.r && (lenOk I.p I.l.length && (stopsOk I.l && (yardOk (nth I.l 0) && demOk ((I.l.drop 1).take I.p.toNat) (I.l.drop (1 + I.p.toNat)))))))

theorem inb_iff (a b n : Int) : inb a b n = true ↔ a ≤ n ∧ n ≤ b := by unfold inb; exact decide_eq_true_iff
theorem nth_mem {l : List Stp} {i : Nat} (h : i < l.length) : nth l i ∈ l := by
  unfold nth; rw [List.getD_eq_getElem?_getD, List.getElem?_eq_getElem h]; simp
theorem nth_of_mem {l : List Stp} {t : Stp} (h : t ∈ l) : ∃ i, i < l.length ∧ nth l i = t := by
  obtain ⟨i, hi, rfl⟩ := List.getElem_of_mem h
  exact ⟨i, hi, by unfold nth; rw [List.getD_eq_getElem?_getD, List.getElem?_eq_getElem hi]; rfl⟩
theorem nth_drop (l : List Stp) (k i : Nat) : nth (l.drop k) i = nth l (k + i) := by unfold nth; simp [List.getD_eq_getElem?_getD]
theorem nth_take (l : List Stp) (k i : Nat) (h : i < k) : nth (l.take k) i = nth l i := by unfold nth; simp [List.getD_eq_getElem?_getD, h]
theorem nth_append_left (l m : List Stp) (i : Nat) (h : i < l.length) : nth (l ++ m) i = nth l i := by unfold nth; rw [List.getD_eq_getElem?_getD, List.getD_eq_getElem?_getD, List.getElem?_append_left h]
theorem nth_set (l : List Stp) (k i : Nat) (t : Stp) (hk : k < l.length) : nth (l.set k t) i = if i = k then t else nth l i := by
  unfold nth
  simp only [List.getD_eq_getElem?_getD, List.getElem?_set]
  by_cases h : k = i
  · subst h; simp [hk]
  · simp [h, Ne.symm h]
theorem nth_eq {l m : List Stp} (hl : l.length = m.length) (h : ∀ i, i < l.length → nth l i = nth m i) : l = m := by
  apply List.ext_getElem hl
  intro i h1 h2
  have := h i h1
  unfold nth at this
  simpa [List.getD_eq_getElem?_getD, h1, h2] using this

/-! ### What the document says of each stop -/
def okAt (p : Nat) (l : List Stp) (i : Nat) : Prop :=
  stopOk (nth l i) = true ∧ (i = 0 → (nth l i).d = 0 ∧ (nth l i).s = 0) ∧ (0 < i → i ≤ p → inb 1 1000 (nth l i).d = true) ∧ (p < i → (nth l i).d = -(nth l (i - p)).d)
theorem stops_iff (l : List Stp) : stopsOk l = true ↔ ∀ i, i < l.length → stopOk (nth l i) = true := by
  unfold stopsOk
  rw [decide_eq_true_iff]
  constructor
  · intro h i hi; exact h _ (nth_mem hi)
  · intro h t ht
    obtain ⟨i, hi, rfl⟩ := nth_of_mem ht
    exact h i hi
theorem may_parts (I : Ins) : mayB I = true ↔ inb 0 16 I.p = true ∧ inb 1 8 I.c = true ∧ inb 1 1000 I.r = true ∧ lenOk I.p I.l.length = true ∧ stopsOk I.l = true ∧ yardOk (nth I.l 0) = true ∧ demOk ((I.l.drop 1).take I.p.toNat) (I.l.drop (1 + I.p.toNat)) = true := by
  unfold mayB; simp only [Bool.and_eq_true]
theorem rest_iff (p : Nat) (l : List Stp) (hl : l.length = 2 * p + 1) : (stopsOk l = true ∧ yardOk (nth l 0) = true ∧ demOk ((l.drop 1).take p) (l.drop (1 + p)) = true) ↔ ∀ i, i < l.length → okAt p l i := by
  rw [stops_iff]
  unfold yardOk demOk
  rw [decide_eq_true_iff]
  have hT : ((l.drop 1).take p).length = p := by simp; omega
  rw [hT]
  constructor
  · rintro ⟨h1, h2, h3⟩ i hi
    simp only [Bool.and_eq_true, inb_iff] at h2
    refine ⟨h1 i hi, fun h0 => by subst h0; omega, fun h0 hp => ?_, fun hp => ?_⟩
    · have := (h3 (i - 1) (by omega)).1
      rw [nth_take _ _ _ (by omega), nth_drop, show 1 + (i - 1) = i by omega] at this
      exact this
    · have := (h3 (i - p - 1) (by omega)).2
      rw [nth_take _ _ _ (by omega), nth_drop, nth_drop, show 1 + (i - p - 1) = i - p by omega, show 1 + p + (i - p - 1) = i by omega] at this
      exact this
  · intro h
    refine ⟨fun i hi => (h i hi).1, ?_, fun i hi => ⟨?_, ?_⟩⟩
    · have := (h 0 (by omega)).2.1 rfl
      simp only [Bool.and_eq_true, inb_iff]; omega
    · rw [nth_take _ _ _ hi, nth_drop]
      exact (h (1 + i) (by omega)).2.2.1 (by omega) (by omega)
    · rw [nth_take _ _ _ hi, nth_drop, nth_drop]
      have := (h (1 + p + i) (by omega)).2.2.2 (by omega)
      rw [show 1 + p + i - p = 1 + i by omega] at this
      exact this
theorem may_iff (I : Ins) : mayB I = true ↔ inb 0 16 I.p = true ∧ inb 1 8 I.c = true ∧ inb 1 1000 I.r = true ∧ lenOk I.p I.l.length = true ∧ ∀ i, i < I.l.length → okAt I.p.toNat I.l i := by
  rw [may_parts]
  constructor
  · rintro ⟨h1, h2, h3, h4, h5⟩
    have hp := (inb_iff _ _ _).1 h1
    have hl : I.l.length = 2 * I.p.toNat + 1 := by unfold lenOk at h4; rw [decide_eq_true_iff] at h4; omega
    exact ⟨h1, h2, h3, h4, (rest_iff _ _ hl).1 h5⟩
  · rintro ⟨h1, h2, h3, h4, h5⟩
    have hp := (inb_iff _ _ _).1 h1
    have hl : I.l.length = 2 * I.p.toNat + 1 := by unfold lenOk at h4; rw [decide_eq_true_iff] at h4; omega
    exact ⟨h1, h2, h3, h4, (rest_iff _ _ hl).2 h5⟩
theorem may_len {I : Ins} (h : mayB I = true) : (0 ≤ I.p ∧ I.p ≤ 16) ∧ (1 ≤ I.c ∧ I.c ≤ 8) ∧ (1 ≤ I.r ∧ I.r ≤ 1000) ∧ (I.l.length : Int) = 2 * I.p + 1 := by
  obtain ⟨h1, h2, h3, h4, _⟩ := (may_iff I).1 h
  unfold lenOk at h4
  exact ⟨(inb_iff _ _ _).1 h1, (inb_iff _ _ _).1 h2, (inb_iff _ _ _).1 h3, decide_eq_true_iff.1 h4⟩
theorem stop_in {t : Stp} (h : stopOk t = true) : (0 ≤ t.x ∧ t.x ≤ 10000) ∧ (0 ≤ t.y ∧ t.y ≤ 10000) ∧ (0 ≤ t.r ∧ t.r ≤ 1048576) ∧ (t.r ≤ t.u ∧ t.u ≤ 1048576) ∧ (0 ≤ t.s ∧ t.s ≤ 1000) := by
  unfold stopOk at h
  simp only [Bool.and_eq_true, inb_iff] at h
  obtain ⟨h1, h2, h3, h4, h5⟩ := h
  exact ⟨h1, h2, h3, h4, h5⟩
theorem dem_in {I : Ins} (h : mayB I = true) (i : Nat) (hi : i < I.l.length) : -1000 ≤ (nth I.l i).d ∧ (nth I.l i).d ≤ 1000 := by
  obtain ⟨_, _, _, h4, h5⟩ := (may_iff I).1 h
  have hp := may_len h
  obtain ⟨_, k0, k1, k2⟩ := h5 i hi
  by_cases h0 : i = 0
  · have := k0 h0; omega
  · by_cases h1 : i ≤ I.p.toNat
    · have := (inb_iff _ _ _).1 (k1 (by omega) h1); omega
    · have a := k2 (by omega)
      obtain ⟨_, _, m1, _⟩ := h5 (i - I.p.toNat) (by omega)
      have := (inb_iff _ _ _).1 (m1 (by omega) (by omega))
      omega

/-! ### Lines -/
def rowS (t : Stp) : List Int := [t.x, t.y, t.d, t.r, t.u, t.s]
def headI (I : Ins) : List Int := [I.p, I.c, I.r]
def linesI (I : Ins) : List (List Int) := headI I :: I.l.map rowS
def stpOf (l : List Int) : Stp := ⟨l.getD 0 0, l.getD 1 0, l.getD 2 0, l.getD 3 0, l.getD 4 0, l.getD 5 0⟩
def insOf (L : List (List Int)) : Ins := ⟨(L.getD 0 []).getD 0 0, (L.getD 0 []).getD 1 0, (L.getD 0 []).getD 2 0, (L.drop 1).map stpOf⟩
def wf (L : List (List Int)) : Bool := decide (L ≠ [] ∧ (L.getD 0 []).length = 3 ∧ ∀ l ∈ L.drop 1, l.length = 6)
def noIns : Ins := ⟨0, 0, 0, []⟩
/-- Why a text is no instance, and which one it is. -/
def perr (bs : List Int) : Int := if errOf bs ≠ 0 then errOf bs else if wf (resOf bs) = false then 2 else if mayB (insOf (resOf bs)) = false then 1 else 0
def pins (bs : List Int) : Ins := if perr bs = 0 then insOf (resOf bs) else noIns
theorem stpOf_row (t : Stp) : stpOf (rowS t) = t := rfl
theorem row_stpOf (l : List Int) (h : l.length = 6) : rowS (stpOf l) = l := by
  match l, h with
  | [a, b, c, d, e, f], _ => rfl
theorem insOf_lines (I : Ins) : insOf (linesI I) = I := by
  unfold insOf linesI
  simp only [List.drop_succ_cons, List.drop_zero, List.map_map, List.getD_cons_zero]
  have : (stpOf ∘ rowS) = id := by funext t; exact stpOf_row t
  rw [this, List.map_id]
  rfl
theorem wf_lines (I : Ins) : wf (linesI I) = true := by
  unfold wf linesI
  rw [decide_eq_true_iff]
  refine ⟨by simp, rfl, ?_⟩
  simp only [List.drop_succ_cons, List.drop_zero, List.mem_map]
  rintro l ⟨t, _, rfl⟩
  rfl
theorem lines_insOf (L : List (List Int)) (h : wf L = true) : linesI (insOf L) = L := by
  unfold wf at h
  rw [decide_eq_true_iff] at h
  obtain ⟨h0, h1, h2⟩ := h
  match L, h0 with
  | a :: R, _ =>
    simp only [List.getD_cons_zero, List.drop_succ_cons, List.drop_zero] at h1 h2
    unfold linesI insOf headI
    simp only [List.getD_cons_zero, List.drop_succ_cons, List.drop_zero, List.map_map]
    congr 1
    · match a, h1 with
      | [x, y, z], _ => rfl
    · conv => rhs; rw [← List.map_id R]
      exact List.map_congr_left (fun l hl => row_stpOf l (h2 l hl))
theorem small_itoa (n : Int) (h1 : -1000000 < n) (h2 : n < 10000000) : (itoaI n).length ≤ 7 := by
  by_cases h : n < 0
  · rw [itoaI_neg n h]
    have := decI_len 5 n.natAbs (by omega)
    simp; omega
  · rw [itoaI_pos n h]
    have := decI_len 6 n.toNat (by omega)
    omega
def Tiny (l : List Int) : Prop := ∀ n ∈ l, -1000000 < n ∧ n < 10000000
theorem lineT_tiny : ∀ (l : List Int), Tiny l → (lineT l).length ≤ 8 * l.length
  | [], _ => by simp [lineT]
  | [n], h => by
    have := small_itoa n (h n (by simp)).1 (h n (by simp)).2
    simp [lineT]; omega
  | n :: m :: r, h => by
    have := small_itoa n (h n (by simp)).1 (h n (by simp)).2
    have := lineT_tiny (m :: r) (fun x hx => h x (by simp only [List.mem_cons] at hx ⊢; exact .inr hx))
    simp [lineT] at *; omega
theorem textOf_tiny : ∀ (L : List (List Int)), (∀ l ∈ L, Tiny l) → (textOf L).length ≤ 8 * cnt L
  | [], _ => by simp [textOf, cnt]
  | l :: L, h => by
    have := lineT_tiny l (h l (by simp))
    have := textOf_tiny L (fun x hx => h x (by simp [hx]))
    simp [textOf, cnt]; omega
theorem cnt_rows : ∀ (l : List Stp), cnt (l.map rowS) = 6 * l.length
  | [] => rfl
  | t :: l => by
    have := cnt_rows l
    simp [cnt, rowS]; omega
theorem may_tiny {I : Ins} (h : mayB I = true) : ∀ l ∈ linesI I, Tiny l := by
  have hl := may_len h
  intro l hm
  unfold linesI at hm
  simp only [List.mem_cons, List.mem_map] at hm
  rcases hm with rfl | ⟨t, ht, rfl⟩
  · intro n hn
    simp only [headI, List.mem_cons, List.not_mem_nil, or_false] at hn
    rcases hn with rfl | rfl | rfl <;> omega
  · obtain ⟨i, hi, rfl⟩ := nth_of_mem ht
    have hs := stop_in (((may_iff I).1 h).2.2.2.2 i hi).1
    have hd := dem_in h i hi
    intro n hn
    simp only [rowS, List.mem_cons, List.not_mem_nil, or_false] at hn
    rcases hn with rfl | rfl | rfl | rfl | rfl | rfl <;> omega
theorem may_text {I : Ins} (h : mayB I = true) : (textOf (linesI I)).length ≤ 4000 := by
  have h1 := textOf_tiny _ (may_tiny h)
  have h2 : cnt (linesI I) = 3 + 6 * I.l.length := by unfold linesI; simp [cnt, headI, cnt_rows]
  have := may_len h
  omega
theorem may_small {I : Ins} (h : mayB I = true) : ∀ l ∈ linesI I, Small l := fun l hl n hn => by
  have := may_tiny h l hl n hn
  omega
theorem parse_lines {I : Ins} (h : mayB I = true) : errOf (textOf (linesI I)) = 0 ∧ resOf (textOf (linesI I)) = linesI I := by
  have h4 : ¬ 4096 < (textOf (linesI I)).length := by have := may_text h; omega
  have hp := parse_text _ (may_small h)
  rw [full_all _ (fun l hl => by
    unfold linesI at hl
    simp only [List.mem_cons, List.mem_map] at hl
    rcases hl with rfl | ⟨t, _, rfl⟩ <;> simp [headI, rowS])] at hp
  simp [errOf, resOf, h4, hp]
/-- What is printed is parsed as it was. -/
theorem back {I : Ins} (h : mayB I = true) : perr (textOf (linesI I)) = 0 ∧ pins (textOf (linesI I)) = I := by
  obtain ⟨h1, h2⟩ := parse_lines h
  have he : perr (textOf (linesI I)) = 0 := by
    unfold perr
    rw [h1, h2, wf_lines, insOf_lines, h]
    simp
  exact ⟨he, by unfold pins; rw [if_pos he, h2, insOf_lines]⟩
theorem perr_ok {bs : List Int} (h : perr bs = 0) : errOf bs = 0 ∧ wf (resOf bs) = true ∧ pins bs = insOf (resOf bs) ∧ mayB (pins bs) = true := by
  have hp : pins bs = insOf (resOf bs) := by unfold pins; rw [if_pos h]
  unfold perr at h
  by_cases h1 : errOf bs = 0
  · by_cases h2 : wf (resOf bs) = true
    · by_cases h3 : mayB (insOf (resOf bs)) = true
      · exact ⟨h1, h2, hp, by rw [hp]; exact h3⟩
      · simp [h1, h2, h3] at h
    · simp [h1, h2] at h
  · simp [h1] at h
theorem perr_bad {bs : List Int} (h : perr bs ≠ 0) : pins bs = noIns := by unfold pins; rw [if_neg h]
end Go.Proofs.Ytolaiccgbngomaa
