/- Plain mathematics of sets as bits, its second part: what is in a set that was made, put together, taken apart or shifted; how many are. No program is named here. -/
import Derived.Test.YtbpledppckmclaaDoorMath
namespace Go.Proofs.YtbpledppckmclaaDoor

/-- The set of one number alone; of what is no stop, nothing. -/
def bitN (i : Int) : Nat := if 0 ≤ i ∧ i ≤ 63 then 2 ^ i.toNat else 0
/-- Is it a stop, and in the set? -/
def has (s : Nat) (i : Int) : Bool := decide (0 ≤ i) && decide (i ≤ 63) && s.testBit i.toNat
def minus (s t : Nat) : Nat := s &&& (18446744073709551615 ^^^ t)
def within (s t : Nat) : Bool := minus s t == 0
def ofN (l : List Int) : Nat := l.foldl (fun o i => o ||| bitN i) 0
def allN (s : Nat) : List Int := ((List.range 64).filter (fun i : Nat => s.testBit i)).map (fun i : Nat => (i : Int))
def uptoN (n : Nat) : Nat := ofN ((List.range n).map (fun k : Nat => (k : Int) + 1))
def shiftN (s : Nat) (b : Int) : Nat := if b < 0 then s / 2 ^ min (-b).toNat 64 else s * 2 ^ min b.toNat 64 % 18446744073709551616

theorem pow63 (k : Nat) (h : k ≤ 63) : 2 ^ k < 18446744073709551616 := by
  have : (2 : Nat) ^ k < 2 ^ 64 := Nat.pow_lt_pow_right (by decide) (by omega)
  exact this
theorem bitN_lt (i : Int) : bitN i < 18446744073709551616 := by
  unfold bitN
  split
  · exact pow63 _ (by omega)
  · decide
theorem bitN_nat (k : Nat) (h : k ≤ 63) : bitN k = 2 ^ k := by unfold bitN; rw [if_pos (by omega)]; rfl
theorem bitN_no (i : Int) (h : ¬ (0 ≤ i ∧ i ≤ 63)) : bitN i = 0 := by unfold bitN; rw [if_neg h]
theorem bit_bitN (i : Int) (k : Nat) : (bitN i).testBit k = (decide (0 ≤ i) && decide (i ≤ 63) && decide (i = k)) := by
  unfold bitN
  split
  · rename_i h
    rw [Nat.testBit_two_pow, Bool.eq_iff_iff]
    simp [h.1, h.2]; omega
  · rename_i h
    rw [Nat.zero_testBit]
    symm
    simp; omega

theorem lt64_bit (s k : Nat) (hs : s < 18446744073709551616) (h : 64 ≤ k) : s.testBit k = false :=
  Nat.testBit_lt_two_pow (Nat.lt_of_lt_of_le (show s < 2 ^ 64 from hs) (Nat.pow_le_pow_right (by decide) h))
theorem ext64 {s t : Nat} (hs : s < 18446744073709551616) (ht : t < 18446744073709551616) (h : ∀ k, k < 64 → s.testBit k = t.testBit k) : s = t := by
  apply Nat.eq_of_testBit_eq
  intro k
  by_cases hk : k < 64
  · exact h k hk
  · rw [lt64_bit s k hs (by omega), lt64_bit t k ht (by omega)]
theorem or_lt {s t : Nat} (hs : s < 18446744073709551616) (ht : t < 18446744073709551616) : s ||| t < 18446744073709551616 := Nat.or_lt_two_pow (n := 64) hs ht
theorem and_lt {s t : Nat} (hs : s < 18446744073709551616) : s &&& t < 18446744073709551616 := Nat.lt_of_le_of_lt Nat.and_le_left hs
theorem minus_lt {s t : Nat} (hs : s < 18446744073709551616) : minus s t < 18446744073709551616 := and_lt hs
theorem bit_minus (s t k : Nat) (hs : s < 18446744073709551616) : (minus s t).testBit k = (s.testBit k && !t.testBit k) := by
  unfold minus
  rw [Nat.testBit_and, Nat.testBit_xor]
  by_cases hk : k < 64
  · have : (18446744073709551615 : Nat).testBit k = true := by
      have := Nat.testBit_two_pow_sub_one 64 k
      simpa [hk] using this
    rw [this]; simp
  · rw [lt64_bit s k hs (by omega)]; simp
theorem has_nat (s k : Nat) (h : k < 64) : has s k = s.testBit k := by
  unfold has
  have h1 : (0 : Int) ≤ (k : Int) := by omega
  have h2 : (k : Int) ≤ 63 := by omega
  simp [h1, h2]
theorem has_no (s : Nat) (i : Int) (h : ¬ (0 ≤ i ∧ i ≤ 63)) : has s i = false := by
  unfold has
  rw [Bool.eq_false_iff]
  intro h'
  simp at h'
  omega
theorem ext_has {s t : Nat} (hs : s < 18446744073709551616) (ht : t < 18446744073709551616) (h : ∀ k : Nat, k < 64 → has s k = has t k) : s = t :=
  ext64 hs ht (fun k hk => by rw [← has_nat s k hk, ← has_nat t k hk, h k hk])

theorem has_or (s t : Nat) (i : Int) : has (s ||| t) i = (has s i || has t i) := by
  unfold has; rw [Nat.testBit_or]; cases decide (0 ≤ i) <;> cases decide (i ≤ 63) <;> simp
theorem has_and (s t : Nat) (i : Int) : has (s &&& t) i = (has s i && has t i) := by
  unfold has; rw [Nat.testBit_and]; cases decide (0 ≤ i) <;> cases decide (i ≤ 63) <;> simp
theorem has_minus (s t : Nat) (i : Int) (hs : s < 18446744073709551616) : has (minus s t) i = (has s i && !has t i) := by
  unfold has; rw [bit_minus s t _ hs]; cases decide (0 ≤ i) <;> cases decide (i ≤ 63) <;> simp
theorem has_bitN (i k : Int) : has (bitN i) k = (decide (0 ≤ i) && decide (i ≤ 63) && decide (i = k)) := by
  unfold has
  rw [bit_bitN, Bool.eq_iff_iff]
  simp
  omega
theorem has_zero (i : Int) : has 0 i = false := by unfold has; simp

theorem within_iff (s t : Nat) (hs : s < 18446744073709551616) : within s t = true ↔ ∀ k : Nat, k < 64 → has s k = true → has t k = true := by
  unfold within
  rw [beq_iff_eq]
  constructor
  · intro h k hk h1
    have := has_minus s t k hs
    rw [h, has_zero, h1] at this
    simpa using this
  · intro h
    apply ext_has (minus_lt hs) (by decide)
    intro k hk
    rw [has_minus s t k hs, has_zero]
    have := h k hk
    cases h1 : has s k <;> simp_all

/-! ### What is asked of the small calls -/
theorem and_bit (s : Nat) (i : Int) : (s &&& bitN i == 0) = !has s i := by
  rw [Bool.eq_iff_iff, beq_iff_eq]
  by_cases hi : 0 ≤ i ∧ i ≤ 63
  · obtain ⟨k, rfl⟩ : ∃ k : Nat, i = k := ⟨i.toNat, by omega⟩
    rw [has_nat s k (by omega), bitN_nat k (by omega)]
    constructor
    · intro h
      have := congrArg (fun x => x.testBit k) h
      simp [Nat.testBit_and] at this
      simp [this]
    · intro h
      apply Nat.eq_of_testBit_eq
      intro j
      rw [Nat.testBit_and, Nat.testBit_two_pow, Nat.zero_testBit]
      by_cases hj : k = j
      · subst hj; simp at h; simp [h]
      · simp [hj]
  · rw [bitN_no i hi, has_no s i hi]; simp
theorem has_div (s k : Nat) (h : k ≤ 63) : (s / 2 ^ k % 2 == 1) = has s k := by
  rw [has_nat s k (by omega), Nat.testBit_eq_decide_div_mod_eq, Bool.eq_iff_iff]; simp
theorem add_bit (s k : Nat) (h : has s k = false) (hk : k ≤ 63) : s + 2 ^ k = s ||| 2 ^ k := by
  rw [has_nat s k (by omega)] at h
  have hq : s / 2 ^ k % 2 = 0 := by
    rw [Nat.testBit_eq_decide_div_mod_eq] at h
    simp at h; omega
  have hr : s % 2 ^ k < 2 ^ k := Nat.mod_lt _ (Nat.two_pow_pos k)
  have e : s = 2 ^ k * (s / 2 ^ k) + s % 2 ^ k := (Nat.div_add_mod _ _).symm
  have e1 : s + 2 ^ k = 2 ^ k * (s / 2 ^ k + 1) + s % 2 ^ k := by rw [Nat.mul_add, Nat.mul_one]; omega
  rw [e1]
  apply Nat.eq_of_testBit_eq
  intro j
  rw [Nat.testBit_or, Nat.testBit_two_pow_mul_add _ hr, Nat.testBit_two_pow]
  have ej : s.testBit j = if j < k then (s % 2 ^ k).testBit j else (s / 2 ^ k).testBit (j - k) := by
    conv => lhs; rw [e]
    rw [Nat.testBit_two_pow_mul_add _ hr]
  rw [ej]
  by_cases hj : j < k
  · have : ¬ k = j := by omega
    simp [hj, this]
  · rw [if_neg hj, if_neg hj]
    obtain ⟨m, rfl⟩ : ∃ m, j = k + m := ⟨j - k, by omega⟩
    rw [Nat.add_sub_cancel_left]
    cases m with
    | zero => simp [Nat.testBit_zero]; omega
    | succ m =>
      rw [Nat.testBit_succ, Nat.testBit_succ, show (s / 2 ^ k + 1) / 2 = s / 2 ^ k / 2 by omega]
      simp
theorem or_has (s : Nat) (i : Int) (hs : s < 18446744073709551616) (h : has s i = true) : s ||| bitN i = s := by
  apply ext_has (or_lt hs (bitN_lt i)) hs
  intro k _
  rw [has_or, has_bitN]
  by_cases e : i = (k : Int)
  · subst e; rw [h]; simp
  · simp [e]
theorem minus_no (s : Nat) (i : Int) (hs : s < 18446744073709551616) (h : has s i = false) : minus s (bitN i) = s := by
  apply ext_has (minus_lt hs) hs
  intro k _
  rw [has_minus _ _ _ hs, has_bitN]
  by_cases e : i = (k : Int)
  · subst e; rw [h]; simp
  · simp [e]
theorem sub_bit (s k : Nat) (hs : s < 18446744073709551616) (h : has s k = true) (hk : k ≤ 63) : s - 2 ^ k = minus s (2 ^ k) := by
  have hm := add_bit (minus s (2 ^ k)) k (by rw [has_minus _ _ _ hs, ← bitN_nat k hk, has_bitN]; simp; omega) hk
  have : minus s (2 ^ k) ||| 2 ^ k = s := by
    apply ext_has (or_lt (minus_lt hs) (pow63 k hk)) hs
    intro j _
    rw [has_or, has_minus _ _ _ hs, ← bitN_nat k hk, has_bitN]
    by_cases e : (k : Int) = (j : Int)
    · rw [← e, h]; simp
    · simp [e]
  omega

/-! ### Lists -/
theorem ofN_snoc (l : List Int) (i : Int) : ofN (l ++ [i]) = ofN l ||| bitN i := by unfold ofN; rw [List.foldl_append]; rfl
theorem ofN_ind (P : Nat → Prop) (h0 : P 0) (h1 : ∀ s i, P s → P (s ||| bitN i)) : ∀ (l : List Int), P (ofN l) := by
  have : ∀ (l : List Int) (s : Nat), P s → P (l.foldl (fun o i => o ||| bitN i) s) := by
    intro l
    induction l with
    | nil => intro s h; exact h
    | cons a t ih => intro s h; exact ih _ (h1 s a h)
  intro l
  exact this l 0 h0
theorem ofN_lt (l : List Int) : ofN l < 18446744073709551616 := ofN_ind (fun s => s < 18446744073709551616) (by decide) (fun s i h => or_lt h (bitN_lt i)) l
theorem has_ofN (l : List Int) (k : Nat) (hk : k < 64) : has (ofN l) k = true ↔ (k : Int) ∈ l := by
  have : ∀ (l : List Int) (s : Nat), has (l.foldl (fun o i => o ||| bitN i) s) k = true ↔ (has s k = true ∨ (k : Int) ∈ l) := by
    intro l
    induction l with
    | nil => intro s; simp
    | cons a t ih =>
      intro s
      rw [List.foldl_cons, ih, has_or, has_bitN, List.mem_cons]
      simp
      constructor
      · rintro ((h | h) | h)
        · exact .inl h
        · exact .inr (.inl h.2.symm)
        · exact .inr (.inr h)
      · rintro (h | h | h)
        · exact .inl (.inl h)
        · exact .inl (.inr ⟨by omega, h.symm⟩)
        · exact .inr h
  unfold ofN
  rw [this l 0, has_zero]
  simp
theorem mem_allN (s : Nat) (i : Int) : i ∈ allN s ↔ has s i = true := by
  unfold allN
  simp only [List.mem_map, List.mem_filter, List.mem_range]
  constructor
  · rintro ⟨k, ⟨hk, hb⟩, rfl⟩; rw [has_nat s k hk]; exact hb
  · intro h
    by_cases hi : 0 ≤ i ∧ i ≤ 63
    · exact ⟨i.toNat, ⟨by omega, by rw [← has_nat s _ (by omega), show ((i.toNat : Nat) : Int) = i by omega]; exact h⟩, by omega⟩
    · rw [has_no s i hi] at h; cases h
theorem ofN_of_mem (l : List Int) (s : Nat) (hs : s < 18446744073709551616) (h : ∀ k : Nat, k < 64 → ((k : Int) ∈ l ↔ has s k = true)) : ofN l = s := by
  apply ext_has (ofN_lt l) hs
  intro k hk
  rw [Bool.eq_iff_iff, has_ofN l k hk, h k hk]

theorem has_shift (s : Nat) (b : Int) (hs : s < 18446744073709551616) (j : Nat) (hj : j < 64) : has (shiftN s b) j = has s (j - b) := by
  unfold shiftN
  rw [has_nat _ j hj]
  split
  · rename_i hb
    rw [Nat.testBit_div_two_pow]
    by_cases h : (j : Int) - b ≤ 63
    · rw [show (j : Int) - b = ((j + min (-b).toNat 64 : Nat) : Int) by omega, has_nat s _ (by omega)]
    · rw [has_no s _ (by omega)]
      exact lt64_bit s _ hs (by omega)
  · rename_i hb
    rw [show (18446744073709551616 : Nat) = 2 ^ 64 from rfl, Nat.testBit_mod_two_pow, Nat.testBit_mul_two_pow]
    by_cases h : 0 ≤ (j : Int) - b
    · rw [show (j : Int) - b = ((j - min b.toNat 64 : Nat) : Int) by omega, has_nat s _ (by omega)]
      have h1 : min b.toNat 64 ≤ j := by omega
      simp [hj, h1]
    · rw [has_no s _ (by omega)]
      have h1 : ¬ min b.toNat 64 ≤ j := by omega
      simp [h1]
theorem shift_lt (s : Nat) (b : Int) (hs : s < 18446744073709551616) : shiftN s b < 18446744073709551616 := by
  unfold shiftN
  split
  · exact Nat.lt_of_le_of_lt (Nat.div_le_self _ _) hs
  · omega
theorem shift_ref (s : Nat) (b : Int) (hs : s < 18446744073709551616) : ofN ((allN s).map (· + b)) = shiftN s b := by
  apply ofN_of_mem _ _ (shift_lt s b hs)
  intro k hk
  rw [has_shift s b hs k hk, List.mem_map]
  constructor
  · rintro ⟨i, hi, e⟩
    rw [mem_allN] at hi
    rw [show (k : Int) - b = i by omega]; exact hi
  · intro h
    exact ⟨k - b, (mem_allN s _).2 h, by omega⟩
theorem shift_far (s : Nat) (b : Int) (hs : s < 18446744073709551616) (h : b < -64 ∨ 64 < b) : shiftN s b = 0 := by
  apply ext_has (shift_lt s b hs) (by decide)
  intro k hk
  rw [has_shift s b hs k hk, has_no s _ (by omega), has_zero]

theorem upto_succ (n : Nat) : uptoN (n + 1) = uptoN n ||| bitN ((n : Int) + 1) := by
  unfold uptoN
  rw [List.range_succ, List.map_append]
  exact ofN_snoc _ _
theorem upto_lt (n : Nat) : uptoN n < 18446744073709551616 := ofN_lt _
theorem has_upto (n : Nat) (hn : n ≤ 63) (i : Int) : has (uptoN n) i = (decide (1 ≤ i) && decide (i ≤ n)) := by
  rw [Bool.eq_iff_iff]
  by_cases hi : 0 ≤ i ∧ i ≤ 63
  · obtain ⟨k, rfl⟩ : ∃ k : Nat, i = k := ⟨i.toNat, by omega⟩
    unfold uptoN
    rw [has_ofN _ k (by omega), List.mem_map]
    simp
    constructor
    · rintro ⟨a, ha, e⟩; omega
    · rintro ⟨h1, h2⟩; exact ⟨k - 1, by omega, by omega⟩
  · rw [has_no _ i hi]; simp; omega

/-! ### How many -/
def cn : Nat → Nat → Nat
  | 0, _ => 0
  | n + 1, x => x % 2 + cn n (x / 2)
theorem sum_bitsOf : ∀ n x, (bitsOf n x).sum = cn n x
  | 0, _ => rfl
  | n + 1, x => by simp [bitsOf, cn, sum_bitsOf n]
theorem cnt_cn (x : Nat) : cnt x = cn 64 x := sum_bitsOf 64 x
theorem cn_more : ∀ (n m x : Nat), x < 2 ^ n → cn (n + m) x = cn n x
  | 0, m, x, h => by
    simp at h; subst h
    have : ∀ m, cn m 0 = 0 := by
      intro m
      induction m with
      | zero => rfl
      | succ m ih => simp [cn, ih]
    simp [this]
  | n + 1, m, x, h => by
    have : x / 2 < 2 ^ n := by rw [Nat.pow_succ] at h; omega
    rw [show n + 1 + m = (n + m) + 1 by omega]
    simp only [cn, cn_more n m (x / 2) this]
theorem cn_shift : ∀ (b n x : Nat), cn (n + b) (x * 2 ^ b) = cn n x
  | 0, n, x => by simp
  | b + 1, n, x => by
    rw [show n + (b + 1) = (n + b) + 1 by omega, Nat.pow_succ, ← Nat.mul_assoc]
    simp only [cn]
    rw [show x * 2 ^ b * 2 % 2 = 0 by omega, show x * 2 ^ b * 2 / 2 = x * 2 ^ b by omega, cn_shift b n x, Nat.zero_add]
theorem cnt_shift (x b : Nat) (hx : x < 2 ^ 32) (hb : b ≤ 32) : cnt (x * 2 ^ b) = cnt x := by
  obtain ⟨n, hn⟩ : ∃ n, n + b = 64 := ⟨64 - b, by omega⟩
  rw [cnt_cn, cnt_cn]
  conv => lhs; rw [← hn]
  rw [cn_shift, ← hn]
  exact (cn_more n b x (Nat.lt_of_lt_of_le hx (Nat.pow_le_pow_right (by decide) (by omega)))).symm
theorem cn_both : ∀ n s t, cn n (s ||| t) + cn n (s &&& t) = cn n s + cn n t
  | 0, _, _ => rfl
  | n + 1, s, t => by
    have ih := cn_both n (s / 2) (t / 2)
    simp only [cn]
    rw [Nat.or_div_two, Nat.and_div_two]
    have e : (s ||| t) % 2 + (s &&& t) % 2 = s % 2 + t % 2 := by
      have h1 := @Nat.or_mod_two_eq_one s t
      have h2 := @Nat.and_mod_two_eq_one s t
      omega
    omega
theorem cnt_both (s t : Nat) : cnt (s ||| t) + cnt (s &&& t) = cnt s + cnt t := by
  simp only [cnt_cn]; exact cn_both 64 s t
theorem cnt_upto_all : ∀ n : Fin 64, cnt (uptoN n.val) = n.val := by decide +kernel
theorem cnt_upto (n : Nat) (h : n ≤ 63) : cnt (uptoN n) = n := cnt_upto_all ⟨n, by omega⟩

/-! ### The laws -/
theorem back_all (s : Nat) (i : Int) (hs : s < 18446744073709551616) (h1 : 0 ≤ i) (h2 : i ≤ 63) :
    has (s ||| bitN i) i = true ∧ has (minus s (bitN i)) i = false ∧ minus (s ||| bitN i) (bitN i) = minus s (bitN i) ∧ minus s (bitN i) ||| bitN i = s ||| bitN i ∧
    (∀ k, i ≠ k → has (s ||| bitN i) k = has s k ∧ has (minus s (bitN i)) k = has s k) ∧ within (minus s (bitN i)) s = true ∧ within s (s ||| bitN i) = true := by
  have ho := or_lt hs (bitN_lt i)
  have hm : minus s (bitN i) < 18446744073709551616 := minus_lt hs
  refine ⟨?_, ?_, ?_, ?_, ?_, ?_, ?_⟩
  · rw [has_or, has_bitN]; simp [h1, h2]
  · rw [has_minus _ _ _ hs, has_bitN]; simp [h1, h2]
  · apply ext_has (minus_lt ho) hm
    intro k _
    rw [has_minus _ _ _ ho, has_minus _ _ _ hs, has_or, has_bitN]
    cases has s k <;> simp
  · apply ext_has (or_lt hm (bitN_lt i)) ho
    intro k _
    rw [has_or, has_or, has_minus _ _ _ hs, has_bitN]
    cases has s k <;> by_cases e : i = (k : Int) <;> simp [e]
  · intro k hk
    rw [has_or, has_minus _ _ _ hs, has_bitN]
    simp [hk]
  · rw [within_iff _ _ hm]
    intro k _ h
    rw [has_minus _ _ _ hs] at h
    simp at h
    exact h.1
  · rw [within_iff _ _ hs]
    intro k _ h
    rw [has_or, h]; simp

theorem within_refl (s : Nat) (hs : s < 18446744073709551616) : within s s = true := (within_iff s s hs).2 (fun _ _ h => h)
theorem within_trans (s t u : Nat) (hs : s < 18446744073709551616) (ht : t < 18446744073709551616) (h1 : within s t = true) (h2 : within t u = true) : within s u = true :=
  (within_iff s u hs).2 (fun k hk h => (within_iff t u ht).1 h2 k hk ((within_iff s t hs).1 h1 k hk h))
theorem within_zero (s : Nat) : within 0 s = true := (within_iff 0 s (by decide)).2 (fun k _ h => by rw [has_zero] at h; cases h)
theorem within_anti (s t : Nat) (hs : s < 18446744073709551616) (ht : t < 18446744073709551616) (h1 : within s t = true) (h2 : within t s = true) : s = t := by
  apply ext_has hs ht
  intro k hk
  rw [Bool.eq_iff_iff]
  exact ⟨(within_iff s t hs).1 h1 k hk, (within_iff t s ht).1 h2 k hk⟩
theorem within_and (s t : Nat) (hs : s < 18446744073709551616) : within (s &&& t) s = true :=
  (within_iff _ _ (and_lt hs)).2 (fun k _ h => by rw [has_and] at h; simp at h; exact h.1)
theorem within_or (s t : Nat) (hs : s < 18446744073709551616) : within s (s ||| t) = true :=
  (within_iff _ _ hs).2 (fun k _ h => by rw [has_or, h]; simp)

theorem shifts_all (s by_ more : Nat) (h : by_ + more ≤ 32) :
    shiftN (shiftN (s % 4294967296) by_) (-(by_ : Int)) = s % 4294967296 ∧ shiftN (shiftN (s % 4294967296) by_) more = shiftN (s % 4294967296) (by_ + more : Nat) ∧ cnt (shiftN (s % 4294967296) by_) = cnt (s % 4294967296) := by
  have hl : s % 4294967296 < 2 ^ 32 := Nat.mod_lt _ (by decide)
  generalize s % 4294967296 = low at *
  have hl' : low < 18446744073709551616 := by omega
  have e1 : shiftN low by_ = low * 2 ^ by_ := by
    unfold shiftN
    rw [if_neg (by omega), Int.toNat_natCast, show min by_ 64 = by_ by omega]
    apply Nat.mod_eq_of_lt
    have : low * 2 ^ by_ < 2 ^ 32 * 2 ^ by_ := Nat.mul_lt_mul_of_pos_right hl (Nat.two_pow_pos _)
    have h2 : (2 : Nat) ^ 32 * 2 ^ by_ ≤ 2 ^ 64 := by rw [← Nat.pow_add]; exact Nat.pow_le_pow_right (by decide) (by omega)
    omega
  refine ⟨?_, ?_, by rw [e1]; exact cnt_shift low by_ hl (by omega)⟩
  · apply ext_has (shift_lt _ _ (shift_lt _ _ hl')) hl'
    intro k hk
    rw [has_shift _ _ (shift_lt _ _ hl') k hk]
    by_cases h3 : (k : Int) - -(by_ : Int) ≤ 63
    · rw [show (k : Int) - -(by_ : Int) = ((k + by_ : Nat) : Int) by omega, has_shift _ _ hl' _ (by omega)]
      rw [show ((k + by_ : Nat) : Int) - (by_ : Int) = k by omega]
    · rw [has_no _ _ (by omega), has_nat low k hk]
      exact (Nat.testBit_lt_two_pow (Nat.lt_of_lt_of_le hl (Nat.pow_le_pow_right (by decide) (by omega)))).symm
  · apply ext_has (shift_lt _ _ (shift_lt _ _ hl')) (shift_lt _ _ hl')
    intro k hk
    rw [has_shift _ _ (shift_lt _ _ hl') k hk, has_shift _ _ hl' k hk]
    by_cases h3 : 0 ≤ (k : Int) - (more : Int)
    · rw [show (k : Int) - (more : Int) = ((k - more : Nat) : Int) by omega, has_shift _ _ hl' _ (by omega)]
      rw [show ((k - more : Nat) : Int) - (by_ : Int) = (k : Int) - ((by_ + more : Nat) : Int) by omega]
    · rw [has_no _ _ (by omega), has_no _ _ (by omega)]
end Go.Proofs.YtbpledppckmclaaDoor
