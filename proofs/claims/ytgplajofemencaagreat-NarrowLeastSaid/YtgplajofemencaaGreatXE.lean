/- Sets as bits: plain mathematics. -/
import Derived.RowKit
import Derived.Laws.BitsAllLaws
import Derived.IntWalk
import Derived.Test.YtgplajofemencaaGreatXRead
import Derived.Laws.Bits64b
namespace Go.Proofs.YtgplajofemencaaGreat

/-- The set of one number alone; of what is no stop, nothing. -/
def bitN (i : Int) : Nat := if 0 ≤ i ∧ i ≤ 63 then 2 ^ i.toNat else 0
/-- Is it a stop, and in the set? -/
def has (s : Nat) (i : Int) : Bool := decide (0 ≤ i) && decide (i ≤ 63) && s.testBit i.toNat
def minus (s t : Nat) : Nat := s &&& (18446744073709551615 ^^^ t)
def within (s t : Nat) : Bool := minus s t == 0
def ofN (l : List Int) : Nat := l.foldl (fun o i => o ||| bitN i) 0
def uptoN (n : Nat) : Nat := ofN ((List.range n).map (fun k : Nat => (k : Int) + 1))
theorem pow63 (k : Nat) (h : k ≤ 63) : 2 ^ k < 18446744073709551616 := by
  have : (2 : Nat) ^ k < 2 ^ 64 := Nat.pow_lt_pow_right (by decide) (by omega)
  exact this
theorem bitN_lt (i : Int) : bitN i < 18446744073709551616 := by
  unfold bitN
  split
  · exact pow63 _ (by omega)
  · decide
theorem bitN_nat (k : Nat) (h : k ≤ 63) : bitN k = 2 ^ k := by unfold bitN; rw [if_pos (by omega)]; rfl
theorem bitN_no (i : Int) (h : ¬ (0 ≤ i ∧ i ≤ 63)) : bitN i = 0 := by unfold bitN; rw [if_neg h]
theorem bit_bitN (i : Int) (k : Nat) : (bitN i).testBit k = (decide (0 ≤ i) && decide (i ≤ 63) && decide (i = k)) := by
  unfold bitN
  split
  · rename_i h
    rw [Nat.testBit_two_pow, Bool.eq_iff_iff]
    simp [h.1, h.2]; omega
  · rename_i h
    rw [Nat.zero_testBit]
    symm
    simp; omega
theorem lt64_bit (s k : Nat) (hs : s < 18446744073709551616) (h : 64 ≤ k) : s.testBit k = false :=
  Nat.testBit_lt_two_pow (Nat.lt_of_lt_of_le (show s < 2 ^ 64 from hs) (Nat.pow_le_pow_right (by decide) h))
theorem ext64 {s t : Nat} (hs : s < 18446744073709551616) (ht : t < 18446744073709551616) (h : ∀ k, k < 64 → s.testBit k = t.testBit k) : s = t := by
  apply Nat.eq_of_testBit_eq
  intro k
  by_cases hk : k < 64
  · exact h k hk
  · rw [lt64_bit s k hs (by omega), lt64_bit t k ht (by omega)]
theorem or_lt {s t : Nat} (hs : s < 18446744073709551616) (ht : t < 18446744073709551616) : s ||| t < 18446744073709551616 := Nat.or_lt_two_pow (n := 64) hs ht
theorem and_lt {s t : Nat} (hs : s < 18446744073709551616) : s &&& t < 18446744073709551616 := Nat.lt_of_le_of_lt Nat.and_le_left hs
theorem minus_lt {s t : Nat} (hs : s < 18446744073709551616) : minus s t < 18446744073709551616 := and_lt hs
theorem bit_minus (s t k : Nat) (hs : s < 18446744073709551616) : (minus s t).testBit k = (s.testBit k && !t.testBit k) := by
  unfold minus
  rw [Nat.testBit_and, Nat.testBit_xor]
  by_cases hk : k < 64
  · have : (18446744073709551615 : Nat).testBit k = true := by
      have := Nat.testBit_two_pow_sub_one 64 k
      simpa [hk] using this
    rw [this]; simp
  · rw [lt64_bit s k hs (by omega)]; simp
theorem has_nat (s k : Nat) (h : k < 64) : has s k = s.testBit k := by
  unfold has
  have h1 : (0 : Int) ≤ (k : Int) := by omega
  have h2 : (k : Int) ≤ 63 := by omega
  simp [h1, h2]
theorem has_no (s : Nat) (i : Int) (h : ¬ (0 ≤ i ∧ i ≤ 63)) : has s i = false := by
  unfold has
  rw [Bool.eq_false_iff]
  intro h'
  simp at h'
  omega
theorem ext_has {s t : Nat} (hs : s < 18446744073709551616) (ht : t < 18446744073709551616) (h : ∀ k : Nat, k < 64 → has s k = has t k) : s = t :=
  ext64 hs ht (fun k hk => by rw [← has_nat s k hk, ← has_nat t k hk, h k hk])
theorem has_or (s t : Nat) (i : Int) : has (s ||| t) i = (has s i || has t i) := by
  unfold has; rw [Nat.testBit_or]; cases decide (0 ≤ i) <;> cases decide (i ≤ 63) <;> simp
theorem has_minus (s t : Nat) (i : Int) (hs : s < 18446744073709551616) : has (minus s t) i = (has s i && !has t i) := by
  unfold has; rw [bit_minus s t _ hs]; cases decide (0 ≤ i) <;> cases decide (i ≤ 63) <;> simp
theorem has_bitN (i k : Int) : has (bitN i) k = (decide (0 ≤ i) && decide (i ≤ 63) && decide (i = k)) := by
  unfold has
  rw [bit_bitN, Bool.eq_iff_iff]
  simp
  omega
theorem has_zero (i : Int) : has 0 i = false := by unfold has; simp
theorem within_iff (s t : Nat) (hs : s < 18446744073709551616) : within s t = true ↔ ∀ k : Nat, k < 64 → has s k = true → has t k = true := by
  unfold within
  rw [beq_iff_eq]
  constructor
  · intro h k hk h1
    have := has_minus s t k hs
    rw [h, has_zero, h1] at this
    simpa using this
  · intro h
    apply ext_has (minus_lt hs) (by decide)
    intro k hk
    rw [has_minus s t k hs, has_zero]
    have := h k hk
    cases h1 : has s k <;> simp_all
theorem and_bit (s : Nat) (i : Int) : (s &&& bitN i == 0) = !has s i := by
  rw [Bool.eq_iff_iff, beq_iff_eq]
  by_cases hi : 0 ≤ i ∧ i ≤ 63
  · obtain ⟨k, rfl⟩ : ∃ k : Nat, i = k := ⟨i.toNat, by omega⟩
    rw [has_nat s k (by omega), bitN_nat k (by omega)]
    constructor
    · intro h
      have := congrArg (fun x => x.testBit k) h
      simp [Nat.testBit_and] at this
      simp [this]
    · intro h
      apply Nat.eq_of_testBit_eq
      intro j
      rw [Nat.testBit_and, Nat.testBit_two_pow, Nat.zero_testBit]
      by_cases hj : k = j
      · subst hj; simp at h; simp [h]
      · simp [hj]
  · rw [bitN_no i hi, has_no s i hi]; simp
theorem ofN_snoc (l : List Int) (i : Int) : ofN (l ++ [i]) = ofN l ||| bitN i := by unfold ofN; rw [List.foldl_append]; rfl
theorem ofN_ind (P : Nat → Prop) (h0 : P 0) (h1 : ∀ s i, P s → P (s ||| bitN i)) : ∀ (l : List Int), P (ofN l) := by
  have : ∀ (l : List Int) (s : Nat), P s → P (l.foldl (fun o i => o ||| bitN i) s) := by
    intro l
    induction l with
    | nil => intro s h; exact h
    | cons a t ih => intro s h; exact ih _ (h1 s a h)
  intro l
  exact this l 0 h0
theorem ofN_lt (l : List Int) : ofN l < 18446744073709551616 := ofN_ind (fun s => s < 18446744073709551616) (by decide) (fun s i h => or_lt h (bitN_lt i)) l
theorem has_ofN (l : List Int) (k : Nat) (hk : k < 64) : has (ofN l) k = true ↔ (k : Int) ∈ l := by
  have : ∀ (l : List Int) (s : Nat), has (l.foldl (fun o i => o ||| bitN i) s) k = true ↔ (has s k = true ∨ (k : Int) ∈ l) := by
    intro l
    induction l with
    | nil => intro s; simp
    | cons a t ih =>
      intro s
      rw [List.foldl_cons, ih, has_or, has_bitN, List.mem_cons]
      simp
      constructor
      · rintro ((h | h) | h)
        · exact .inl h
        · exact .inr (.inl h.2.symm)
        · exact .inr (.inr h)
      · rintro (h | h | h)
        · exact .inl (.inl h)
        · exact .inl (.inr ⟨by omega, h.symm⟩)
        · exact .inr h
  unfold ofN
  rw [this l 0, has_zero]
  simp
theorem upto_succ (n : Nat) : uptoN (n + 1) = uptoN n ||| bitN ((n : Int) + 1) := by
  unfold uptoN
  rw [List.range_succ, List.map_append]
  exact ofN_snoc _ _
theorem upto_lt (n : Nat) : uptoN n < 18446744073709551616 := ofN_lt _
theorem has_upto (n : Nat) (hn : n ≤ 63) (i : Int) : has (uptoN n) i = (decide (1 ≤ i) && decide (i ≤ n)) := by
  rw [Bool.eq_iff_iff]
  by_cases hi : 0 ≤ i ∧ i ≤ 63
  · obtain ⟨k, rfl⟩ : ∃ k : Nat, i = k := ⟨i.toNat, by omega⟩
    unfold uptoN
    rw [has_ofN _ k (by omega), List.mem_map]
    simp
    constructor
    · rintro ⟨a, ha, e⟩; omega
    · rintro ⟨h1, h2⟩; exact ⟨k - 1, by omega, by omega⟩
  · rw [has_no _ i hi]; simp; omega
theorem within_refl (s : Nat) (hs : s < 18446744073709551616) : within s s = true := (within_iff s s hs).2 (fun _ _ h => h)
theorem within_trans (s t u : Nat) (hs : s < 18446744073709551616) (ht : t < 18446744073709551616) (h1 : within s t = true) (h2 : within t u = true) : within s u = true :=
  (within_iff s u hs).2 (fun k hk h => (within_iff t u ht).1 h2 k hk ((within_iff s t hs).1 h1 k hk h))
end Go.Proofs.YtgplajofemencaaGreat
/- What set's and the document's small calls on sets answer, for any set and any number. -/
namespace Go.Proofs.YtgplajofemencaaGreat
open Go.ChangeShapes Go.WideShapes Go.ChangeAt Go.RowKit

theorem estop_yes (i : Int) (w : World) (h1 : 0 ≤ i) (h2 : i ≤ 63) :
    Calls Tryz.prog 169 #[.int .i64 i] w fun e w' => e = .returned (.bool true) ∧ w = w' := by
  go_enter Tryz.func169, Tryz.ntmps169
  go_wp2
  go_ret
  exact ⟨rfl, rfl⟩
theorem estop_no (i : Int) (w : World) (h : i < 0 ∨ 63 < i) :
    Calls Tryz.prog 169 #[.int .i64 i] w fun e w' => e = .returned (.bool false) ∧ w = w' := by
  rcases h with h | h
  · have h' : decide (0 ≤ i) = false := by simpa using h
    go_enter Tryz.func169, Tryz.ntmps169
    go_wp2
    go_ret
    exact ⟨rfl, rfl⟩
  · have h' : decide (i ≤ 63) = false := by simpa using h
    go_enter Tryz.func169, Tryz.ntmps169
    go_wp2
    go_ret
    exact ⟨rfl, rfl⟩
theorem minus_eq (s t : Nat) (ht : t < 18446744073709551616) : s &&& (18446744073709551615 - t) = minus s t := by
  unfold minus
  congr 1
  apply Nat.eq_of_testBit_eq
  intro k
  have h1 := Nat.testBit_two_pow_sub_succ (n := 64) ht k
  have h2 := Nat.testBit_two_pow_sub_one 64 k
  rw [show 2 ^ 64 - (t + 1) = 18446744073709551615 - t by omega] at h1
  rw [show (2 : Nat) ^ 64 - 1 = 18446744073709551615 by decide] at h2
  rw [h1, Nat.testBit_xor, h2]
  by_cases hk : k < 64
  · simp [hk]
  · rw [lt64_bit t k ht (by omega)]; simp [hk]
theorem bits_minus (s t : Nat) (hs : s < 18446744073709551616) (ht : t < 18446744073709551616) : bits .andNot .u64 (s : Int) (t : Int) = ((minus s t : Nat) : Int) := by
  rw [u64_andNot_nat s t hs ht, minus_eq s t ht]
theorem nat_beq (a b : Nat) : ((a : Int) == (b : Int)) = (a == b) := by rw [Bool.eq_iff_iff]; simp; omega
theorem u64_in (n : Int) (h : 0 ≤ n) (h' : n < 18446744073709551616) : IntKind.u64.wrap n = n := by rw [IntKind.wrap_u64]; omega
theorem u64_nat (n : Nat) : IntKind.u64.wrap (n : Int) = ((n % 18446744073709551616 : Nat) : Int) := by rw [IntKind.wrap_u64]; omega
theorem ebit_any (i : Int) (w : World) :
    Calls Tryz.prog 166 #[.int .i64 i] w fun e w' => e = .returned (.int .u64 (bitN i)) ∧ w = w' := by
  by_cases h : 0 ≤ i ∧ i ≤ 63
  · obtain ⟨k, rfl⟩ : ∃ k : Nat, i = k := ⟨i.toNat, by omega⟩
    rw [bitN_nat k (by omega)]
    obtain ⟨h1, h2⟩ := h
    have hp := pow63 k (by omega)
    go_enter Tryz.func166, Tryz.ntmps166
    go_wp2_with (go_at_call 169; refine (estop_yes _ _ (by omega) (by omega)).mono ?_; rintro e w' ⟨rfl, rfl⟩)
    go_ret
    refine ⟨ret_int ?_, rfl⟩
    rw [show (2 : Int) ^ k = ((2 ^ k : Nat) : Int) by simp, u64_nat, Nat.mod_eq_of_lt hp]
  · rw [bitN_no i h]
    have h' : i < 0 ∨ 63 < i := by omega
    clear h
    have H := Lib.hid h'
    clear h'
    go_enter Tryz.func166, Tryz.ntmps166
    go_wp2_with (go_at_call 169; refine (estop_no _ _ H.out).mono ?_; rintro e w' ⟨rfl, rfl⟩)
    go_ret
    exact ⟨rfl, rfl⟩
theorem ewith_any (s : Nat) (i : Int) (w : World) (hs : s < 18446744073709551616) :
    Calls Tryz.prog 158 #[.int .u64 s, .int .i64 i] w fun e w' => e = .returned (.int .u64 ((s ||| bitN i : Nat) : Int)) ∧ w = w' := by
  go_enter Tryz.func158, Tryz.ntmps158
  go_wp2_with (go_at_call 166; refine (ebit_any _ _).mono ?_; rintro e w' ⟨rfl, rfl⟩)
  go_ret
  exact ⟨ret_int (bits_or_u64_nat s _ hs (bitN_lt i)), rfl⟩
theorem ewithout_any (s : Nat) (i : Int) (w : World) (hs : s < 18446744073709551616) :
    Calls Tryz.prog 159 #[.int .u64 s, .int .i64 i] w fun e w' => e = .returned (.int .u64 ((minus s (bitN i) : Nat) : Int)) ∧ w = w' := by
  go_enter Tryz.func159, Tryz.ntmps159
  go_wp2_with (go_at_call 166; refine (ebit_any _ _).mono ?_; rintro e w' ⟨rfl, rfl⟩)
  go_ret
  exact ⟨ret_int (bits_minus s _ hs (bitN_lt i)), rfl⟩
theorem ehas_any (s : Nat) (i : Int) (w : World) (hs : s < 18446744073709551616) :
    Calls Tryz.prog 149 #[.int .u64 s, .int .i64 i] w fun e w' => e = .returned (.bool (has s i)) ∧ w = w' := by
  go_enter Tryz.func149, Tryz.ntmps149
  go_wp2_with (go_at_call 166; refine (ebit_any _ _).mono ?_; rintro e w' ⟨rfl, rfl⟩)
  go_ret
  refine ⟨ret_bool ?_, rfl⟩
  rw [bits_and_u64_nat s _ hs (bitN_lt i)]
  show (!(((s &&& bitN i : Nat) : Int) == ((0 : Nat) : Int))) = _
  rw [nat_beq, and_bit, Bool.not_not]
theorem ewithin_any (s t : Nat) (w : World) (hs : s < 18446744073709551616) (ht : t < 18446744073709551616) :
    Calls Tryz.prog 123 #[.int .u64 s, .int .u64 t] w fun e w' => e = .returned (.bool (within s t)) ∧ w = w' := by
  go_enter Tryz.func123, Tryz.ntmps123
  go_wp2
  go_ret
  refine ⟨ret_bool ?_, rfl⟩
  rw [bits_minus s t hs ht]
  exact nat_beq _ 0
theorem eupto_any (n : Int) (w : World) (h1 : -9223372036854775808 ≤ n) :
    Calls Tryz.prog 154 #[.int .i64 n] w fun e w' => e = .returned (.int .u64 (uptoN (min n 63).toNat)) ∧ w = w' := by
  by_cases hn : 63 < n
  · rw [show (min n 63).toNat = 63 by omega]
    go_enter Tryz.func154, Tryz.ntmps154
    go_wp2
    go_loop [3, 7] (fun s i => ∃ k : Nat, k ≤ 63 ∧ i = .int .i64 k ∧ s = .int .u64 (uptoN k)) (fun _ i => 63 - (intOf i).toNat)
    case atStart => exact ⟨0, Nat.zero_le _, rfl, rfl⟩
    case round =>
      obtain ⟨k, hk, rfl, rfl⟩ := hrel
      have hb := upto_lt k
      by_cases hlt : k < 63
      · have HS := Lib.hid (upto_succ k)
        generalize uptoN k = s at *
        go_wp2_with (go_at_call 158; refine (ewith_any _ _ _ hb).mono ?_; rintro e w' ⟨rfl, rfl⟩)
        go_round
        case rel => exact ⟨k + 1, by omega, by go_num, by rw [HS.out]⟩
        case measure => simp [intOf]; omega
      · obtain rfl : k = 63 := by omega
        go_wp2
        go_ret
        exact ⟨rfl, rfl⟩
  · rw [show (min n 63).toNat = n.toNat by omega]
    have hn' : n ≤ 63 := by omega
    go_enter Tryz.func154, Tryz.ntmps154
    go_wp2
    go_loop [3, 7] (fun s i => ∃ k : Nat, k ≤ n.toNat ∧ i = .int .i64 k ∧ s = .int .u64 (uptoN k)) (fun _ i => n.toNat - (intOf i).toNat)
    case atStart => exact ⟨0, Nat.zero_le _, rfl, rfl⟩
    case round =>
      obtain ⟨k, hk, rfl, rfl⟩ := hrel
      have hb := upto_lt k
      by_cases hlt : (k : Int) < n
      · have HS := Lib.hid (upto_succ k)
        generalize uptoN k = s at *
        go_wp2_with (go_at_call 158; refine (ewith_any _ _ _ hb).mono ?_; rintro e w' ⟨rfl, rfl⟩)
        go_round
        case rel => exact ⟨k + 1, by omega, by go_num, by rw [HS.out]⟩
        case measure => simp [intOf]; omega
      · have hd : decide ((k : Int) < n) = false := by simp; omega
        have HE := Lib.hid (show n.toNat = k by omega)
        go_wp2
        go_ret
        exact ⟨ret_int (by rw [HE.out]), rfl⟩
end Go.Proofs.YtgplajofemencaaGreat
/- How many a set has. -/
namespace Go.Proofs.YtgplajofemencaaGreat
open Go.ChangeShapes Go.WideShapes Go.ChangeAt Go.RowKit

/-! ### Digits -/
def dg (B : Nat) : List Nat → Nat
  | [] => 0
  | d :: ds => d + B * dg B ds
def bitsOf : Nat → Nat → List Nat
  | 0, _ => []
  | n + 1, x => x % 2 :: bitsOf n (x / 2)
def add2 : List Nat → List Nat
  | a :: b :: t => (a + b) :: add2 t
  | [a] => [a]
  | [] => []
def evens : List Nat → List Nat
  | a :: _ :: t => a :: evens t
  | [a] => [a]
  | [] => []
def nbr : List Nat → List Nat
  | a :: b :: t => (a + b) :: nbr (b :: t)
  | [a] => [a]
  | [] => []

theorem dg_bitsOf : ∀ n x, x < 2 ^ n → dg 2 (bitsOf n x) = x
  | 0, x, h => by simp at h; subst h; rfl
  | n + 1, x, h => by
    have : x / 2 < 2 ^ n := by rw [Nat.pow_succ] at h; omega
    simp only [bitsOf, dg, dg_bitsOf n (x / 2) this]
    omega
theorem bitsOf_lt : ∀ n x, ∀ d ∈ bitsOf n x, d ≤ 1
  | 0, x => by simp [bitsOf]
  | n + 1, x => by
    intro d hd
    simp only [bitsOf, List.mem_cons] at hd
    rcases hd with rfl | hd
    · omega
    · exact bitsOf_lt n _ d hd
theorem bitsOf_len : ∀ n x, (bitsOf n x).length = n
  | 0, _ => rfl
  | n + 1, x => by simp [bitsOf, bitsOf_len n]

theorem add2_len : ∀ (k : Nat) (l : List Nat), l.length = 2 * k → (add2 l).length = k
  | 0, [], _ => rfl
  | 0, _ :: _, h => by simp at h
  | k + 1, [], h => by simp at h
  | k + 1, [_], h => by simp at h; omega
  | k + 1, _ :: _ :: t, h => by simp [add2]; exact add2_len k t (by simp at h; omega)
theorem add2_sum : ∀ (l : List Nat), (add2 l).sum = l.sum
  | [] => rfl
  | [_] => rfl
  | a :: b :: t => by simp [add2, add2_sum t]; omega
theorem add2_le (m : Nat) : ∀ (l : List Nat), (∀ d ∈ l, d ≤ m) → ∀ d ∈ add2 l, d ≤ 2 * m
  | [], _ => by simp [add2]
  | [a], h => by simp [add2] at *; omega
  | a :: b :: t, h => by
    intro d hd
    simp only [add2, List.mem_cons] at hd
    rcases hd with rfl | hd
    · have := h a (by simp); have := h b (by simp); omega
    · exact add2_le m t (fun d hd => h d (by simp [hd])) d hd

theorem and_split (w a b c d : Nat) (hb : b < 2 ^ w) (hd : d < 2 ^ w) : (b + 2 ^ w * a) &&& (d + 2 ^ w * c) = (b &&& d) + 2 ^ w * (a &&& c) := by
  have hbd : b &&& d < 2 ^ w := Nat.and_lt_two_pow _ hd
  apply Nat.eq_of_testBit_eq
  intro i
  rw [Nat.add_comm b, Nat.add_comm d, Nat.add_comm (b &&& d), Nat.testBit_and, Nat.testBit_two_pow_mul_add _ hb, Nat.testBit_two_pow_mul_add _ hd, Nat.testBit_two_pow_mul_add _ hbd]
  split <;> simp [Nat.testBit_and]

/-- Every other digit is kept by the mask. -/
theorem dg_mask (w : Nat) : ∀ (k : Nat) (l : List Nat), l.length ≤ 2 * k → (∀ d ∈ l, d < 2 ^ w) →
    dg (2 ^ w) l &&& dg (2 ^ w * 2 ^ w) (List.replicate k (2 ^ w - 1)) = dg (2 ^ w * 2 ^ w) (evens l)
  | 0, [], _, _ => by simp [dg, evens]
  | 0, _ :: _, h, _ => by simp at h
  | k + 1, [], _, _ => by simp [dg, evens]
  | k + 1, [a], _, hd => by
    have ha := hd a (by simp)
    have := and_split (w + w) 0 a (dg (2 ^ w * 2 ^ w) (List.replicate k (2 ^ w - 1))) (2 ^ w - 1) (by rw [Nat.pow_add]; exact Nat.lt_of_lt_of_le ha (Nat.le_mul_of_pos_right _ (Nat.two_pow_pos w))) (by rw [Nat.pow_add]; exact Nat.lt_of_lt_of_le (Nat.sub_lt (Nat.two_pow_pos w) (by decide)) (Nat.le_mul_of_pos_right _ (Nat.two_pow_pos w)))
    rw [Nat.pow_add] at this
    simp only [List.replicate_succ, dg, evens, Nat.mul_zero, Nat.add_zero] at this ⊢
    rw [this, Nat.and_two_pow_sub_one_eq_mod, Nat.mod_eq_of_lt ha]
    simp
  | k + 1, a :: b :: t, hl, hd => by
    have ha := hd a (by simp)
    have hb := hd b (by simp)
    have ih := dg_mask w k t (by simp at hl; omega) (fun d h => hd d (by simp [h]))
    have hlt : a + 2 ^ w * b < 2 ^ (w + w) := by
      rw [Nat.pow_add]
      calc a + 2 ^ w * b < 2 ^ w + 2 ^ w * b := by omega
        _ = 2 ^ w * (b + 1) := by rw [Nat.mul_add, Nat.mul_one, Nat.add_comm]
        _ ≤ 2 ^ w * 2 ^ w := Nat.mul_le_mul_left _ hb
    have hm : 2 ^ w - 1 < 2 ^ (w + w) := by rw [Nat.pow_add]; exact Nat.lt_of_lt_of_le (Nat.sub_lt (Nat.two_pow_pos w) (by decide)) (Nat.le_mul_of_pos_right _ (Nat.two_pow_pos w))
    have := and_split (w + w) (dg (2 ^ w) t) (a + 2 ^ w * b) (dg (2 ^ w * 2 ^ w) (List.replicate k (2 ^ w - 1))) (2 ^ w - 1) hlt hm
    rw [Nat.pow_add, ih] at this
    have e : a + 2 ^ w * (b + 2 ^ w * dg (2 ^ w) t) = a + 2 ^ w * b + 2 ^ w * 2 ^ w * dg (2 ^ w) t := by
      rw [Nat.mul_add, Nat.mul_assoc]; omega
    simp only [List.replicate_succ, dg, evens]
    rw [e, this, Nat.and_two_pow_sub_one_eq_mod]
    congr 1
    rw [Nat.add_mul_mod_self_left, Nat.mod_eq_of_lt ha]

theorem dg_div (B : Nat) (hB : 0 < B) (a : Nat) (t : List Nat) (ha : a < B) : dg B (a :: t) / B = dg B t := by
  simp only [dg]
  rw [Nat.add_mul_div_left _ _ hB, Nat.div_eq_of_lt ha, Nat.zero_add]

theorem dg_halves (B : Nat) : ∀ (l : List Nat), dg B (evens l) + dg B (evens l.tail) = dg B (add2 l)
  | [] => by simp [dg, evens, add2]
  | [a] => by simp [dg, evens, add2]
  | a :: b :: t => by
    have ih := dg_halves B t
    have e : evens (b :: t) = b :: evens t.tail := by cases t <;> rfl
    simp only [List.tail_cons, evens, add2, dg] at *
    rw [e]
    simp only [dg, ← ih, Nat.mul_add]
    omega

/-- A step of the count with the mask on both sides. -/
theorem dg_step (w k : Nat) (l : List Nat) (hl : l.length = 2 * k) (hd : ∀ d ∈ l, d < 2 ^ w) :
    (dg (2 ^ w) l / 2 ^ w &&& dg (2 ^ w * 2 ^ w) (List.replicate k (2 ^ w - 1))) + (dg (2 ^ w) l &&& dg (2 ^ w * 2 ^ w) (List.replicate k (2 ^ w - 1))) = dg (2 ^ w * 2 ^ w) (add2 l) := by
  cases l with
  | nil => simp [dg, add2]
  | cons a t =>
    rw [dg_div _ (Nat.two_pow_pos w) a t (hd a (by simp)), dg_mask w k (a :: t) (by omega) hd, dg_mask w k t (by simp at hl; omega) (fun d h => hd d (by simp [h])), Nat.add_comm]
    exact dg_halves _ (a :: t)

theorem dg_nbr (B : Nat) (hB : 0 < B) : ∀ (l : List Nat), (∀ d ∈ l, d < B) → dg B l / B + dg B l = dg B (nbr l)
  | [], _ => by simp [dg, nbr]
  | [a], h => by
    have := h a (by simp)
    simp only [dg, nbr, Nat.mul_zero, Nat.add_zero]
    rw [Nat.div_eq_of_lt this]; omega
  | a :: b :: t, h => by
    have ih := dg_nbr B hB (b :: t) (fun d hd => h d (List.mem_cons_of_mem _ hd))
    rw [dg_div B hB b t (h b (by simp))] at ih
    rw [dg_div B hB a (b :: t) (h a (by simp))]
    simp only [nbr]
    show _ = (a + b) + B * dg B (nbr (b :: t))
    rw [← ih]
    simp only [dg, Nat.mul_add]
    omega
theorem nbr_len : ∀ (l : List Nat), (nbr l).length = l.length
  | [] => rfl
  | [_] => rfl
  | a :: b :: t => by simp [nbr, nbr_len (b :: t)]
theorem nbr_le (m : Nat) : ∀ (l : List Nat), (∀ d ∈ l, d ≤ m) → ∀ d ∈ nbr l, d ≤ 2 * m
  | [], _ => by simp [nbr]
  | [a], h => by simp [nbr] at *; omega
  | a :: b :: t, h => by
    intro d hd
    simp only [nbr, List.mem_cons] at hd
    rcases hd with rfl | hd
    · have := h a (by simp); have := h b (by simp); omega
    · exact nbr_le m (b :: t) (fun d hd => h d (List.mem_cons_of_mem _ hd)) d hd
theorem evens_nbr : ∀ (k : Nat) (l : List Nat), l.length = 2 * k → evens (nbr l) = add2 l
  | 0, [], _ => rfl
  | 0, _ :: _, h => by simp at h
  | k + 1, [], h => by simp at h
  | k + 1, [_], h => by simp at h; omega
  | k + 1, [a, b], _ => by simp [nbr, evens, add2]
  | k + 1, a :: b :: c :: t, h => by
    have ih := evens_nbr k (c :: t) (by simp at h ⊢; omega)
    simp only [nbr, evens, add2] at *
    rw [ih]

/-! ### How many -/
def popN (x : Nat) : Nat := (bitsOf 64 x).sum

def pop1 (x : Nat) : Nat := (x / 2 &&& 6148914691236517205) + (x &&& 6148914691236517205)
def pop2 (x : Nat) : Nat := (x / 4 &&& 3689348814741910323) + (x &&& 3689348814741910323)
def pop3 (x : Nat) : Nat := (x / 16 + x) &&& 1085102592571150095

theorem pop_all (x : Nat) (hx : x < 18446744073709551616) : ∃ c0 c1 c2 c3 c4 c5 c6 c7 : Nat, c0 ≤ 8 ∧ c1 ≤ 8 ∧ c2 ≤ 8 ∧ c3 ≤ 8 ∧ c4 ≤ 8 ∧ c5 ≤ 8 ∧ c6 ≤ 8 ∧ c7 ≤ 8 ∧
    pop1 x < 18446744073709551616 ∧ pop2 (pop1 x) < 18446744073709551616 ∧ pop2 (pop1 x) / 16 + pop2 (pop1 x) < 18446744073709551616 ∧
    pop3 (pop2 (pop1 x)) = c0 + 256 * (c1 + 256 * (c2 + 256 * (c3 + 256 * (c4 + 256 * (c5 + 256 * (c6 + 256 * c7)))))) ∧ c0 + c1 + c2 + c3 + c4 + c5 + c6 + c7 = popN x := by
  have e0 := dg_bitsOf 64 x hx
  have l0 := bitsOf_len 64 x
  have b0 := bitsOf_lt 64 x
  have hs : (bitsOf 64 x).sum = popN x := rfl
  generalize bitsOf 64 x = L0 at *
  have s1 := dg_step 1 32 L0 l0 (fun d h => by have := b0 d h; omega)
  have m1 : dg (2 ^ 1 * 2 ^ 1) (List.replicate 32 (2 ^ 1 - 1)) = 6148914691236517205 := by decide
  rw [m1] at s1
  have e1 : pop1 x = dg 4 (add2 L0) := by unfold pop1; rw [← e0]; exact s1
  have l1 := add2_len 32 L0 l0
  have b1 := add2_le 1 L0 b0
  have u1 := add2_sum L0
  generalize add2 L0 = L1 at *
  have s2 := dg_step 2 16 L1 l1 (fun d h => by have := b1 d h; omega)
  have m2 : dg (2 ^ 2 * 2 ^ 2) (List.replicate 16 (2 ^ 2 - 1)) = 3689348814741910323 := by decide
  rw [m2] at s2
  have e2 : pop2 (pop1 x) = dg 16 (add2 L1) := by unfold pop2; rw [e1]; exact s2
  have l2 := add2_len 16 L1 l1
  have b2 := add2_le 2 L1 b1
  have u2 := add2_sum L1
  generalize add2 L1 = L2 at *
  have s3 := dg_nbr 16 (by decide) L2 (fun d h => by have := b2 d h; omega)
  have k3 := dg_mask 4 8 (nbr L2) (by rw [nbr_len, l2]; decide) (fun d h => by have := nbr_le 4 L2 b2 d h; omega)
  have m3 : dg (2 ^ 4 * 2 ^ 4) (List.replicate 8 (2 ^ 4 - 1)) = 1085102592571150095 := by decide
  rw [m3, evens_nbr 8 L2 l2] at k3
  have e3 : pop3 (pop2 (pop1 x)) = dg 256 (add2 L2) := by unfold pop3; rw [e2, s3]; exact k3
  have l3 := add2_len 8 L2 l2
  have b3 := add2_le 4 L2 b2
  have u3 := add2_sum L2
  have dlt : ∀ (B : Nat) (l : List Nat), 0 < B → (∀ d ∈ l, d < B) → dg B l < B ^ l.length := by
    intro B l hB
    induction l with
    | nil => intro _; simp [dg]
    | cons a t ih =>
      intro h
      have h1 := ih (fun d hd => h d (List.mem_cons_of_mem _ hd))
      have h2 := h a (by simp)
      simp only [dg, List.length_cons, Nat.pow_succ]
      have h3 : B * (dg B t + 1) ≤ B * B ^ t.length := Nat.mul_le_mul_left _ h1
      rw [Nat.mul_add, Nat.mul_one] at h3
      rw [Nat.mul_comm (B ^ _)]
      omega
  have t1 : pop1 x < 18446744073709551616 := by
    rw [e1]
    have := dlt 4 L1 (by decide) (fun d h => by have := b1 d h; omega)
    rw [l1] at this; exact this
  have t2 : pop2 (pop1 x) < 18446744073709551616 := by
    rw [e2]
    have := dlt 16 L2 (by decide) (fun d h => by have := b2 d h; omega)
    rw [l2] at this; exact this
  have t3 : pop2 (pop1 x) / 16 + pop2 (pop1 x) < 18446744073709551616 := by
    rw [e2, s3]
    have := dlt 16 (nbr L2) (by decide) (fun d h => by have := nbr_le 4 L2 b2 d h; omega)
    rw [nbr_len, l2] at this; exact this
  generalize add2 L2 = L3 at *
  match L3, l3 with
  | [c0, c1, c2, c3, c4, c5, c6, c7], _ =>
    simp only [List.mem_cons, List.not_mem_nil, or_false, forall_eq_or_imp, forall_eq] at b3
    obtain ⟨g0, g1, g2, g3, g4, g5, g6, g7⟩ := b3
    refine ⟨c0, c1, c2, c3, c4, c5, c6, c7, by omega, by omega, by omega, by omega, by omega, by omega, by omega, by omega, t1, t2, t3, ?_, ?_⟩
    · rw [e3]; simp [dg]
    · have : [c0, c1, c2, c3, c4, c5, c6, c7].sum = popN x := by rw [u3, u2, u1, hs]
      simp at this; omega
theorem pop_end (c0 c1 c2 c3 c4 c5 c6 c7 y z u v : Nat) (k0 : c0 ≤ 8) (k1 : c1 ≤ 8) (k2 : c2 ≤ 8) (k3 : c3 ≤ 8) (k4 : c4 ≤ 8) (k5 : c5 ≤ 8) (k6 : c6 ≤ 8) (k7 : c7 ≤ 8)
    (e : y = c0 + 256 * (c1 + 256 * (c2 + 256 * (c3 + 256 * (c4 + 256 * (c5 + 256 * (c6 + 256 * c7)))))))
    (hz : z = y + y / 256) (hu : u = z + z / 65536) (hv : v = u + u / 4294967296) :
    z < 18446744073709551616 ∧ u < 18446744073709551616 ∧ v < 4611686018427387904 ∧ v % 128 = c0 + c1 + c2 + c3 + c4 + c5 + c6 + c7 := by
  have q : y / 256 = c1 + 256 * (c2 + 256 * (c3 + 256 * (c4 + 256 * (c5 + 256 * (c6 + 256 * c7))))) := by clear hz hu hv; omega
  have ez : z = (c0 + c1) + 256 * ((c1 + c2) + 256 * ((c2 + c3) + 256 * ((c3 + c4) + 256 * ((c4 + c5) + 256 * ((c5 + c6) + 256 * ((c6 + c7) + 256 * c7)))))) := by rw [hz, q, e]; clear hz hu hv q e; omega
  clear q hz e
  have q : z / 65536 = (c2 + c3) + 256 * ((c3 + c4) + 256 * ((c4 + c5) + 256 * ((c5 + c6) + 256 * ((c6 + c7) + 256 * c7)))) := by clear hu hv; omega
  have eu : u = (c0 + c1 + c2 + c3) + 256 * ((c1 + c2 + c3 + c4) + 256 * ((c2 + c3 + c4 + c5) + 256 * ((c3 + c4 + c5 + c6) + 256 * ((c4 + c5 + c6 + c7) + 256 * ((c5 + c6 + c7) + 256 * ((c6 + c7) + 256 * c7)))))) := by rw [hu, q, ez]; clear hu hv q ez; omega
  clear q hu
  have bz : z < 18446744073709551616 := by clear hv eu; omega
  clear ez
  have q : u / 4294967296 = (c4 + c5 + c6 + c7) + 256 * ((c5 + c6 + c7) + 256 * ((c6 + c7) + 256 * c7)) := by clear hv; omega
  have ev : v = (c0 + c1 + c2 + c3 + c4 + c5 + c6 + c7) + 256 * ((c1 + c2 + c3 + c4 + c5 + c6 + c7) + 256 * ((c2 + c3 + c4 + c5 + c6 + c7) + 256 * ((c3 + c4 + c5 + c6 + c7) + 256 * ((c4 + c5 + c6 + c7) + 256 * ((c5 + c6 + c7) + 256 * ((c6 + c7) + 256 * c7)))))) := by rw [hv, q, eu]; clear hv q eu; omega
  clear q hv
  have bu : u < 18446744073709551616 := by clear ev; omega
  clear eu
  exact ⟨bz, bu, by omega, by omega⟩
theorem dg_sum0 : ∀ (l : List Nat), l.sum = 0 → dg 2 l = 0
  | [], _ => rfl
  | a :: t, h => by
    rw [List.sum_cons] at h
    have := dg_sum0 t (by omega)
    simp only [dg]; omega
/-- A set has none just if it is none. -/
theorem pop_zero (x : Nat) (h : x < 18446744073709551616) : popN x = 0 ↔ x = 0 := by
  constructor
  · intro h1
    have h2 := dg_bitsOf 64 x h
    rw [dg_sum0 _ h1] at h2
    exact h2.symm
  · rintro rfl; decide
theorem i64_and127 (a : Nat) (ha : a < 4611686018427387904) : bits .and .i64 (a : Int) 127 = ((a % 128 : Nat) : Int) := by
  show IntKind.i64.wrap ((BitVec.ofInt 64 (a : Int) &&& BitVec.ofInt 64 ((127 : Nat) : Int)).toNat : Int) = _
  rw [BitVec.toNat_and, ofInt_u64 a (by omega), ofInt_u64 127 (by omega), IntKind.wrap_i64, show (127 : Nat) = 2 ^ 7 - 1 from rfl, Nat.and_two_pow_sub_one_eq_mod]
  omega
theorem ones_any (x : Nat) (w : World) (hx : x < 18446744073709551616) : Calls Tryz.prog 167 #[.int .u64 x] w fun e w' => e = .returned (.int .i64 (popN x)) ∧ w = w' := by
  obtain ⟨c0, c1, c2, c3, c4, c5, c6, c7, k0, k1, k2, k3, k4, k5, k6, k7, t1, t2, t3, e3, es⟩ := pop_all x hx
  have q1 : IntKind.u64.wrap (bits BinOp.and IntKind.u64 ((x : Int) / 2) 6148914691236517205 + bits BinOp.and IntKind.u64 (x : Int) 6148914691236517205) = ((pop1 x : Nat) : Int) := by
    have a := bits_and_u64_nat (x / 2) 6148914691236517205 (by omega) (by decide)
    have b := bits_and_u64_nat x 6148914691236517205 hx (by decide)
    rw [show ((x : Int) / 2) = ((x / 2 : Nat) : Int) by omega, show (6148914691236517205 : Int) = ((6148914691236517205 : Nat) : Int) from rfl, a, b, ← Int.natCast_add]
    exact u64_in _ (by omega) (by unfold pop1 at t1; omega)
  generalize pop1 x = y1 at *
  have q2 : IntKind.u64.wrap (bits BinOp.and IntKind.u64 ((y1 : Int) / 4) 3689348814741910323 + bits BinOp.and IntKind.u64 (y1 : Int) 3689348814741910323) = ((pop2 y1 : Nat) : Int) := by
    have a := bits_and_u64_nat (y1 / 4) 3689348814741910323 (by omega) (by decide)
    have b := bits_and_u64_nat y1 3689348814741910323 t1 (by decide)
    rw [show ((y1 : Int) / 4) = ((y1 / 4 : Nat) : Int) by omega, show (3689348814741910323 : Int) = ((3689348814741910323 : Nat) : Int) from rfl, a, b, ← Int.natCast_add]
    exact u64_in _ (by omega) (by unfold pop2 at t2; omega)
  generalize pop2 y1 = y2 at *
  have q3 : bits BinOp.and IntKind.u64 (IntKind.u64.wrap ((y2 : Int) / 16 + (y2 : Int))) 1085102592571150095 = ((pop3 y2 : Nat) : Int) := by
    have a := bits_and_u64_nat (y2 / 16 + y2) 1085102592571150095 t3 (by decide)
    rw [show ((y2 : Int) / 16 + (y2 : Int)) = ((y2 / 16 + y2 : Nat) : Int) by omega, u64_nat, Nat.mod_eq_of_lt t3, show (1085102592571150095 : Int) = ((1085102592571150095 : Nat) : Int) from rfl, a]
    rfl
  generalize pop3 y2 = y3 at *
  obtain ⟨y4, h4⟩ : ∃ y4 : Nat, y4 = y3 + y3 / 256 := ⟨_, rfl⟩
  obtain ⟨y5, h5⟩ : ∃ y5 : Nat, y5 = y4 + y4 / 65536 := ⟨_, rfl⟩
  obtain ⟨y6, h6⟩ : ∃ y6 : Nat, y6 = y5 + y5 / 4294967296 := ⟨_, rfl⟩
  obtain ⟨b4, b5, b6, e6⟩ := pop_end c0 c1 c2 c3 c4 c5 c6 c7 y3 y4 y5 y6 k0 k1 k2 k3 k4 k5 k6 k7 e3 h4 h5 h6
  rw [es] at e6
  clear es e3 k0 k1 k2 k3 k4 k5 k6 k7 t3
  have q4 : IntKind.u64.wrap ((y3 : Int) + (y3 : Int) / 256) = (y4 : Int) := by rw [u64_in _ (by omega) (by omega)]; omega
  have q5 : IntKind.u64.wrap ((y4 : Int) + (y4 : Int) / 65536) = (y5 : Int) := by rw [u64_in _ (by omega) (by omega)]; omega
  have q6 : IntKind.u64.wrap ((y5 : Int) + (y5 : Int) / 4294967296) = (y6 : Int) := by rw [u64_in _ (by omega) (by omega)]; omega
  have E6 := Lib.hid e6
  clear e6 h4 h5 h6
  go_enter Tryz.func167, Tryz.ntmps167
  go_wp2
  go_ret
  refine ⟨ret_int ?_, rfl⟩
  rw [i64_and127 y6 b6, E6.out]
theorem elen_any (x : Nat) (w : World) (hx : x < 18446744073709551616) : Calls Tryz.prog 152 #[.int .u64 x] w fun e w' => e = .returned (.int .i64 (popN x)) ∧ w = w' := by
  go_enter Tryz.func152, Tryz.ntmps152
  go_wp2_with (go_at_call 167; refine (ones_any _ _ hx).mono ?_; rintro e w' ⟨rfl, rfl⟩)
  go_ret
  exact ⟨rfl, rfl⟩
end Go.Proofs.YtgplajofemencaaGreat
