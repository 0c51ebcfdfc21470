/- What num.Root and the document's own Root answer: for any number the least root from 0 on whose square is not less, as the plain function rootOf has it. -/
import Derived.Test.YtgplajofemencaaGreatRows
import Derived.Test.YtgplajofemencaaGreatXMath
import Derived.WalkKit
import Derived.ProofKit
import Derived.OpenShut
import Derived.IntWalk
import Derived.Lib.Hide
import Derived.WalkMore
import Derived.ScopeJumps
import Derived.WalkLawsBesides
import Derived.Laws.ComplexArith
import Derived.Test.YtgplajofemencaaGreatXIMay
import Derived.Test.YtgplajofemencaaGreatYB
import Derived.Deep.Cut
namespace Go.Proofs.YtgplajofemencaaGreat
open Go.ChangeShapes Go.WideShapes Go.ChangeAt Go.RowKit

theorem or_first : bits .or .i64 0 536870912 = 536870912 := by decide

set_option maxRecDepth 1000000 in
theorem root_in (n : Int) (w : World) (h1 : 1 ≤ n) (h2 : n ≤ 1152921504606846976) :
    Calls Tryz.prog 146 #[.int .i64 n] w fun e w' => e = .returned (.int .i64 (rootOf n)) ∧ w = w' := by
  have hst := inv_start n h1 h2
  have HST := Lib.hid hst
  clear hst
  have hlt : decide (n < 1) = false := by simpa using h1
  have hor := or_first
  have hmn : min n 1152921504606846976 = n := by omega
  go_enter Tryz.func146, Tryz.ntmps146
  go_wp2
  refine wp_scope_jumps 0 (fun a' w' => w = w' ∧ ∃ (B T : Int) (u5 u6 u7 u8 u9 u10 u11 u12 u13 u14 u15 u16 u17 u18 u19 u20 u21 u22 : Value), a' = { tmps := #[.int .i64 n, undef, .int .i64 0, .int .i64 B, .int .i64 T, u5, u6, u7, u8, u9, u10, u11, u12, u13, u14, u15, u16, u17, u18, u19, u20, u21, u22, undef, undef], defers := [] } ∧ RootInv n B T) (fun a' _ => (intOf (a'.tmps.getD 4 undef)).toNat) rfl ?_ ?_
  · go_wp2
    go_step3
    go_wp2
    · go_step3
      refine ⟨rfl, rfl, _, _, _, _, _, _, _, _, _, _, _, _, _, _, _, _, _, _, _, _, rfl, ?_⟩
      exact inv_hi n 0 536870912 HST.out (by omega) (by omega)
    · go_step3
      refine ⟨rfl, rfl, _, _, _, _, _, _, _, _, _, _, _, _, _, _, _, _, _, _, _, _, rfl, ?_⟩
      exact inv_lo n 0 536870912 HST.out (by omega) (by omega)
  · rintro a' w' ⟨rfl, B, T, u5, u6, u7, u8, u9, u10, u11, u12, u13, u14, u15, u16, u17, u18, u19, u20, u21, u22, rfl, hI⟩
    have hor := inv_or n B T hI
    obtain ⟨hm1, hm2⟩ := inv_sq n B T hI
    obtain ⟨hb1, hb2, hb3, hb4⟩ := inv_bd n B T hI
    have HI := Lib.hid hI
    clear hI
    go_wp2
    · go_step3
      refine ⟨rfl, ⟨rfl, _, _, _, _, _, _, _, _, _, _, _, _, _, _, _, _, _, _, _, _, rfl, inv_hi n B T HI.out ‹_› ‹_›⟩, ?_⟩
      simp [intOf]
      omega
    · simp only [Exit.jump]
      go_ret
      rw [rootOf_eq n _ h1 h2 (inv_end_hi n B T HI.out ‹_› ‹_›)]
      exact ⟨rfl, rfl⟩
    · go_step3
      refine ⟨rfl, ⟨rfl, _, _, _, _, _, _, _, _, _, _, _, _, _, _, _, _, _, _, _, _, rfl, inv_lo n B T HI.out ‹_› ‹_›⟩, ?_⟩
      simp [intOf]
      omega
    · simp only [Exit.jump]
      go_ret
      rw [rootOf_eq n _ h1 h2 (inv_end_lo n B T HI.out ‹_› ‹_›)]
      exact ⟨rfl, rfl⟩
set_option maxRecDepth 1000000 in
theorem root_over (n : Int) (w : World) (h1 : 1152921504606846976 < n) (h2 : n ≤ 9223372036854775807) :
    Calls Tryz.prog 146 #[.int .i64 n] w fun e w' => e = .returned (.int .i64 (rootOf n)) ∧ w = w' := by
  have hst := inv_start 1152921504606846976 (by omega) (by omega)
  have HST := Lib.hid hst
  clear hst
  have hlt : decide (n < 1) = false := by simp; omega
  have hor := or_first
  have hmn : min n 1152921504606846976 = 1152921504606846976 := by omega
  go_enter Tryz.func146, Tryz.ntmps146
  go_wp2
  refine wp_scope_jumps 0 (fun a' w' => w = w' ∧ ∃ (B T : Int) (u5 u6 u7 u8 u9 u10 u11 u12 u13 u14 u15 u16 u17 u18 u19 u20 u21 u22 : Value), a' = { tmps := #[.int .i64 1152921504606846976, undef, .int .i64 0, .int .i64 B, .int .i64 T, u5, u6, u7, u8, u9, u10, u11, u12, u13, u14, u15, u16, u17, u18, u19, u20, u21, u22, undef, undef], defers := [] } ∧ RootInv 1152921504606846976 B T) (fun a' _ => (intOf (a'.tmps.getD 4 undef)).toNat) rfl ?_ ?_
  · go_wp2
    go_step3
    go_wp2
    · go_step3
      refine ⟨rfl, rfl, _, _, _, _, _, _, _, _, _, _, _, _, _, _, _, _, _, _, _, _, rfl, ?_⟩
      exact inv_hi 1152921504606846976 0 536870912 HST.out (by omega) (by omega)
  · rintro a' w' ⟨rfl, B, T, u5, u6, u7, u8, u9, u10, u11, u12, u13, u14, u15, u16, u17, u18, u19, u20, u21, u22, rfl, hI⟩
    have hor := inv_or 1152921504606846976 B T hI
    obtain ⟨hm1, hm2⟩ := inv_sq 1152921504606846976 B T hI
    obtain ⟨hb1, hb2, hb3, hb4⟩ := inv_bd 1152921504606846976 B T hI
    have HI := Lib.hid hI
    clear hI
    go_wp2
    · go_step3
      refine ⟨rfl, ⟨rfl, _, _, _, _, _, _, _, _, _, _, _, _, _, _, _, _, _, _, _, _, rfl, inv_hi 1152921504606846976 B T HI.out ‹_› ‹_›⟩, ?_⟩
      simp [intOf]
      omega
    · simp only [Exit.jump]
      go_ret
      rw [rootOf_high n (by omega), rootOf_eq 1152921504606846976 _ (by omega) (by omega) (inv_end_hi 1152921504606846976 B T HI.out ‹_› ‹_›)]
      exact ⟨rfl, rfl⟩
    · go_step3
      refine ⟨rfl, ⟨rfl, _, _, _, _, _, _, _, _, _, _, _, _, _, _, _, _, _, _, _, _, rfl, inv_lo 1152921504606846976 B T HI.out ‹_› ‹_›⟩, ?_⟩
      simp [intOf]
      omega
    · simp only [Exit.jump]
      go_ret
      rw [rootOf_high n (by omega), rootOf_eq 1152921504606846976 _ (by omega) (by omega) (inv_end_lo 1152921504606846976 B T HI.out ‹_› ‹_›)]
      exact ⟨rfl, rfl⟩

theorem root_low (n : Int) (w : World) (h : n < 1) :
    Calls Tryz.prog 146 #[.int .i64 n] w fun e w' => e = .returned (.int .i64 (rootOf n)) ∧ w = w' := by
  rw [rootOf_low n h]
  have hlt : decide (n < 1) = true := by simpa using h
  go_enter Tryz.func146, Tryz.ntmps146
  go_wp2
  go_step3
  go_wp2
  rw [Exit.noGoto_ret]
  go_ret
  exact ⟨rfl, rfl⟩

theorem root_any (n : Int) (w : World) (h : n ≤ 9223372036854775807) :
    Calls Tryz.prog 146 #[.int .i64 n] w fun e w' => e = .returned (.int .i64 (rootOf n)) ∧ w = w' := by
  by_cases h1 : n < 1
  · exact root_low n w h1
  · by_cases h2 : n ≤ 1152921504606846976
    · exact root_in n w (by omega) h2
    · exact root_over n w (by omega) h


end Go.Proofs.YtgplajofemencaaGreat
/- A whole number below 2^53 as a float64: what a float holds of it, that it comes back whole, and that a difference of two is it exactly. Nothing of the program stands here. -/
namespace Go.Proofs.YtgplajofemencaaGreat
open Ieee

/-- The datum stands for this whole number: with its digits moved up by some places. -/
def Whole (n : Int) (d : Datum) : Prop := ∃ p : Nat, d = .number (decide (n < 0)) (n.natAbs * 2 ^ p) (-(p : Int))

theorem log_add (m p : Nat) (h : 0 < m) : (m * 2 ^ p).log2 = m.log2 + p := by
  induction p with
  | zero => simp
  | succ p ih =>
    have h2 : m * 2 ^ (p + 1) = 2 * (m * 2 ^ p) := by rw [Nat.pow_succ]; simp [Nat.mul_comm, Nat.mul_left_comm]
    have hp : 0 < m * 2 ^ p := Nat.mul_pos h (Nat.two_pow_pos p)
    rw [h2, Nat.log2_two_mul (by omega), ih]
    omega

theorem log_le (m : Nat) (h0 : 0 < m) (h : m < 9007199254740992) : m.log2 ≤ 52 := by
  have := (Nat.log2_lt (n := m) (k := 53) (by omega)).2 (by simpa using h)
  omega

theorem norm_bd (m : Nat) (h0 : 0 < m) (h : m < 9007199254740992) : 4503599627370496 ≤ m * 2 ^ (52 - m.log2) ∧ m * 2 ^ (52 - m.log2) < 9007199254740992 := by
  have hl := log_le m h0 h
  have h1 : 2 ^ m.log2 ≤ m := Nat.log2_self_le (by omega)
  have h2 : m < 2 ^ (m.log2 + 1) := Nat.lt_log2_self
  have e1 : 2 ^ m.log2 * 2 ^ (52 - m.log2) = 4503599627370496 := by rw [← Nat.pow_add, show m.log2 + (52 - m.log2) = 52 by omega]
  have e2 : 2 ^ (m.log2 + 1) * 2 ^ (52 - m.log2) = 9007199254740992 := by rw [← Nat.pow_add, show m.log2 + 1 + (52 - m.log2) = 53 by omega]
  have hp := Nat.two_pow_pos (52 - m.log2)
  constructor
  · rw [← e1]; exact Nat.mul_le_mul_right _ h1
  · rw [← e2]; exact Nat.mul_lt_mul_of_pos_right h2 hp

/-- The digits that are cut off are noughts. -/
theorem cut_whole (way : Toward) (neg : Bool) (m drop : Nat) (h : drop ≤ (m * 2 ^ drop).log2 + 2) : way.cut neg (m * 2 ^ drop) drop = m := by
  have hg : (1 <<< min drop ((m * 2 ^ drop).log2 + 2) : Nat) = 2 ^ drop := by rw [Nat.min_eq_left h, Nat.shiftLeft_eq, Nat.one_mul]
  unfold Toward.cut
  dsimp only
  rw [hg]
  have hp := Nat.two_pow_pos drop
  rw [Nat.mul_div_cancel _ hp, Nat.mul_mod_left]
  have hz : decide (2 ^ drop < 2 * 0) = false := by simp
  have hz2 : (2 ^ drop == 2 * 0) = false := by simp
  cases way <;> simp [hz2]

theorem near_whole (neg : Bool) (m p : Nat) (h0 : 0 < m) (h : m < 9007199254740992) :
    double.nearest neg (m * 2 ^ p) (-(p : Int)) = double.word neg ((m.log2 + 1022) * 4503599627370496 + m * 2 ^ (52 - m.log2)) := by
  have hl := log_le m h0 h
  have hpos : m * 2 ^ p ≠ 0 := by have := Nat.mul_pos h0 (Nat.two_pow_pos p); omega
  have hn := norm_bd m h0 h
  unfold Format.nearest
  rw [if_neg hpos]
  dsimp only
  rw [log_add m p h0]
  have hlast : max (-(p : Int) + ((m.log2 + p : Nat) : Int) - (double.fractionBits : Int)) double.leastPlace = (m.log2 : Int) - 52 := by
    have e1 : (double.fractionBits : Int) = 52 := rfl
    have e2 : double.leastPlace = -1074 := by decide
    rw [e1, e2]
    omega
  rw [hlast]
  have e2 : double.leastPlace = -1074 := by decide
  have e3 : double.binade = 4503599627370496 := by decide
  have e4 : double.infRung = 9218868437227405312 := by decide
  have hk : Toward.even.cut neg ((m * 2 ^ p) <<< (-(p : Int) - ((m.log2 : Int) - 52)).toNat) ((m.log2 : Int) - 52 - -(p : Int)).toNat = m * 2 ^ (52 - m.log2) := by
    by_cases hc : p + m.log2 ≤ 52
    · rw [show ((m.log2 : Int) - 52 - -(p : Int)).toNat = 0 by omega, show (-(p : Int) - ((m.log2 : Int) - 52)).toNat = 52 - m.log2 - p by omega, Nat.shiftLeft_eq, Nat.mul_assoc, ← Nat.pow_add, show p + (52 - m.log2 - p) = 52 - m.log2 by omega]
      have := cut_whole .even neg (m * 2 ^ (52 - m.log2)) 0 (by omega)
      simpa using this
    · rw [show (-(p : Int) - ((m.log2 : Int) - 52)).toNat = 0 by omega, Nat.shiftLeft_zero, show ((m.log2 : Int) - 52 - -(p : Int)).toNat = p + m.log2 - 52 by omega]
      have e : m * 2 ^ p = (m * 2 ^ (52 - m.log2)) * 2 ^ (p + m.log2 - 52) := by rw [Nat.mul_assoc, ← Nat.pow_add, show 52 - m.log2 + (p + m.log2 - 52) = p by omega]
      have hlog : (m * 2 ^ p).log2 = m.log2 + p := log_add m p h0
      rw [e] at hlog ⊢
      exact cut_whole .even neg _ _ (by omega)
  rw [hk, e2, e3, e4, show ((m.log2 : Int) - 52 - -1074).toNat = m.log2 + 1022 by omega]
  rw [Nat.min_eq_left (by omega)]

theorem read_word (neg : Bool) (l f : Nat) (hl : l ≤ 1022) (h1 : 4503599627370496 ≤ f) (h2 : f < 9007199254740992) :
    double.read (double.word neg ((l + 1022) * 4503599627370496 + f)) = .number neg f ((l : Int) - 52) := by
  have e1 : double.signWeight = 9223372036854775808 := by decide
  have e2 : double.leastPlace = -1074 := by decide
  have e3 : double.binade = 4503599627370496 := by decide
  have e4 : double.infRung = 9218868437227405312 := by decide
  have hm : double.word neg ((l + 1022) * 4503599627370496 + f) % 9223372036854775808 = (l + 1022) * 4503599627370496 + f := by
    unfold Format.word; rw [e1]; split <;> omega
  have hs : (double.word neg ((l + 1022) * 4503599627370496 + f) / 9223372036854775808 % 2 == 1) = neg := by
    unfold Format.word; rw [e1]
    cases neg
    · rw [if_neg (by simp), show ((l + 1022) * 4503599627370496 + f) / 9223372036854775808 = 0 by omega]; rfl
    · rw [if_pos rfl, show (9223372036854775808 + ((l + 1022) * 4503599627370496 + f)) / 9223372036854775808 = 1 by omega]; rfl
  unfold Format.read
  dsimp only
  rw [e1, e2, e3, e4, hm, hs, if_neg (by omega), if_pos (by omega)]
  refine congr (congrArg (Datum.number neg) ?_) ?_ <;> omega

/-- A whole number's float, however its digits stood: always the same word. -/
theorem write_whole (n : Int) (p : Nat) (h : n.natAbs < 9007199254740992) : FloatKind.f64.encode (.number (decide (n < 0)) (n.natAbs * 2 ^ p) (-(p : Int))) = floatOfInt .f64 n := by
  show double.nearest _ _ _ = double.nearest _ _ _
  by_cases hz : n = 0
  · subst hz; simp [Format.nearest]
  · rw [near_whole _ _ p (by omega) h]
    have := near_whole (decide (n < 0)) n.natAbs 0 (by omega) h
    rw [Nat.pow_zero, Nat.mul_one] at this
    exact this.symm

theorem zero_whole (p : Nat) : Whole 0 (.number false 0 (-(p : Int))) := ⟨p, by simp⟩

theorem read_float (n : Int) (h : n.natAbs < 9007199254740992) : Whole n (FloatKind.f64.decode (floatOfInt .f64 n)) := by
  by_cases hz : n = 0
  · subst hz
    have e0 : floatOfInt .f64 0 = 0 := by decide
    rw [e0]
    have e1 : FloatKind.f64.decode 0 = .number false 0 (-1074) := by decide
    rw [e1]
    exact zero_whole 1074
  · refine ⟨52 - n.natAbs.log2, ?_⟩
    have h0 : 0 < n.natAbs := by omega
    have hl := log_le _ h0 h
    have hn := norm_bd _ h0 h
    show double.read (double.nearest (decide (n < 0)) n.natAbs 0) = _
    have := near_whole (decide (n < 0)) n.natAbs 0 h0 h
    rw [Nat.pow_zero, Nat.mul_one] at this
    have this2 : double.nearest (decide (n < 0)) n.natAbs 0 = _ := this
    rw [this2, read_word _ _ _ (by omega) hn.1 hn.2]
    congr 1
    omega

theorem signed_whole (n : Int) (p q : Nat) : signed (decide (n < 0)) (n.natAbs * 2 ^ p) q = n * 2 ^ (p + q) := by
  unfold signed
  rw [Nat.shiftLeft_eq, Nat.mul_assoc, ← Nat.pow_add]
  by_cases hn : n < 0
  · rw [if_pos (by simpa using hn), Int.natCast_mul, Int.natCast_pow, show ((n.natAbs : Nat) : Int) = -n by omega, Int.neg_mul, Int.neg_neg]
    rfl
  · rw [if_neg (by simpa using hn), Int.natCast_mul, Int.natCast_pow, show ((n.natAbs : Nat) : Int) = n by omega]
    rfl

theorem signed_not (s : Bool) (m q : Nat) : signed (!s) m q = -signed s m q := by
  cases s <;> simp [signed]

theorem sum_whole (a b : Int) (d e : Datum) (hd : Whole a d) (he : Whole b e) : ∃ f, d.sum e.opposite = some f ∧ Whole (a - b) f := by
  obtain ⟨p, rfl⟩ := hd
  obtain ⟨q, rfl⟩ := he
  refine ⟨_, rfl, ?_⟩
  have hb : min (-(p : Int)) (-(q : Int)) = -((max p q : Nat) : Int) := by omega
  rw [hb, show (-(p : Int) - -((max p q : Nat) : Int)).toNat = max p q - p by omega, show (-(q : Int) - -((max p q : Nat) : Int)).toNat = max p q - q by omega]
  rw [signed_not, signed_whole, signed_whole, show p + (max p q - p) = max p q by omega, show q + (max p q - q) = max p q by omega]
  generalize max p q = M
  have e1 : a * 2 ^ M + -(b * 2 ^ M) = (a - b) * 2 ^ M := by rw [Int.sub_mul]; omega
  have hM : (0 : Int) < 2 ^ M := Int.pow_pos (by omega)
  rw [e1]
  refine ⟨M, ?_⟩
  have e2 : ((a - b) * 2 ^ M).natAbs = (a - b).natAbs * 2 ^ M := by rw [Int.natAbs_mul, Int.natAbs_pow]; rfl
  rw [e2]
  congr 1
  by_cases hz : a - b = 0
  · have : a = b := by omega
    subst this
    simp
  · have hne : (a - b) * 2 ^ M ≠ 0 := Int.mul_ne_zero hz (by omega)
    rw [if_neg hne]
    by_cases hn : a - b < 0
    · have : (a - b) * 2 ^ M < 0 := Int.mul_neg_of_neg_of_pos hn hM
      simp [hn, this]
    · have : 0 ≤ (a - b) * 2 ^ M := Int.mul_nonneg (by omega) (by omega)
      simp [hn, this]

/-- The difference of two floats that are whole is whole, and exact. -/
theorem sub_float (a b : Int) (ha : a.natAbs < 9007199254740992) (hb : b.natAbs < 9007199254740992) (hc : (a - b).natAbs < 9007199254740992) :
    floatBits .sub .f64 (floatOfInt .f64 a) (floatOfInt .f64 b) = some (floatOfInt .f64 (a - b)) := by
  obtain ⟨f, hf, p, rfl⟩ := sum_whole a b _ _ (read_float a ha) (read_float b hb)
  show (Datum.sum _ _).map _ = _
  have hf' : (double.read (floatOfInt .f64 a)).sum (double.read (floatOfInt .f64 b)).opposite = _ := hf
  show ((double.read (floatOfInt .f64 a)).sum (double.read (floatOfInt .f64 b)).opposite).map double.write = _
  rw [hf']
  exact congrArg some (write_whole (a - b) p hc)

theorem toInt_whole (n : Int) (d : Datum) (h : Whole n d) (hn : n.natAbs < 9007199254740992) : d.toInt .zero = some n := by
  obtain ⟨p, rfl⟩ := h
  unfold Datum.toInt Datum.integral
  dsimp only
  rw [show (-(p : Int)).toNat = 0 by omega, Nat.shiftLeft_zero, show (- -(p : Int)).toNat = p by omega]
  have hc : Toward.zero.cut (decide (n < 0)) (n.natAbs * 2 ^ p) p = n.natAbs := by
    by_cases hz : n = 0
    · subst hz; simp [Toward.cut]
    · exact cut_whole _ _ _ _ (by rw [log_add _ _ (by omega)]; omega)
  rw [hc]
  have := signed_whole n 0 0
  simpa using this

/-- A whole number that went into a float comes back. -/
theorem back_float (n : Int) (hn : n.natAbs < 9007199254740992) : floatToIntVal .f64 (floatOfInt .f64 n) .i64 = some n := by
  unfold floatToIntVal
  rw [toInt_whole n _ (read_float n hn) hn]
  have h1 : IntKind.i64.min = -9223372036854775808 := by decide
  have h2 : IntKind.i64.max = 9223372036854775807 := by decide
  dsimp only
  rw [h1, h2, if_pos (by omega)]

theorem sub_places (a b c d : Int) (ha : 0 ≤ a ∧ a ≤ 10000) (hb : 0 ≤ b ∧ b ≤ 10000) (hc : 0 ≤ c ∧ c ≤ 10000) (hd : 0 ≤ d ∧ d ≤ 10000) :
    cSumBits .sub .f64 (floatOfInt .f64 a) (floatOfInt .f64 b) (floatOfInt .f64 c) (floatOfInt .f64 d) = some (floatOfInt .f64 (a - c), floatOfInt .f64 (b - d)) := by
  unfold cSumBits
  rw [sub_float a c (by omega) (by omega) (by omega), sub_float b d (by omega) (by omega) (by omega)]
  rfl

end Go.Proofs.YtgplajofemencaaGreat
/- What coord, place, Far and the document's bound and Far answer. -/
namespace Go.Proofs.YtgplajofemencaaGreat
open Go.ChangeShapes Go.WideShapes Go.ChangeAt Go.RowKit

theorem ret_float {a b : Int} (h : a = b) : Ending.returned (.float .f64 (floatOfInt .f64 a)) = .returned (.float .f64 (floatOfInt .f64 b)) := by rw [h]
theorem coord_any (n : Int) (w : World) : Calls Tryz.prog 165 #[.int .i64 n] w fun e w' => e = .returned (.float .f64 (floatOfInt .f64 (cl n))) ∧ w' = w := by
  go_enter Tryz.func165, Tryz.ntmps165
  go_wp2
  all_goals
    go_ret
    refine ⟨ret_float ?_, rfl⟩
    unfold cl
    (try split at *) <;> omega
/-- A stop in its box. -/
def boxS (t : Stp) : Obj := .cells #[.int .i64 t.x, .int .i64 t.y, .int .i64 t.d, .int .i64 t.r, .int .i64 t.u, .int .i64 t.s] 65
def cellsP (N : Nat) (t : Stp) : List (Addr × Value) := [(⟨N, 0, none⟩, .int .i64 t.x), (⟨N, 1, none⟩, .int .i64 t.y), (⟨N, 2, none⟩, .int .i64 t.d), (⟨N, 3, none⟩, .int .i64 t.r), (⟨N, 4, none⟩, .int .i64 t.u), (⟨N, 5, none⟩, .int .i64 t.s)]
theorem holds_boxS (w : World) (t : Stp) : Holds (cellsP w.heap.size t) (w.alloc (boxS t)) := by
  have h : ∀ i, (w.alloc (boxS t)).cell? ⟨w.heap.size, i, none⟩ = (rowV t)[i]? := fun i => by
    unfold boxS; rw [cell_of_row _ _ _ _ _ _ (heap_alloc_new w _)]; simp [rowV]
  exact ⟨h 0, h 1, h 2, h 3, h 4, h 5, trivial⟩
theorem lows_P {M N : Nat} {t : Stp} (h : N < M) : Lows M (cellsP N t) := ⟨h, h, h, h, h, h, trivial⟩
set_option maxRecDepth 1000000 in
set_option maxHeartbeats 1000000 in
theorem place_any (t : Stp) (w : World) : Calls Tryz.prog 145 #[stopV t] w fun e w' => e = .returned (.complex .f64 (floatOfInt .f64 (cl t.x)) (floatOfInt .f64 (cl t.y))) ∧ Below w.heap.size w w' := by
  unfold stopV
  go_enter Tryz.func145, Tryz.ntmps145
  go_wp2_with fail
  change Code.wp _ _ _ _ (w.alloc (boxS t))
  have HS0 := Lib.hid (show Holds (cellsP w.heap.size t) (w.alloc (boxS t)).drew from holds_boxS w t)
  have hlt := Lib.hid (show Lows (w.alloc (boxS t)).drew.heap.size (cellsP w.heap.size t) from lows_P (by simp [World.drew]))
  have HB1 := Lib.hid (((Below.refl _ w).alloc (Nat.le_refl _) (boxS t)).drew)
  generalize w.alloc (boxS t) = W at *
  have hNW : w.heap.size ≤ W.drew.heap.size := HB1.out.size
  refine wp_region_held_drew (S := Holds (cellsP w.heap.size t)) (by kernel_rfl) HS0.out (fun hSn => ?_)
  have Bc := Lib.hid (Below.refl W.drew.heap.size W.drew)
  unfold cellsP at *
  refine tks [0, 1, 3, 4] 4 rfl (by kernel_rfl) (fun _ _ _ _ h => h) (by assumption) (fun KT hKT => ?_)
  iterate 4 (refine tkT (by (simp only [gA, gB, gC]; rfl)) (by rfl) (by (intro w hSw; (simp only [Holds] at hSw); go_simp <;> with_reducible rfl)) ?_; simp only [Act.put, pA, pB, pC])
  refine hKT _ ?_
  clear KT hKT
  refine wpAnyH_ready (rs := [2]) (by kernel_rfl) (by simp) ?_
  refine AllReadyH.cons (o := ?oz30) ?iz30 (fun K hK => ?kz30) AllReadyH.nil
  case iz30 => (simp only [List.getElem?_toArray, List.getElem?_cons_zero, List.getElem?_cons_succ]; rfl)
  go_simp
  refine (coord_any _ _).mono ?_
  rintro e w' ⟨rfl, rfl⟩
  refine held_more hK HS0.out hlt Bc.out (fun Bc hSn => ?_)
  refine wpAnyH_ready (rs := [5]) (by kernel_rfl) (by simp) ?_
  refine AllReadyH.cons (o := ?oz31) ?iz31 (fun K hK => ?kz31) AllReadyH.nil
  case iz31 => (simp only [List.getElem?_toArray, List.getElem?_cons_zero, List.getElem?_cons_succ]; rfl)
  go_simp
  refine (coord_any _ _).mono ?_
  rintro e w' ⟨rfl, rfl⟩
  refine held_more hK HS0.out hlt Bc.out (fun Bc hSn => ?_)
  refine tks [6, 7] 2 rfl (by kernel_rfl) (fun _ _ _ _ h => h) (by assumption) (fun KT hKT => ?_)
  iterate 2 (refine tkT (by (simp only [gA, gB, gC]; rfl)) (by rfl) (by (intro w hSw; (simp only [Holds] at hSw); go_simp <;> with_reducible rfl)) ?_; simp only [Act.put, pA, pB, pC])
  refine hKT _ ?_
  clear KT hKT
  refine wpAnyH_done (by kernel_rfl) ?_ _
  go_wp2
  go_ret
  exact ⟨rfl, HB1.out.trans (Bc.out.mono hNW)⟩
/-- The square of how far it is. -/
def sqF (a b : Stp) : Int := (cl b.x - cl a.x) * (cl b.x - cl a.x) + (cl b.y - cl a.y) * (cl b.y - cl a.y)
/-- A place, as a complex number. -/
def cV (t : Stp) : Value := .complex .f64 (floatOfInt .f64 (cl t.x)) (floatOfInt .f64 (cl t.y))
theorem sqF_bd (a b : Stp) : 0 ≤ sqF a b ∧ sqF a b ≤ 200000000 := by
  have hax := cl_bd a.x
  have hay := cl_bd a.y
  have hbx := cl_bd b.x
  have hby := cl_bd b.y
  obtain ⟨s1, s2⟩ := sq_bd (cl b.x - cl a.x) (by omega) (by omega)
  obtain ⟨s3, s4⟩ := sq_bd (cl b.y - cl a.y) (by omega) (by omega)
  unfold sqF
  omega
theorem farF_sq (a b : Stp) : farF a b = rootOf (sqF a b) := rfl
set_option maxRecDepth 1000000 in
set_option maxHeartbeats 1000000 in
theorem squared_any (a b : Stp) (w : World) : Calls Tryz.prog 155 #[cV a, cV b] w fun e w' => e = .returned (.int .i64 (sqF a b)) ∧ w = w' := by
  have hax := cl_bd a.x
  have hay := cl_bd a.y
  have hbx := cl_bd b.x
  have hby := cl_bd b.y
  have hsub : ∀ w, (binOp .sub 174 (.complex .f64 (floatOfInt .f64 (cl b.x)) (floatOfInt .f64 (cl b.y))) (.complex .f64 (floatOfInt .f64 (cl a.x)) (floatOfInt .f64 (cl a.y)))).run Tryz.prog w = .ok (.complex .f64 (floatOfInt .f64 (cl b.x - cl a.x)) (floatOfInt .f64 (cl b.y - cl a.y))) w :=
    fun w => run_complex_sum w .sub (.inr rfl) _ _ _ _ _ _ _ _ (sub_places _ _ _ _ hbx hby hax hay)
  have hF := Lib.hid (show sqF a b = (cl b.x - cl a.x) * (cl b.x - cl a.x) + (cl b.y - cl a.y) * (cl b.y - cl a.y) from rfl)
  have d1 : -10000 ≤ cl b.x - cl a.x ∧ cl b.x - cl a.x ≤ 10000 := by omega
  have d2 : -10000 ≤ cl b.y - cl a.y ∧ cl b.y - cl a.y ≤ 10000 := by omega
  unfold cV
  go_enter Tryz.func155, Tryz.ntmps155
  go_upto_region 2 with fail
  clear hsub hax hay hbx hby
  generalize cl b.x - cl a.x = dx at *
  generalize cl b.y - cl a.y = dy at *
  have hcx : ∀ w, (convert 187 3 (.float .f64 (floatOfInt .f64 dx))).run Tryz.prog w = .ok (.int .i64 dx) w := fun w => run_convert_float_int w _ _ _ _ _ _ (by rw [Tryz.underlying187]; rfl) Tryz.underlying3 (back_float _ (by omega))
  have hcy : ∀ w, (convert 187 3 (.float .f64 (floatOfInt .f64 dy))).run Tryz.prog w = .ok (.int .i64 dy) w := fun w => run_convert_float_int w _ _ _ _ _ _ (by rw [Tryz.underlying187]; rfl) Tryz.underlying3 (back_float _ (by omega))
  obtain ⟨s1, s2⟩ := sq_bd dx d1.1 d1.2
  obtain ⟨s3, s4⟩ := sq_bd dy d2.1 d2.2
  have s5 : dx * dx + dy * dy ≤ 200000000 := by omega
  have s6 : 0 ≤ dx * dx + dy * dy := by omega
  go_wp2
  go_ret
  exact ⟨ret_int hF.out.symm, rfl⟩
set_option maxRecDepth 1000000 in
set_option maxHeartbeats 1000000 in
theorem far_any (a b : Stp) (w : World) : Calls Tryz.prog 125 #[stopV a, stopV b] w fun e w' => e = .returned (.int .i64 (farF a b)) ∧ Below w.heap.size w w' := by
  have hF := Lib.hid (farF_sq a b)
  have hb2 := Lib.hid (sqF_bd a b)
  unfold stopV
  go_enter Tryz.func125, Tryz.ntmps125
  go_wp2_with fail
  change Code.wp _ _ _ _ ((w.alloc (boxS a)).alloc (boxS b))
  have HB1 := Lib.hid ((((Below.refl _ w).alloc (Nat.le_refl _) (boxS a)).alloc (by simp) (boxS b)).drew)
  have HS0 := Lib.hid (show Holds (cellsP w.heap.size a ++ cellsP (w.heap.size + 1) b) ((w.alloc (boxS a)).alloc (boxS b)).drew from Holds.app.2
    ⟨Holds.below (M := (w.alloc (boxS a)).heap.size) ((Below.refl _ (w.alloc (boxS a))).alloc (Nat.le_refl _) (boxS b)) (holds_boxS w a) (lows_P (by simp)), by have := holds_boxS (w.alloc (boxS a)) b; rw [show (w.alloc (boxS a)).heap.size = w.heap.size + 1 by simp] at this; exact this⟩)
  have hlt := Lib.hid (show Lows ((w.alloc (boxS a)).alloc (boxS b)).drew.heap.size (cellsP w.heap.size a ++ cellsP (w.heap.size + 1) b) from Lows.app (lows_P (by simp [World.drew]; omega)) (lows_P (by simp [World.drew])))
  generalize (w.alloc (boxS a)).alloc (boxS b) = W at *
  have hNW : w.heap.size ≤ W.drew.heap.size := HB1.out.size
  refine wp_region_held_drew (S := Holds (cellsP w.heap.size a ++ cellsP (w.heap.size + 1) b)) (by kernel_rfl) HS0.out (fun hSn => ?_)
  have Bc := Lib.hid (Below.refl W.drew.heap.size W.drew)
  simp only [cellsP, List.cons_append, List.nil_append] at *
  refine tks [0, 2] 2 rfl (by kernel_rfl) (fun _ _ _ _ h => h) (by assumption) (fun KT hKT => ?_)
  iterate 2 (refine tkT (by (simp only [gA, gB, gC]; rfl)) (by rfl) (by (intro w hSw; (simp only [Holds] at hSw); go_simp <;> with_reducible rfl)) ?_; simp only [Act.put, pA, pB, pC])
  refine hKT _ ?_
  clear KT hKT
  refine wpAnyH_ready (rs := [1]) (by kernel_rfl) (by simp) ?_
  refine AllReadyH.cons (o := ?oz32) ?iz32 (fun K hK => ?kz32) AllReadyH.nil
  case iz32 => (simp only [List.getElem?_toArray, List.getElem?_cons_zero, List.getElem?_cons_succ]; rfl)
  go_simp
  change Calls _ _ #[stopV a] _ _
  refine (place_any a _).mono ?_
  rintro e w' ⟨rfl, hb⟩
  refine held_more hK HS0.out hlt (Bc.out.trans (hb.mono Bc.out.size)) (fun Bc hSn => ?_)
  clear hb hK
  refine wpAnyH_ready (rs := [3]) (by kernel_rfl) (by simp) ?_
  refine AllReadyH.cons (o := ?oz33) ?iz33 (fun K hK => ?kz33) AllReadyH.nil
  case iz33 => (simp only [List.getElem?_toArray, List.getElem?_cons_zero, List.getElem?_cons_succ]; rfl)
  go_simp
  change Calls _ _ #[stopV b] _ _
  refine (place_any b _).mono ?_
  rintro e w' ⟨rfl, hb⟩
  refine held_more hK HS0.out hlt (Bc.out.trans (hb.mono Bc.out.size)) (fun Bc hSn => ?_)
  clear hb hK
  refine wpAnyH_ready (rs := [4]) (by kernel_rfl) (by simp) ?_
  refine AllReadyH.cons (o := ?oz34) ?iz34 (fun K hK => ?kz34) AllReadyH.nil
  case iz34 => (simp only [List.getElem?_toArray, List.getElem?_cons_zero, List.getElem?_cons_succ]; rfl)
  go_simp
  change Calls _ _ #[cV a, cV b] _ _
  refine (squared_any a b _).mono ?_
  rintro e w' ⟨rfl, rfl⟩
  refine held_more hK HS0.out hlt Bc.out (fun Bc hSn => ?_)
  clear hK
  refine wpAnyH_ready (rs := [5]) (by kernel_rfl) (by simp) ?_
  refine AllReadyH.cons (o := ?oz35) ?iz35 (fun K hK => ?kz35) AllReadyH.nil
  case iz35 => (simp only [List.getElem?_toArray, List.getElem?_cons_zero, List.getElem?_cons_succ]; rfl)
  go_simp
  refine (root_any _ _ (by have := hb2.out; omega)).mono ?_
  rintro e w' ⟨rfl, rfl⟩
  refine held_more hK HS0.out hlt Bc.out (fun Bc hSn => ?_)
  clear hK
  refine tks [6] 1 rfl (by kernel_rfl) (fun _ _ _ _ h => h) (by assumption) (fun KT hKT => ?_)
  refine tkT (by (simp only [gA, gB, gC]; rfl)) (by rfl) (by (intro w hSw; (simp only [Holds] at hSw); go_simp <;> with_reducible rfl)) ?_
  simp only [Act.put, pA, pB, pC]
  refine hKT _ ?_
  clear KT hKT
  refine wpAnyH_done (by kernel_rfl) ?_ _
  go_wp2
  go_ret
  exact ⟨ret_int hF.out.symm, HB1.out.trans (Bc.out.mono hNW)⟩
end Go.Proofs.YtgplajofemencaaGreat
/- Stops that a law is handed; what a law's own boxes hold. -/
namespace Go.Proofs.YtgplajofemencaaGreat
open Go.ChangeShapes Go.WideShapes Go.ChangeAt Go.RowKit

section
variable {H : Type} {enc : TypeId × Value → H} {w : World} {base : Nat} {spare : Nat → Bool} {held : Bool}
end
end Go.Proofs.YtgplajofemencaaGreat
/- Rows of numbers: a part of one, one number stored, one line stored; append of a make; what slices.Min, Grow, Concat and plane.least answer. -/
namespace Go.Proofs.YtgplajofemencaaGreat
open Go.ChangeShapes Go.WideShapes Go.ChangeAt Go.RowKit

/-- A part of a row: from k on, up to h. -/
theorem Row.part {w : World} {b off n cap : Nat} {xs : List Value} (hs : Row w (.slice (some ⟨b, off, none⟩) n cap) xs) (k h : Nat) (hk : k ≤ h) (hh : h ≤ xs.length) (a : Option Addr) (ha : a = (if cap = k then some ⟨b, off, none⟩ else some ⟨b, off + k, none⟩)) :
    Row w (.slice a (h - k) (cap - k)) ((xs.drop k).take (h - k)) := by
  obtain ⟨hm, a', cap', hv, hc, ⟨hc2, _⟩, hcell⟩ := hs
  simp at hv
  obtain ⟨rfl, rfl, rfl⟩ := hv
  have hl : ((xs.drop k).take (h - k)).length = h - k := by simp; omega
  refine ⟨by omega, a, cap - k, by rw [hl], by omega, ⟨by omega, fun h0 => by rw [h0] at ha; split at ha <;> simp at ha⟩, ?_⟩
  by_cases h0 : h = k
  · left
    subst h0
    simp
  · right
    rw [if_neg (by omega)] at ha
    refine ⟨b, off + k, ha, fun i hi => ?_⟩
    rw [hl] at hi
    rcases hcell with hn | ⟨b', off', he, hcc⟩
    · subst hn; simp at hh; omega
    · simp at he
      obtain ⟨rfl, rfl⟩ := he
      rw [List.getElem?_take_of_lt hi, List.getElem?_drop]
      have := hcc (k + i) (by omega)
      rw [show off + (k + i) = off + k + i by omega] at this
      exact this
theorem ints_drop (l : List Int) (k : Nat) : (ints l).drop k = ints (l.drop k) := by simp [ints]
theorem ints_take (l : List Int) (k : Nat) : (ints l).take k = ints (l.take k) := by simp [ints]
theorem ints_set (l : List Int) (k : Nat) (x : Int) : (ints l).set k (.int .i64 x) = ints (l.set k x) := by simp [ints]
/-- One number of a row that the call has made is stored. -/
theorem OwnI.stored {w : World} {B g n cap : Nat} {l : List Int} (h : OwnI w B (.slice (some ⟨g, 0, none⟩) n cap) l) (i : Nat) (x : Int) :
    OwnI (w.setCell ⟨g, i, none⟩ (.int .i64 x)) B (.slice (some ⟨g, 0, none⟩) n cap) (l.set i x) ∧ B ≤ g ∧ g < w.heap.size ∧ w.frozen? ⟨g, i, none⟩ = false := by
  have hn : n = l.length := by
    obtain ⟨a, c, he⟩ := h.shape
    simp at he; exact he.2.1
  subst hn
  have h' : w.ownsRow B 3 1 (.slice (some ⟨g, 0, none⟩) l.length cap) l.length (ints l) := h
  refine ⟨?_, (World.ownsRow.lt h' g rfl).1, (World.ownsRow.lt h' g rfl).2, h'.frozenAt i⟩
  unfold OwnI
  rw [List.length_set, ← ints_set]
  exact (h'.stored i (.int .i64 x)).1
theorem OwnIn.set {w : World} {B : Nat} {u : Value} {l : List Int} (hu : w.ownsRow B 3 1 u l.length (ints l)) : ∀ {vs : List Value} {L : List (List Int)} (k : Nat), OwnIn w B vs L → OwnIn w B (vs.set k u) (L.set k l)
  | [], [], _, _ => trivial
  | _ :: _, _ :: _, 0, h => ⟨hu, h.2⟩
  | _ :: _, _ :: _, k + 1, h => ⟨h.1, OwnIn.set hu k h.2⟩
  | [], _ :: _, _, h => h.elim
  | _ :: _, [], _, h => h.elim
theorem OwnLL.shape {w : World} {B : Nat} {v : Value} {L : List (List Int)} (h : OwnLL w B v L) : ∃ a cap, v = .slice a L.length cap := by
  obtain ⟨vs, h1, h2⟩ := h
  rw [← h2.in.len]
  exact own_shape h1
/-- One line is stored where lines lie that the call has made. -/
theorem OwnLL.stored {w : World} {B g n cap : Nat} {L : List (List Int)} (h : OwnLL w B (.slice (some ⟨g, 0, none⟩) n cap) L) (i : Nat) (u : Value) (l : List Int) (hu : OwnI w B u l) :
    OwnLL (w.setCell ⟨g, i, none⟩ u) B (.slice (some ⟨g, 0, none⟩) n cap) (L.set i l) ∧ B ≤ g ∧ g < w.heap.size ∧ w.frozen? ⟨g, i, none⟩ = false := by
  obtain ⟨vs, h1, h2⟩ := h
  have hn : n = vs.length := by
    obtain ⟨a, c, he⟩ := own_shape h1
    simp at he; exact he.2.1
  subst hn
  refine ⟨?_, (World.ownsRow.lt h1 g rfl).1, (World.ownsRow.lt h1 g rfl).2, h1.frozenAt i⟩
  have hg : w.grownBy (w.setCell ⟨g, i, none⟩ u) (some g) := ⟨rfl, rfl, rfl, by simp [World.setCell], fun k _ hk => heap_setCell_other w ⟨g, i, none⟩ k _ (fun e => hk (by rw [e]))⟩
  have hne : ∀ z ∈ vs.set i u, z.ownBlock = none ∨ z.ownBlock ≠ some g := by
    intro z hz
    rcases h1.2 with ⟨e, _⟩ | ⟨g', cap', cur, e, _, hgg, _⟩
    · simp at e
    · simp at e
      obtain ⟨rfl, rfl⟩ := e
      exact .inr ((OwnIn.set hu i h2).ne hgg (by decide) z hz)
  refine ⟨vs.set i u, ?_, (OwnIn.set hu i h2).kept hg hne⟩
  rw [List.length_set]
  exact (h1.stored i u).1
/-- A row of noughts, lines of which none holds anything, as make lays them. -/
theorem made_zeros (n : Nat) : (madeCells (Value.int .i64 0).cells (n * 1)).toList = ints (List.replicate n 0) := by
  rw [show (Value.int .i64 0).cells = #[Value.int .i64 0] from rfl, Nat.mul_one, toList_madeCells_one]
  simp [ints]
/-- make of a row of numbers, of lines. -/
theorem make_ints {w : World} {ops : Array Oper} {rest : List Oper} {o : Oper} {a : Act} {Q : Exit → Act → World → Prop} (hgd : o.guard = none) (l c : Operand) (ho : o.op = Op.makeSlice 28 l c)
    (B n : Nat) (hl : a.eval l = .int .i64 (n : Int)) (hc : a.eval c = .int .i64 (n : Int)) (hn : n ≤ 1000000) (hB : B ≤ w.heap.size)
    (h : ∀ w', OwnI w' B (.slice (some ⟨w.heap.size, 0, none⟩) n n) (List.replicate n 0) → w.grownBy w' none → wpList Tryz.prog ops Q rest (a.put o.dst (.slice (some ⟨w.heap.size, 0, none⟩) n n)) w') : wpList Tryz.prog ops Q (o :: rest) a w := by
  obtain ⟨i0, hi, hz0, hz1, hz2⟩ := info_parts infoInt
  refine wpList_make_full w hgd l c 28 ho B 3 i0 _ 1 Tryz.underlying28 hi hz0 hz1 .i64 .i64 _ _ n hl hc rfl rfl (by rw [hz2]; omega) (by unfold maxLen; omega) hB ?_
  intro w' h1 h2
  refine h w' ?_ h2
  unfold OwnI
  rw [List.length_replicate, ← made_zeros]
  exact h1
/-- append of a make to nothing at all: there is room, and nothing in it that counts. -/
theorem run_append_make (w : World) (ty : TypeId) (n : Nat) (h0 : 0 < n) (hn : n ≤ 1000000) :
    (Builtin.append_ #[28, 3] ty #[.slice none 0 0, .int .i64 (n : Int)]).run Tryz.prog w =
      .ok (.slice (some ⟨w.heap.size, 0, none⟩) n (grownCap w n 0 3)) (w.drew.alloc (.cells (Builtin.zeroCells #[.int .i64 0] n ++ Builtin.zeroCells #[.int .i64 0] (grownCap w n 0 3 - n)) 3)) := by
  obtain ⟨i0, hi, hz0, hz1, hz2⟩ := info_parts infoInt
  have hw : IntKind.i64.wrap (n : Int) = (n : Int) := IntWalk.i64_in _ (by omega)
  have n0 : n ≠ 0 := by omega
  have n1 : ¬ ((n : Int) < 0) := by omega
  have n2 : ¬ (281474976710656 < (n : Int) * 8) := by omega
  have n3 : ¬ (9223372036854775807 < (n : Int)) := by omega
  have n4 : ¬ (281474976710656 < Builtin.nextslicecap n 0 * 8) := by rw [nextslicecap_zero h0]; omega
  simp [Builtin.append_, run_underlying Tryz.underlying28, run_underlying Tryz.underlying3, sizeOf, typeInfo, zeroValue, hi, hz0, hz1, hz2, asInt, asIntOf, hw, n0, n1, n2, n3, n4, Question.forced, run_firstCells_none, newRow, grownCap, Value.cells]
theorem app_make {w : World} {ops : Array Oper} {rest : List Oper} {o : Oper} {a : Act} {Q : Exit → Act → World → Prop} (hgd : o.guard = none) (s x : Operand)
    (ho : o.op = .call { callee := .builtin .append, args := #[s, x], argTypes := #[28, 3] }) (B n : Nat) (hs : a.eval s = .slice none 0 0) (hx : a.eval x = .int .i64 (n : Int)) (h0 : 0 < n) (hn : n ≤ 1000000) (hB : B ≤ w.heap.size)
    (h : ∀ cap w', n ≤ cap → OwnI w' B (.slice (some ⟨w.heap.size, 0, none⟩) 0 cap) [] → w.grownBy w' none → wpList Tryz.prog ops Q rest (a.put o.dst (.slice (some ⟨w.heap.size, 0, none⟩) n cap)) w') : wpList Tryz.prog ops Q (o :: rest) a w := by
  refine wpList_plain hgd fun K hK => ?_
  have hr := run_append_make w o.type n h0 hn
  have hge := grownCap_ge w n 0 3
  have hcm : grownCap w n 0 3 ≤ maxLen := grownCap_le_maxLen w n 0 3 (by unfold maxLen; omega)
  generalize grownCap w n 0 3 = cap at *
  unfold Oper.wp execOp
  simp only [ho, resolve, invoke, builtin, Sem.run_bind, Sem.run_pure, Result.andThen_ok, List.map_toArray, List.map_cons, List.map_nil, hs, hx, hr]
  refine hK _ _ (h cap _ hge ?_ ⟨rfl, rfl, rfl, by simp, fun k hk _ => heap_alloc_old w.drew _ hk⟩)
  refine ⟨rfl, .inr ⟨w.heap.size, cap, _, rfl, hB, heap_alloc_new w.drew _, Nat.zero_le _, hcm, ?_, by simp [ints]⟩⟩
  simp only [Array.size_append, size_zeroCells]
  simp
  omega
/-- The first part of a row. -/
theorem Row.head {w : World} {b off n cap : Nat} {l : List Int} (hs : Row w (.slice (some ⟨b, off, none⟩) n cap) (ints l)) (k : Nat) (hk : k ≤ l.length) :
    Row w (.slice (some ⟨b, off, none⟩) k cap) (ints (l.take k)) := by
  have := Row.part hs 0 k (Nat.zero_le _) (by rw [ints_len]; exact hk) (some ⟨b, off, none⟩) (by split <;> rfl)
  rw [List.drop_zero, Nat.sub_zero, ints_take] at this
  exact this
/-- The last part of a row. -/
theorem Row.tail {w : World} {b off n cap : Nat} {l : List Int} (hs : Row w (.slice (some ⟨b, off, none⟩) n cap) (ints l)) (k : Nat) (hk : k ≤ l.length) (a : Option Addr) (ha : a = (if cap = k then some ⟨b, off, none⟩ else some ⟨b, off + k, none⟩)) :
    Row w (.slice a (l.length - k) (cap - k)) (ints (l.drop k)) := by
  have := Row.part hs k l.length hk (by rw [ints_len]; exact Nat.le_refl _) a ha
  rw [ints_drop, ints_take, List.take_of_length_le (by simp)] at this
  exact this
theorem isLL_two (w : World) (u1 u2 : Value) (l1 l2 : List Int) (h1 : Row w u1 (ints l1)) (h2 : Row w u2 (ints l2)) :
    IsLL (w.alloc (.cells #[u1, u2] 28)) (.slice (some ⟨w.heap.size, 0, none⟩) 2 2) [l1, l2] := by
  have hb := (Below.refl w.heap.size w).alloc (Nat.le_refl _) (.cells #[u1, u2] 28)
  refine ⟨[u1, u2], ⟨by simp [maxLen], _, _, rfl, by simp, ⟨by simp [maxLen], by simp⟩, .inr ⟨w.heap.size, 0, rfl, fun i hi => ?_⟩⟩, h1.below hb, h2.below hb, trivial⟩
  rw [Nat.zero_add, cell_of_row _ _ _ _ _ _ (heap_alloc_new w _)]
  simp
end Go.Proofs.YtgplajofemencaaGreat
/- What slices.Min, Grow and Concat, plane.least and the document's Same of two rows answer. -/
namespace Go.Proofs.YtgplajofemencaaGreat
open Go.ChangeShapes Go.WideShapes Go.ChangeAt Go.RowKit

/-- The least of some numbers; 0 of none. -/
def leastL : List Int → Int
  | [] => 0
  | a :: r => r.foldl min a
theorem leastL_snoc (a : Int) (r : List Int) (x : Int) : leastL ((a :: r) ++ [x]) = min (leastL (a :: r)) x := by
  simp [leastL, List.foldl_append]
set_option maxRecDepth 100000 in
theorem grow_any (n : Nat) (w : World) (hn : n ≤ 1000000) :
    Calls Tryz.prog 134 #[.slice none 0 0, .int .i64 (n : Int)] w fun e w' => ∃ u, e = .returned u ∧ OwnI w' w.heap.size u [] ∧ Below w.heap.size w w' := by
  by_cases h0 : n = 0
  · subst h0
    go_enter Tryz.func134, Tryz.ntmps134
    go_wp2
    go_ret
    exact ⟨_, rfl, ownI_nil _ _, Below.refl _ _⟩
  · have d1 : decide ((n : Int) < 0) = false := decide_eq_false (by omega)
    have d2 : decide ((0 : Int) < (n : Int)) = true := decide_eq_true (by omega)
    have hp : 0 < n := by omega
    clear h0
    go_enter Tryz.func134, Tryz.ntmps134
    go_wp2_with (first | (at_builtin; refine app_make rfl _ _ rfl w.heap.size n rfl rfl hp hn (Nat.le_refl _) ?_))
    intro cap w' hcap hown hgrow
    have HO := Lib.hid hown
    have HB := Lib.hid (grown_below hgrow (Nat.le_refl _) (fun q hq => by simp at hq))
    clear hown hgrow
    go_wp2
    go_ret
    exact ⟨_, rfl, HO.out, HB.out⟩
theorem flat_take {L : List (List Int)} {k : Nat} (hk : k < L.length) : (L.take (k + 1)).flatten = (L.take k).flatten ++ L.getD k [] := by
  rw [List.take_add_one, List.getElem?_eq_getElem hk, List.getD_eq_getElem?_getD, List.getElem?_eq_getElem hk, List.flatten_append]
  congr 1
  simp
theorem flat_mono (L : List (List Int)) (k : Nat) : (L.take k).flatten.length ≤ L.flatten.length := by
  conv => rhs; rw [← List.take_append_drop k L]
  rw [List.flatten_append, List.length_append]
  omega
set_option maxRecDepth 100000 in
set_option maxHeartbeats 1000000 in
theorem concat_any {w : World} {v : Value} {L : List (List Int)} (h : IsLL w v L) (hs : L.flatten.length ≤ 1000000) :
    Calls Tryz.prog 97 #[v] w fun e w' => ∃ u, e = .returned u ∧ OwnI w' w.heap.size u L.flatten ∧ Below w.heap.size w w' := by
  have H := Lib.hid h
  obtain ⟨ad, cap, rfl, hm⟩ := h.form
  have hm1 : L.length ≤ 9223372036854775807 := by unfold maxLen at hm; omega
  clear h hm
  go_enter Tryz.func97, Tryz.ntmps97
  go_wp2_with fail
  go_loop [3, 11] (fun s i => ∃ k : Nat, k ≤ L.length ∧ i = .int .i64 k ∧ s = .int .i64 ((L.take k).flatten.length : Nat)) (fun _ i => L.length - (intOf i).toNat)
  case atStart => exact ⟨0, Nat.zero_le _, rfl, by simp⟩
  case round =>
    obtain ⟨k, hk, rfl, rfl⟩ := hrel
    by_cases hlt : k < L.length
    · obtain ⟨ta, oa, a1, n1, c1, rfl, hta, ca, hn1, hx1, r1⟩ := ll_at H.out k hlt
      have HS := Lib.hid (flat_take hlt)
      have hmo := flat_mono L (k + 1)
      rw [HS.out, List.length_append, ← hn1] at hmo
      have HN := Lib.hid hn1
      obtain ⟨s, hss⟩ : ∃ s, (L.take k).flatten.length = s := ⟨_, rfl⟩
      rw [hss] at hmo ⊢
      have HSS := Lib.hid hss
      have b1 : (s : Int) + (n1 : Int) ≤ 1000000 := by omega
      have b2 : decide ((s : Int) + (n1 : Int) < 0) = false := decide_eq_false (by omega)
      clear hmo hn1 hx1 r1 hss
      go_wp2_with fail
      go_round
      case rel =>
        refine ⟨k + 1, by omega, by go_num, ?_⟩
        rw [HS.out, List.length_append, HSS.out, ← HN.out]
        go_num
      case measure => simp [intOf]; omega
    · obtain rfl : k = L.length := by omega
      rw [List.take_length]
      clear hlt hk
      obtain ⟨N, hN⟩ : ∃ N, L.flatten.length = N := ⟨_, rfl⟩
      rw [hN]
      have hNs : N ≤ 1000000 := by omega
      have HNN := Lib.hid hN
      clear hN
      go_wp2_with fail
      refine (grow_any N _ hNs).mono ?_
      rintro e w1 ⟨u, rfl, ho, hb⟩
      have HO := Lib.hid ho
      have HB := Lib.hid hb
      clear ho hb
      go_wp2_with fail
      go_loopw [6, 27] (fun u i wr => ∃ k : Nat, k ≤ L.length ∧ i = .int .i64 k ∧ OwnI wr w.heap.size u (L.take k).flatten ∧ Below w.heap.size w wr) (fun _ i _ => L.length - (intOf i).toNat)
      case atStart => exact ⟨0, Nat.zero_le _, rfl, by simpa using HO.out, HB.out⟩
      case round =>
        obtain ⟨k, hk, rfl, hon, hbw⟩ := hrel
        have HON := Lib.hid hon
        have HBW := Lib.hid hbw
        clear hon hbw
        by_cases hlt : k < L.length
        · obtain ⟨ta, oa, a1, n1, c1, rfl, hta, ca, hn1, hx1, r1⟩ := ll_at (H.out.below HBW.out) k hlt
          have HS := Lib.hid (flat_take hlt)
          have hmo := flat_mono L (k + 1)
          rw [HS.out, List.length_append] at hmo
          have HR := Lib.hid r1
          generalize (L.take k).flatten = ys at *
          generalize L.getD k [] = xs at *
          have hmo2 : ys.length + xs.length ≤ 10000000 := by omega
          subst hn1
          obtain ⟨ua, uc, rfl⟩ := HON.out.shape
          clear hmo r1 hx1
          go_wp2_with (first | (at_builtin; refine app_ints rfl _ _ rfl w.heap.size _ ys rfl HON.out _ xs rfl HR.out hmo2 HBW.out.size ?_))
          intro v' w' hown hgrow _
          have HN := Lib.hid hown
          have HB4 := Lib.hid (HBW.out.trans (grown_below hgrow HBW.out.size (fun q hq => (World.ownsRow.lt HON.out q hq).1)))
          clear hown hgrow
          go_wp2
          go_roundw
          case rel => exact ⟨k + 1, by omega, by go_num, by rw [HS.out]; exact HN.out, HB4.out⟩
          case measure => simp [intOf]; omega
        · obtain rfl : k = L.length := by omega
          rw [List.take_length] at HON
          clear hlt hk
          go_wp2
          go_ret
          exact ⟨_, rfl, HON.out, HBW.out⟩
end Go.Proofs.YtgplajofemencaaGreat
/- What plane's row and Matrix answer. -/
namespace Go.Proofs.YtgplajofemencaaGreat
open Go.ChangeShapes Go.WideShapes Go.ChangeAt Go.RowKit

/-- A list of which the first ones are as they should be. -/
def Fill {α : Type} (d : α) (k n : Nat) (f : Nat → α) (ys : List α) : Prop := ys.length = n ∧ ∀ i, i < k → ys.getD i d = f i
theorem Fill.none {α : Type} (d x : α) (n : Nat) (f : Nat → α) : Fill d 0 n f (List.replicate n x) := ⟨by simp, fun i hi => by omega⟩
theorem Fill.next {α : Type} {d : α} {k n : Nat} {f : Nat → α} {ys : List α} (h : Fill d k n f ys) (hk : k < n) {x : α} (hx : x = f k) : Fill d (k + 1) n f (ys.set k x) := by
  refine ⟨by rw [List.length_set]; exact h.1, fun i hi => ?_⟩
  by_cases c : i = k
  · subst c
    rw [List.getD_eq_getElem?_getD, List.getElem?_set_self (by rw [h.1]; exact hk), hx]
    rfl
  · rw [List.getD_eq_getElem?_getD, List.getElem?_set_ne (fun e => c e.symm), ← List.getD_eq_getElem?_getD]
    exact h.2 i (by omega)
theorem Fill.all {α : Type} {d : α} {n : Nat} {f : Nat → α} {ys : List α} (h : Fill d n n f ys) : ys = (List.range n).map f := by
  apply List.ext_getElem
  · simp [h.1]
  · intro i h1 h2
    have := h.2 i (by rw [← h.1]; exact h1)
    rw [List.getD_eq_getElem?_getD, List.getElem?_eq_getElem h1] at this
    simpa using this
/-- How far it is from a stop to each; from each to each. -/
def rowF (l : List Stp) (t : Stp) : List Int := (List.range l.length).map (fun i => farF t (nth l i))
def matF (l : List Stp) : List (List Int) := (List.range l.length).map (fun i => rowF l (nth l i))
def matI (I : Ins) : List (List Int) := if mayB I = true then matF I.l else []
theorem rowF_len (l : List Stp) (t : Stp) : (rowF l t).length = l.length := by simp [rowF]
theorem matF_len (l : List Stp) : (matF l).length = l.length := by simp [matF]
theorem rowF_at (l : List Stp) (t : Stp) (i : Nat) (hi : i < l.length) : (rowF l t).getD i 0 = farF t (nth l i) := by
  unfold rowF
  rw [List.getD_eq_getElem?_getD, List.getElem?_map, List.getElem?_range hi]; rfl
theorem matF_at (l : List Stp) (i : Nat) (hi : i < l.length) : (matF l).getD i [] = rowF l (nth l i) := by
  unfold matF
  rw [List.getD_eq_getElem?_getD, List.getElem?_map, List.getElem?_range hi]; rfl
theorem pmay_len {I : Ins} (h : mayB I = true) : 0 < I.l.length ∧ I.l.length ≤ 33 := by
  have h1 := (may_iff I).1 h
  have h2 := (inb_iff _ _ _).1 h1.1
  have h3 := h1.2.2.2.1
  unfold lenOk at h3
  have := decide_eq_true_iff.1 h3
  omega
theorem OwnI.cell {w : World} {B g n cap : Nat} {l : List Int} (h : OwnI w B (.slice (some ⟨g, 0, none⟩) n cap) l) (i : Nat) (hi : i < l.length) : w.cell? ⟨g, i, none⟩ = some (.int .i64 (l.getD i 0)) := by
  have hn : n = l.length := by
    obtain ⟨a, c, he⟩ := h.shape
    simp at he; exact he.2.1
  subst hn
  rw [(show w.ownsRow B 3 1 (.slice (some ⟨g, 0, none⟩) l.length cap) l.length (ints l) from h).cellAt i (by omega)]
  exact ints_at l i hi
theorem OwnLL.cell {w : World} {B g n cap : Nat} {L : List (List Int)} (h : OwnLL w B (.slice (some ⟨g, 0, none⟩) n cap) L) (i : Nat) (hi : i < L.length) : ∃ x, w.cell? ⟨g, i, none⟩ = some x := by
  obtain ⟨vs, h1, h2⟩ := h
  have hl := h2.in.len
  have hn : n = vs.length := by
    obtain ⟨a, c, he⟩ := own_shape h1
    simp at he; exact he.2.1
  subst hn
  rw [h1.cellAt i (by omega)]
  exact ⟨_, List.getElem?_eq_getElem (by omega)⟩
end Go.Proofs.YtgplajofemencaaGreat
