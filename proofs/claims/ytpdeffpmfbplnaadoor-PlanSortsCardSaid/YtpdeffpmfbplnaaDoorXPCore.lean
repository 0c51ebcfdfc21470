/- What num.Root and the document's own Root answer: for any number the least root from 0 on whose square is not less, as the plain function rootOf has it. -/
import Derived.Test.YtpdeffpmfbplnaaDoorRows
import Derived.Test.YtpdeffpmfbplnaaDoorXMath
import Derived.WalkKit
import Derived.ProofKit
import Derived.OpenShut
import Derived.IntWalk
import Derived.Lib.Hide
import Derived.WalkMore
import Derived.ScopeJumps
import Derived.WalkLawsBesides
import Derived.Laws.ComplexArith
import Derived.Test.YtpdeffpmfbplnaaDoorXIMay
import Derived.Test.YtpdeffpmfbplnaaDoorXIOwn
import Derived.Deep.Cut
namespace Go.Proofs.YtpdeffpmfbplnaaDoor
open Go.ChangeShapes Go.WideShapes Go.ChangeAt Go.RowKit

theorem or_first : bits .or .i64 0 536870912 = 536870912 := by decide

set_option maxRecDepth 1000000 in
theorem root_in (n : Int) (w : World) (h1 : 1 ≤ n) (h2 : n ≤ 1152921504606846976) :
    Calls Tryd.prog 85 #[.int .i64 n] w fun e w' => e = .returned (.int .i64 (rootOf n)) ∧ w = w' := by
  have hst := inv_start n h1 h2
  have HST := Lib.hid hst
  clear hst
  have hlt : decide (n < 1) = false := by simpa using h1
  have hor := or_first
  have hmn : min n 1152921504606846976 = n := by omega
  go_enter Tryd.func85, Tryd.ntmps85
  go_wp2
  refine wp_scope_jumps 0 (fun a' w' => w = w' ∧ ∃ (B T : Int) (u5 u6 u7 u8 u9 u10 u11 u12 u13 u14 u15 u16 u17 u18 u19 u20 u21 u22 : Value), a' = { tmps := #[.int .i64 n, undef, .int .i64 0, .int .i64 B, .int .i64 T, u5, u6, u7, u8, u9, u10, u11, u12, u13, u14, u15, u16, u17, u18, u19, u20, u21, u22, undef, undef], defers := [] } ∧ RootInv n B T) (fun a' _ => (intOf (a'.tmps.getD 4 undef)).toNat) rfl ?_ ?_
  · go_wp2
    go_step3
    go_wp2
    · go_step3
      refine ⟨rfl, rfl, _, _, _, _, _, _, _, _, _, _, _, _, _, _, _, _, _, _, _, _, rfl, ?_⟩
      exact inv_hi n 0 536870912 HST.out (by omega) (by omega)
    · go_step3
      refine ⟨rfl, rfl, _, _, _, _, _, _, _, _, _, _, _, _, _, _, _, _, _, _, _, _, rfl, ?_⟩
      exact inv_lo n 0 536870912 HST.out (by omega) (by omega)
  · rintro a' w' ⟨rfl, B, T, u5, u6, u7, u8, u9, u10, u11, u12, u13, u14, u15, u16, u17, u18, u19, u20, u21, u22, rfl, hI⟩
    have hor := inv_or n B T hI
    obtain ⟨hm1, hm2⟩ := inv_sq n B T hI
    obtain ⟨hb1, hb2, hb3, hb4⟩ := inv_bd n B T hI
    have HI := Lib.hid hI
    clear hI
    go_wp2
    · go_step3
      refine ⟨rfl, ⟨rfl, _, _, _, _, _, _, _, _, _, _, _, _, _, _, _, _, _, _, _, _, rfl, inv_hi n B T HI.out ‹_› ‹_›⟩, ?_⟩
      simp [intOf]
      omega
    · simp only [Exit.jump]
      go_ret
      rw [rootOf_eq n _ h1 h2 (inv_end_hi n B T HI.out ‹_› ‹_›)]
      exact ⟨rfl, rfl⟩
    · go_step3
      refine ⟨rfl, ⟨rfl, _, _, _, _, _, _, _, _, _, _, _, _, _, _, _, _, _, _, _, _, rfl, inv_lo n B T HI.out ‹_› ‹_›⟩, ?_⟩
      simp [intOf]
      omega
    · simp only [Exit.jump]
      go_ret
      rw [rootOf_eq n _ h1 h2 (inv_end_lo n B T HI.out ‹_› ‹_›)]
      exact ⟨rfl, rfl⟩
set_option maxRecDepth 1000000 in
theorem root_over (n : Int) (w : World) (h1 : 1152921504606846976 < n) (h2 : n ≤ 9223372036854775807) :
    Calls Tryd.prog 85 #[.int .i64 n] w fun e w' => e = .returned (.int .i64 (rootOf n)) ∧ w = w' := by
  have hst := inv_start 1152921504606846976 (by omega) (by omega)
  have HST := Lib.hid hst
  clear hst
  have hlt : decide (n < 1) = false := by simp; omega
  have hor := or_first
  have hmn : min n 1152921504606846976 = 1152921504606846976 := by omega
  go_enter Tryd.func85, Tryd.ntmps85
  go_wp2
  refine wp_scope_jumps 0 (fun a' w' => w = w' ∧ ∃ (B T : Int) (u5 u6 u7 u8 u9 u10 u11 u12 u13 u14 u15 u16 u17 u18 u19 u20 u21 u22 : Value), a' = { tmps := #[.int .i64 1152921504606846976, undef, .int .i64 0, .int .i64 B, .int .i64 T, u5, u6, u7, u8, u9, u10, u11, u12, u13, u14, u15, u16, u17, u18, u19, u20, u21, u22, undef, undef], defers := [] } ∧ RootInv 1152921504606846976 B T) (fun a' _ => (intOf (a'.tmps.getD 4 undef)).toNat) rfl ?_ ?_
  · go_wp2
    go_step3
    go_wp2
    · go_step3
      refine ⟨rfl, rfl, _, _, _, _, _, _, _, _, _, _, _, _, _, _, _, _, _, _, _, _, rfl, ?_⟩
      exact inv_hi 1152921504606846976 0 536870912 HST.out (by omega) (by omega)
  · rintro a' w' ⟨rfl, B, T, u5, u6, u7, u8, u9, u10, u11, u12, u13, u14, u15, u16, u17, u18, u19, u20, u21, u22, rfl, hI⟩
    have hor := inv_or 1152921504606846976 B T hI
    obtain ⟨hm1, hm2⟩ := inv_sq 1152921504606846976 B T hI
    obtain ⟨hb1, hb2, hb3, hb4⟩ := inv_bd 1152921504606846976 B T hI
    have HI := Lib.hid hI
    clear hI
    go_wp2
    · go_step3
      refine ⟨rfl, ⟨rfl, _, _, _, _, _, _, _, _, _, _, _, _, _, _, _, _, _, _, _, _, rfl, inv_hi 1152921504606846976 B T HI.out ‹_› ‹_›⟩, ?_⟩
      simp [intOf]
      omega
    · simp only [Exit.jump]
      go_ret
      rw [rootOf_high n (by omega), rootOf_eq 1152921504606846976 _ (by omega) (by omega) (inv_end_hi 1152921504606846976 B T HI.out ‹_› ‹_›)]
      exact ⟨rfl, rfl⟩
    · go_step3
      refine ⟨rfl, ⟨rfl, _, _, _, _, _, _, _, _, _, _, _, _, _, _, _, _, _, _, _, _, rfl, inv_lo 1152921504606846976 B T HI.out ‹_› ‹_›⟩, ?_⟩
      simp [intOf]
      omega
    · simp only [Exit.jump]
      go_ret
      rw [rootOf_high n (by omega), rootOf_eq 1152921504606846976 _ (by omega) (by omega) (inv_end_lo 1152921504606846976 B T HI.out ‹_› ‹_›)]
      exact ⟨rfl, rfl⟩

theorem root_low (n : Int) (w : World) (h : n < 1) :
    Calls Tryd.prog 85 #[.int .i64 n] w fun e w' => e = .returned (.int .i64 (rootOf n)) ∧ w = w' := by
  rw [rootOf_low n h]
  have hlt : decide (n < 1) = true := by simpa using h
  go_enter Tryd.func85, Tryd.ntmps85
  go_wp2
  go_step3
  go_wp2
  rw [Exit.noGoto_ret]
  go_ret
  exact ⟨rfl, rfl⟩

theorem root_any (n : Int) (w : World) (h : n ≤ 9223372036854775807) :
    Calls Tryd.prog 85 #[.int .i64 n] w fun e w' => e = .returned (.int .i64 (rootOf n)) ∧ w = w' := by
  by_cases h1 : n < 1
  · exact root_low n w h1
  · by_cases h2 : n ≤ 1152921504606846976
    · exact root_in n w (by omega) h2
    · exact root_over n w (by omega) h


/-- What the search by halves keeps. -/
def Half (m lo hi : Int) : Prop := 0 ≤ lo ∧ lo < hi ∧ hi ≤ 1073741824 ∧ lo * lo < m ∧ m ≤ hi * hi

theorem half_sq (m lo hi : Int) (h : Half m lo hi) : 0 ≤ (lo + hi) / 2 * ((lo + hi) / 2) ∧ (lo + hi) / 2 * ((lo + hi) / 2) ≤ 1152921504606846976 := by
  obtain ⟨h1, h2, h3, -, -⟩ := h
  have := sq_mono 0 ((lo + hi) / 2) (by omega) (by omega)
  have := sq_mono ((lo + hi) / 2) 1073741824 (by omega) (by omega)
  omega
theorem half_hi (m lo hi : Int) (h : Half m lo hi) (hg : 1 < hi - lo) (ht : m ≤ (lo + hi) / 2 * ((lo + hi) / 2)) : Half m lo ((lo + hi) / 2) := by
  obtain ⟨h1, h2, h3, h4, -⟩ := h
  exact ⟨h1, by omega, by omega, h4, ht⟩
theorem half_lo (m lo hi : Int) (h : Half m lo hi) (hg : 1 < hi - lo) (ht : (lo + hi) / 2 * ((lo + hi) / 2) < m) : Half m ((lo + hi) / 2) hi := by
  obtain ⟨h1, h2, h3, -, h5⟩ := h
  exact ⟨by omega, by omega, h3, ht, h5⟩
theorem half_end (m lo hi : Int) (h : Half m lo hi) (hg : hi - lo ≤ 1) : IsRoot m hi := by
  obtain ⟨h1, h2, h3, h4, h5⟩ := h
  refine ⟨by omega, ?_, h5⟩
  rw [show hi - 1 = lo by omega]; exact h4

theorem rroot_low (n : Int) (w : World) (h : n < 1) :
    Calls Tryd.prog 75 #[.int .i64 n] w fun e w' => e = .returned (.int .i64 (rootOf n)) ∧ w = w' := by
  rw [rootOf_low n h]
  go_enter Tryd.func75, Tryd.ntmps75
  go_wp2
  go_ret
  exact ⟨rfl, rfl⟩

theorem rroot_in (n : Int) (w : World) (h1 : 1 ≤ n) (h2 : n ≤ 1152921504606846976) :
    Calls Tryd.prog 75 #[.int .i64 n] w fun e w' => e = .returned (.int .i64 (rootOf n)) ∧ w = w' := by
  have hlt : decide (n < 1) = false := by simpa using h1
  have hgt : decide (1152921504606846976 < n) = false := by simpa using h2
  go_enter Tryd.func75, Tryd.ntmps75
  go_wp2
  go_loop [3, 4] (fun l h => ∃ lo hi : Int, l = .int .i64 lo ∧ h = .int .i64 hi ∧ Half n lo hi) (fun l h => (intOf h - intOf l).toNat)
  case atStart => exact ⟨0, 1073741824, rfl, rfl, by omega, by omega, by omega, by omega, by omega⟩
  case round =>
    obtain ⟨lo, hi, rfl, rfl, hI⟩ := hrel
    obtain ⟨q1, q2⟩ := half_sq n lo hi hI
    obtain ⟨b1, b2, b3⟩ : 0 ≤ lo ∧ lo < hi ∧ hi ≤ 1073741824 := ⟨hI.1, hI.2.1, hI.2.2.1⟩
    have HI := Lib.hid hI
    clear hI
    by_cases hg : 1 < hi - lo
    · by_cases ht : n ≤ (lo + hi) / 2 * ((lo + hi) / 2)
      · go_wp2
        go_round
        case rel => exact ⟨_, _, rfl, rfl, half_hi n lo hi HI.out hg ht⟩
        case measure => simp [intOf]; omega
      · have ht' : (lo + hi) / 2 * ((lo + hi) / 2) < n := by omega
        go_wp2
        go_round
        case rel => exact ⟨_, _, rfl, rfl, half_lo n lo hi HI.out hg ht'⟩
        case measure => simp [intOf]; omega
    · go_wp2
      go_ret
      rw [rootOf_eq n hi h1 h2 (half_end n lo hi HI.out (by omega))]
      exact ⟨rfl, rfl⟩

theorem rroot_over (n : Int) (w : World) (h1 : 1152921504606846976 < n) :
    Calls Tryd.prog 75 #[.int .i64 n] w fun e w' => e = .returned (.int .i64 (rootOf n)) ∧ w = w' := by
  have hlt : decide (n < 1) = false := by simp; omega
  have hgt : decide (1152921504606846976 < n) = true := by simpa using h1
  go_enter Tryd.func75, Tryd.ntmps75
  go_wp2
  go_loop [3, 4] (fun l h => ∃ lo hi : Int, l = .int .i64 lo ∧ h = .int .i64 hi ∧ Half 1152921504606846976 lo hi) (fun l h => (intOf h - intOf l).toNat)
  case atStart => exact ⟨0, 1073741824, rfl, rfl, by omega, by omega, by omega, by omega, by omega⟩
  case round =>
    obtain ⟨lo, hi, rfl, rfl, hI⟩ := hrel
    obtain ⟨q1, q2⟩ := half_sq 1152921504606846976 lo hi hI
    obtain ⟨b1, b2, b3⟩ : 0 ≤ lo ∧ lo < hi ∧ hi ≤ 1073741824 := ⟨hI.1, hI.2.1, hI.2.2.1⟩
    have HI := Lib.hid hI
    clear hI
    by_cases hg : 1 < hi - lo
    · by_cases ht : 1152921504606846976 ≤ (lo + hi) / 2 * ((lo + hi) / 2)
      · go_wp2
        go_round
        case rel => exact ⟨_, _, rfl, rfl, half_hi _ lo hi HI.out hg ht⟩
        case measure => simp [intOf]; omega
      · have ht' : (lo + hi) / 2 * ((lo + hi) / 2) < 1152921504606846976 := by omega
        go_wp2
        go_round
        case rel => exact ⟨_, _, rfl, rfl, half_lo _ lo hi HI.out hg ht'⟩
        case measure => simp [intOf]; omega
    · go_wp2
      go_ret
      rw [rootOf_high n (by omega), rootOf_eq 1152921504606846976 hi (by omega) (by omega) (half_end _ lo hi HI.out (by omega))]
      exact ⟨rfl, rfl⟩

theorem rroot_any (n : Int) (w : World) :
    Calls Tryd.prog 75 #[.int .i64 n] w fun e w' => e = .returned (.int .i64 (rootOf n)) ∧ w = w' := by
  by_cases h1 : n < 1
  · exact rroot_low n w h1
  · by_cases h2 : n ≤ 1152921504606846976
    · exact rroot_in n w (by omega) h2
    · exact rroot_over n w (by omega)
end Go.Proofs.YtpdeffpmfbplnaaDoor
/- A whole number below 2^53 as a float64: what a float holds of it, that it comes back whole, and that a difference of two is it exactly. Nothing of the program stands here. -/
namespace Go.Proofs.YtpdeffpmfbplnaaDoor
open Ieee

/-- The datum stands for this whole number: with its digits moved up by some places. -/
def Whole (n : Int) (d : Datum) : Prop := ∃ p : Nat, d = .number (decide (n < 0)) (n.natAbs * 2 ^ p) (-(p : Int))

theorem log_add (m p : Nat) (h : 0 < m) : (m * 2 ^ p).log2 = m.log2 + p := by
  induction p with
  | zero => simp
  | succ p ih =>
    have h2 : m * 2 ^ (p + 1) = 2 * (m * 2 ^ p) := by rw [Nat.pow_succ]; simp [Nat.mul_comm, Nat.mul_left_comm]
    have hp : 0 < m * 2 ^ p := Nat.mul_pos h (Nat.two_pow_pos p)
    rw [h2, Nat.log2_two_mul (by omega), ih]
    omega

theorem log_le (m : Nat) (h0 : 0 < m) (h : m < 9007199254740992) : m.log2 ≤ 52 := by
  have := (Nat.log2_lt (n := m) (k := 53) (by omega)).2 (by simpa using h)
  omega

theorem norm_bd (m : Nat) (h0 : 0 < m) (h : m < 9007199254740992) : 4503599627370496 ≤ m * 2 ^ (52 - m.log2) ∧ m * 2 ^ (52 - m.log2) < 9007199254740992 := by
  have hl := log_le m h0 h
  have h1 : 2 ^ m.log2 ≤ m := Nat.log2_self_le (by omega)
  have h2 : m < 2 ^ (m.log2 + 1) := Nat.lt_log2_self
  have e1 : 2 ^ m.log2 * 2 ^ (52 - m.log2) = 4503599627370496 := by rw [← Nat.pow_add, show m.log2 + (52 - m.log2) = 52 by omega]
  have e2 : 2 ^ (m.log2 + 1) * 2 ^ (52 - m.log2) = 9007199254740992 := by rw [← Nat.pow_add, show m.log2 + 1 + (52 - m.log2) = 53 by omega]
  have hp := Nat.two_pow_pos (52 - m.log2)
  constructor
  · rw [← e1]; exact Nat.mul_le_mul_right _ h1
  · rw [← e2]; exact Nat.mul_lt_mul_of_pos_right h2 hp

/-- The digits that are cut off are noughts. -/
theorem cut_whole (way : Toward) (neg : Bool) (m drop : Nat) (h : drop ≤ (m * 2 ^ drop).log2 + 2) : way.cut neg (m * 2 ^ drop) drop = m := by
  have hg : (1 <<< min drop ((m * 2 ^ drop).log2 + 2) : Nat) = 2 ^ drop := by rw [Nat.min_eq_left h, Nat.shiftLeft_eq, Nat.one_mul]
  unfold Toward.cut
  dsimp only
  rw [hg]
  have hp := Nat.two_pow_pos drop
  rw [Nat.mul_div_cancel _ hp, Nat.mul_mod_left]
  have hz : decide (2 ^ drop < 2 * 0) = false := by simp
  have hz2 : (2 ^ drop == 2 * 0) = false := by simp
  cases way <;> simp [hz2]

theorem near_whole (neg : Bool) (m p : Nat) (h0 : 0 < m) (h : m < 9007199254740992) :
    double.nearest neg (m * 2 ^ p) (-(p : Int)) = double.word neg ((m.log2 + 1022) * 4503599627370496 + m * 2 ^ (52 - m.log2)) := by
  have hl := log_le m h0 h
  have hpos : m * 2 ^ p ≠ 0 := by have := Nat.mul_pos h0 (Nat.two_pow_pos p); omega
  have hn := norm_bd m h0 h
  unfold Format.nearest
  rw [if_neg hpos]
  dsimp only
  rw [log_add m p h0]
  have hlast : max (-(p : Int) + ((m.log2 + p : Nat) : Int) - (double.fractionBits : Int)) double.leastPlace = (m.log2 : Int) - 52 := by
    have e1 : (double.fractionBits : Int) = 52 := rfl
    have e2 : double.leastPlace = -1074 := by decide
    rw [e1, e2]
    omega
  rw [hlast]
  have e2 : double.leastPlace = -1074 := by decide
  have e3 : double.binade = 4503599627370496 := by decide
  have e4 : double.infRung = 9218868437227405312 := by decide
  have hk : Toward.even.cut neg ((m * 2 ^ p) <<< (-(p : Int) - ((m.log2 : Int) - 52)).toNat) ((m.log2 : Int) - 52 - -(p : Int)).toNat = m * 2 ^ (52 - m.log2) := by
    by_cases hc : p + m.log2 ≤ 52
    · rw [show ((m.log2 : Int) - 52 - -(p : Int)).toNat = 0 by omega, show (-(p : Int) - ((m.log2 : Int) - 52)).toNat = 52 - m.log2 - p by omega, Nat.shiftLeft_eq, Nat.mul_assoc, ← Nat.pow_add, show p + (52 - m.log2 - p) = 52 - m.log2 by omega]
      have := cut_whole .even neg (m * 2 ^ (52 - m.log2)) 0 (by omega)
      simpa using this
    · rw [show (-(p : Int) - ((m.log2 : Int) - 52)).toNat = 0 by omega, Nat.shiftLeft_zero, show ((m.log2 : Int) - 52 - -(p : Int)).toNat = p + m.log2 - 52 by omega]
      have e : m * 2 ^ p = (m * 2 ^ (52 - m.log2)) * 2 ^ (p + m.log2 - 52) := by rw [Nat.mul_assoc, ← Nat.pow_add, show 52 - m.log2 + (p + m.log2 - 52) = p by omega]
      have hlog : (m * 2 ^ p).log2 = m.log2 + p := log_add m p h0
      rw [e] at hlog ⊢
      exact cut_whole .even neg _ _ (by omega)
  rw [hk, e2, e3, e4, show ((m.log2 : Int) - 52 - -1074).toNat = m.log2 + 1022 by omega]
  rw [Nat.min_eq_left (by omega)]

theorem read_word (neg : Bool) (l f : Nat) (hl : l ≤ 1022) (h1 : 4503599627370496 ≤ f) (h2 : f < 9007199254740992) :
    double.read (double.word neg ((l + 1022) * 4503599627370496 + f)) = .number neg f ((l : Int) - 52) := by
  have e1 : double.signWeight = 9223372036854775808 := by decide
  have e2 : double.leastPlace = -1074 := by decide
  have e3 : double.binade = 4503599627370496 := by decide
  have e4 : double.infRung = 9218868437227405312 := by decide
  have hm : double.word neg ((l + 1022) * 4503599627370496 + f) % 9223372036854775808 = (l + 1022) * 4503599627370496 + f := by
    unfold Format.word; rw [e1]; split <;> omega
  have hs : (double.word neg ((l + 1022) * 4503599627370496 + f) / 9223372036854775808 % 2 == 1) = neg := by
    unfold Format.word; rw [e1]
    cases neg
    · rw [if_neg (by simp), show ((l + 1022) * 4503599627370496 + f) / 9223372036854775808 = 0 by omega]; rfl
    · rw [if_pos rfl, show (9223372036854775808 + ((l + 1022) * 4503599627370496 + f)) / 9223372036854775808 = 1 by omega]; rfl
  unfold Format.read
  dsimp only
  rw [e1, e2, e3, e4, hm, hs, if_neg (by omega), if_pos (by omega)]
  refine congr (congrArg (Datum.number neg) ?_) ?_ <;> omega

/-- A whole number's float, however its digits stood: always the same word. -/
theorem write_whole (n : Int) (p : Nat) (h : n.natAbs < 9007199254740992) : FloatKind.f64.encode (.number (decide (n < 0)) (n.natAbs * 2 ^ p) (-(p : Int))) = floatOfInt .f64 n := by
  show double.nearest _ _ _ = double.nearest _ _ _
  by_cases hz : n = 0
  · subst hz; simp [Format.nearest]
  · rw [near_whole _ _ p (by omega) h]
    have := near_whole (decide (n < 0)) n.natAbs 0 (by omega) h
    rw [Nat.pow_zero, Nat.mul_one] at this
    exact this.symm

theorem zero_whole (p : Nat) : Whole 0 (.number false 0 (-(p : Int))) := ⟨p, by simp⟩

theorem read_float (n : Int) (h : n.natAbs < 9007199254740992) : Whole n (FloatKind.f64.decode (floatOfInt .f64 n)) := by
  by_cases hz : n = 0
  · subst hz
    have e0 : floatOfInt .f64 0 = 0 := by decide
    rw [e0]
    have e1 : FloatKind.f64.decode 0 = .number false 0 (-1074) := by decide
    rw [e1]
    exact zero_whole 1074
  · refine ⟨52 - n.natAbs.log2, ?_⟩
    have h0 : 0 < n.natAbs := by omega
    have hl := log_le _ h0 h
    have hn := norm_bd _ h0 h
    show double.read (double.nearest (decide (n < 0)) n.natAbs 0) = _
    have := near_whole (decide (n < 0)) n.natAbs 0 h0 h
    rw [Nat.pow_zero, Nat.mul_one] at this
    have this2 : double.nearest (decide (n < 0)) n.natAbs 0 = _ := this
    rw [this2, read_word _ _ _ (by omega) hn.1 hn.2]
    congr 1
    omega

theorem signed_whole (n : Int) (p q : Nat) : signed (decide (n < 0)) (n.natAbs * 2 ^ p) q = n * 2 ^ (p + q) := by
  unfold signed
  rw [Nat.shiftLeft_eq, Nat.mul_assoc, ← Nat.pow_add]
  by_cases hn : n < 0
  · rw [if_pos (by simpa using hn), Int.natCast_mul, Int.natCast_pow, show ((n.natAbs : Nat) : Int) = -n by omega, Int.neg_mul, Int.neg_neg]
    rfl
  · rw [if_neg (by simpa using hn), Int.natCast_mul, Int.natCast_pow, show ((n.natAbs : Nat) : Int) = n by omega]
    rfl

theorem signed_not (s : Bool) (m q : Nat) : signed (!s) m q = -signed s m q := by
  cases s <;> simp [signed]

theorem sum_whole (a b : Int) (d e : Datum) (hd : Whole a d) (he : Whole b e) : ∃ f, d.sum e.opposite = some f ∧ Whole (a - b) f := by
  obtain ⟨p, rfl⟩ := hd
  obtain ⟨q, rfl⟩ := he
  refine ⟨_, rfl, ?_⟩
  have hb : min (-(p : Int)) (-(q : Int)) = -((max p q : Nat) : Int) := by omega
  rw [hb, show (-(p : Int) - -((max p q : Nat) : Int)).toNat = max p q - p by omega, show (-(q : Int) - -((max p q : Nat) : Int)).toNat = max p q - q by omega]
  rw [signed_not, signed_whole, signed_whole, show p + (max p q - p) = max p q by omega, show q + (max p q - q) = max p q by omega]
  generalize max p q = M
  have e1 : a * 2 ^ M + -(b * 2 ^ M) = (a - b) * 2 ^ M := by rw [Int.sub_mul]; omega
  have hM : (0 : Int) < 2 ^ M := Int.pow_pos (by omega)
  rw [e1]
  refine ⟨M, ?_⟩
  have e2 : ((a - b) * 2 ^ M).natAbs = (a - b).natAbs * 2 ^ M := by rw [Int.natAbs_mul, Int.natAbs_pow]; rfl
  rw [e2]
  congr 1
  by_cases hz : a - b = 0
  · have : a = b := by omega
    subst this
    simp
  · have hne : (a - b) * 2 ^ M ≠ 0 := Int.mul_ne_zero hz (by omega)
    rw [if_neg hne]
    by_cases hn : a - b < 0
    · have : (a - b) * 2 ^ M < 0 := Int.mul_neg_of_neg_of_pos hn hM
      simp [hn, this]
    · have : 0 ≤ (a - b) * 2 ^ M := Int.mul_nonneg (by omega) (by omega)
      simp [hn, this]

/-- The difference of two floats that are whole is whole, and exact. -/
theorem sub_float (a b : Int) (ha : a.natAbs < 9007199254740992) (hb : b.natAbs < 9007199254740992) (hc : (a - b).natAbs < 9007199254740992) :
    floatBits .sub .f64 (floatOfInt .f64 a) (floatOfInt .f64 b) = some (floatOfInt .f64 (a - b)) := by
  obtain ⟨f, hf, p, rfl⟩ := sum_whole a b _ _ (read_float a ha) (read_float b hb)
  show (Datum.sum _ _).map _ = _
  have hf' : (double.read (floatOfInt .f64 a)).sum (double.read (floatOfInt .f64 b)).opposite = _ := hf
  show ((double.read (floatOfInt .f64 a)).sum (double.read (floatOfInt .f64 b)).opposite).map double.write = _
  rw [hf']
  exact congrArg some (write_whole (a - b) p hc)

theorem toInt_whole (n : Int) (d : Datum) (h : Whole n d) (hn : n.natAbs < 9007199254740992) : d.toInt .zero = some n := by
  obtain ⟨p, rfl⟩ := h
  unfold Datum.toInt Datum.integral
  dsimp only
  rw [show (-(p : Int)).toNat = 0 by omega, Nat.shiftLeft_zero, show (- -(p : Int)).toNat = p by omega]
  have hc : Toward.zero.cut (decide (n < 0)) (n.natAbs * 2 ^ p) p = n.natAbs := by
    by_cases hz : n = 0
    · subst hz; simp [Toward.cut]
    · exact cut_whole _ _ _ _ (by rw [log_add _ _ (by omega)]; omega)
  rw [hc]
  have := signed_whole n 0 0
  simpa using this

/-- A whole number that went into a float comes back. -/
theorem back_float (n : Int) (hn : n.natAbs < 9007199254740992) : floatToIntVal .f64 (floatOfInt .f64 n) .i64 = some n := by
  unfold floatToIntVal
  rw [toInt_whole n _ (read_float n hn) hn]
  have h1 : IntKind.i64.min = -9223372036854775808 := by decide
  have h2 : IntKind.i64.max = 9223372036854775807 := by decide
  dsimp only
  rw [h1, h2, if_pos (by omega)]

theorem sub_places (a b c d : Int) (ha : 0 ≤ a ∧ a ≤ 10000) (hb : 0 ≤ b ∧ b ≤ 10000) (hc : 0 ≤ c ∧ c ≤ 10000) (hd : 0 ≤ d ∧ d ≤ 10000) :
    cSumBits .sub .f64 (floatOfInt .f64 a) (floatOfInt .f64 b) (floatOfInt .f64 c) (floatOfInt .f64 d) = some (floatOfInt .f64 (a - c), floatOfInt .f64 (b - d)) := by
  unfold cSumBits
  rw [sub_float a c (by omega) (by omega) (by omega), sub_float b d (by omega) (by omega) (by omega)]
  rfl

end Go.Proofs.YtpdeffpmfbplnaaDoor
/- What coord, place, Far and the document's bound and Far answer. -/
namespace Go.Proofs.YtpdeffpmfbplnaaDoor
open Go.ChangeShapes Go.WideShapes Go.ChangeAt Go.RowKit

theorem ret_float {a b : Int} (h : a = b) : Ending.returned (.float .f64 (floatOfInt .f64 a)) = .returned (.float .f64 (floatOfInt .f64 b)) := by rw [h]
theorem coord_any (n : Int) (w : World) : Calls Tryd.prog 90 #[.int .i64 n] w fun e w' => e = .returned (.float .f64 (floatOfInt .f64 (cl n))) ∧ w' = w := by
  go_enter Tryd.func90, Tryd.ntmps90
  go_wp2
  all_goals
    go_ret
    refine ⟨ret_float ?_, rfl⟩
    unfold cl
    (try split at *) <;> omega
theorem bound_any (n : Int) (w : World) : Calls Tryd.prog 74 #[.int .i64 n] w fun e w' => e = .returned (.int .i64 (cl n)) ∧ w' = w := by
  have key : (decide (n < 0) = true ∧ cl n = 0) ∨ (decide (n < 0) = false ∧ decide (10000 < n) = true ∧ cl n = 10000) ∨ (decide (n < 0) = false ∧ decide (10000 < n) = false ∧ cl n = n) := by
    unfold cl
    simp only [decide_eq_true_eq, decide_eq_false_iff_not]; omega
  rcases key with ⟨d1, d3⟩ | ⟨d1, d2, d3⟩ | ⟨d1, d2, d3⟩
  all_goals
    rw [d3]
    clear d3
    go_enter Tryd.func74, Tryd.ntmps74
    go_wp2
    go_ret
    exact ⟨rfl, rfl⟩
/-- A stop in its box. -/
def boxS (t : Stp) : Obj := .cells #[.int .i64 t.x, .int .i64 t.y, .int .i64 t.d, .int .i64 t.r, .int .i64 t.u, .int .i64 t.s] 76
def cellsP (N : Nat) (t : Stp) : List (Addr × Value) := [(⟨N, 0, none⟩, .int .i64 t.x), (⟨N, 1, none⟩, .int .i64 t.y), (⟨N, 2, none⟩, .int .i64 t.d), (⟨N, 3, none⟩, .int .i64 t.r), (⟨N, 4, none⟩, .int .i64 t.u), (⟨N, 5, none⟩, .int .i64 t.s)]
theorem holds_boxS (w : World) (t : Stp) : Holds (cellsP w.heap.size t) (w.alloc (boxS t)) := by
  have h : ∀ i, (w.alloc (boxS t)).cell? ⟨w.heap.size, i, none⟩ = (rowV t)[i]? := fun i => by
    unfold boxS; rw [cell_of_row _ _ _ _ _ _ (heap_alloc_new w _)]; simp [rowV]
  exact ⟨h 0, h 1, h 2, h 3, h 4, h 5, trivial⟩
theorem lows_P {M N : Nat} {t : Stp} (h : N < M) : Lows M (cellsP N t) := ⟨h, h, h, h, h, h, trivial⟩
set_option maxRecDepth 1000000 in
set_option maxHeartbeats 1000000 in
theorem place_any (t : Stp) (w : World) : Calls Tryd.prog 87 #[stopV t] w fun e w' => e = .returned (.complex .f64 (floatOfInt .f64 (cl t.x)) (floatOfInt .f64 (cl t.y))) ∧ Below w.heap.size w w' := by
  unfold stopV
  go_enter Tryd.func87, Tryd.ntmps87
  go_wp2_with fail
  change Code.wp _ _ _ _ (w.alloc (boxS t))
  have HS0 := Lib.hid (show Holds (cellsP w.heap.size t) (w.alloc (boxS t)).drew from holds_boxS w t)
  have hlt := Lib.hid (show Lows (w.alloc (boxS t)).drew.heap.size (cellsP w.heap.size t) from lows_P (by simp [World.drew]))
  have HB1 := Lib.hid (((Below.refl _ w).alloc (Nat.le_refl _) (boxS t)).drew)
  generalize w.alloc (boxS t) = W at *
  have hNW : w.heap.size ≤ W.drew.heap.size := HB1.out.size
  refine wp_region_held_drew (S := Holds (cellsP w.heap.size t)) (by kernel_rfl) HS0.out (fun hSn => ?_)
  have Bc := Lib.hid (Below.refl W.drew.heap.size W.drew)
  unfold cellsP at *
  refine tks [0, 1, 3, 4] 4 rfl (by kernel_rfl) (fun _ _ _ _ h => h) (by assumption) (fun KT hKT => ?_)
  iterate 4 (refine tkT (by (simp only [gA, gB, gC]; rfl)) (by rfl) (by (intro w hSw; (simp only [Holds] at hSw); go_simp <;> with_reducible rfl)) ?_; simp only [Act.put, pA, pB, pC])
  refine hKT _ ?_
  clear KT hKT
  refine wpAnyH_ready (rs := [2]) (by kernel_rfl) (by simp) ?_
  refine AllReadyH.cons (o := ?oz1) ?iz1 (fun K hK => ?kz1) AllReadyH.nil
  case iz1 => (simp only [List.getElem?_toArray, List.getElem?_cons_zero, List.getElem?_cons_succ]; rfl)
  go_simp
  refine (coord_any _ _).mono ?_
  rintro e w' ⟨rfl, rfl⟩
  refine held_more hK HS0.out hlt Bc.out (fun Bc hSn => ?_)
  refine wpAnyH_ready (rs := [5]) (by kernel_rfl) (by simp) ?_
  refine AllReadyH.cons (o := ?oz2) ?iz2 (fun K hK => ?kz2) AllReadyH.nil
  case iz2 => (simp only [List.getElem?_toArray, List.getElem?_cons_zero, List.getElem?_cons_succ]; rfl)
  go_simp
  refine (coord_any _ _).mono ?_
  rintro e w' ⟨rfl, rfl⟩
  refine held_more hK HS0.out hlt Bc.out (fun Bc hSn => ?_)
  refine tks [6, 7] 2 rfl (by kernel_rfl) (fun _ _ _ _ h => h) (by assumption) (fun KT hKT => ?_)
  iterate 2 (refine tkT (by (simp only [gA, gB, gC]; rfl)) (by rfl) (by (intro w hSw; (simp only [Holds] at hSw); go_simp <;> with_reducible rfl)) ?_; simp only [Act.put, pA, pB, pC])
  refine hKT _ ?_
  clear KT hKT
  refine wpAnyH_done (by kernel_rfl) ?_ _
  go_wp2
  go_ret
  exact ⟨rfl, HB1.out.trans (Bc.out.mono hNW)⟩
/-- The square of how far it is. -/
def sqF (a b : Stp) : Int := (cl b.x - cl a.x) * (cl b.x - cl a.x) + (cl b.y - cl a.y) * (cl b.y - cl a.y)
/-- A place, as a complex number. -/
def cV (t : Stp) : Value := .complex .f64 (floatOfInt .f64 (cl t.x)) (floatOfInt .f64 (cl t.y))
theorem sqF_bd (a b : Stp) : 0 ≤ sqF a b ∧ sqF a b ≤ 200000000 := by
  have hax := cl_bd a.x
  have hay := cl_bd a.y
  have hbx := cl_bd b.x
  have hby := cl_bd b.y
  obtain ⟨s1, s2⟩ := sq_bd (cl b.x - cl a.x) (by omega) (by omega)
  obtain ⟨s3, s4⟩ := sq_bd (cl b.y - cl a.y) (by omega) (by omega)
  unfold sqF
  omega
theorem farF_sq (a b : Stp) : farF a b = rootOf (sqF a b) := rfl
set_option maxRecDepth 1000000 in
set_option maxHeartbeats 1000000 in
theorem squared_any (a b : Stp) (w : World) : Calls Tryd.prog 86 #[cV a, cV b] w fun e w' => e = .returned (.int .i64 (sqF a b)) ∧ w = w' := by
  have hax := cl_bd a.x
  have hay := cl_bd a.y
  have hbx := cl_bd b.x
  have hby := cl_bd b.y
  have hsub : ∀ w, (binOp .sub 117 (.complex .f64 (floatOfInt .f64 (cl b.x)) (floatOfInt .f64 (cl b.y))) (.complex .f64 (floatOfInt .f64 (cl a.x)) (floatOfInt .f64 (cl a.y)))).run Tryd.prog w = .ok (.complex .f64 (floatOfInt .f64 (cl b.x - cl a.x)) (floatOfInt .f64 (cl b.y - cl a.y))) w :=
    fun w => run_complex_sum w .sub (.inr rfl) _ _ _ _ _ _ _ _ (sub_places _ _ _ _ hbx hby hax hay)
  have hF := Lib.hid (show sqF a b = (cl b.x - cl a.x) * (cl b.x - cl a.x) + (cl b.y - cl a.y) * (cl b.y - cl a.y) from rfl)
  have d1 : -10000 ≤ cl b.x - cl a.x ∧ cl b.x - cl a.x ≤ 10000 := by omega
  have d2 : -10000 ≤ cl b.y - cl a.y ∧ cl b.y - cl a.y ≤ 10000 := by omega
  unfold cV
  go_enter Tryd.func86, Tryd.ntmps86
  go_upto_region 2 with fail
  clear hsub hax hay hbx hby
  generalize cl b.x - cl a.x = dx at *
  generalize cl b.y - cl a.y = dy at *
  have hcx : ∀ w, (convert 121 3 (.float .f64 (floatOfInt .f64 dx))).run Tryd.prog w = .ok (.int .i64 dx) w := fun w => run_convert_float_int w _ _ _ _ _ _ (by rw [Tryd.underlying121]; rfl) Tryd.underlying3 (back_float _ (by omega))
  have hcy : ∀ w, (convert 121 3 (.float .f64 (floatOfInt .f64 dy))).run Tryd.prog w = .ok (.int .i64 dy) w := fun w => run_convert_float_int w _ _ _ _ _ _ (by rw [Tryd.underlying121]; rfl) Tryd.underlying3 (back_float _ (by omega))
  obtain ⟨s1, s2⟩ := sq_bd dx d1.1 d1.2
  obtain ⟨s3, s4⟩ := sq_bd dy d2.1 d2.2
  have s5 : dx * dx + dy * dy ≤ 200000000 := by omega
  have s6 : 0 ≤ dx * dx + dy * dy := by omega
  go_wp2
  go_ret
  exact ⟨ret_int hF.out.symm, rfl⟩
set_option maxRecDepth 1000000 in
set_option maxHeartbeats 1000000 in
theorem far_any (a b : Stp) (w : World) : Calls Tryd.prog 82 #[stopV a, stopV b] w fun e w' => e = .returned (.int .i64 (farF a b)) ∧ Below w.heap.size w w' := by
  have hF := Lib.hid (farF_sq a b)
  have hb2 := Lib.hid (sqF_bd a b)
  unfold stopV
  go_enter Tryd.func82, Tryd.ntmps82
  go_wp2_with fail
  change Code.wp _ _ _ _ ((w.alloc (boxS a)).alloc (boxS b))
  have HB1 := Lib.hid ((((Below.refl _ w).alloc (Nat.le_refl _) (boxS a)).alloc (by simp) (boxS b)).drew)
  have HS0 := Lib.hid (show Holds (cellsP w.heap.size a ++ cellsP (w.heap.size + 1) b) ((w.alloc (boxS a)).alloc (boxS b)).drew from Holds.app.2
    ⟨Holds.below (M := (w.alloc (boxS a)).heap.size) ((Below.refl _ (w.alloc (boxS a))).alloc (Nat.le_refl _) (boxS b)) (holds_boxS w a) (lows_P (by simp)), by have := holds_boxS (w.alloc (boxS a)) b; rw [show (w.alloc (boxS a)).heap.size = w.heap.size + 1 by simp] at this; exact this⟩)
  have hlt := Lib.hid (show Lows ((w.alloc (boxS a)).alloc (boxS b)).drew.heap.size (cellsP w.heap.size a ++ cellsP (w.heap.size + 1) b) from Lows.app (lows_P (by simp [World.drew]; omega)) (lows_P (by simp [World.drew])))
  generalize (w.alloc (boxS a)).alloc (boxS b) = W at *
  have hNW : w.heap.size ≤ W.drew.heap.size := HB1.out.size
  refine wp_region_held_drew (S := Holds (cellsP w.heap.size a ++ cellsP (w.heap.size + 1) b)) (by kernel_rfl) HS0.out (fun hSn => ?_)
  have Bc := Lib.hid (Below.refl W.drew.heap.size W.drew)
  simp only [cellsP, List.cons_append, List.nil_append] at *
  refine tks [0, 2] 2 rfl (by kernel_rfl) (fun _ _ _ _ h => h) (by assumption) (fun KT hKT => ?_)
  iterate 2 (refine tkT (by (simp only [gA, gB, gC]; rfl)) (by rfl) (by (intro w hSw; (simp only [Holds] at hSw); go_simp <;> with_reducible rfl)) ?_; simp only [Act.put, pA, pB, pC])
  refine hKT _ ?_
  clear KT hKT
  refine wpAnyH_ready (rs := [1]) (by kernel_rfl) (by simp) ?_
  refine AllReadyH.cons (o := ?oz3) ?iz3 (fun K hK => ?kz3) AllReadyH.nil
  case iz3 => (simp only [List.getElem?_toArray, List.getElem?_cons_zero, List.getElem?_cons_succ]; rfl)
  go_simp
  change Calls _ _ #[stopV a] _ _
  refine (place_any a _).mono ?_
  rintro e w' ⟨rfl, hb⟩
  refine held_more hK HS0.out hlt (Bc.out.trans (hb.mono Bc.out.size)) (fun Bc hSn => ?_)
  clear hb hK
  refine wpAnyH_ready (rs := [3]) (by kernel_rfl) (by simp) ?_
  refine AllReadyH.cons (o := ?oz4) ?iz4 (fun K hK => ?kz4) AllReadyH.nil
  case iz4 => (simp only [List.getElem?_toArray, List.getElem?_cons_zero, List.getElem?_cons_succ]; rfl)
  go_simp
  change Calls _ _ #[stopV b] _ _
  refine (place_any b _).mono ?_
  rintro e w' ⟨rfl, hb⟩
  refine held_more hK HS0.out hlt (Bc.out.trans (hb.mono Bc.out.size)) (fun Bc hSn => ?_)
  clear hb hK
  refine wpAnyH_ready (rs := [4]) (by kernel_rfl) (by simp) ?_
  refine AllReadyH.cons (o := ?oz5) ?iz5 (fun K hK => ?kz5) AllReadyH.nil
  case iz5 => (simp only [List.getElem?_toArray, List.getElem?_cons_zero, List.getElem?_cons_succ]; rfl)
  go_simp
  change Calls _ _ #[cV a, cV b] _ _
  refine (squared_any a b _).mono ?_
  rintro e w' ⟨rfl, rfl⟩
  refine held_more hK HS0.out hlt Bc.out (fun Bc hSn => ?_)
  clear hK
  refine wpAnyH_ready (rs := [5]) (by kernel_rfl) (by simp) ?_
  refine AllReadyH.cons (o := ?oz6) ?iz6 (fun K hK => ?kz6) AllReadyH.nil
  case iz6 => (simp only [List.getElem?_toArray, List.getElem?_cons_zero, List.getElem?_cons_succ]; rfl)
  go_simp
  refine (root_any _ _ (by have := hb2.out; omega)).mono ?_
  rintro e w' ⟨rfl, rfl⟩
  refine held_more hK HS0.out hlt Bc.out (fun Bc hSn => ?_)
  clear hK
  refine tks [6] 1 rfl (by kernel_rfl) (fun _ _ _ _ h => h) (by assumption) (fun KT hKT => ?_)
  refine tkT (by (simp only [gA, gB, gC]; rfl)) (by rfl) (by (intro w hSw; (simp only [Holds] at hSw); go_simp <;> with_reducible rfl)) ?_
  simp only [Act.put, pA, pB, pC]
  refine hKT _ ?_
  clear KT hKT
  refine wpAnyH_done (by kernel_rfl) ?_ _
  go_wp2
  go_ret
  exact ⟨ret_int hF.out.symm, HB1.out.trans (Bc.out.mono hNW)⟩
set_option maxRecDepth 1000000 in
set_option maxHeartbeats 1000000 in
theorem rfar_any (a b : Stp) (w : World) : Calls Tryd.prog 54 #[stopV a, stopV b] w fun e w' => e = .returned (.int .i64 (farF a b)) ∧ Below w.heap.size w w' := by
  have hax := cl_bd a.x
  have hay := cl_bd a.y
  have hbx := cl_bd b.x
  have hby := cl_bd b.y
  have hF := Lib.hid (show farF a b = rootOf ((cl a.x - cl b.x) * (cl a.x - cl b.x) + (cl a.y - cl b.y) * (cl a.y - cl b.y)) from farF_comm a b)
  have d1 : -10000 ≤ cl a.x - cl b.x ∧ cl a.x - cl b.x ≤ 10000 := by omega
  have d2 : -10000 ≤ cl a.y - cl b.y ∧ cl a.y - cl b.y ≤ 10000 := by omega
  have w1 : IntKind.i64.wrap (cl a.x - cl b.x) = cl a.x - cl b.x := IntWalk.i64_in _ (by omega)
  have w2 : IntKind.i64.wrap (cl a.y - cl b.y) = cl a.y - cl b.y := IntWalk.i64_in _ (by omega)
  obtain ⟨s1, s2⟩ := sq_bd (cl a.x - cl b.x) d1.1 d1.2
  obtain ⟨s3, s4⟩ := sq_bd (cl a.y - cl b.y) d2.1 d2.2
  unfold stopV
  go_enter Tryd.func54, Tryd.ntmps54
  go_wp2_with fail
  change Code.wp _ _ _ _ ((w.alloc (boxS a)).alloc (boxS b))
  have HB1 := Lib.hid ((((Below.refl _ w).alloc (Nat.le_refl _) (boxS a)).alloc (by simp) (boxS b)).drew)
  have HS0 := Lib.hid (show Holds (cellsP w.heap.size a ++ cellsP (w.heap.size + 1) b) ((w.alloc (boxS a)).alloc (boxS b)).drew from Holds.app.2
    ⟨Holds.below (M := (w.alloc (boxS a)).heap.size) ((Below.refl _ (w.alloc (boxS a))).alloc (Nat.le_refl _) (boxS b)) (holds_boxS w a) (lows_P (by simp)), by have := holds_boxS (w.alloc (boxS a)) b; rw [show (w.alloc (boxS a)).heap.size = w.heap.size + 1 by simp] at this; exact this⟩)
  have hlt := Lib.hid (show Lows ((w.alloc (boxS a)).alloc (boxS b)).drew.heap.size (cellsP w.heap.size a ++ cellsP (w.heap.size + 1) b) from Lows.app (lows_P (by simp [World.drew]; omega)) (lows_P (by simp [World.drew])))
  generalize (w.alloc (boxS a)).alloc (boxS b) = W at *
  have hNW : w.heap.size ≤ W.drew.heap.size := HB1.out.size
  refine wp_region_held_drew (S := Holds (cellsP w.heap.size a ++ cellsP (w.heap.size + 1) b)) (by kernel_rfl) HS0.out (fun hSn => ?_)
  have Bc := Lib.hid (Below.refl W.drew.heap.size W.drew)
  simp only [cellsP, List.cons_append, List.nil_append] at *
  refine tks [0, 1, 3, 4] 4 rfl (by kernel_rfl) (fun _ _ _ _ h => h) (by assumption) (fun KT hKT => ?_)
  iterate 4 (refine tkT (by (simp only [gA, gB, gC]; rfl)) (by rfl) (by (intro w hSw; (simp only [Holds] at hSw); go_simp <;> with_reducible rfl)) ?_; simp only [Act.put, pA, pB, pC])
  refine hKT _ ?_
  clear KT hKT
  refine wpAnyH_ready (rs := [2]) (by kernel_rfl) (by simp) ?_
  refine AllReadyH.cons (o := ?oz7) ?iz7 (fun K hK => ?kz7) AllReadyH.nil
  case iz7 => (simp only [List.getElem?_toArray, List.getElem?_cons_zero, List.getElem?_cons_succ]; rfl)
  go_simp
  refine (bound_any _ _).mono ?_
  rintro e w' ⟨rfl, rfl⟩
  refine held_more hK HS0.out hlt Bc.out (fun Bc hSn => ?_)
  refine wpAnyH_ready (rs := [5]) (by kernel_rfl) (by simp) ?_
  refine AllReadyH.cons (o := ?oz8) ?iz8 (fun K hK => ?kz8) AllReadyH.nil
  case iz8 => (simp only [List.getElem?_toArray, List.getElem?_cons_zero, List.getElem?_cons_succ]; rfl)
  go_simp
  refine (bound_any _ _).mono ?_
  rintro e w' ⟨rfl, rfl⟩
  refine held_more hK HS0.out hlt Bc.out (fun Bc hSn => ?_)
  clear hK
  refine tks [6, 7] 2 rfl (by kernel_rfl) (fun _ _ _ _ h => h) (by assumption) (fun KT hKT => ?_)
  iterate 2 (refine tkT (by (simp only [gA, gB, gC]; rfl)) (by rfl) (by (intro w hSw; (simp only [Holds] at hSw); go_simp <;> with_reducible rfl)) ?_; simp only [Act.put, pA, pB, pC])
  refine hKT _ ?_
  clear KT hKT
  refine wpAnyH_done (by kernel_rfl) ?_ _
  go_wp2_with fail
  have Bd := Lib.hid Bc.out.drew
  clear hSn Bc
  refine wp_region_held_drew (S := Holds [(⟨w.heap.size, 0, none⟩, .int .i64 a.x), (⟨w.heap.size, 1, none⟩, .int .i64 a.y), (⟨w.heap.size, 2, none⟩, .int .i64 a.d), (⟨w.heap.size, 3, none⟩, .int .i64 a.r), (⟨w.heap.size, 4, none⟩, .int .i64 a.u), (⟨w.heap.size, 5, none⟩, .int .i64 a.s),
    (⟨w.heap.size + 1, 0, none⟩, .int .i64 b.x), (⟨w.heap.size + 1, 1, none⟩, .int .i64 b.y), (⟨w.heap.size + 1, 2, none⟩, .int .i64 b.d), (⟨w.heap.size + 1, 3, none⟩, .int .i64 b.r), (⟨w.heap.size + 1, 4, none⟩, .int .i64 b.u), (⟨w.heap.size + 1, 5, none⟩, .int .i64 b.s)]) (by kernel_rfl) (Holds.below Bd.out HS0.out hlt.out) (fun hSn => ?_)
  have Bc := Bd
  clear Bd
  refine tks [0, 1, 3, 4] 4 rfl (by kernel_rfl) (fun _ _ _ _ h => h) (by assumption) (fun KT hKT => ?_)
  iterate 4 (refine tkT (by (simp only [gA, gB, gC]; rfl)) (by rfl) (by (intro w hSw; (simp only [Holds] at hSw); go_simp <;> with_reducible rfl)) ?_; simp only [Act.put, pA, pB, pC])
  refine hKT _ ?_
  clear KT hKT
  refine wpAnyH_ready (rs := [2]) (by kernel_rfl) (by simp) ?_
  refine AllReadyH.cons (o := ?oz9) ?iz9 (fun K hK => ?kz9) AllReadyH.nil
  case iz9 => (simp only [List.getElem?_toArray, List.getElem?_cons_zero, List.getElem?_cons_succ]; rfl)
  go_simp
  refine (bound_any _ _).mono ?_
  rintro e w' ⟨rfl, rfl⟩
  refine held_more hK HS0.out hlt Bc.out (fun Bc hSn => ?_)
  refine wpAnyH_ready (rs := [5]) (by kernel_rfl) (by simp) ?_
  refine AllReadyH.cons (o := ?oz10) ?iz10 (fun K hK => ?kz10) AllReadyH.nil
  case iz10 => (simp only [List.getElem?_toArray, List.getElem?_cons_zero, List.getElem?_cons_succ]; rfl)
  go_simp
  refine (bound_any _ _).mono ?_
  rintro e w' ⟨rfl, rfl⟩
  refine held_more hK HS0.out hlt Bc.out (fun Bc hSn => ?_)
  clear hK
  refine tks [6, 7] 2 rfl (by kernel_rfl) (fun _ _ _ _ h => h) (by assumption) (fun KT hKT => ?_)
  iterate 2 (refine tkT (by (simp only [gA, gB, gC]; rfl)) (by rfl) (by (intro w hSw; (simp only [Holds] at hSw); go_simp <;> with_reducible rfl)) ?_; simp only [Act.put, pA, pB, pC])
  refine hKT _ ?_
  clear KT hKT
  refine wpAnyH_done (by kernel_rfl) ?_ _
  clear hax hay hbx hby
  generalize cl a.x - cl b.x = dx at *
  generalize cl a.y - cl b.y = dy at *
  have s5 : dx * dx + dy * dy ≤ 200000000 := by omega
  have s6 : 0 ≤ dx * dx + dy * dy := by omega
  go_wp2_with fail
  refine (rroot_any _ _).mono ?_
  rintro e w' ⟨rfl, rfl⟩
  go_wp2
  go_ret
  exact ⟨ret_int hF.out.symm, HB1.out.trans (Bc.out.mono hNW)⟩
theorem eg1 : farF ⟨0, 0, 0, 0, 0, 0⟩ ⟨3, 4, 0, 0, 0, 0⟩ = 5 := rootOf_eq 25 5 (by decide) (by decide) ⟨by decide, by decide, by decide⟩
theorem eg2 : farF ⟨0, 0, 0, 0, 0, 0⟩ ⟨1, 1, 0, 0, 0, 0⟩ = 2 := rootOf_eq 2 2 (by decide) (by decide) ⟨by decide, by decide, by decide⟩
end Go.Proofs.YtpdeffpmfbplnaaDoor
/- Stops that a law is handed; what a law's own boxes hold. -/
namespace Go.Proofs.YtpdeffpmfbplnaaDoor
open Go.ChangeShapes Go.WideShapes Go.ChangeAt Go.RowKit

section
variable {H : Type} {enc : TypeId × Value → H} {w : World} {base : Nat} {spare : Nat → Bool} {held : Bool}
set_option maxRecDepth 100000 in
/-- A stop by value. -/
theorem open_stop {r : Reach} {b0 : Nat} {v : Value} {d : DataW H} {p : List MemPlace} (hv : Value.okWide Tryd.prog w r b0 76 v) (h : DataW.Trod enc Tryd.prog w base spare held 76 v d p) : ∃ t : Stp, v = stopV t ∧ FitS t := by
  obtain ⟨cs, rfl, _⟩ := okWide_struct Tryd.underlying76 hv
  obtain ⟨fuel, hf⟩ := h
  obtain ⟨t, he, hft⟩ := stop_cells hf
  refine ⟨t, ?_, hft⟩
  obtain ⟨l⟩ := cs
  simp [Value.cells] at he
  rw [he]; rfl
end
/-- Two boxes, three boxes. -/
theorem holdsP2 (w : World) (a b : Stp) : Holds (cellsP w.heap.size a ++ cellsP (w.heap.size + 1) b) ((w.alloc (boxS a)).alloc (boxS b)) := Holds.app.2
  ⟨Holds.below (M := (w.alloc (boxS a)).heap.size) ((Below.refl _ (w.alloc (boxS a))).alloc (Nat.le_refl _) (boxS b)) (holds_boxS w a) (lows_P (by simp)), by have := holds_boxS (w.alloc (boxS a)) b; rw [show (w.alloc (boxS a)).heap.size = w.heap.size + 1 by simp] at this; exact this⟩
theorem holdsP3 (w : World) (a b c : Stp) : Holds (cellsP w.heap.size a ++ cellsP (w.heap.size + 1) b ++ cellsP (w.heap.size + 2) c) (((w.alloc (boxS a)).alloc (boxS b)).alloc (boxS c)) := Holds.app.2
  ⟨Holds.below (M := ((w.alloc (boxS a)).alloc (boxS b)).heap.size) ((Below.refl _ ((w.alloc (boxS a)).alloc (boxS b))).alloc (Nat.le_refl _) (boxS c)) (holdsP2 w a b) (Lows.app (lows_P (by simp; omega)) (lows_P (by simp))), by have := holds_boxS ((w.alloc (boxS a)).alloc (boxS b)) c; rw [show ((w.alloc (boxS a)).alloc (boxS b)).heap.size = w.heap.size + 2 by simp] at this; exact this⟩
theorem lowsP2 {M N : Nat} {a b : Stp} (h : N + 1 < M) : Lows M (cellsP N a ++ cellsP (N + 1) b) := Lows.app (lows_P (by omega)) (lows_P h)
theorem lowsP3 {M N : Nat} {a b c : Stp} (h : N + 2 < M) : Lows M (cellsP N a ++ cellsP (N + 1) b ++ cellsP (N + 2) c) := Lows.app (lowsP2 (by omega)) (lows_P h)
end Go.Proofs.YtpdeffpmfbplnaaDoor
