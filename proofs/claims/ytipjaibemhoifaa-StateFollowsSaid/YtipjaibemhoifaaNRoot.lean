/- What num.Root and the document's own Root answer: for any number the least root from 0 on whose square is not less, as the plain function rootOf has it. -/
import Derived.Test.YtipjaibemhoifaaRows
import Derived.Test.YtipjaibemhoifaaXMath
import Derived.WalkKit
import Derived.ProofKit
import Derived.OpenShut
import Derived.IntWalk
import Derived.Lib.Hide
import Derived.WalkMore
import Derived.ScopeJumps
import Derived.WalkLawsBesides
namespace Go.Proofs.Ytipjaibemhoifaa
open Go.ChangeShapes Go.WideShapes Go.ChangeAt Go.RowKit

theorem or_first : bits .or .i64 0 536870912 = 536870912 := by decide

set_option maxRecDepth 1000000 in
theorem root_in (n : Int) (w : World) (h1 : 1 ≤ n) (h2 : n ≤ 1152921504606846976) :
    Calls Try.prog 93 #[.int .i64 n] w fun e w' => e = .returned (.int .i64 (rootOf n)) ∧ w = w' := by
  have hst := inv_start n h1 h2
  have HST := Lib.hid hst
  clear hst
  have hlt : decide (n < 1) = false := by simpa using h1
  have hor := or_first
  go_enter Try.func93, Try.ntmps93
  go_wp2
  refine wp_scope_jumps 0 (fun a' w' => w = w' ∧ ∃ (B T : Int) (u5 u6 u7 u8 u9 u10 u11 u12 u13 u14 u15 u16 u17 u18 u19 u20 u21 u22 : Value), a' = { tmps := #[.int .i64 n, undef, .int .i64 0, .int .i64 B, .int .i64 T, u5, u6, u7, u8, u9, u10, u11, u12, u13, u14, u15, u16, u17, u18, u19, u20, u21, u22, undef, undef], defers := [] } ∧ RootInv n B T) (fun a' _ => (intOf (a'.tmps.getD 4 undef)).toNat) rfl ?_ ?_
  · go_wp2
    go_step3
    go_wp2
    · go_step3
      refine ⟨rfl, rfl, _, _, _, _, _, _, _, _, _, _, _, _, _, _, _, _, _, _, _, _, rfl, ?_⟩
      exact inv_hi n 0 536870912 HST.out (by omega) (by omega)
    · go_step3
      refine ⟨rfl, rfl, _, _, _, _, _, _, _, _, _, _, _, _, _, _, _, _, _, _, _, _, rfl, ?_⟩
      exact inv_lo n 0 536870912 HST.out (by omega) (by omega)
  · rintro a' w' ⟨rfl, B, T, u5, u6, u7, u8, u9, u10, u11, u12, u13, u14, u15, u16, u17, u18, u19, u20, u21, u22, rfl, hI⟩
    have hor := inv_or n B T hI
    obtain ⟨hm1, hm2⟩ := inv_sq n B T hI
    obtain ⟨hb1, hb2, hb3, hb4⟩ := inv_bd n B T hI
    have HI := Lib.hid hI
    clear hI
    go_wp2
    · go_step3
      refine ⟨rfl, ⟨rfl, _, _, _, _, _, _, _, _, _, _, _, _, _, _, _, _, _, _, _, _, rfl, inv_hi n B T HI.out ‹_› ‹_›⟩, ?_⟩
      simp [intOf]
      omega
    · simp only [Exit.jump]
      go_ret
      rw [rootOf_eq n _ h1 h2 (inv_end_hi n B T HI.out ‹_› ‹_›)]
      exact ⟨rfl, rfl⟩
    · go_step3
      refine ⟨rfl, ⟨rfl, _, _, _, _, _, _, _, _, _, _, _, _, _, _, _, _, _, _, _, _, rfl, inv_lo n B T HI.out ‹_› ‹_›⟩, ?_⟩
      simp [intOf]
      omega
    · simp only [Exit.jump]
      go_ret
      rw [rootOf_eq n _ h1 h2 (inv_end_lo n B T HI.out ‹_› ‹_›)]
      exact ⟨rfl, rfl⟩
set_option maxRecDepth 1000000 in
theorem root_over (n : Int) (w : World) (h1 : 1152921504606846976 < n) (h2 : n ≤ 9223372036854775807) :
    Calls Try.prog 93 #[.int .i64 n] w fun e w' => e = .returned (.int .i64 (rootOf n)) ∧ w = w' := by
  have hst := inv_start 1152921504606846976 (by omega) (by omega)
  have HST := Lib.hid hst
  clear hst
  have hlt : decide (n < 1) = false := by simp; omega
  have hor := or_first
  go_enter Try.func93, Try.ntmps93
  go_wp2
  refine wp_scope_jumps 0 (fun a' w' => w = w' ∧ ∃ (B T : Int) (u5 u6 u7 u8 u9 u10 u11 u12 u13 u14 u15 u16 u17 u18 u19 u20 u21 u22 : Value), a' = { tmps := #[.int .i64 1152921504606846976, undef, .int .i64 0, .int .i64 B, .int .i64 T, u5, u6, u7, u8, u9, u10, u11, u12, u13, u14, u15, u16, u17, u18, u19, u20, u21, u22, undef, undef], defers := [] } ∧ RootInv 1152921504606846976 B T) (fun a' _ => (intOf (a'.tmps.getD 4 undef)).toNat) rfl ?_ ?_
  · go_wp2
    go_step3
    go_wp2
    · go_step3
      refine ⟨rfl, rfl, _, _, _, _, _, _, _, _, _, _, _, _, _, _, _, _, _, _, _, _, rfl, ?_⟩
      exact inv_hi 1152921504606846976 0 536870912 HST.out (by omega) (by omega)
  · rintro a' w' ⟨rfl, B, T, u5, u6, u7, u8, u9, u10, u11, u12, u13, u14, u15, u16, u17, u18, u19, u20, u21, u22, rfl, hI⟩
    have hor := inv_or 1152921504606846976 B T hI
    obtain ⟨hm1, hm2⟩ := inv_sq 1152921504606846976 B T hI
    obtain ⟨hb1, hb2, hb3, hb4⟩ := inv_bd 1152921504606846976 B T hI
    have HI := Lib.hid hI
    clear hI
    go_wp2
    · go_step3
      refine ⟨rfl, ⟨rfl, _, _, _, _, _, _, _, _, _, _, _, _, _, _, _, _, _, _, _, _, rfl, inv_hi 1152921504606846976 B T HI.out ‹_› ‹_›⟩, ?_⟩
      simp [intOf]
      omega
    · simp only [Exit.jump]
      go_ret
      rw [rootOf_high n (by omega), rootOf_eq 1152921504606846976 _ (by omega) (by omega) (inv_end_hi 1152921504606846976 B T HI.out ‹_› ‹_›)]
      exact ⟨rfl, rfl⟩
    · go_step3
      refine ⟨rfl, ⟨rfl, _, _, _, _, _, _, _, _, _, _, _, _, _, _, _, _, _, _, _, _, rfl, inv_lo 1152921504606846976 B T HI.out ‹_› ‹_›⟩, ?_⟩
      simp [intOf]
      omega
    · simp only [Exit.jump]
      go_ret
      rw [rootOf_high n (by omega), rootOf_eq 1152921504606846976 _ (by omega) (by omega) (inv_end_lo 1152921504606846976 B T HI.out ‹_› ‹_›)]
      exact ⟨rfl, rfl⟩

theorem root_low (n : Int) (w : World) (h : n < 1) :
    Calls Try.prog 93 #[.int .i64 n] w fun e w' => e = .returned (.int .i64 (rootOf n)) ∧ w = w' := by
  rw [rootOf_low n h]
  have hlt : decide (n < 1) = true := by simpa using h
  go_enter Try.func93, Try.ntmps93
  go_wp2
  go_step3
  go_wp2
  rw [Exit.noGoto_ret]
  go_ret
  exact ⟨rfl, rfl⟩

theorem root_any (n : Int) (w : World) (h : n ≤ 9223372036854775807) :
    Calls Try.prog 93 #[.int .i64 n] w fun e w' => e = .returned (.int .i64 (rootOf n)) ∧ w = w' := by
  by_cases h1 : n < 1
  · exact root_low n w h1
  · by_cases h2 : n ≤ 1152921504606846976
    · exact root_in n w (by omega) h2
    · exact root_over n w (by omega) h


/-- What the search by halves keeps. -/
def Half (m lo hi : Int) : Prop := 0 ≤ lo ∧ lo < hi ∧ hi ≤ 1073741824 ∧ lo * lo < m ∧ m ≤ hi * hi

theorem half_sq (m lo hi : Int) (h : Half m lo hi) : 0 ≤ (lo + hi) / 2 * ((lo + hi) / 2) ∧ (lo + hi) / 2 * ((lo + hi) / 2) ≤ 1152921504606846976 := by
  obtain ⟨h1, h2, h3, -, -⟩ := h
  have := sq_mono 0 ((lo + hi) / 2) (by omega) (by omega)
  have := sq_mono ((lo + hi) / 2) 1073741824 (by omega) (by omega)
  omega
theorem half_hi (m lo hi : Int) (h : Half m lo hi) (hg : 1 < hi - lo) (ht : m ≤ (lo + hi) / 2 * ((lo + hi) / 2)) : Half m lo ((lo + hi) / 2) := by
  obtain ⟨h1, h2, h3, h4, -⟩ := h
  exact ⟨h1, by omega, by omega, h4, ht⟩
theorem half_lo (m lo hi : Int) (h : Half m lo hi) (hg : 1 < hi - lo) (ht : (lo + hi) / 2 * ((lo + hi) / 2) < m) : Half m ((lo + hi) / 2) hi := by
  obtain ⟨h1, h2, h3, -, h5⟩ := h
  exact ⟨by omega, by omega, h3, ht, h5⟩
theorem half_end (m lo hi : Int) (h : Half m lo hi) (hg : hi - lo ≤ 1) : IsRoot m hi := by
  obtain ⟨h1, h2, h3, h4, h5⟩ := h
  refine ⟨by omega, ?_, h5⟩
  rw [show hi - 1 = lo by omega]; exact h4

theorem rroot_low (n : Int) (w : World) (h : n < 1) :
    Calls Try.prog 64 #[.int .i64 n] w fun e w' => e = .returned (.int .i64 (rootOf n)) ∧ w = w' := by
  rw [rootOf_low n h]
  go_enter Try.func64, Try.ntmps64
  go_wp2
  go_ret
  exact ⟨rfl, rfl⟩

theorem rroot_in (n : Int) (w : World) (h1 : 1 ≤ n) (h2 : n ≤ 1152921504606846976) :
    Calls Try.prog 64 #[.int .i64 n] w fun e w' => e = .returned (.int .i64 (rootOf n)) ∧ w = w' := by
  have hlt : decide (n < 1) = false := by simpa using h1
  have hgt : decide (1152921504606846976 < n) = false := by simpa using h2
  go_enter Try.func64, Try.ntmps64
  go_wp2
  go_loop [3, 4] (fun l h => ∃ lo hi : Int, l = .int .i64 lo ∧ h = .int .i64 hi ∧ Half n lo hi) (fun l h => (intOf h - intOf l).toNat)
  case atStart => exact ⟨0, 1073741824, rfl, rfl, by omega, by omega, by omega, by omega, by omega⟩
  case round =>
    obtain ⟨lo, hi, rfl, rfl, hI⟩ := hrel
    obtain ⟨q1, q2⟩ := half_sq n lo hi hI
    obtain ⟨b1, b2, b3⟩ : 0 ≤ lo ∧ lo < hi ∧ hi ≤ 1073741824 := ⟨hI.1, hI.2.1, hI.2.2.1⟩
    have HI := Lib.hid hI
    clear hI
    by_cases hg : 1 < hi - lo
    · by_cases ht : n ≤ (lo + hi) / 2 * ((lo + hi) / 2)
      · go_wp2
        go_round
        case rel => exact ⟨_, _, rfl, rfl, half_hi n lo hi HI.out hg ht⟩
        case measure => simp [intOf]; omega
      · have ht' : (lo + hi) / 2 * ((lo + hi) / 2) < n := by omega
        go_wp2
        go_round
        case rel => exact ⟨_, _, rfl, rfl, half_lo n lo hi HI.out hg ht'⟩
        case measure => simp [intOf]; omega
    · go_wp2
      go_ret
      rw [rootOf_eq n hi h1 h2 (half_end n lo hi HI.out (by omega))]
      exact ⟨rfl, rfl⟩

theorem rroot_over (n : Int) (w : World) (h1 : 1152921504606846976 < n) :
    Calls Try.prog 64 #[.int .i64 n] w fun e w' => e = .returned (.int .i64 (rootOf n)) ∧ w = w' := by
  have hlt : decide (n < 1) = false := by simp; omega
  have hgt : decide (1152921504606846976 < n) = true := by simpa using h1
  go_enter Try.func64, Try.ntmps64
  go_wp2
  go_loop [3, 4] (fun l h => ∃ lo hi : Int, l = .int .i64 lo ∧ h = .int .i64 hi ∧ Half 1152921504606846976 lo hi) (fun l h => (intOf h - intOf l).toNat)
  case atStart => exact ⟨0, 1073741824, rfl, rfl, by omega, by omega, by omega, by omega, by omega⟩
  case round =>
    obtain ⟨lo, hi, rfl, rfl, hI⟩ := hrel
    obtain ⟨q1, q2⟩ := half_sq 1152921504606846976 lo hi hI
    obtain ⟨b1, b2, b3⟩ : 0 ≤ lo ∧ lo < hi ∧ hi ≤ 1073741824 := ⟨hI.1, hI.2.1, hI.2.2.1⟩
    have HI := Lib.hid hI
    clear hI
    by_cases hg : 1 < hi - lo
    · by_cases ht : 1152921504606846976 ≤ (lo + hi) / 2 * ((lo + hi) / 2)
      · go_wp2
        go_round
        case rel => exact ⟨_, _, rfl, rfl, half_hi _ lo hi HI.out hg ht⟩
        case measure => simp [intOf]; omega
      · have ht' : (lo + hi) / 2 * ((lo + hi) / 2) < 1152921504606846976 := by omega
        go_wp2
        go_round
        case rel => exact ⟨_, _, rfl, rfl, half_lo _ lo hi HI.out hg ht'⟩
        case measure => simp [intOf]; omega
    · go_wp2
      go_ret
      rw [rootOf_high n (by omega), rootOf_eq 1152921504606846976 hi (by omega) (by omega) (half_end _ lo hi HI.out (by omega))]
      exact ⟨rfl, rfl⟩

theorem rroot_any (n : Int) (w : World) :
    Calls Try.prog 64 #[.int .i64 n] w fun e w' => e = .returned (.int .i64 (rootOf n)) ∧ w = w' := by
  by_cases h1 : n < 1
  · exact rroot_low n w h1
  · by_cases h2 : n ≤ 1152921504606846976
    · exact rroot_in n w (by omega) h2
    · exact rroot_over n w (by omega)
end Go.Proofs.Ytipjaibemhoifaa
