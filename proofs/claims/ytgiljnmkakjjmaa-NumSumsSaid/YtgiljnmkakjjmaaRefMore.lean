/- What the document's own Sum and Root (package haulierref01) come to: the same plain functions sumOf and rootOf by which package num answers. -/
import Derived.Test.YtgiljnmkakjjmaaRef
namespace Go.Proofs.Ytgiljnmkakjjmaa
open Go.ChangeShapes Go.WideShapes Go.ChangeAt Go.RowKit

theorem rsum_none (w : World) (a : Option Addr) (cap : Nat) :
    Calls Try.prog 19 #[.slice a 0 cap] w fun e w' => e = .returned (.int .i64 0) ∧ w = w' := by
  go_enter Try.func19, Try.ntmps19
  go_wp2
  go_loop [3, 4] (fun s i => i = .int .i64 0 ∧ s = .int .i64 0) (fun _ _ => 0)
  case atStart => exact ⟨rfl, rfl⟩
  case round =>
    obtain ⟨rfl, rfl⟩ := hrel
    go_wp2
    go_ret
    exact ⟨rfl, rfl⟩

theorem rsum_some (w : World) (b off len cap : Nat) (zs : List Int) (hl : len ≤ 9223372036854775807) (hz : zs.length = len) (hc : ∀ k, k < len → w.cell? ⟨b, off + k, none⟩ = some (.int .i64 (zs.getD k 0))) :
    Calls Try.prog 19 #[.slice (some ⟨b, off, none⟩) len cap] w fun e w' => e = .returned (.int .i64 (sumOf zs)) ∧ w = w' := by
  have HC := Lib.hid hc
  have HZ := Lib.hid hz
  clear hc hz
  go_enter Try.func19, Try.ntmps19
  go_wp2
  go_loop [3, 4] (fun s i => ∃ k : Nat, k ≤ len ∧ i = .int .i64 k ∧ s = .int .i64 (sumOf (zs.take k))) (fun _ i => len - (intOf i).toNat)
  case atStart => exact ⟨0, Nat.zero_le _, rfl, rfl⟩
  case round =>
    obtain ⟨k, hk, rfl, rfl⟩ := hrel
    have hb := sumOf_bd (zs.take k)
    obtain ⟨s1, s2⟩ := hb
    by_cases hlt : k < len
    · have hcell := HC.out k hlt
      have hs : sumOf (zs.take (k + 1)) = min (sumOf (zs.take k) + clamp (zs.getD k 0)) 1152921504606846976 := by
        have hz := HZ.out
        rw [List.take_succ_eq_append_getElem (by omega), sumOf_snoc]
        simp [List.getD, hz, hlt]
      have HS := Lib.hid hs
      clear hs
      generalize zs.getD k 0 = x at *
      go_wp2
      all_goals
        go_round
        case rel =>
          refine ⟨k + 1, by omega, by go_num, ?_⟩
          rw [HS.out]
          unfold clamp
          congr 1
          omega
        case measure => simp [intOf]; omega
    · go_wp2
      go_ret
      obtain rfl : k = len := by omega
      have hz := HZ.out
      rw [List.take_of_length_le (by omega)]
      exact ⟨rfl, rfl⟩

theorem rsum_reads (w : World) (a : Option Addr) (len cap : Nat) (zs : List Int) (hz : zs.length = len) (h : Reads w a zs) :
    Calls Try.prog 19 #[.slice a len cap] w fun e w' => e = .returned (.int .i64 (sumOf zs)) ∧ w = w' := by
  obtain ⟨h1, h2⟩ := h
  subst hz
  rcases h2 with rfl | ⟨b, off, rfl, h3⟩
  · exact rsum_none w a cap
  · exact rsum_some w b off zs.length cap zs h1 rfl h3

/-- What the search by halves keeps. -/
def Half (m lo hi : Int) : Prop := 0 ≤ lo ∧ lo < hi ∧ hi ≤ 1073741824 ∧ lo * lo < m ∧ m ≤ hi * hi

theorem half_sq (m lo hi : Int) (h : Half m lo hi) : 0 ≤ (lo + hi) / 2 * ((lo + hi) / 2) ∧ (lo + hi) / 2 * ((lo + hi) / 2) ≤ 1152921504606846976 := by
  obtain ⟨h1, h2, h3, -, -⟩ := h
  have := sq_mono 0 ((lo + hi) / 2) (by omega) (by omega)
  have := sq_mono ((lo + hi) / 2) 1073741824 (by omega) (by omega)
  omega
theorem half_hi (m lo hi : Int) (h : Half m lo hi) (hg : 1 < hi - lo) (ht : m ≤ (lo + hi) / 2 * ((lo + hi) / 2)) : Half m lo ((lo + hi) / 2) := by
  obtain ⟨h1, h2, h3, h4, -⟩ := h
  exact ⟨h1, by omega, by omega, h4, ht⟩
theorem half_lo (m lo hi : Int) (h : Half m lo hi) (hg : 1 < hi - lo) (ht : (lo + hi) / 2 * ((lo + hi) / 2) < m) : Half m ((lo + hi) / 2) hi := by
  obtain ⟨h1, h2, h3, -, h5⟩ := h
  exact ⟨by omega, by omega, h3, ht, h5⟩
theorem half_end (m lo hi : Int) (h : Half m lo hi) (hg : hi - lo ≤ 1) : IsRoot m hi := by
  obtain ⟨h1, h2, h3, h4, h5⟩ := h
  refine ⟨by omega, ?_, h5⟩
  rw [show hi - 1 = lo by omega]; exact h4

theorem rroot_low (n : Int) (w : World) (h : n < 1) :
    Calls Try.prog 21 #[.int .i64 n] w fun e w' => e = .returned (.int .i64 (rootOf n)) ∧ w = w' := by
  rw [rootOf_low n h]
  go_enter Try.func21, Try.ntmps21
  go_wp2
  go_ret
  exact ⟨rfl, rfl⟩

theorem rroot_in (n : Int) (w : World) (h1 : 1 ≤ n) (h2 : n ≤ 1152921504606846976) :
    Calls Try.prog 21 #[.int .i64 n] w fun e w' => e = .returned (.int .i64 (rootOf n)) ∧ w = w' := by
  have hlt : decide (n < 1) = false := by simpa using h1
  have hgt : decide (1152921504606846976 < n) = false := by simpa using h2
  go_enter Try.func21, Try.ntmps21
  go_wp2
  go_loop [3, 4] (fun l h => ∃ lo hi : Int, l = .int .i64 lo ∧ h = .int .i64 hi ∧ Half n lo hi) (fun l h => (intOf h - intOf l).toNat)
  case atStart => exact ⟨0, 1073741824, rfl, rfl, by omega, by omega, by omega, by omega, by omega⟩
  case round =>
    obtain ⟨lo, hi, rfl, rfl, hI⟩ := hrel
    obtain ⟨q1, q2⟩ := half_sq n lo hi hI
    obtain ⟨b1, b2, b3⟩ : 0 ≤ lo ∧ lo < hi ∧ hi ≤ 1073741824 := ⟨hI.1, hI.2.1, hI.2.2.1⟩
    have HI := Lib.hid hI
    clear hI
    by_cases hg : 1 < hi - lo
    · by_cases ht : n ≤ (lo + hi) / 2 * ((lo + hi) / 2)
      · go_wp2
        go_round
        case rel => exact ⟨_, _, rfl, rfl, half_hi n lo hi HI.out hg ht⟩
        case measure => simp [intOf]; omega
      · have ht' : (lo + hi) / 2 * ((lo + hi) / 2) < n := by omega
        go_wp2
        go_round
        case rel => exact ⟨_, _, rfl, rfl, half_lo n lo hi HI.out hg ht'⟩
        case measure => simp [intOf]; omega
    · go_wp2
      go_ret
      rw [rootOf_eq n hi h1 h2 (half_end n lo hi HI.out (by omega))]
      exact ⟨rfl, rfl⟩

theorem rroot_over (n : Int) (w : World) (h1 : 1152921504606846976 < n) :
    Calls Try.prog 21 #[.int .i64 n] w fun e w' => e = .returned (.int .i64 (rootOf n)) ∧ w = w' := by
  have hlt : decide (n < 1) = false := by simp; omega
  have hgt : decide (1152921504606846976 < n) = true := by simpa using h1
  go_enter Try.func21, Try.ntmps21
  go_wp2
  go_loop [3, 4] (fun l h => ∃ lo hi : Int, l = .int .i64 lo ∧ h = .int .i64 hi ∧ Half 1152921504606846976 lo hi) (fun l h => (intOf h - intOf l).toNat)
  case atStart => exact ⟨0, 1073741824, rfl, rfl, by omega, by omega, by omega, by omega, by omega⟩
  case round =>
    obtain ⟨lo, hi, rfl, rfl, hI⟩ := hrel
    obtain ⟨q1, q2⟩ := half_sq 1152921504606846976 lo hi hI
    obtain ⟨b1, b2, b3⟩ : 0 ≤ lo ∧ lo < hi ∧ hi ≤ 1073741824 := ⟨hI.1, hI.2.1, hI.2.2.1⟩
    have HI := Lib.hid hI
    clear hI
    by_cases hg : 1 < hi - lo
    · by_cases ht : 1152921504606846976 ≤ (lo + hi) / 2 * ((lo + hi) / 2)
      · go_wp2
        go_round
        case rel => exact ⟨_, _, rfl, rfl, half_hi _ lo hi HI.out hg ht⟩
        case measure => simp [intOf]; omega
      · have ht' : (lo + hi) / 2 * ((lo + hi) / 2) < 1152921504606846976 := by omega
        go_wp2
        go_round
        case rel => exact ⟨_, _, rfl, rfl, half_lo _ lo hi HI.out hg ht'⟩
        case measure => simp [intOf]; omega
    · go_wp2
      go_ret
      rw [rootOf_high n (by omega), rootOf_eq 1152921504606846976 hi (by omega) (by omega) (half_end _ lo hi HI.out (by omega))]
      exact ⟨rfl, rfl⟩

theorem rroot_any (n : Int) (w : World) :
    Calls Try.prog 21 #[.int .i64 n] w fun e w' => e = .returned (.int .i64 (rootOf n)) ∧ w = w' := by
  by_cases h1 : n < 1
  · exact rroot_low n w h1
  · by_cases h2 : n ≤ 1152921504606846976
    · exact rroot_in n w (by omega) h2
    · exact rroot_over n w (by omega)
end Go.Proofs.Ytgiljnmkakjjmaa
