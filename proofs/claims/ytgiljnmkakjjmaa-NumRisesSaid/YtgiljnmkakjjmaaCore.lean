/- What package num's calls Add, Sub and Mul answer, and the small functions below them, for any two numbers of Go's int. -/
import Derived.Test.YtgiljnmkakjjmaaRows
import Derived.Test.YtgiljnmkakjjmaaMath
import Derived.WalkKit
import Derived.ProofKit
import Derived.OpenShut
import Derived.IntWalk
import Derived.Lib.Hide
namespace Go.Proofs.Ytgiljnmkakjjmaa
open Go.ChangeShapes Go.WideShapes Go.ChangeAt Go.RowKit

theorem safe_yes (n : Int) (w : World) (h1 : -1152921504606846976 ≤ n) (h2 : n ≤ 1152921504606846976) :
    Calls Try.prog 24 #[.int .i64 n] w fun e w' => e = .returned (.bool true) ∧ w = w' := by
  go_enter Try.func24, Try.ntmps24
  go_wp2
  go_ret
  exact ⟨rfl, rfl⟩

theorem safe_no (n : Int) (w : World) (h : n < -1152921504606846976 ∨ 1152921504606846976 < n) :
    Calls Try.prog 24 #[.int .i64 n] w fun e w' => e = .returned (.bool false) ∧ w = w' := by
  rcases h with h | h
  · have h' : decide (-1152921504606846976 ≤ n) = false := by simpa using h
    go_enter Try.func24, Try.ntmps24
    go_wp2
    go_ret
    exact ⟨rfl, rfl⟩
  · have h' : decide (n ≤ 1152921504606846976) = false := by simpa using h
    go_enter Try.func24, Try.ntmps24
    go_wp2
    go_ret
    exact ⟨rfl, rfl⟩

def sz (n : Int) : Int := if n < 0 then -n else n

theorem sz_bd (n : Int) (h : Safe n) : 0 ≤ sz n ∧ sz n ≤ 1152921504606846976 := by unfold Safe at h; unfold sz; split <;> omega

theorem size_any (n : Int) (w : World) (h : Safe n) :
    Calls Try.prog 25 #[.int .i64 n] w fun e w' => e = .returned (.int .i64 (sz n)) ∧ w = w' := by
  obtain ⟨h1, h2⟩ := h
  unfold sz
  by_cases h : n < 0
  · rw [if_pos h]
    go_enter Try.func25, Try.ntmps25
    go_wp2
    go_ret
    exact ⟨rfl, rfl⟩
  · rw [if_neg h]
    go_enter Try.func25, Try.ntmps25
    go_wp2
    go_ret
    exact ⟨rfl, rfl⟩

theorem checked_yes (a b r : Int) (w : World) (a1 : -1152921504606846976 ≤ a) (a2 : a ≤ 1152921504606846976) (b1 : -1152921504606846976 ≤ b) (b2 : b ≤ 1152921504606846976) (r1 : -1152921504606846976 ≤ r) (r2 : r ≤ 1152921504606846976) :
    Calls Try.prog 22 #[.int .i64 a, .int .i64 b, .int .i64 r] w fun e w' => e = .returned (.tuple #[.int .i64 r, .int .i64 0]) ∧ w = w' := by
  go_enter Try.func22, Try.ntmps22
  go_wp2_with (go_at_call 24; refine (safe_yes _ _ (by omega) (by omega)).mono ?_; rintro e w' ⟨rfl, rfl⟩)
  go_ret2
  exact ⟨rfl, rfl⟩

theorem checked_no (a b r : Int) (w : World) (h : ¬ (Safe a ∧ Safe b ∧ Safe r)) :
    Calls Try.prog 22 #[.int .i64 a, .int .i64 b, .int .i64 r] w fun e w' => e = .returned (.tuple #[.int .i64 0, .int .i64 9]) ∧ w = w' := by
  unfold Safe at h
  by_cases ha : -1152921504606846976 ≤ a ∧ a ≤ 1152921504606846976
  · obtain ⟨a1, a2⟩ := ha
    by_cases hb : -1152921504606846976 ≤ b ∧ b ≤ 1152921504606846976
    · obtain ⟨b1, b2⟩ := hb
      have hr : r < -1152921504606846976 ∨ 1152921504606846976 < r := by omega
      clear h
      have HR := Lib.hid hr
      clear hr
      go_enter Try.func22, Try.ntmps22
      go_wp2_with fail
      refine (safe_yes _ _ (by omega) (by omega)).mono ?_
      rintro e w' ⟨rfl, rfl⟩
      go_wp2_with fail
      refine (safe_yes _ _ (by omega) (by omega)).mono ?_
      rintro e w' ⟨rfl, rfl⟩
      go_wp2_with fail
      refine (safe_no _ _ HR.out).mono ?_
      rintro e w' ⟨rfl, rfl⟩
      go_wp2
      go_ret2
      exact ⟨rfl, rfl⟩
    · have hr : b < -1152921504606846976 ∨ 1152921504606846976 < b := by omega
      clear h hb
      have HR := Lib.hid hr
      clear hr
      go_enter Try.func22, Try.ntmps22
      go_wp2_with fail
      refine (safe_yes _ _ (by omega) (by omega)).mono ?_
      rintro e w' ⟨rfl, rfl⟩
      go_wp2_with fail
      refine (safe_no _ _ HR.out).mono ?_
      rintro e w' ⟨rfl, rfl⟩
      go_wp2
      go_ret2
      exact ⟨rfl, rfl⟩
  · have hr : a < -1152921504606846976 ∨ 1152921504606846976 < a := by omega
    clear h ha
    have HR := Lib.hid hr
    clear hr
    go_enter Try.func22, Try.ntmps22
    go_wp2_with fail
    refine (safe_no _ _ HR.out).mono ?_
    rintro e w' ⟨rfl, rfl⟩
    go_wp2
    go_ret2
    exact ⟨rfl, rfl⟩

theorem add_yes (a b : Int) (w : World) (a1 : -1152921504606846976 ≤ a) (a2 : a ≤ 1152921504606846976) (b1 : -1152921504606846976 ≤ b) (b2 : b ≤ 1152921504606846976) (r1 : -1152921504606846976 ≤ a + b) (r2 : a + b ≤ 1152921504606846976) :
    Calls Try.prog 12 #[.int .i64 a, .int .i64 b] w fun e w' => e = .returned (.tuple #[.int .i64 (a + b), .int .i64 0]) ∧ w = w' := by
  go_enter Try.func12, Try.ntmps12
  go_wp2_with fail
  refine (checked_yes _ _ _ _ a1 a2 b1 b2 r1 r2).mono ?_
  rintro e w' ⟨rfl, rfl⟩
  go_wp2
  go_ret2
  exact ⟨rfl, rfl⟩

theorem wrap_in (n : Int) (h : -2305843009213693952 ≤ n) (h' : n ≤ 2305843009213693952) : wrap64 n = n := by unfold wrap64; omega

theorem add_no (a b : Int) (w : World) (h : ¬ (Safe a ∧ Safe b ∧ Safe (a + b))) :
    Calls Try.prog 12 #[.int .i64 a, .int .i64 b] w fun e w' => e = .returned (.tuple #[.int .i64 0, .int .i64 9]) ∧ w = w' := by
  have H := Lib.hid h
  clear h
  go_enter Try.func12, Try.ntmps12
  go_wp2_with fail
  refine (checked_no _ _ _ _ ?_).mono ?_
  · have h := H.out
    rintro ⟨ha, hb, hr⟩
    refine h ⟨ha, hb, ?_⟩
    unfold Safe at ha hb
    rwa [wrap_in _ (by omega) (by omega)] at hr
  rintro e w' ⟨rfl, rfl⟩
  go_wp2
  go_ret2
  exact ⟨rfl, rfl⟩

theorem sub_yes (a b : Int) (w : World) (a1 : -1152921504606846976 ≤ a) (a2 : a ≤ 1152921504606846976) (b1 : -1152921504606846976 ≤ b) (b2 : b ≤ 1152921504606846976) (r1 : -1152921504606846976 ≤ a - b) (r2 : a - b ≤ 1152921504606846976) :
    Calls Try.prog 14 #[.int .i64 a, .int .i64 b] w fun e w' => e = .returned (.tuple #[.int .i64 (a - b), .int .i64 0]) ∧ w = w' := by
  go_enter Try.func14, Try.ntmps14
  go_wp2_with fail
  refine (checked_yes _ _ _ _ a1 a2 b1 b2 r1 r2).mono ?_
  rintro e w' ⟨rfl, rfl⟩
  go_wp2
  go_ret2
  exact ⟨rfl, rfl⟩

theorem sub_no (a b : Int) (w : World) (h : ¬ (Safe a ∧ Safe b ∧ Safe (a - b))) :
    Calls Try.prog 14 #[.int .i64 a, .int .i64 b] w fun e w' => e = .returned (.tuple #[.int .i64 0, .int .i64 9]) ∧ w = w' := by
  have H := Lib.hid h
  clear h
  go_enter Try.func14, Try.ntmps14
  go_wp2_with fail
  refine (checked_no _ _ _ _ ?_).mono ?_
  · have h := H.out
    rintro ⟨ha, hb, hr⟩
    refine h ⟨ha, hb, ?_⟩
    unfold Safe at ha hb
    rwa [wrap_in _ (by omega) (by omega)] at hr
  rintro e w' ⟨rfl, rfl⟩
  go_wp2
  go_ret2
  exact ⟨rfl, rfl⟩

theorem sz_mul (a b : Int) : sz (a * b) = sz a * sz b := by
  have e : ∀ n : Int, sz n = (n.natAbs : Int) := by intro n; unfold sz; split <;> omega
  rw [e, e, e, Int.natAbs_mul]; simp
theorem safe_sz (n : Int) : Safe n ↔ sz n ≤ 1152921504606846976 := by unfold Safe sz; split <;> omega
theorem le_quo (a b : Int) (ha : a ≠ 0) : sz b ≤ 1152921504606846976 / sz a ↔ Safe (a * b) := by
  have hp : 0 < sz a := by unfold sz; split <;> omega
  rw [safe_sz, sz_mul, Int.le_ediv_iff_mul_le hp, Int.mul_comm]

theorem mul_yes (a b : Int) (w : World) (ha : Safe a) (hb : Safe b) (hr : Safe (a * b)) :
    Calls Try.prog 16 #[.int .i64 a, .int .i64 b] w fun e w' => e = .returned (.tuple #[.int .i64 (a * b), .int .i64 0]) ∧ w = w' := by
  obtain ⟨r1, r2⟩ := id hr
  obtain ⟨a1, a2⟩ := id ha
  obtain ⟨b1, b2⟩ := id hb
  obtain ⟨s1, s2⟩ := sz_bd a ha
  obtain ⟨t1, t2⟩ := sz_bd b hb
  have HA := Lib.hid ha
  have HB := Lib.hid hb
  by_cases h0 : a = 0
  · subst h0
    clear ha hb hr HA HB
    go_enter Try.func16, Try.ntmps16
    go_wp2_with (go_at_call 24; refine (safe_yes _ _ (by omega) (by omega)).mono ?_; rintro e w' ⟨rfl, rfl⟩)
    go_ret2
    exact ⟨by simp, rfl⟩
  · have hq := (le_quo a b h0).2 hr
    have hp : 0 < sz a := by unfold sz; split <;> omega
    have hz : (a != 0) = true := by simpa using h0
    clear ha hb hr
    go_enter Try.func16, Try.ntmps16
    go_wp2_with (first | (go_at_call 24; refine (safe_yes _ _ (by omega) (by omega)).mono ?_; rintro e w' ⟨rfl, rfl⟩) | (go_at_call 25; refine (size_any _ _ (by first | exact HA.out | exact HB.out)).mono ?_; rintro e w' ⟨rfl, rfl⟩))
    go_ret2
    exact ⟨rfl, rfl⟩

theorem mul_no (a b : Int) (w : World) (hn : ¬ (Safe a ∧ Safe b ∧ Safe (a * b))) :
    Calls Try.prog 16 #[.int .i64 a, .int .i64 b] w fun e w' => e = .returned (.tuple #[.int .i64 0, .int .i64 9]) ∧ w = w' := by
  by_cases ha : Safe a
  · obtain ⟨a1, a2⟩ := id ha
    obtain ⟨s1, s2⟩ := sz_bd a ha
    have HA := Lib.hid ha
    by_cases hb : Safe b
    · obtain ⟨b1, b2⟩ := id hb
      obtain ⟨t1, t2⟩ := sz_bd b hb
      have HB := Lib.hid hb
      have hr : ¬ Safe (a * b) := fun h => hn ⟨ha, hb, h⟩
      have h0 : a ≠ 0 := by rintro rfl; exact hr (by rw [Int.zero_mul]; exact ha)
      have hq : 1152921504606846976 / sz a < sz b := by
        have := mt (le_quo a b h0).1 hr
        omega
      have hp : 0 < sz a := by unfold sz; split <;> omega
      have hz : (a != 0) = true := by simpa using h0
      clear ha hb hr hn h0
      go_enter Try.func16, Try.ntmps16
      go_wp2_with (first | (go_at_call 24; refine (safe_yes _ _ (by omega) (by omega)).mono ?_; rintro e w' ⟨rfl, rfl⟩) | (go_at_call 25; refine (size_any _ _ (by first | exact HA.out | exact HB.out)).mono ?_; rintro e w' ⟨rfl, rfl⟩))
      go_ret2
      exact ⟨rfl, rfl⟩
    · have hr : b < -1152921504606846976 ∨ 1152921504606846976 < b := by unfold Safe at hb; omega
      have HR := Lib.hid hr
      clear hr hn ha hb
      go_enter Try.func16, Try.ntmps16
      go_wp2_with fail
      refine (safe_yes _ _ (by omega) (by omega)).mono ?_
      rintro e w' ⟨rfl, rfl⟩
      go_wp2_with fail
      refine (safe_no _ _ HR.out).mono ?_
      rintro e w' ⟨rfl, rfl⟩
      go_wp2
      go_ret2
      exact ⟨rfl, rfl⟩
  · have hr : a < -1152921504606846976 ∨ 1152921504606846976 < a := by unfold Safe at ha; omega
    have HR := Lib.hid hr
    clear hr hn ha
    go_enter Try.func16, Try.ntmps16
    go_wp2_with fail
    refine (safe_no _ _ HR.out).mono ?_
    rintro e w' ⟨rfl, rfl⟩
    go_wp2
    go_ret2
    exact ⟨rfl, rfl⟩
end Go.Proofs.Ytgiljnmkakjjmaa
