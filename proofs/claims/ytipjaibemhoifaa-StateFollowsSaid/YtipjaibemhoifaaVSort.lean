/- What comes first; rows that are exchanged, and turned. -/
import Derived.Test.YtipjaibemhoifaaXSame
import Derived.Test.YtipjaibemhoifaaVMath
import Derived.BigRegion
import Derived.StillTailTactics
import Derived.WalkMore
namespace Go.Proofs.Ytipjaibemhoifaa
open Go.ChangeShapes Go.WideShapes Go.ChangeAt Go.RowKit

/-- As cmp has it. -/
def cmpI (x y : Int) : Int := if x < y then -1 else if y < x then 1 else 0
theorem cmpI_neg (x y : Int) : decide (cmpI x y < 0) = decide (x < y) := by
  unfold cmpI
  by_cases h : x < y
  · simp [h]
  · rw [if_neg h]
    by_cases k : y < x
    · simp [k, h]
    · simp [k, h]
set_option maxRecDepth 1000000 in
theorem isNaN_any (x : Int) (w : World) : Calls Try.prog 100 #[.int .i64 x] w fun e w' => e = .returned (.bool false) ∧ w' = w := by
  go_enter Try.func100, Try.ntmps100
  go_wp2
  go_ret
  exact ⟨by simp, rfl⟩
set_option maxRecDepth 1000000 in
theorem compare_any (x y : Int) (w : World) : Calls Try.prog 80 #[.int .i64 x, .int .i64 y] w fun e w' => e = .returned (.int .i64 (cmpI x y)) ∧ w' = w := by
  unfold cmpI
  by_cases h : x < y
  · rw [if_pos h]
    go_enter Try.func80, Try.ntmps80
    go_wp2_with (first | (go_at_call 100; refine (isNaN_any _ _).mono ?_; rintro e w' ⟨rfl, rfl⟩))
    go_ret
    exact ⟨rfl, rfl⟩
  · rw [if_neg h]
    by_cases k : y < x
    · rw [if_pos k]
      go_enter Try.func80, Try.ntmps80
      go_wp2_with (first | (go_at_call 100; refine (isNaN_any _ _).mono ?_; rintro e w' ⟨rfl, rfl⟩))
      go_ret
      exact ⟨rfl, rfl⟩
    · rw [if_neg k]
      go_enter Try.func80, Try.ntmps80
      go_wp2_with (first | (go_at_call 100; refine (isNaN_any _ _).mono ?_; rintro e w' ⟨rfl, rfl⟩))
      go_ret
      exact ⟨rfl, rfl⟩
set_option maxRecDepth 1000000 in
/-- The closure by which Sorted asks. -/
theorem cmp_any {w : World} {u v : Value} {l m : List Int} (hu : Row w u (ints l)) (hv : Row w v (ints m)) (hl : l ≠ []) (hm : m ≠ []) :
    Calls Try.prog 79 #[u, v] w fun e w' => e = .returned (.int .i64 (cmpI (key l) (key m))) ∧ ∃ q, w' = w.drewN q := by
  have hl0 : 0 < l.length := List.length_pos_iff.2 hl
  have hm0 : 0 < m.length := List.length_pos_iff.2 hm
  obtain ⟨tb, off, cap, rfl, hc, hcm, htb⟩ := row_at (p := 0) hu (by rw [ints_len]; exact hl0)
  obtain ⟨tb2, off2, cap2, rfl, hc2, hcm2, htb2⟩ := row_at (p := 0) hv (by rw [ints_len]; exact hm0)
  rw [ints_len] at hcm hcm2 ⊢
  rw [ints_len]
  rw [ints_at _ _ hl0] at hc
  rw [ints_at _ _ hm0] at hc2
  have k1 : l.getD 0 0 = key l := rfl
  have k2 : m.getD 0 0 = key m := rfl
  rw [k1, Nat.add_zero] at hc
  rw [k2, Nat.add_zero] at hc2
  clear hu hv k1 k2
  generalize key l = x at *
  generalize key m = y at *
  go_enter Try.func79, Try.ntmps79
  go_wp2_with fail
  go_quiet ((go_at_call 80; exact Calls.quiet_of_same (compare_any _ _ _)))
  go_wp2
  go_ret
  exact ⟨rfl, _, rfl⟩
end Go.Proofs.Ytipjaibemhoifaa
