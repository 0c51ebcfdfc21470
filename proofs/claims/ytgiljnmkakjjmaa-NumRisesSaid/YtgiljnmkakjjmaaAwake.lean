/- The examples of the chapter come out as the document says: what every statement asks first. -/
import Derived.Test.YtgiljnmkakjjmaaSum
import Derived.WalkLawsBesides
namespace Go.Proofs.Ytgiljnmkakjjmaa
open Go.ChangeShapes Go.WideShapes Go.ChangeAt Go.RowKit

theorem root2 : rootOf 2 = 2 := rootOf_eq 2 2 (by omega) (by omega) ⟨by omega, by decide, by decide⟩
theorem root25 : rootOf 25 = 5 := rootOf_eq 25 5 (by omega) (by omega) ⟨by omega, by decide, by decide⟩
theorem sum_ex : sumOf [1, 1152921504606846976, 3] = 1152921504606846976 := by simp only [sumOf, total, clamp]; omega

theorem awake_any (w : World) :
    Calls Try.prog 11 #[] w fun e w' => e = .returned (.bool true) ∧ w.alloc (.cells #[.int .i64 1, .int .i64 1152921504606846976, .int .i64 3] 3) = w' := by
  go_enter Try.func11, Try.ntmps11
  go_wp2_with fail
  refine (mul_no 1073741824 2147483648 _ (by unfold Safe; omega)).mono ?_
  rintro e w' ⟨rfl, rfl⟩
  go_wp2_with fail
  refine (root_any 2 _ (by omega)).mono ?_
  rw [root2]
  rintro e w' ⟨rfl, rfl⟩
  go_wp2_with fail
  refine (root_any 25 _ (by omega)).mono ?_
  rw [root25]
  rintro e w' ⟨rfl, rfl⟩
  go_wp2_with fail
  refine (sum_reads _ _ 3 3 [1, 1152921504606846976, 3] rfl ?_).mono ?_
  · refine ⟨by simp, Or.inr ⟨_, _, rfl, ?_⟩⟩
    intro k hk
    have : k = 0 ∨ k = 1 ∨ k = 2 := by simp at hk; omega
    rcases this with rfl | rfl | rfl <;> simp [go_sem]
  rw [sum_ex]
  rintro e w' ⟨rfl, rfl⟩
  go_wp2
  go_ret
  exact ⟨rfl, rfl⟩
end Go.Proofs.Ytgiljnmkakjjmaa
