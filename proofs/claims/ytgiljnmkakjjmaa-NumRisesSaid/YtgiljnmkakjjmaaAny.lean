/- What num.Add, num.Sub and num.Mul answer, each by one plain function of any two numbers. -/
import Derived.Test.YtgiljnmkakjjmaaAwake
namespace Go.Proofs.Ytgiljnmkakjjmaa
open Go.ChangeShapes Go.WideShapes Go.ChangeAt Go.RowKit

theorem add_any (a b : Int) (w : World) :
    Calls Try.prog 12 #[.int .i64 a, .int .i64 b] w fun e w' => e = .returned (.tuple #[.int .i64 (val a b (a + b)), .int .i64 (err a b (a + b))]) ∧ w = w' := by
  by_cases h : Safe a ∧ Safe b ∧ Safe (a + b)
  · unfold val err
    rw [if_pos h, if_pos h]
    obtain ⟨ha, hb, hr⟩ := h
    exact add_yes a b w ha.1 ha.2 hb.1 hb.2 hr.1 hr.2
  · unfold val err
    rw [if_neg h, if_neg h]
    exact add_no a b w h

theorem sub_any (a b : Int) (w : World) :
    Calls Try.prog 14 #[.int .i64 a, .int .i64 b] w fun e w' => e = .returned (.tuple #[.int .i64 (val a b (a - b)), .int .i64 (err a b (a - b))]) ∧ w = w' := by
  by_cases h : Safe a ∧ Safe b ∧ Safe (a - b)
  · unfold val err
    rw [if_pos h, if_pos h]
    obtain ⟨ha, hb, hr⟩ := h
    exact sub_yes a b w ha.1 ha.2 hb.1 hb.2 hr.1 hr.2
  · unfold val err
    rw [if_neg h, if_neg h]
    exact sub_no a b w h

theorem mul_any (a b : Int) (w : World) :
    Calls Try.prog 16 #[.int .i64 a, .int .i64 b] w fun e w' => e = .returned (.tuple #[.int .i64 (val a b (a * b)), .int .i64 (err a b (a * b))]) ∧ w = w' := by
  by_cases h : Safe a ∧ Safe b ∧ Safe (a * b)
  · unfold val err
    rw [if_pos h, if_pos h]
    obtain ⟨ha, hb, hr⟩ := h
    exact mul_yes a b w ha hb hr
  · unfold val err
    rw [if_neg h, if_neg h]
    exact mul_no a b w h

theorem i64_bd (a : Int) (h : (Lit.int .i64 a).wf = true) : -9223372036854775808 ≤ a ∧ a ≤ 9223372036854775807 := by
  have := bounds_i64 h
  omega
end Go.Proofs.Ytgiljnmkakjjmaa
