/- What the document's own answers for single numbers are: the set of one stop, whether a stop is in a set, a set with a stop and without it. -/
import Derived.Test.YtbpledppckmclaaDoorCore
namespace Go.Proofs.YtbpledppckmclaaDoor
open Go.ChangeShapes Go.WideShapes Go.ChangeAt Go.RowKit

theorem one_any (i : Int) (w : World) :
    Calls Tryd.prog 19 #[.int .i64 i] w fun e w' => e = .returned (.int .u64 (bitN i)) ∧ w = w' := by
  by_cases h : 0 ≤ i ∧ i ≤ 63
  · obtain ⟨n, rfl⟩ : ∃ n : Nat, i = n := ⟨i.toNat, by omega⟩
    rw [bitN_nat n (by omega)]
    have hn : n ≤ 63 := by omega
    have d1 : decide ((n : Int) < 0) = false := by simp
    have d2 : decide (63 < (n : Int)) = false := by simp; omega
    clear h
    go_enter Tryd.func19, Tryd.ntmps19
    go_wp2
    go_loop [3, 4] (fun s i => ∃ k : Nat, k ≤ n ∧ i = .int .i64 k ∧ s = .int .u64 ((2 ^ k : Nat) : Int)) (fun _ i => n - (intOf i).toNat)
    case atStart => exact ⟨0, Nat.zero_le _, rfl, rfl⟩
    case round =>
      obtain ⟨k, hk, rfl, rfl⟩ := hrel
      have hp := pow63 k (by omega)
      by_cases hlt : k < n
      · have hp2 := pow63 (k + 1) (by omega)
        go_wp2
        go_round
        case rel =>
          refine ⟨k + 1, by omega, by go_num, ?_⟩
          rw [show (2 : Int) ^ k * 2 = ((2 ^ (k + 1) : Nat) : Int) by simp [Int.pow_succ], u64_nat, Nat.mod_eq_of_lt hp2]
        case measure => simp [intOf]; omega
      · obtain rfl : k = n := by omega
        go_wp2
        go_ret
        exact ⟨rfl, rfl⟩
  · rw [bitN_no i h]
    have h' : i < 0 ∨ 63 < i := by omega
    clear h
    rcases h' with h' | h'
    · go_enter Tryd.func19, Tryd.ntmps19
      go_wp2
      go_ret
      exact ⟨rfl, rfl⟩
    · have d1 : decide (i < 0) = false := by simp; omega
      go_enter Tryd.func19, Tryd.ntmps19
      go_wp2
      go_ret
      exact ⟨rfl, rfl⟩
theorem rhas_num (s q : Nat) (hs : s < 18446744073709551616) : ((IntKind.u64.wrap ((s : Int) / (q : Int))).tmod 2 == 1) = (s / q % 2 == 1) := by
  have h1 : s / q ≤ s := Nat.div_le_self _ _
  rw [show (s : Int) / (q : Int) = ((s / q : Nat) : Int) by simp, u64_nat, Nat.mod_eq_of_lt (by omega)]
  generalize s / q = d
  rw [Int.tmod_eq_emod_of_nonneg (by omega), Bool.eq_iff_iff]
  simp
  omega
theorem rhas_any (s : Nat) (i : Int) (w : World) (hs : s < 18446744073709551616) :
    Calls Tryd.prog 10 #[.int .u64 s, .int .i64 i] w fun e w' => e = .returned (.bool (has s i)) ∧ w = w' := by
  by_cases h : 0 ≤ i ∧ i ≤ 63
  · obtain ⟨n, rfl⟩ : ∃ n : Nat, i = n := ⟨i.toNat, by omega⟩
    have hn : n ≤ 63 := by omega
    have hb : bitN n = 2 ^ n := bitN_nat n hn
    have hp : 0 < 2 ^ n := Nat.two_pow_pos n
    have HB := Lib.hid hb
    clear hb h
    go_enter Tryd.func10, Tryd.ntmps10
    go_wp2_with fail
    refine (one_any _ _).mono ?_
    rw [HB.out]
    generalize hq : 2 ^ n = q at *
    have HQ := Lib.hid hq
    clear hq
    rintro e w' ⟨rfl, rfl⟩
    go_wp2
    go_ret
    refine ⟨ret_bool ?_, rfl⟩
    rw [← has_div s n hn, HQ.out]
    exact rhas_num s q hs
  · rw [has_no s i h]
    have hb := bitN_no i h
    clear h
    have HB := Lib.hid hb
    clear hb
    go_enter Tryd.func10, Tryd.ntmps10
    go_wp2_with fail
    refine (one_any _ _).mono ?_
    rw [HB.out]
    rintro e w' ⟨rfl, rfl⟩
    go_wp2
    go_ret
    exact ⟨rfl, rfl⟩
end Go.Proofs.YtbpledppckmclaaDoor
