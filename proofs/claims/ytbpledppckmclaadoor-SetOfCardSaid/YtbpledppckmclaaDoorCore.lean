/- What package set's small calls answer, for any set and any number. -/
import Derived.Test.YtbpledppckmclaaDoorRows
import Derived.Test.YtbpledppckmclaaDoorMathb
import Derived.WalkKit
import Derived.ProofKit
import Derived.OpenShut
import Derived.IntWalk
import Derived.Laws.Bits64b
import Derived.Laws.BitsAllLaws
import Derived.Lib.Hide
namespace Go.Proofs.YtbpledppckmclaaDoor
open Go.ChangeShapes Go.WideShapes Go.ChangeAt Go.RowKit

theorem stop_yes (i : Int) (w : World) (h1 : 0 ≤ i) (h2 : i ≤ 63) :
    Calls Tryd.prog 25 #[.int .i64 i] w fun e w' => e = .returned (.bool true) ∧ w = w' := by
  go_enter Tryd.func25, Tryd.ntmps25
  go_wp2
  go_ret
  exact ⟨rfl, rfl⟩
theorem stop_no (i : Int) (w : World) (h : i < 0 ∨ 63 < i) :
    Calls Tryd.prog 25 #[.int .i64 i] w fun e w' => e = .returned (.bool false) ∧ w = w' := by
  rcases h with h | h
  · have h' : decide (0 ≤ i) = false := by simpa using h
    go_enter Tryd.func25, Tryd.ntmps25
    go_wp2
    go_ret
    exact ⟨rfl, rfl⟩
  · have h' : decide (i ≤ 63) = false := by simpa using h
    go_enter Tryd.func25, Tryd.ntmps25
    go_wp2
    go_ret
    exact ⟨rfl, rfl⟩
theorem ret_int {k : IntKind} {a b : Int} (h : a = b) : Ending.returned (.int k a) = .returned (.int k b) := by rw [h]
theorem ret_bool {a b : Bool} (h : a = b) : Ending.returned (.bool a) = .returned (.bool b) := by rw [h]
theorem minus_eq (s t : Nat) (ht : t < 18446744073709551616) : s &&& (18446744073709551615 - t) = minus s t := by
  unfold minus
  congr 1
  apply Nat.eq_of_testBit_eq
  intro k
  have h1 := Nat.testBit_two_pow_sub_succ (n := 64) ht k
  have h2 := Nat.testBit_two_pow_sub_one 64 k
  rw [show 2 ^ 64 - (t + 1) = 18446744073709551615 - t by omega] at h1
  rw [show (2 : Nat) ^ 64 - 1 = 18446744073709551615 by decide] at h2
  rw [h1, Nat.testBit_xor, h2]
  by_cases hk : k < 64
  · simp [hk]
  · rw [lt64_bit t k ht (by omega)]; simp [hk]
theorem bits_minus (s t : Nat) (hs : s < 18446744073709551616) (ht : t < 18446744073709551616) : bits .andNot .u64 (s : Int) (t : Int) = ((minus s t : Nat) : Int) := by
  rw [u64_andNot_nat s t hs ht, minus_eq s t ht]
theorem nat_beq (a b : Nat) : ((a : Int) == (b : Int)) = (a == b) := by rw [Bool.eq_iff_iff]; simp; omega
theorem u64_in (n : Int) (h : 0 ≤ n) (h' : n < 18446744073709551616) : IntKind.u64.wrap n = n := by rw [IntKind.wrap_u64]; omega
theorem u64_nat (n : Nat) : IntKind.u64.wrap (n : Int) = ((n % 18446744073709551616 : Nat) : Int) := by rw [IntKind.wrap_u64]; omega
theorem i64_bd (n : Int) (h : (Lit.int .i64 n).wf = true) : -9223372036854775808 ≤ n ∧ n ≤ 9223372036854775807 := by
  have := bounds_i64 h
  omega
theorem u64_bd (n : Int) (h : (Lit.int .u64 n).wf = true) : ∃ s : Nat, n = s ∧ s < 18446744073709551616 := by
  have := bounds_u64 h
  exact ⟨n.toNat, by omega, by omega⟩

theorem bit_any (i : Int) (w : World) :
    Calls Tryd.prog 18 #[.int .i64 i] w fun e w' => e = .returned (.int .u64 (bitN i)) ∧ w = w' := by
  by_cases h : 0 ≤ i ∧ i ≤ 63
  · obtain ⟨k, rfl⟩ : ∃ k : Nat, i = k := ⟨i.toNat, by omega⟩
    rw [bitN_nat k (by omega)]
    obtain ⟨h1, h2⟩ := h
    have hp := pow63 k (by omega)
    go_enter Tryd.func18, Tryd.ntmps18
    go_wp2_with (go_at_call 25; refine (stop_yes _ _ (by omega) (by omega)).mono ?_; rintro e w' ⟨rfl, rfl⟩)
    go_ret
    refine ⟨ret_int ?_, rfl⟩
    rw [show (2 : Int) ^ k = ((2 ^ k : Nat) : Int) by simp, u64_nat, Nat.mod_eq_of_lt hp]
  · rw [bitN_no i h]
    have h' : i < 0 ∨ 63 < i := by omega
    clear h
    have H := Lib.hid h'
    clear h'
    go_enter Tryd.func18, Tryd.ntmps18
    go_wp2_with (go_at_call 25; refine (stop_no _ _ H.out).mono ?_; rintro e w' ⟨rfl, rfl⟩)
    go_ret
    exact ⟨rfl, rfl⟩
theorem with_any (s : Nat) (i : Int) (w : World) (hs : s < 18446744073709551616) :
    Calls Tryd.prog 21 #[.int .u64 s, .int .i64 i] w fun e w' => e = .returned (.int .u64 ((s ||| bitN i : Nat) : Int)) ∧ w = w' := by
  go_enter Tryd.func21, Tryd.ntmps21
  go_wp2_with (go_at_call 18; refine (bit_any _ _).mono ?_; rintro e w' ⟨rfl, rfl⟩)
  go_ret
  exact ⟨ret_int (bits_or_u64_nat s _ hs (bitN_lt i)), rfl⟩
theorem without_any (s : Nat) (i : Int) (w : World) (hs : s < 18446744073709551616) :
    Calls Tryd.prog 24 #[.int .u64 s, .int .i64 i] w fun e w' => e = .returned (.int .u64 ((minus s (bitN i) : Nat) : Int)) ∧ w = w' := by
  go_enter Tryd.func24, Tryd.ntmps24
  go_wp2_with (go_at_call 18; refine (bit_any _ _).mono ?_; rintro e w' ⟨rfl, rfl⟩)
  go_ret
  exact ⟨ret_int (bits_minus s _ hs (bitN_lt i)), rfl⟩
theorem has_any (s : Nat) (i : Int) (w : World) (hs : s < 18446744073709551616) :
    Calls Tryd.prog 9 #[.int .u64 s, .int .i64 i] w fun e w' => e = .returned (.bool (has s i)) ∧ w = w' := by
  go_enter Tryd.func9, Tryd.ntmps9
  go_wp2_with (go_at_call 18; refine (bit_any _ _).mono ?_; rintro e w' ⟨rfl, rfl⟩)
  go_ret
  refine ⟨ret_bool ?_, rfl⟩
  rw [bits_and_u64_nat s _ hs (bitN_lt i)]
  show (!(((s &&& bitN i : Nat) : Int) == ((0 : Nat) : Int))) = _
  rw [nat_beq, and_bit, Bool.not_not]
theorem within_any (s t : Nat) (w : World) (hs : s < 18446744073709551616) (ht : t < 18446744073709551616) :
    Calls Tryd.prog 12 #[.int .u64 s, .int .u64 t] w fun e w' => e = .returned (.bool (within s t)) ∧ w = w' := by
  go_enter Tryd.func12, Tryd.ntmps12
  go_wp2
  go_ret
  refine ⟨ret_bool ?_, rfl⟩
  rw [bits_minus s t hs ht]
  exact nat_beq _ 0
theorem shift_any (s : Nat) (b : Int) (w : World) (hb' : -9223372036854775808 ≤ b) (hb : b ≤ 9223372036854775807) :
    Calls Tryd.prog 16 #[.int .u64 s, .int .i64 b] w fun e w' => e = .returned (.int .u64 (shiftN s b)) ∧ w = w' := by
  by_cases h : b < 0
  · go_enter Tryd.func16, Tryd.ntmps16
    go_wp2
    go_ret
    refine ⟨ret_int ?_, rfl⟩
    unfold shiftN
    rw [if_pos h, show (IntKind.u64.wrap (wrap64 (-b))).toNat = (-b).toNat by rw [IntKind.wrap_u64]; unfold wrap64; omega]
    simp
  · go_enter Tryd.func16, Tryd.ntmps16
    go_wp2
    go_ret
    refine ⟨ret_int ?_, rfl⟩
    unfold shiftN
    rw [if_neg (by omega), ← u64_nat]
    simp
theorem i64_and127 (a : Nat) (ha : a < 4611686018427387904) : bits .and .i64 (a : Int) 127 = ((a % 128 : Nat) : Int) := by
  show IntKind.i64.wrap ((BitVec.ofInt 64 (a : Int) &&& BitVec.ofInt 64 ((127 : Nat) : Int)).toNat : Int) = _
  rw [BitVec.toNat_and, ofInt_u64 a (by omega), ofInt_u64 127 (by omega), IntKind.wrap_i64, show (127 : Nat) = 2 ^ 7 - 1 from rfl, Nat.and_two_pow_sub_one_eq_mod]
  omega
theorem ones_any (x : Nat) (w : World) (hx : x < 18446744073709551616) : Calls Tryd.prog 20 #[.int .u64 x] w fun e w' => e = .returned (.int .i64 (cnt x)) ∧ w = w' := by
  obtain ⟨c0, c1, c2, c3, c4, c5, c6, c7, k0, k1, k2, k3, k4, k5, k6, k7, t1, t2, t3, e3, es⟩ := pop_all x hx
  have q1 : IntKind.u64.wrap (bits BinOp.and IntKind.u64 ((x : Int) / 2) 6148914691236517205 + bits BinOp.and IntKind.u64 (x : Int) 6148914691236517205) = ((pop1 x : Nat) : Int) := by
    have a := bits_and_u64_nat (x / 2) 6148914691236517205 (by omega) (by decide)
    have b := bits_and_u64_nat x 6148914691236517205 hx (by decide)
    rw [show ((x : Int) / 2) = ((x / 2 : Nat) : Int) by omega, show (6148914691236517205 : Int) = ((6148914691236517205 : Nat) : Int) from rfl, a, b, ← Int.natCast_add]
    exact u64_in _ (by omega) (by unfold pop1 at t1; omega)
  generalize pop1 x = y1 at *
  have q2 : IntKind.u64.wrap (bits BinOp.and IntKind.u64 ((y1 : Int) / 4) 3689348814741910323 + bits BinOp.and IntKind.u64 (y1 : Int) 3689348814741910323) = ((pop2 y1 : Nat) : Int) := by
    have a := bits_and_u64_nat (y1 / 4) 3689348814741910323 (by omega) (by decide)
    have b := bits_and_u64_nat y1 3689348814741910323 t1 (by decide)
    rw [show ((y1 : Int) / 4) = ((y1 / 4 : Nat) : Int) by omega, show (3689348814741910323 : Int) = ((3689348814741910323 : Nat) : Int) from rfl, a, b, ← Int.natCast_add]
    exact u64_in _ (by omega) (by unfold pop2 at t2; omega)
  generalize pop2 y1 = y2 at *
  have q3 : bits BinOp.and IntKind.u64 (IntKind.u64.wrap ((y2 : Int) / 16 + (y2 : Int))) 1085102592571150095 = ((pop3 y2 : Nat) : Int) := by
    have a := bits_and_u64_nat (y2 / 16 + y2) 1085102592571150095 t3 (by decide)
    rw [show ((y2 : Int) / 16 + (y2 : Int)) = ((y2 / 16 + y2 : Nat) : Int) by omega, u64_nat, Nat.mod_eq_of_lt t3, show (1085102592571150095 : Int) = ((1085102592571150095 : Nat) : Int) from rfl, a]
    rfl
  generalize pop3 y2 = y3 at *
  obtain ⟨y4, h4⟩ : ∃ y4 : Nat, y4 = y3 + y3 / 256 := ⟨_, rfl⟩
  obtain ⟨y5, h5⟩ : ∃ y5 : Nat, y5 = y4 + y4 / 65536 := ⟨_, rfl⟩
  obtain ⟨y6, h6⟩ : ∃ y6 : Nat, y6 = y5 + y5 / 4294967296 := ⟨_, rfl⟩
  obtain ⟨b4, b5, b6, e6⟩ := pop_end c0 c1 c2 c3 c4 c5 c6 c7 y3 y4 y5 y6 k0 k1 k2 k3 k4 k5 k6 k7 e3 h4 h5 h6
  rw [es] at e6
  clear es e3 k0 k1 k2 k3 k4 k5 k6 k7 t3
  have q4 : IntKind.u64.wrap ((y3 : Int) + (y3 : Int) / 256) = (y4 : Int) := by rw [u64_in _ (by omega) (by omega)]; omega
  have q5 : IntKind.u64.wrap ((y4 : Int) + (y4 : Int) / 65536) = (y5 : Int) := by rw [u64_in _ (by omega) (by omega)]; omega
  have q6 : IntKind.u64.wrap ((y5 : Int) + (y5 : Int) / 4294967296) = (y6 : Int) := by rw [u64_in _ (by omega) (by omega)]; omega
  have E6 := Lib.hid e6
  clear e6 h4 h5 h6
  go_enter Tryd.func20, Tryd.ntmps20
  go_wp2
  go_ret
  refine ⟨ret_int ?_, rfl⟩
  rw [i64_and127 y6 b6, E6.out]
theorem len_any (x : Nat) (w : World) (hx : x < 18446744073709551616) : Calls Tryd.prog 11 #[.int .u64 x] w fun e w' => e = .returned (.int .i64 (cnt x)) ∧ w = w' := by
  go_enter Tryd.func11, Tryd.ntmps11
  go_wp2_with (go_at_call 20; refine (ones_any _ _ hx).mono ?_; rintro e w' ⟨rfl, rfl⟩)
  go_ret
  exact ⟨rfl, rfl⟩
end Go.Proofs.YtbpledppckmclaaDoor
