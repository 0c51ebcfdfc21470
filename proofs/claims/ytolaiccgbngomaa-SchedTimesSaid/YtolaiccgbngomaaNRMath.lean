/- Plain mathematics of roots: nothing of the program stands here. -/
import Derived.RowKit
import Derived.Laws.BitsAllLaws
import Derived.IntWalk
namespace Go.Proofs.Ytolaiccgbngomaa

def IsRoot (m r : Int) : Prop := 1 ≤ r ∧ (r - 1) * (r - 1) < m ∧ m ≤ r * r

theorem sq_mono (a b : Int) (h0 : 0 ≤ a) (h : a ≤ b) : a * a ≤ b * b := Int.mul_le_mul h h h0 (by omega)

theorem root_one (m r s : Int) (hr : IsRoot m r) (hs : IsRoot m s) : r = s := by
  obtain ⟨r0, r1, r2⟩ := hr
  obtain ⟨s0, s1, s2⟩ := hs
  rcases Int.lt_trichotomy r s with h | h | h
  · have := sq_mono r (s - 1) (by omega) (by omega)
    omega
  · exact h
  · have := sq_mono s (r - 1) (by omega) (by omega)
    omega

def rootN : Nat → Nat
  | 0 => 0
  | m + 1 => if m + 1 ≤ rootN m * rootN m then rootN m else rootN m + 1

theorem rootN_is (m : Nat) : IsRoot ((m + 1 : Nat) : Int) (rootN (m + 1) : Int) := by
  induction m with
  | zero => refine ⟨by decide, by decide, by decide⟩
  | succ m ih =>
    obtain ⟨h0, h1, h2⟩ := ih
    rw [rootN]
    split
    · next h =>
      refine ⟨h0, by omega, ?_⟩
      have : (((m + 1 + 1 : Nat)) : Int) ≤ ((rootN (m + 1) * rootN (m + 1) : Nat) : Int) := by exact_mod_cast h
      rw [Int.natCast_mul] at this
      exact this
    · next h =>
      have h' : ((rootN (m + 1) * rootN (m + 1) : Nat) : Int) < ((m + 1 + 1 : Nat) : Int) := by exact_mod_cast (Nat.lt_of_not_le h)
      rw [Int.natCast_mul] at h'
      have e : ((rootN (m + 1) + 1 : Nat) : Int) = (rootN (m + 1) : Int) + 1 := by omega
      rw [e]
      generalize (rootN (m + 1) : Int) = r at *
      have e1 : (r + 1) * (r + 1) = r * r + 2 * r + 1 := by rw [Int.add_mul, Int.mul_add]; omega
      refine ⟨by omega, ?_, by rw [e1]; omega⟩
      rw [show r + 1 - 1 = r by omega]
      exact h'

def rootOf (n : Int) : Int := (rootN (min n 1152921504606846976).toNat : Int)

theorem rootOf_is (n : Int) (h1 : 1 ≤ n) (h2 : n ≤ 1152921504606846976) : IsRoot n (rootOf n) := by
  unfold rootOf
  rw [Int.min_eq_left h2]
  obtain ⟨k, rfl⟩ : ∃ k : Nat, n = ((k + 1 : Nat) : Int) := ⟨n.toNat - 1, by omega⟩
  exact rootN_is k

theorem rootOf_eq (n r : Int) (h1 : 1 ≤ n) (h2 : n ≤ 1152921504606846976) (h : IsRoot n r) : rootOf n = r := root_one n _ _ (rootOf_is n h1 h2) h

theorem rootOf_low (n : Int) (h : n < 1) : rootOf n = 0 := by
  unfold rootOf
  have e : (min n 1152921504606846976).toNat = 0 := by omega
  rw [e]
  rfl

theorem rootOf_high (n : Int) (h : 1152921504606846976 ≤ n) : rootOf n = rootOf 1152921504606846976 := by
  unfold rootOf
  rw [Int.min_eq_right h, Int.min_self]

/-- What the search bit by bit keeps: below is made of bits above this one, and the root is between. -/
def RootInv (m B T : Int) : Prop :=
  ∃ k c : Nat, k ≤ 29 ∧ T = ((2 ^ k : Nat) : Int) ∧ B = ((c * 2 ^ (k + 1) : Nat) : Int) ∧ B * B < m ∧ m ≤ (B + 2 * T) * (B + 2 * T) ∧ B + 2 * T ≤ 1073741824

theorem inv_start (m : Int) (h1 : 1 ≤ m) (h2 : m ≤ 1152921504606846976) : RootInv m 0 536870912 :=
  ⟨29, 0, by omega, by decide, by simp, by omega, by omega, by omega⟩

theorem pow_le29 (k : Nat) (h : k ≤ 29) : 2 ^ k ≤ 536870912 := by
  have := Nat.pow_le_pow_right (n := 2) (by omega) h
  simpa using this

theorem inv_bd (m B T : Int) (h : RootInv m B T) : 0 ≤ B ∧ 1 ≤ T ∧ T ≤ 536870912 ∧ B + 2 * T ≤ 1073741824 := by
  obtain ⟨k, c, hk, rfl, rfl, -, -, h3⟩ := h
  have := pow_le29 k hk
  have := Nat.two_pow_pos k
  omega

theorem i64_or_nat (a b : Nat) (ha : a < 4294967296) (hb : b < 4294967296) : bits .or .i64 (a : Int) (b : Int) = ((a ||| b : Nat) : Int) := by
  have hx : a ||| b < 2 ^ 32 := Nat.or_lt_two_pow (by omega) (by omega)
  show IntKind.i64.wrap ((BitVec.ofInt 64 (a : Int) ||| BitVec.ofInt 64 (b : Int)).toNat : Int) = _
  rw [BitVec.toNat_or, ofInt_u64 a (by omega), ofInt_u64 b (by omega), IntKind.wrap_i64]
  omega

theorem inv_or (m B T : Int) (h : RootInv m B T) : bits .or .i64 B T = B + T := by
  have hb := inv_bd m B T h
  obtain ⟨k, c, hk, rfl, rfl, -, -, h3⟩ := h
  rw [i64_or_nat _ _ (by omega) (by omega), nat_join (k + 1) _ _ (Nat.mul_mod_left _ _) (by rw [Nat.pow_succ]; have := Nat.two_pow_pos k; omega)]
  omega

theorem inv_sq (m B T : Int) (h : RootInv m B T) : 0 ≤ (B + T) * (B + T) ∧ (B + T) * (B + T) ≤ 1152921504606846976 := by
  obtain ⟨h1, h2, h3, h4⟩ := inv_bd m B T h
  have := sq_mono 0 (B + T) (by omega) (by omega)
  have := sq_mono (B + T) 1073741824 (by omega) (by omega)
  omega

theorem inv_half (m B T : Int) (h : RootInv m B T) (ht : 0 < T / 2) : ∃ k : Nat, k + 1 ≤ 29 ∧ T = ((2 ^ (k + 1) : Nat) : Int) ∧ T / 2 = ((2 ^ k : Nat) : Int) ∧ T = 2 * (T / 2) ∧ ∃ c : Nat, B = ((c * 2 ^ (k + 1 + 1) : Nat) : Int) := by
  obtain ⟨k, c, hk, rfl, rfl, -, -, h3⟩ := h
  cases k with
  | zero => simp at ht
  | succ k =>
    have e : 2 ^ (k + 1) = 2 ^ k * 2 := Nat.pow_succ ..
    exact ⟨k, hk, rfl, by omega, by omega, c, rfl⟩

theorem inv_hi (m B T : Int) (h : RootInv m B T) (hs : (B + T) * (B + T) < m) (ht : 0 < T / 2) : RootInv m (B + T) (T / 2) := by
  obtain ⟨k, hk, e1, e2, e3, c, e4⟩ := inv_half m B T h ht
  obtain ⟨-, -, -, -, -, -, h2, h3⟩ := h
  refine ⟨k, 2 * c + 1, by omega, e2, ?_, hs, ?_, by omega⟩
  · rw [e4, e1]
    have : 2 ^ (k + 1 + 1) = 2 ^ (k + 1) * 2 := Nat.pow_succ ..
    rw [this, Nat.add_mul, ← Nat.mul_assoc, Nat.mul_comm 2 c, Nat.mul_assoc c 2, Nat.mul_comm 2 (2 ^ (k + 1)), ← Nat.mul_assoc]
    omega
  · rw [show B + T + 2 * (T / 2) = B + 2 * T by omega]
    exact h2

theorem inv_lo (m B T : Int) (h : RootInv m B T) (hs : m ≤ (B + T) * (B + T)) (ht : 0 < T / 2) : RootInv m B (T / 2) := by
  obtain ⟨k, hk, e1, e2, e3, c, e4⟩ := inv_half m B T h ht
  obtain ⟨-, -, -, -, -, h1, h2, h3⟩ := h
  refine ⟨k, 2 * c, by omega, e2, ?_, h1, ?_, by omega⟩
  · rw [e4]
    have : 2 ^ (k + 1 + 1) = 2 ^ (k + 1) * 2 := Nat.pow_succ ..
    rw [this, Nat.mul_comm 2 c, Nat.mul_assoc c 2, Nat.mul_comm 2 (2 ^ (k + 1))]
  · rw [show B + 2 * (T / 2) = B + T by omega]
    exact hs

theorem inv_end_hi (m B T : Int) (h : RootInv m B T) (hs : (B + T) * (B + T) < m) (ht : T / 2 ≤ 0) : IsRoot m (B + T + 1) := by
  obtain ⟨b1, b2, b3, b4⟩ := inv_bd m B T h
  obtain ⟨-, -, -, -, -, h1, h2, h3⟩ := h
  obtain rfl : T = 1 := by omega
  refine ⟨by omega, ?_, ?_⟩
  · rw [show B + 1 + 1 - 1 = B + 1 by omega]; exact hs
  · rw [show B + 1 + 1 = B + 2 * 1 by omega]; exact h2

theorem inv_end_lo (m B T : Int) (h : RootInv m B T) (hs : m ≤ (B + T) * (B + T)) (ht : T / 2 ≤ 0) : IsRoot m (B + 1) := by
  obtain ⟨b1, b2, b3, b4⟩ := inv_bd m B T h
  obtain ⟨-, -, -, -, -, h1, h2, h3⟩ := h
  obtain rfl : T = 1 := by omega
  refine ⟨by omega, ?_, hs⟩
  rw [show B + 1 - 1 = B by omega]; exact h1


end Go.Proofs.Ytolaiccgbngomaa
