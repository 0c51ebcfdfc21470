/- Plain mathematics of going over a set's stops: the lowest bit of what is left is the next stop; as many stops as there are ones. No program is named here. -/
import Derived.Test.YtbpledppckmclaaDoorMathb
import Derived.Lib.TrailingZeros
namespace Go.Proofs.YtbpledppckmclaaDoor

theorem allN_rises (s : Nat) : (allN s).Pairwise (· < ·) := by
  unfold allN
  rw [List.pairwise_map]
  exact (List.pairwise_lt_range.filter _).imp (fun h => by omega)
theorem allN_stop (s : Nat) (i : Int) (h : i ∈ allN s) : 0 ≤ i ∧ i ≤ 63 := by
  have := (mem_allN s i).1 h
  rcases Decidable.em (0 ≤ i ∧ i ≤ 63) with h' | h'
  · exact h'
  · rw [has_no s i h'] at this; cases this

theorem low_bit (x : Nat) (h0 : x ≠ 0) (hx : x < 18446744073709551616) : x.testBit (Lib.ctz 64 x) = true ∧ Lib.ctz 64 x < 64 ∧ ∀ j, j < Lib.ctz 64 x → x.testBit j = false := by
  obtain ⟨m, hm, hk⟩ := Lib.ctzFrom_spec 64 x (by omega) hx
  have e : Lib.ctz 64 x = Lib.ctzFrom 64 x := by simp [Lib.ctz, h0]
  rw [e]
  generalize Lib.ctzFrom 64 x = c at *
  refine ⟨?_, hk, ?_⟩
  · rw [hm, Nat.testBit_two_pow_mul]
    simp
  · intro j hj
    rw [hm, Nat.testBit_two_pow_mul]
    have : ¬ c ≤ j := by omega
    simp [this]

/-- What is left of a rising list of stops: its lowest bit is its head; without that it is its tail. -/
theorem next_stop (a : Int) (t : List Int) (hr : (a :: t).Pairwise (· < ·)) (hb : ∀ i ∈ a :: t, 0 ≤ i ∧ i ≤ 63) :
    ofN (a :: t) ≠ 0 ∧ ((Lib.ctz 64 (ofN (a :: t)) : Nat) : Int) = a ∧ minus (ofN (a :: t)) (bitN a) = ofN t := by
  have hlt := ofN_lt (a :: t)
  obtain ⟨k, rfl⟩ : ∃ k : Nat, a = k := ⟨a.toNat, by have := hb a (by simp); omega⟩
  have hk : k < 64 := by have := hb k (by simp); omega
  have hak : has (ofN ((k : Int) :: t)) k = true := (has_ofN _ k hk).2 (by simp)
  have h0 : ofN ((k : Int) :: t) ≠ 0 := by
    intro e
    rw [e, has_zero] at hak
    cases hak
  obtain ⟨l1, l2, l3⟩ := low_bit _ h0 hlt
  rw [List.pairwise_cons] at hr
  refine ⟨h0, ?_, ?_⟩
  · have hc : ((Lib.ctz 64 (ofN ((k : Int) :: t)) : Nat) : Int) ∈ (k : Int) :: t := (has_ofN _ _ l2).1 (by rw [has_nat _ _ l2]; exact l1)
    have hge : ¬ k < Lib.ctz 64 (ofN ((k : Int) :: t)) := by
      intro h
      have := l3 k h
      rw [has_nat _ k hk, this] at hak
      cases hak
    rcases List.mem_cons.1 hc with e | e
    · exact e
    · have := hr.1 _ e
      omega
  · apply ext_has (minus_lt hlt) (ofN_lt t)
    intro j hj
    rw [has_minus _ _ _ hlt, has_bitN, Bool.eq_iff_iff, Bool.and_eq_true, has_ofN _ j hj, has_ofN _ j hj, List.mem_cons]
    constructor
    · rintro ⟨h1 | h1, h2⟩
      · rw [h1] at h2
        have d1 : (0 : Int) ≤ (k : Int) := by omega
        have d2 : (k : Int) ≤ 63 := by omega
        simp [d2] at h2
      · exact h1
    · intro h1
      refine ⟨.inr h1, ?_⟩
      have h2 := hr.1 _ h1
      have : ¬ (k : Int) = (j : Int) := by omega
      simp [this]

theorem cn_filter : ∀ n x, ((List.range n).filter (fun i : Nat => x.testBit i)).length = cn n x
  | 0, _ => rfl
  | n + 1, x => by
    have ih := cn_filter n (x / 2)
    rw [← List.countP_eq_length_filter] at ih ⊢
    rw [List.range_succ_eq_map, List.countP_cons, List.countP_map]
    have e : ((fun i : Nat => x.testBit i) ∘ Nat.succ) = fun i : Nat => (x / 2).testBit i := by
      funext i
      simp [Nat.testBit_succ]
    rw [e, ih]
    simp only [cn, Nat.testBit_zero]
    rcases Nat.mod_two_eq_zero_or_one x with h | h <;> simp [h]; omega
theorem cnt_all (s : Nat) : (allN s).length = cnt s := by
  unfold allN
  rw [List.length_map, cn_filter, cnt_cn]
theorem of_all (s : Nat) (hs : s < 18446744073709551616) : ofN (allN s) = s := ofN_of_mem _ s hs (fun k _ => mem_allN s k)
end Go.Proofs.YtbpledppckmclaaDoor
