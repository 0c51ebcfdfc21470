/- Plain mathematics of sets as bits: how many ones a number has, by its digits, as Go's OnesCount64 counts them; what putting in, taking out and shifting do to each bit. No program is named here. -/
namespace Go.Proofs.YtbpledppckmclaaDoor

/-! ### Digits -/
def dg (B : Nat) : List Nat → Nat
  | [] => 0
  | d :: ds => d + B * dg B ds
def bitsOf : Nat → Nat → List Nat
  | 0, _ => []
  | n + 1, x => x % 2 :: bitsOf n (x / 2)
def add2 : List Nat → List Nat
  | a :: b :: t => (a + b) :: add2 t
  | [a] => [a]
  | [] => []
def evens : List Nat → List Nat
  | a :: _ :: t => a :: evens t
  | [a] => [a]
  | [] => []
def nbr : List Nat → List Nat
  | a :: b :: t => (a + b) :: nbr (b :: t)
  | [a] => [a]
  | [] => []

theorem dg_bitsOf : ∀ n x, x < 2 ^ n → dg 2 (bitsOf n x) = x
  | 0, x, h => by simp at h; subst h; rfl
  | n + 1, x, h => by
    have : x / 2 < 2 ^ n := by rw [Nat.pow_succ] at h; omega
    simp only [bitsOf, dg, dg_bitsOf n (x / 2) this]
    omega
theorem bitsOf_lt : ∀ n x, ∀ d ∈ bitsOf n x, d ≤ 1
  | 0, x => by simp [bitsOf]
  | n + 1, x => by
    intro d hd
    simp only [bitsOf, List.mem_cons] at hd
    rcases hd with rfl | hd
    · omega
    · exact bitsOf_lt n _ d hd
theorem bitsOf_len : ∀ n x, (bitsOf n x).length = n
  | 0, _ => rfl
  | n + 1, x => by simp [bitsOf, bitsOf_len n]

theorem add2_len : ∀ (k : Nat) (l : List Nat), l.length = 2 * k → (add2 l).length = k
  | 0, [], _ => rfl
  | 0, _ :: _, h => by simp at h
  | k + 1, [], h => by simp at h
  | k + 1, [_], h => by simp at h; omega
  | k + 1, _ :: _ :: t, h => by simp [add2]; exact add2_len k t (by simp at h; omega)
theorem add2_sum : ∀ (l : List Nat), (add2 l).sum = l.sum
  | [] => rfl
  | [_] => rfl
  | a :: b :: t => by simp [add2, add2_sum t]; omega
theorem add2_le (m : Nat) : ∀ (l : List Nat), (∀ d ∈ l, d ≤ m) → ∀ d ∈ add2 l, d ≤ 2 * m
  | [], _ => by simp [add2]
  | [a], h => by simp [add2] at *; omega
  | a :: b :: t, h => by
    intro d hd
    simp only [add2, List.mem_cons] at hd
    rcases hd with rfl | hd
    · have := h a (by simp); have := h b (by simp); omega
    · exact add2_le m t (fun d hd => h d (by simp [hd])) d hd

theorem and_split (w a b c d : Nat) (hb : b < 2 ^ w) (hd : d < 2 ^ w) : (b + 2 ^ w * a) &&& (d + 2 ^ w * c) = (b &&& d) + 2 ^ w * (a &&& c) := by
  have hbd : b &&& d < 2 ^ w := Nat.and_lt_two_pow _ hd
  apply Nat.eq_of_testBit_eq
  intro i
  rw [Nat.add_comm b, Nat.add_comm d, Nat.add_comm (b &&& d), Nat.testBit_and, Nat.testBit_two_pow_mul_add _ hb, Nat.testBit_two_pow_mul_add _ hd, Nat.testBit_two_pow_mul_add _ hbd]
  split <;> simp [Nat.testBit_and]

/-- Every other digit is kept by the mask. -/
theorem dg_mask (w : Nat) : ∀ (k : Nat) (l : List Nat), l.length ≤ 2 * k → (∀ d ∈ l, d < 2 ^ w) →
    dg (2 ^ w) l &&& dg (2 ^ w * 2 ^ w) (List.replicate k (2 ^ w - 1)) = dg (2 ^ w * 2 ^ w) (evens l)
  | 0, [], _, _ => by simp [dg, evens]
  | 0, _ :: _, h, _ => by simp at h
  | k + 1, [], _, _ => by simp [dg, evens]
  | k + 1, [a], _, hd => by
    have ha := hd a (by simp)
    have := and_split (w + w) 0 a (dg (2 ^ w * 2 ^ w) (List.replicate k (2 ^ w - 1))) (2 ^ w - 1) (by rw [Nat.pow_add]; exact Nat.lt_of_lt_of_le ha (Nat.le_mul_of_pos_right _ (Nat.two_pow_pos w))) (by rw [Nat.pow_add]; exact Nat.lt_of_lt_of_le (Nat.sub_lt (Nat.two_pow_pos w) (by decide)) (Nat.le_mul_of_pos_right _ (Nat.two_pow_pos w)))
    rw [Nat.pow_add] at this
    simp only [List.replicate_succ, dg, evens, Nat.mul_zero, Nat.add_zero] at this ⊢
    rw [this, Nat.and_two_pow_sub_one_eq_mod, Nat.mod_eq_of_lt ha]
    simp
  | k + 1, a :: b :: t, hl, hd => by
    have ha := hd a (by simp)
    have hb := hd b (by simp)
    have ih := dg_mask w k t (by simp at hl; omega) (fun d h => hd d (by simp [h]))
    have hlt : a + 2 ^ w * b < 2 ^ (w + w) := by
      rw [Nat.pow_add]
      calc a + 2 ^ w * b < 2 ^ w + 2 ^ w * b := by omega
        _ = 2 ^ w * (b + 1) := by rw [Nat.mul_add, Nat.mul_one, Nat.add_comm]
        _ ≤ 2 ^ w * 2 ^ w := Nat.mul_le_mul_left _ hb
    have hm : 2 ^ w - 1 < 2 ^ (w + w) := by rw [Nat.pow_add]; exact Nat.lt_of_lt_of_le (Nat.sub_lt (Nat.two_pow_pos w) (by decide)) (Nat.le_mul_of_pos_right _ (Nat.two_pow_pos w))
    have := and_split (w + w) (dg (2 ^ w) t) (a + 2 ^ w * b) (dg (2 ^ w * 2 ^ w) (List.replicate k (2 ^ w - 1))) (2 ^ w - 1) hlt hm
    rw [Nat.pow_add, ih] at this
    have e : a + 2 ^ w * (b + 2 ^ w * dg (2 ^ w) t) = a + 2 ^ w * b + 2 ^ w * 2 ^ w * dg (2 ^ w) t := by
      rw [Nat.mul_add, Nat.mul_assoc]; omega
    simp only [List.replicate_succ, dg, evens]
    rw [e, this, Nat.and_two_pow_sub_one_eq_mod]
    congr 1
    rw [Nat.add_mul_mod_self_left, Nat.mod_eq_of_lt ha]

theorem dg_div (B : Nat) (hB : 0 < B) (a : Nat) (t : List Nat) (ha : a < B) : dg B (a :: t) / B = dg B t := by
  simp only [dg]
  rw [Nat.add_mul_div_left _ _ hB, Nat.div_eq_of_lt ha, Nat.zero_add]

theorem dg_halves (B : Nat) : ∀ (l : List Nat), dg B (evens l) + dg B (evens l.tail) = dg B (add2 l)
  | [] => by simp [dg, evens, add2]
  | [a] => by simp [dg, evens, add2]
  | a :: b :: t => by
    have ih := dg_halves B t
    have e : evens (b :: t) = b :: evens t.tail := by cases t <;> rfl
    simp only [List.tail_cons, evens, add2, dg] at *
    rw [e]
    simp only [dg, ← ih, Nat.mul_add]
    omega

/-- A step of the count with the mask on both sides. -/
theorem dg_step (w k : Nat) (l : List Nat) (hl : l.length = 2 * k) (hd : ∀ d ∈ l, d < 2 ^ w) :
    (dg (2 ^ w) l / 2 ^ w &&& dg (2 ^ w * 2 ^ w) (List.replicate k (2 ^ w - 1))) + (dg (2 ^ w) l &&& dg (2 ^ w * 2 ^ w) (List.replicate k (2 ^ w - 1))) = dg (2 ^ w * 2 ^ w) (add2 l) := by
  cases l with
  | nil => simp [dg, add2]
  | cons a t =>
    rw [dg_div _ (Nat.two_pow_pos w) a t (hd a (by simp)), dg_mask w k (a :: t) (by omega) hd, dg_mask w k t (by simp at hl; omega) (fun d h => hd d (by simp [h])), Nat.add_comm]
    exact dg_halves _ (a :: t)

theorem dg_nbr (B : Nat) (hB : 0 < B) : ∀ (l : List Nat), (∀ d ∈ l, d < B) → dg B l / B + dg B l = dg B (nbr l)
  | [], _ => by simp [dg, nbr]
  | [a], h => by
    have := h a (by simp)
    simp only [dg, nbr, Nat.mul_zero, Nat.add_zero]
    rw [Nat.div_eq_of_lt this]; omega
  | a :: b :: t, h => by
    have ih := dg_nbr B hB (b :: t) (fun d hd => h d (List.mem_cons_of_mem _ hd))
    rw [dg_div B hB b t (h b (by simp))] at ih
    rw [dg_div B hB a (b :: t) (h a (by simp))]
    simp only [nbr]
    show _ = (a + b) + B * dg B (nbr (b :: t))
    rw [← ih]
    simp only [dg, Nat.mul_add]
    omega
theorem nbr_len : ∀ (l : List Nat), (nbr l).length = l.length
  | [] => rfl
  | [_] => rfl
  | a :: b :: t => by simp [nbr, nbr_len (b :: t)]
theorem nbr_le (m : Nat) : ∀ (l : List Nat), (∀ d ∈ l, d ≤ m) → ∀ d ∈ nbr l, d ≤ 2 * m
  | [], _ => by simp [nbr]
  | [a], h => by simp [nbr] at *; omega
  | a :: b :: t, h => by
    intro d hd
    simp only [nbr, List.mem_cons] at hd
    rcases hd with rfl | hd
    · have := h a (by simp); have := h b (by simp); omega
    · exact nbr_le m (b :: t) (fun d hd => h d (List.mem_cons_of_mem _ hd)) d hd
theorem evens_nbr : ∀ (k : Nat) (l : List Nat), l.length = 2 * k → evens (nbr l) = add2 l
  | 0, [], _ => rfl
  | 0, _ :: _, h => by simp at h
  | k + 1, [], h => by simp at h
  | k + 1, [_], h => by simp at h; omega
  | k + 1, [a, b], _ => by simp [nbr, evens, add2]
  | k + 1, a :: b :: c :: t, h => by
    have ih := evens_nbr k (c :: t) (by simp at h ⊢; omega)
    simp only [nbr, evens, add2] at *
    rw [ih]

/-! ### How many -/
def cnt (x : Nat) : Nat := (bitsOf 64 x).sum

theorem sum_le (m : Nat) : ∀ (l : List Nat), (∀ d ∈ l, d ≤ m) → l.sum ≤ m * l.length
  | [], _ => by simp
  | a :: t, h => by
    have ih := sum_le m t (fun d hd => h d (List.mem_cons_of_mem _ hd))
    have := h a (by simp)
    simp only [List.sum_cons, List.length_cons, Nat.mul_add]
    omega
theorem cnt_le (x : Nat) : cnt x ≤ 64 := by
  have := sum_le 1 _ (bitsOf_lt 64 x)
  rw [bitsOf_len] at this
  exact this

def pop1 (x : Nat) : Nat := (x / 2 &&& 6148914691236517205) + (x &&& 6148914691236517205)
def pop2 (x : Nat) : Nat := (x / 4 &&& 3689348814741910323) + (x &&& 3689348814741910323)
def pop3 (x : Nat) : Nat := (x / 16 + x) &&& 1085102592571150095

theorem pop_all (x : Nat) (hx : x < 18446744073709551616) : ∃ c0 c1 c2 c3 c4 c5 c6 c7 : Nat, c0 ≤ 8 ∧ c1 ≤ 8 ∧ c2 ≤ 8 ∧ c3 ≤ 8 ∧ c4 ≤ 8 ∧ c5 ≤ 8 ∧ c6 ≤ 8 ∧ c7 ≤ 8 ∧
    pop1 x < 18446744073709551616 ∧ pop2 (pop1 x) < 18446744073709551616 ∧ pop2 (pop1 x) / 16 + pop2 (pop1 x) < 18446744073709551616 ∧
    pop3 (pop2 (pop1 x)) = c0 + 256 * (c1 + 256 * (c2 + 256 * (c3 + 256 * (c4 + 256 * (c5 + 256 * (c6 + 256 * c7)))))) ∧ c0 + c1 + c2 + c3 + c4 + c5 + c6 + c7 = cnt x := by
  have e0 := dg_bitsOf 64 x hx
  have l0 := bitsOf_len 64 x
  have b0 := bitsOf_lt 64 x
  have hs : (bitsOf 64 x).sum = cnt x := rfl
  generalize bitsOf 64 x = L0 at *
  have s1 := dg_step 1 32 L0 l0 (fun d h => by have := b0 d h; omega)
  have m1 : dg (2 ^ 1 * 2 ^ 1) (List.replicate 32 (2 ^ 1 - 1)) = 6148914691236517205 := by decide
  rw [m1] at s1
  have e1 : pop1 x = dg 4 (add2 L0) := by unfold pop1; rw [← e0]; exact s1
  have l1 := add2_len 32 L0 l0
  have b1 := add2_le 1 L0 b0
  have u1 := add2_sum L0
  generalize add2 L0 = L1 at *
  have s2 := dg_step 2 16 L1 l1 (fun d h => by have := b1 d h; omega)
  have m2 : dg (2 ^ 2 * 2 ^ 2) (List.replicate 16 (2 ^ 2 - 1)) = 3689348814741910323 := by decide
  rw [m2] at s2
  have e2 : pop2 (pop1 x) = dg 16 (add2 L1) := by unfold pop2; rw [e1]; exact s2
  have l2 := add2_len 16 L1 l1
  have b2 := add2_le 2 L1 b1
  have u2 := add2_sum L1
  generalize add2 L1 = L2 at *
  have s3 := dg_nbr 16 (by decide) L2 (fun d h => by have := b2 d h; omega)
  have k3 := dg_mask 4 8 (nbr L2) (by rw [nbr_len, l2]; decide) (fun d h => by have := nbr_le 4 L2 b2 d h; omega)
  have m3 : dg (2 ^ 4 * 2 ^ 4) (List.replicate 8 (2 ^ 4 - 1)) = 1085102592571150095 := by decide
  rw [m3, evens_nbr 8 L2 l2] at k3
  have e3 : pop3 (pop2 (pop1 x)) = dg 256 (add2 L2) := by unfold pop3; rw [e2, s3]; exact k3
  have l3 := add2_len 8 L2 l2
  have b3 := add2_le 4 L2 b2
  have u3 := add2_sum L2
  have dlt : ∀ (B : Nat) (l : List Nat), 0 < B → (∀ d ∈ l, d < B) → dg B l < B ^ l.length := by
    intro B l hB
    induction l with
    | nil => intro _; simp [dg]
    | cons a t ih =>
      intro h
      have h1 := ih (fun d hd => h d (List.mem_cons_of_mem _ hd))
      have h2 := h a (by simp)
      simp only [dg, List.length_cons, Nat.pow_succ]
      have h3 : B * (dg B t + 1) ≤ B * B ^ t.length := Nat.mul_le_mul_left _ h1
      rw [Nat.mul_add, Nat.mul_one] at h3
      rw [Nat.mul_comm (B ^ _)]
      omega
  have t1 : pop1 x < 18446744073709551616 := by
    rw [e1]
    have := dlt 4 L1 (by decide) (fun d h => by have := b1 d h; omega)
    rw [l1] at this; exact this
  have t2 : pop2 (pop1 x) < 18446744073709551616 := by
    rw [e2]
    have := dlt 16 L2 (by decide) (fun d h => by have := b2 d h; omega)
    rw [l2] at this; exact this
  have t3 : pop2 (pop1 x) / 16 + pop2 (pop1 x) < 18446744073709551616 := by
    rw [e2, s3]
    have := dlt 16 (nbr L2) (by decide) (fun d h => by have := nbr_le 4 L2 b2 d h; omega)
    rw [nbr_len, l2] at this; exact this
  generalize add2 L2 = L3 at *
  match L3, l3 with
  | [c0, c1, c2, c3, c4, c5, c6, c7], _ =>
    simp only [List.mem_cons, List.not_mem_nil, or_false, forall_eq_or_imp, forall_eq] at b3
    obtain ⟨g0, g1, g2, g3, g4, g5, g6, g7⟩ := b3
    refine ⟨c0, c1, c2, c3, c4, c5, c6, c7, by omega, by omega, by omega, by omega, by omega, by omega, by omega, by omega, t1, t2, t3, ?_, ?_⟩
    · rw [e3]; simp [dg]
    · have : [c0, c1, c2, c3, c4, c5, c6, c7].sum = cnt x := by rw [u3, u2, u1, hs]
      simp at this; omega
theorem pop_end (c0 c1 c2 c3 c4 c5 c6 c7 y z u v : Nat) (k0 : c0 ≤ 8) (k1 : c1 ≤ 8) (k2 : c2 ≤ 8) (k3 : c3 ≤ 8) (k4 : c4 ≤ 8) (k5 : c5 ≤ 8) (k6 : c6 ≤ 8) (k7 : c7 ≤ 8)
    (e : y = c0 + 256 * (c1 + 256 * (c2 + 256 * (c3 + 256 * (c4 + 256 * (c5 + 256 * (c6 + 256 * c7)))))))
    (hz : z = y + y / 256) (hu : u = z + z / 65536) (hv : v = u + u / 4294967296) :
    z < 18446744073709551616 ∧ u < 18446744073709551616 ∧ v < 4611686018427387904 ∧ v % 128 = c0 + c1 + c2 + c3 + c4 + c5 + c6 + c7 := by
  have q : y / 256 = c1 + 256 * (c2 + 256 * (c3 + 256 * (c4 + 256 * (c5 + 256 * (c6 + 256 * c7))))) := by clear hz hu hv; omega
  have ez : z = (c0 + c1) + 256 * ((c1 + c2) + 256 * ((c2 + c3) + 256 * ((c3 + c4) + 256 * ((c4 + c5) + 256 * ((c5 + c6) + 256 * ((c6 + c7) + 256 * c7)))))) := by rw [hz, q, e]; clear hz hu hv q e; omega
  clear q hz e
  have q : z / 65536 = (c2 + c3) + 256 * ((c3 + c4) + 256 * ((c4 + c5) + 256 * ((c5 + c6) + 256 * ((c6 + c7) + 256 * c7)))) := by clear hu hv; omega
  have eu : u = (c0 + c1 + c2 + c3) + 256 * ((c1 + c2 + c3 + c4) + 256 * ((c2 + c3 + c4 + c5) + 256 * ((c3 + c4 + c5 + c6) + 256 * ((c4 + c5 + c6 + c7) + 256 * ((c5 + c6 + c7) + 256 * ((c6 + c7) + 256 * c7)))))) := by rw [hu, q, ez]; clear hu hv q ez; omega
  clear q hu
  have bz : z < 18446744073709551616 := by clear hv eu; omega
  clear ez
  have q : u / 4294967296 = (c4 + c5 + c6 + c7) + 256 * ((c5 + c6 + c7) + 256 * ((c6 + c7) + 256 * c7)) := by clear hv; omega
  have ev : v = (c0 + c1 + c2 + c3 + c4 + c5 + c6 + c7) + 256 * ((c1 + c2 + c3 + c4 + c5 + c6 + c7) + 256 * ((c2 + c3 + c4 + c5 + c6 + c7) + 256 * ((c3 + c4 + c5 + c6 + c7) + 256 * ((c4 + c5 + c6 + c7) + 256 * ((c5 + c6 + c7) + 256 * ((c6 + c7) + 256 * c7)))))) := by rw [hv, q, eu]; clear hv q eu; omega
  clear q hv
  have bu : u < 18446744073709551616 := by clear ev; omega
  clear eu
  exact ⟨bz, bu, by omega, by omega⟩
end Go.Proofs.YtbpledppckmclaaDoor
