/- The plain mathematics of how far it is: from one place to another one, there and back, by a third one; the least of some numbers. Nothing of the program stands here. -/
import Derived.Test.YtolaiccgbngomaaNRMath
import Derived.Test.YtolaiccgbngomaaIMath
namespace Go.Proofs.Ytolaiccgbngomaa

/-- A coordinate as it counts. -/
def cl (n : Int) : Int := min (max n 0) 10000
theorem cl_bd (n : Int) : 0 ≤ cl n ∧ cl n ≤ 10000 := by unfold cl; omega
theorem cl_in (n : Int) (h0 : 0 ≤ n) (h1 : n ≤ 10000) : cl n = n := by unfold cl; omega
/-- How far it is across and along. -/
def farD (dx dy : Int) : Int := rootOf (dx * dx + dy * dy)
def farF (a b : Stp) : Int := farD (cl b.x - cl a.x) (cl b.y - cl a.y)
theorem neg_sq (x y : Int) (h : y = -x) : y * y = x * x := by subst h; rw [Int.neg_mul, Int.mul_neg, Int.neg_neg]
theorem farF_comm (a b : Stp) : farF a b = farF b a := by
  unfold farF farD
  rw [neg_sq (cl a.x - cl b.x) (cl b.x - cl a.x) (by omega), neg_sq (cl a.y - cl b.y) (cl b.y - cl a.y) (by omega)]
theorem sq_pos (x : Int) : 0 ≤ x * x := by
  rcases Int.le_total 0 x with h | h
  · exact Int.mul_nonneg h h
  · have := Int.mul_nonneg (a := -x) (b := -x) (by omega) (by omega)
    rwa [Int.neg_mul, Int.mul_neg, Int.neg_neg] at this
theorem sq_bd (x : Int) (h0 : -10000 ≤ x) (h1 : x ≤ 10000) : 0 ≤ x * x ∧ x * x ≤ 100000000 := by
  refine ⟨sq_pos x, ?_⟩
  rcases Int.le_total 0 x with h | h
  · exact sq_mono x 10000 h h1
  · have := sq_mono (-x) 10000 (by omega) (by omega)
    rwa [Int.neg_mul, Int.mul_neg, Int.neg_neg] at this
/-- What a root is: the least number whose square is not less. -/
theorem root_sq (n : Int) (h2 : n ≤ 1152921504606846976) : 0 ≤ rootOf n ∧ n ≤ rootOf n * rootOf n := by
  by_cases h1 : 1 ≤ n
  · have := rootOf_is n h1 h2
    exact ⟨by have := this.1; omega, this.2.2⟩
  · rw [rootOf_low n (by omega)]; omega
theorem root_le (n k : Int) (hk : 0 ≤ k) (h2 : n ≤ 1152921504606846976) (h : n ≤ k * k) : rootOf n ≤ k := by
  by_cases h1 : 1 ≤ n
  · have hr := rootOf_is n h1 h2
    have h3 := hr.2.1
    apply Int.not_lt.1
    intro hlt
    have := sq_mono k (rootOf n - 1) hk (by omega)
    omega
  · rw [rootOf_low n (by omega)]; exact hk
theorem farD_bd (dx dy : Int) (h0 : -10000 ≤ dx) (h1 : dx ≤ 10000) (h2 : -10000 ≤ dy) (h3 : dy ≤ 10000) : 0 ≤ farD dx dy ∧ farD dx dy ≤ 14143 := by
  have a := sq_bd dx h0 h1
  have b := sq_bd dy h2 h3
  unfold farD
  exact ⟨(root_sq _ (by omega)).1, root_le _ 14143 (by omega) (by omega) (by omega)⟩
theorem farF_bd (a b : Stp) : 0 ≤ farF a b ∧ farF a b ≤ 14143 := by
  have h1 := cl_bd a.x
  have h2 := cl_bd a.y
  have h3 := cl_bd b.x
  have h4 := cl_bd b.y
  exact farD_bd _ _ (by omega) (by omega) (by omega) (by omega)
theorem farF_self (a : Stp) : farF a a = 0 := by
  unfold farF
  rw [show cl a.x - cl a.x = 0 by omega, show cl a.y - cl a.y = 0 by omega]
  exact rootOf_low _ (by decide)
theorem sq_zero (x : Int) (h : x * x ≤ 0) : x = 0 := by
  rcases Int.lt_trichotomy x 0 with h1 | h1 | h1
  · have := sq_mono 1 (-x) (by omega) (by omega)
    rw [Int.neg_mul, Int.mul_neg, Int.neg_neg] at this
    omega
  · exact h1
  · have := sq_mono 1 x (by omega) (by omega)
    omega
theorem farD_zero (dx dy : Int) (h : farD dx dy = 0) (h0 : dx * dx + dy * dy ≤ 1152921504606846976) : dx = 0 ∧ dy = 0 := by
  unfold farD at h
  have h1 := (root_sq _ h0).2
  rw [h] at h1
  have a := sq_pos dx
  have b := sq_pos dy
  exact ⟨sq_zero dx (by omega), sq_zero dy (by omega)⟩
/-- Two ways one behind the other are no shorter than the one way. -/
theorem cauchy (a b c d p q : Int) (hp : 0 ≤ p) (hq : 0 ≤ q) (h1 : a * a + b * b ≤ p * p) (h2 : c * c + d * d ≤ q * q) : a * c + b * d ≤ p * q := by
  apply Int.not_lt.1
  intro hlt
  have hpq : 0 ≤ p * q := Int.mul_nonneg hp hq
  have e1 : (p * q + 1) * (p * q + 1) ≤ (a * c + b * d) * (a * c + b * d) := sq_mono _ _ (by omega) (by omega)
  have e2 : (a * a + b * b) * (c * c + d * d) ≤ (p * p) * (q * q) := Int.mul_le_mul h1 h2 (by have := sq_pos c; have := sq_pos d; omega) (sq_pos p)
  have e3 : 0 ≤ (a * d - b * c) * (a * d - b * c) := sq_pos _
  have i1 : (a * c + b * d) * (a * c + b * d) + (a * d - b * c) * (a * d - b * c) = (a * a + b * b) * (c * c + d * d) := by
    simp only [Int.add_mul, Int.mul_add, Int.sub_mul, Int.mul_sub]
    have x1 : a * c * (a * c) = a * a * (c * c) := by ac_rfl
    have x2 : b * d * (b * d) = b * b * (d * d) := by ac_rfl
    have x3 : a * d * (a * d) = a * a * (d * d) := by ac_rfl
    have x4 : b * c * (b * c) = b * b * (c * c) := by ac_rfl
    have x5 : a * c * (b * d) = a * d * (b * c) := by ac_rfl
    have x6 : b * d * (a * c) = b * c * (a * d) := by ac_rfl
    have x7 : a * d * (b * c) = b * c * (a * d) := by ac_rfl
    omega
  have i2 : (p * q + 1) * (p * q + 1) = p * p * (q * q) + 2 * (p * q) + 1 := by
    rw [Int.add_mul, Int.mul_add]
    have x1 : p * q * (p * q) = p * p * (q * q) := by ac_rfl
    omega
  omega
theorem farD_add (a b c d : Int) (h1 : a * a + b * b ≤ 1152921504606846976) (h2 : c * c + d * d ≤ 1152921504606846976) (h3 : (a + c) * (a + c) + (b + d) * (b + d) ≤ 1152921504606846976) :
    farD (a + c) (b + d) ≤ farD a b + farD c d := by
  unfold farD
  obtain ⟨p0, p1⟩ := root_sq _ h1
  obtain ⟨q0, q1⟩ := root_sq _ h2
  refine root_le _ _ (by omega) h3 ?_
  generalize rootOf (a * a + b * b) = p at *
  generalize rootOf (c * c + d * d) = q at *
  have := cauchy a b c d p q p0 q0 p1 q1
  simp only [Int.add_mul, Int.mul_add]
  have x1 : c * a = a * c := Int.mul_comm ..
  have x2 : d * b = b * d := Int.mul_comm ..
  have x3 : q * p = p * q := Int.mul_comm ..
  omega
theorem farF_by (a b c : Stp) : farF a b ≤ farF a c + farF c b := by
  have h1 := cl_bd a.x
  have h2 := cl_bd a.y
  have h3 := cl_bd b.x
  have h4 := cl_bd b.y
  have h5 := cl_bd c.x
  have h6 := cl_bd c.y
  have s1 := sq_bd (cl c.x - cl a.x) (by omega) (by omega)
  have s2 := sq_bd (cl c.y - cl a.y) (by omega) (by omega)
  have s3 := sq_bd (cl b.x - cl c.x) (by omega) (by omega)
  have s4 := sq_bd (cl b.y - cl c.y) (by omega) (by omega)
  have s5 := sq_bd (cl c.x - cl a.x + (cl b.x - cl c.x)) (by omega) (by omega)
  have s6 := sq_bd (cl c.y - cl a.y + (cl b.y - cl c.y)) (by omega) (by omega)
  have := farD_add (cl c.x - cl a.x) (cl c.y - cl a.y) (cl b.x - cl c.x) (cl b.y - cl c.y) (by omega) (by omega) (by omega)
  rw [show cl c.x - cl a.x + (cl b.x - cl c.x) = cl b.x - cl a.x by omega, show cl c.y - cl a.y + (cl b.y - cl c.y) = cl b.y - cl a.y by omega] at this
  exact this
theorem farF_zero (a b : Stp) (h : farF a b = 0) : cl a.x = cl b.x ∧ cl a.y = cl b.y := by
  have h1 := cl_bd a.x
  have h2 := cl_bd a.y
  have h3 := cl_bd b.x
  have h4 := cl_bd b.y
  have s1 := sq_bd (cl b.x - cl a.x) (by omega) (by omega)
  have s2 := sq_bd (cl b.y - cl a.y) (by omega) (by omega)
  obtain ⟨e1, e2⟩ := farD_zero _ _ h (by omega)
  omega
/-- Only the places count. -/
theorem farF_eq {a b c d : Stp} (h1 : a.x = c.x) (h2 : a.y = c.y) (h3 : b.x = d.x) (h4 : b.y = d.y) : farF a b = farF c d := by
  unfold farF
  rw [h1, h2, h3, h4]
end Go.Proofs.Ytolaiccgbngomaa
