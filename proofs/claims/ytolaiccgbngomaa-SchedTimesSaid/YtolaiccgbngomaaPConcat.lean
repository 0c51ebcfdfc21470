/- What slices.Min, Grow and Concat, plane.least and the document's Same of two rows answer. -/
import Derived.Test.YtolaiccgbngomaaPList
import Derived.Test.YtolaiccgbngomaaPArgs
namespace Go.Proofs.Ytolaiccgbngomaa
open Go.ChangeShapes Go.WideShapes Go.ChangeAt Go.RowKit

/-- The least of some numbers; 0 of none. -/
def leastL : List Int → Int
  | [] => 0
  | a :: r => r.foldl min a
theorem leastL_snoc (a : Int) (r : List Int) (x : Int) : leastL ((a :: r) ++ [x]) = min (leastL (a :: r)) x := by
  simp [leastL, List.foldl_append]
theorem leastL_take {l : List Int} {k : Nat} (h0 : 1 ≤ k) (hk : k < l.length) : leastL (l.take (k + 1)) = min (leastL (l.take k)) (l.getD k 0) := by
  rw [List.take_add_one, List.getElem?_eq_getElem hk, List.getD_eq_getElem?_getD, List.getElem?_eq_getElem hk]
  simp only [Option.toList_some, Option.getD_some]
  obtain ⟨a, r, e⟩ : ∃ a r, l.take k = a :: r := by
    match l, k with
    | a :: r, k + 1 => exact ⟨a, r.take k, rfl⟩
  rw [e]
  exact leastL_snoc a r _
theorem leastL_one {l : List Int} (h : 0 < l.length) : leastL (l.take 1) = l.getD 0 0 := by
  match l with
  | a :: r => rfl
theorem flat_take {L : List (List Int)} {k : Nat} (hk : k < L.length) : (L.take (k + 1)).flatten = (L.take k).flatten ++ L.getD k [] := by
  rw [List.take_add_one, List.getElem?_eq_getElem hk, List.getD_eq_getElem?_getD, List.getElem?_eq_getElem hk, List.flatten_append]
  congr 1
  simp
theorem flat_mono (L : List (List Int)) (k : Nat) : (L.take k).flatten.length ≤ L.flatten.length := by
  conv => rhs; rw [← List.take_append_drop k L]
  rw [List.flatten_append, List.length_append]
  omega
set_option maxRecDepth 100000 in
theorem same2_any {w : World} {av bv : Value} {A B : List Int} (hA : Row w av (ints A)) (hB : Row w bv (ints B)) :
    Calls Try.prog 14 #[av, bv] w fun e w' => e = .returned (.bool (decide (A = B))) ∧ Below w.heap.size w w' := by
  have HA := Lib.hid hA
  have HB := Lib.hid hB
  obtain ⟨a, capa, rfl, hma⟩ := hA.form
  obtain ⟨b, capb, rfl, hmb⟩ := hB.form
  simp only [ints_len] at *
  clear hA hB
  have hm1 : A.length ≤ 9223372036854775807 := by unfold maxLen at hma; omega
  have hm2 : B.length ≤ 9223372036854775807 := by unfold maxLen at hmb; omega
  clear hma hmb
  by_cases hl : A.length = B.length
  · have HL := Lib.hid hl
    rw [← hl]
    have hne : ((A.length : Int) != (A.length : Int)) = false := by simp
    clear hl hm2
    go_enter Try.func14, Try.ntmps14
    go_wp2_with fail
    go_loopw [5] (fun i wr => ∃ j : Nat, j ≤ A.length ∧ i = .int .i64 j ∧ A.take j = B.take j ∧ Below w.heap.size w wr) (fun i _ => A.length - (intOf i).toNat)
    case atStart => exact ⟨0, Nat.zero_le _, rfl, by simp, Below.refl _ _⟩
    case round =>
      obtain ⟨k, hk, rfl, htk, hbk⟩ := hrel
      have HTK2 := Lib.hid htk
      have HBK := Lib.hid hbk
      clear htk hbk
      by_cases hkl : k < A.length
      · obtain ⟨t1, o1, rfl, e1, _⟩ := row_cell (HA.out.below HBK.out) k (by rw [ints_len]; exact hkl)
        obtain ⟨t2, o2, rfl, e2, _⟩ := row_cell (HB.out.below HBK.out) k (by rw [ints_len, ← HL.out]; exact hkl)
        rw [ints_at _ _ hkl] at e1
        rw [ints_at _ _ (by rw [← HL.out]; exact hkl)] at e2
        obtain ⟨x, hx⟩ : ∃ x, A.getD k 0 = x := ⟨_, rfl⟩
        obtain ⟨y, hy⟩ : ∃ y, B.getD k 0 = y := ⟨_, rfl⟩
        rw [hx] at e1
        rw [hy] at e2
        have HX := Lib.hid hx
        have HY := Lib.hid hy
        clear hx hy
        by_cases hxy : x = y
        · have HXY := Lib.hid hxy
          have hb0 : (x != y) = false := by simp [hxy]
          clear hxy
          go_wp2_with fail
          go_quiet (fail)
          have HW2 := Lib.hid (below_drewN HBK.out nq)
          generalize wr.drewN nq = w3 at *
          go_wp2
          go_roundw
          case rel => exact ⟨k + 1, by omega, by go_num, take_on (d := 0) HL.out hkl HTK2.out (by rw [HX.out, HY.out, HXY.out]), HW2.out⟩
          case measure => simp [intOf]; omega
        · have HXY := Lib.hid hxy
          have hb0 : (x != y) = true := by simp [hxy]
          clear hxy
          go_wp2_with fail
          go_quiet (fail)
          have HW2 := Lib.hid (below_drewN HBK.out nq)
          generalize wr.drewN nq = w3 at *
          go_wp2
          go_ret
          exact ⟨ret_bool (decide_eq_false (fun e => HXY.out (by rw [← HX.out, ← HY.out, e]))).symm, HW2.out⟩
      · obtain rfl : k = A.length := by omega
        clear hkl hk
        have HEQ := Lib.hid (take_all HL.out HTK2.out)
        go_wp2
        go_ret
        exact ⟨ret_bool (decide_eq_true HEQ.out).symm, HBK.out⟩
  · have HL := Lib.hid hl
    have hne : ((A.length : Int) != (B.length : Int)) = true := by simp; omega
    clear hl
    go_enter Try.func14, Try.ntmps14
    go_wp2
    go_ret
    exact ⟨ret_bool (decide_eq_false (fun e => HL.out (by rw [e]))).symm, Below.refl _ _⟩
end Go.Proofs.Ytolaiccgbngomaa
