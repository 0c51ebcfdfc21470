/- What slices.Min, Grow and Concat, plane.least and the document's Same of two rows answer. -/
import Derived.Test.YtiohnjgfpjbjmaaPList
import Derived.Test.YtiohnjgfpjbjmaaPArgs
namespace Go.Proofs.Ytiohnjgfpjbjmaa
open Go.ChangeShapes Go.WideShapes Go.ChangeAt Go.RowKit

/-- The least of some numbers; 0 of none. -/
def leastL : List Int → Int
  | [] => 0
  | a :: r => r.foldl min a
theorem leastL_snoc (a : Int) (r : List Int) (x : Int) : leastL ((a :: r) ++ [x]) = min (leastL (a :: r)) x := by
  simp [leastL, List.foldl_append]
theorem leastL_take {l : List Int} {k : Nat} (h0 : 1 ≤ k) (hk : k < l.length) : leastL (l.take (k + 1)) = min (leastL (l.take k)) (l.getD k 0) := by
  rw [List.take_add_one, List.getElem?_eq_getElem hk, List.getD_eq_getElem?_getD, List.getElem?_eq_getElem hk]
  simp only [Option.toList_some, Option.getD_some]
  obtain ⟨a, r, e⟩ : ∃ a r, l.take k = a :: r := by
    match l, k with
    | a :: r, k + 1 => exact ⟨a, r.take k, rfl⟩
  rw [e]
  exact leastL_snoc a r _
theorem leastL_one {l : List Int} (h : 0 < l.length) : leastL (l.take 1) = l.getD 0 0 := by
  match l with
  | a :: r => rfl
set_option maxRecDepth 100000 in
theorem min_any {w : World} {v : Value} {l : List Int} (h : Row w v (ints l)) (hp : 0 < l.length) :
    Calls Try.prog 32 #[v] w fun e w' => e = .returned (.int .i64 (leastL l)) ∧ w' = w := by
  have H := Lib.hid h
  obtain ⟨ad, cap, rfl, hm⟩ := h.form
  simp only [ints_len] at *
  have hm1 : l.length ≤ 9223372036854775807 := by unfold maxLen at hm; omega
  obtain ⟨tb, off, rfl, hc0, _⟩ := row_cell H.out 0 (by rw [ints_len]; exact hp)
  rw [ints_at _ _ hp, Nat.add_zero] at hc0
  have HONE := Lib.hid (leastL_one hp)
  obtain ⟨n0, hn0⟩ : ∃ n, l.getD 0 0 = n := ⟨_, rfl⟩
  rw [hn0] at hc0 HONE
  have h1l : decide ((l.length : Int) < 1) = false := decide_eq_false (by omega)
  have h1k : (1 : Int) ≤ (l.length : Int) := by omega
  clear h hm hn0
  go_enter Try.func32, Try.ntmps32
  go_wp2_with fail
  go_loop [3, 4] (fun m i => ∃ k : Nat, 1 ≤ k ∧ k ≤ l.length ∧ i = .int .i64 k ∧ m = .int .i64 (leastL (l.take k))) (fun _ i => l.length - (intOf i).toNat)
  case atStart => exact ⟨1, Nat.le_refl _, hp, rfl, by rw [HONE.out]⟩
  case round =>
    obtain ⟨k, hk0, hk, rfl, rfl⟩ := hrel
    by_cases hlt : k < l.length
    · have hc := row_here H.out k (by rw [ints_len]; exact hlt)
      rw [ints_at _ _ hlt] at hc
      have HS := Lib.hid (leastL_take hk0 hlt)
      generalize leastL (l.take k) = m at *
      generalize l.getD k 0 = x at *
      clear hc0
      go_wp2
      all_goals
        go_round
        case rel =>
          refine ⟨k + 1, by omega, by omega, by go_num, ?_⟩
          rw [HS.out]
          congr 1
          omega
        case measure => simp [intOf]; omega
    · obtain rfl : k = l.length := by omega
      rw [List.take_length]
      clear hlt hk hc0
      go_wp2
      go_ret
      exact ⟨rfl, rfl⟩
set_option maxRecDepth 100000 in
theorem least_any {w : World} {v : Value} {l : List Int} (h : Row w v (ints l)) :
    Calls Try.prog 20 #[v] w fun e w' => e = .returned (.int .i64 (leastL l)) ∧ w' = w := by
  have H := Lib.hid h
  obtain ⟨ad, cap, rfl, hm⟩ := h.form
  simp only [ints_len] at *
  by_cases hp : l.length = 0
  · have e : l = [] := List.eq_nil_of_length_eq_zero hp
    subst e
    clear H h hm
    go_enter Try.func20, Try.ntmps20
    go_wp2
    go_ret
    exact ⟨rfl, rfl⟩
  · have hz : ((l.length : Int) == 0) = false := by simp; intro e; subst e; simp at hp
    have HP := Lib.hid hp
    clear h hm hp
    go_enter Try.func20, Try.ntmps20
    go_wp2_with fail
    refine (min_any H.out (by have := HP.out; omega)).mono ?_
    rintro e w' ⟨rfl, rfl⟩
    go_wp2
    go_ret
    exact ⟨rfl, rfl⟩
set_option maxRecDepth 100000 in
theorem grow_any (n : Nat) (w : World) (hn : n ≤ 1000000) :
    Calls Try.prog 33 #[.slice none 0 0, .int .i64 (n : Int)] w fun e w' => ∃ u, e = .returned u ∧ OwnI w' w.heap.size u [] ∧ Below w.heap.size w w' := by
  by_cases h0 : n = 0
  · subst h0
    go_enter Try.func33, Try.ntmps33
    go_wp2
    go_ret
    exact ⟨_, rfl, ownI_nil _ _, Below.refl _ _⟩
  · have d1 : decide ((n : Int) < 0) = false := decide_eq_false (by omega)
    have d2 : decide ((0 : Int) < (n : Int)) = true := decide_eq_true (by omega)
    have hp : 0 < n := by omega
    clear h0
    go_enter Try.func33, Try.ntmps33
    go_wp2_with (first | (at_builtin; refine app_make rfl _ _ rfl w.heap.size n rfl rfl hp hn (Nat.le_refl _) ?_))
    intro cap w' hcap hown hgrow
    have HO := Lib.hid hown
    have HB := Lib.hid (grown_below hgrow (Nat.le_refl _) (fun q hq => by simp at hq))
    clear hown hgrow
    go_wp2
    go_ret
    exact ⟨_, rfl, HO.out, HB.out⟩
theorem flat_take {L : List (List Int)} {k : Nat} (hk : k < L.length) : (L.take (k + 1)).flatten = (L.take k).flatten ++ L.getD k [] := by
  rw [List.take_add_one, List.getElem?_eq_getElem hk, List.getD_eq_getElem?_getD, List.getElem?_eq_getElem hk, List.flatten_append]
  congr 1
  simp
theorem flat_mono (L : List (List Int)) (k : Nat) : (L.take k).flatten.length ≤ L.flatten.length := by
  conv => rhs; rw [← List.take_append_drop k L]
  rw [List.flatten_append, List.length_append]
  omega
set_option maxRecDepth 100000 in
set_option maxHeartbeats 1000000 in
theorem concat_any {w : World} {v : Value} {L : List (List Int)} (h : IsLL w v L) (hs : L.flatten.length ≤ 1000000) :
    Calls Try.prog 21 #[v] w fun e w' => ∃ u, e = .returned u ∧ OwnI w' w.heap.size u L.flatten ∧ Below w.heap.size w w' := by
  have H := Lib.hid h
  obtain ⟨ad, cap, rfl, hm⟩ := h.form
  have hm1 : L.length ≤ 9223372036854775807 := by unfold maxLen at hm; omega
  clear h hm
  go_enter Try.func21, Try.ntmps21
  go_wp2_with fail
  go_loop [3, 11] (fun s i => ∃ k : Nat, k ≤ L.length ∧ i = .int .i64 k ∧ s = .int .i64 ((L.take k).flatten.length : Nat)) (fun _ i => L.length - (intOf i).toNat)
  case atStart => exact ⟨0, Nat.zero_le _, rfl, by simp⟩
  case round =>
    obtain ⟨k, hk, rfl, rfl⟩ := hrel
    by_cases hlt : k < L.length
    · obtain ⟨ta, oa, a1, n1, c1, rfl, hta, ca, hn1, hx1, r1⟩ := ll_at H.out k hlt
      have HS := Lib.hid (flat_take hlt)
      have hmo := flat_mono L (k + 1)
      rw [HS.out, List.length_append, ← hn1] at hmo
      have HN := Lib.hid hn1
      obtain ⟨s, hss⟩ : ∃ s, (L.take k).flatten.length = s := ⟨_, rfl⟩
      rw [hss] at hmo ⊢
      have HSS := Lib.hid hss
      have b1 : (s : Int) + (n1 : Int) ≤ 1000000 := by omega
      have b2 : decide ((s : Int) + (n1 : Int) < 0) = false := decide_eq_false (by omega)
      clear hmo hn1 hx1 r1 hss
      go_wp2_with fail
      go_round
      case rel =>
        refine ⟨k + 1, by omega, by go_num, ?_⟩
        rw [HS.out, List.length_append, HSS.out, ← HN.out]
        go_num
      case measure => simp [intOf]; omega
    · obtain rfl : k = L.length := by omega
      rw [List.take_length]
      clear hlt hk
      obtain ⟨N, hN⟩ : ∃ N, L.flatten.length = N := ⟨_, rfl⟩
      rw [hN]
      have hNs : N ≤ 1000000 := by omega
      have HNN := Lib.hid hN
      clear hN
      go_wp2_with fail
      refine (grow_any N _ hNs).mono ?_
      rintro e w1 ⟨u, rfl, ho, hb⟩
      have HO := Lib.hid ho
      have HB := Lib.hid hb
      clear ho hb
      go_wp2_with fail
      go_loopw [6, 27] (fun u i wr => ∃ k : Nat, k ≤ L.length ∧ i = .int .i64 k ∧ OwnI wr w.heap.size u (L.take k).flatten ∧ Below w.heap.size w wr) (fun _ i _ => L.length - (intOf i).toNat)
      case atStart => exact ⟨0, Nat.zero_le _, rfl, by simpa using HO.out, HB.out⟩
      case round =>
        obtain ⟨k, hk, rfl, hon, hbw⟩ := hrel
        have HON := Lib.hid hon
        have HBW := Lib.hid hbw
        clear hon hbw
        by_cases hlt : k < L.length
        · obtain ⟨ta, oa, a1, n1, c1, rfl, hta, ca, hn1, hx1, r1⟩ := ll_at (H.out.below HBW.out) k hlt
          have HS := Lib.hid (flat_take hlt)
          have hmo := flat_mono L (k + 1)
          rw [HS.out, List.length_append] at hmo
          have HR := Lib.hid r1
          generalize (L.take k).flatten = ys at *
          generalize L.getD k [] = xs at *
          have hmo2 : ys.length + xs.length ≤ 10000000 := by omega
          subst hn1
          obtain ⟨ua, uc, rfl⟩ := HON.out.shape
          clear hmo r1 hx1
          go_wp2_with (first | (at_builtin; refine app_ints rfl _ _ rfl w.heap.size _ ys rfl HON.out _ xs rfl HR.out hmo2 HBW.out.size ?_))
          intro v' w' hown hgrow _
          have HN := Lib.hid hown
          have HB4 := Lib.hid (HBW.out.trans (grown_below hgrow HBW.out.size (fun q hq => (World.ownsRow.lt HON.out q hq).1)))
          clear hown hgrow
          go_wp2
          go_roundw
          case rel => exact ⟨k + 1, by omega, by go_num, by rw [HS.out]; exact HN.out, HB4.out⟩
          case measure => simp [intOf]; omega
        · obtain rfl : k = L.length := by omega
          rw [List.take_length] at HON
          clear hlt hk
          go_wp2
          go_ret
          exact ⟨_, rfl, HON.out, HBW.out⟩
set_option maxRecDepth 100000 in
theorem same2_any {w : World} {av bv : Value} {A B : List Int} (hA : Row w av (ints A)) (hB : Row w bv (ints B)) :
    Calls Try.prog 12 #[av, bv] w fun e w' => e = .returned (.bool (decide (A = B))) ∧ Below w.heap.size w w' := by
  have HA := Lib.hid hA
  have HB := Lib.hid hB
  obtain ⟨a, capa, rfl, hma⟩ := hA.form
  obtain ⟨b, capb, rfl, hmb⟩ := hB.form
  simp only [ints_len] at *
  clear hA hB
  have hm1 : A.length ≤ 9223372036854775807 := by unfold maxLen at hma; omega
  have hm2 : B.length ≤ 9223372036854775807 := by unfold maxLen at hmb; omega
  clear hma hmb
  by_cases hl : A.length = B.length
  · have HL := Lib.hid hl
    rw [← hl]
    have hne : ((A.length : Int) != (A.length : Int)) = false := by simp
    clear hl hm2
    go_enter Try.func12, Try.ntmps12
    go_wp2_with fail
    go_loopw [5] (fun i wr => ∃ j : Nat, j ≤ A.length ∧ i = .int .i64 j ∧ A.take j = B.take j ∧ Below w.heap.size w wr) (fun i _ => A.length - (intOf i).toNat)
    case atStart => exact ⟨0, Nat.zero_le _, rfl, by simp, Below.refl _ _⟩
    case round =>
      obtain ⟨k, hk, rfl, htk, hbk⟩ := hrel
      have HTK2 := Lib.hid htk
      have HBK := Lib.hid hbk
      clear htk hbk
      by_cases hkl : k < A.length
      · obtain ⟨t1, o1, rfl, e1, _⟩ := row_cell (HA.out.below HBK.out) k (by rw [ints_len]; exact hkl)
        obtain ⟨t2, o2, rfl, e2, _⟩ := row_cell (HB.out.below HBK.out) k (by rw [ints_len, ← HL.out]; exact hkl)
        rw [ints_at _ _ hkl] at e1
        rw [ints_at _ _ (by rw [← HL.out]; exact hkl)] at e2
        obtain ⟨x, hx⟩ : ∃ x, A.getD k 0 = x := ⟨_, rfl⟩
        obtain ⟨y, hy⟩ : ∃ y, B.getD k 0 = y := ⟨_, rfl⟩
        rw [hx] at e1
        rw [hy] at e2
        have HX := Lib.hid hx
        have HY := Lib.hid hy
        clear hx hy
        by_cases hxy : x = y
        · have HXY := Lib.hid hxy
          have hb0 : (x != y) = false := by simp [hxy]
          clear hxy
          go_wp2_with fail
          go_quiet (fail)
          have HW2 := Lib.hid (below_drewN HBK.out nq)
          generalize wr.drewN nq = w3 at *
          go_wp2
          go_roundw
          case rel => exact ⟨k + 1, by omega, by go_num, take_on (d := 0) HL.out hkl HTK2.out (by rw [HX.out, HY.out, HXY.out]), HW2.out⟩
          case measure => simp [intOf]; omega
        · have HXY := Lib.hid hxy
          have hb0 : (x != y) = true := by simp [hxy]
          clear hxy
          go_wp2_with fail
          go_quiet (fail)
          have HW2 := Lib.hid (below_drewN HBK.out nq)
          generalize wr.drewN nq = w3 at *
          go_wp2
          go_ret
          exact ⟨ret_bool (decide_eq_false (fun e => HXY.out (by rw [← HX.out, ← HY.out, e]))).symm, HW2.out⟩
      · obtain rfl : k = A.length := by omega
        clear hkl hk
        have HEQ := Lib.hid (take_all HL.out HTK2.out)
        go_wp2
        go_ret
        exact ⟨ret_bool (decide_eq_true HEQ.out).symm, HBK.out⟩
  · have HL := Lib.hid hl
    have hne : ((A.length : Int) != (B.length : Int)) = true := by simp; omega
    clear hl
    go_enter Try.func12, Try.ntmps12
    go_wp2
    go_ret
    exact ⟨ret_bool (decide_eq_false (fun e => HL.out (by rw [e]))).symm, Below.refl _ _⟩
end Go.Proofs.Ytiohnjgfpjbjmaa
