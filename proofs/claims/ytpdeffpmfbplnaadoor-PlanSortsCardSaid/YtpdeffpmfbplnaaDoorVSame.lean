/- Whether two plans are the same. -/
import Derived.Test.YtpdeffpmfbplnaaDoorXVB
import Derived.Deep.CutRange
namespace Go.Proofs.YtpdeffpmfbplnaaDoor
open Go.ChangeShapes Go.WideShapes Go.ChangeAt Go.RowKit

theorem take_same {A B : List Int} {k : Nat} (h : A.take k = B.take k) (hA : k < A.length) (hB : k < B.length) (hx : A.getD k 0 = B.getD k 0) : A.take (k + 1) = B.take (k + 1) := by
  rw [take_snoc hA, take_snoc hB, h, hx]
set_option maxRecDepth 1000000 in
set_option maxHeartbeats 4000000 in
theorem equalR_any {w : World} {u v : Value} {l m : List Int} (hu : Row w u (ints l)) (hv : Row w v (ints m)) :
    Calls Tryd.prog 43 #[u, v] w fun e w' => e = .returned (.bool (decide (l = m))) ∧ Below w.heap.size w w' := by
  have HU := Lib.hid hu
  have HV := Lib.hid hv
  obtain ⟨ua, uc, rfl, hm1⟩ := hu.form
  obtain ⟨va, vc, rfl, hm2⟩ := hv.form
  simp only [ints_len] at *
  have hl1 : l.length ≤ 9223372036854775807 := by unfold maxLen at hm1; omega
  have hl2 : m.length ≤ 9223372036854775807 := by unfold maxLen at hm2; omega
  clear hu hv hm1 hm2
  by_cases hlen : l.length = m.length
  · have hn : ((l.length : Int) != (m.length : Int)) = false := by simp; omega
    have HLEN := Lib.hid hlen
    clear hlen
    go_enter Tryd.func43, Tryd.ntmps43
    go_wp2_with fail
    go_loopw [13] (fun i wr => ∃ (k : Nat), k ≤ l.length ∧ i = .int .i64 k ∧ l.take k = m.take k ∧ Below w.heap.size w wr) (fun i _ => l.length - (intOf i).toNat)
    case atStart => exact ⟨0, Nat.zero_le _, rfl, rfl, Below.refl _ _⟩
    case round =>
      obtain ⟨k, hk, rfl, htk, hbw⟩ := hrel
      have HTK := Lib.hid htk
      have HBW := Lib.hid hbw
      have hr1 := HU.out.below hbw
      have hr2 := HV.out.below hbw
      clear htk hbw
      by_cases hlt : k < l.length
      · have hlt2 : (k : Int) < (l.length : Int) := by omega
        have hlt3 : (k : Int) < (m.length : Int) := by have := HLEN.out; omega
        obtain ⟨b1, o1, c1, he1, hc1, _, _⟩ := row_at (p := k) hr1 (by rw [ints_len]; exact hlt)
        obtain ⟨b2, o2, c2, he2, hc2, _, _⟩ := row_at (p := k) hr2 (by rw [ints_len]; have := HLEN.out; omega)
        rw [ints_at l k hlt] at hc1
        rw [ints_at m k (by have := HLEN.out; omega)] at hc2
        simp only [ints_len, Value.slice.injEq, true_and] at he1 he2
        obtain ⟨rfl, rfl⟩ := he1
        obtain ⟨rfl, rfl⟩ := he2
        have HNX := Lib.hid (fun h => take_same HTK.out hlt (by have := HLEN.out; omega) h)
        have HNE := Lib.hid (show l.getD k 0 ≠ m.getD k 0 → decide (l = m) = false from fun h => decide_eq_false (fun e => h (by rw [e])))
        generalize l.getD k 0 = x at *
        generalize m.getD k 0 = y at *
        by_cases hxy : x = y
        · have hxb : (x != y) = false := by simp [hxy]
          have HXY := Lib.hid hxy
          clear hr1 hr2 hxy
          go_wp2_with fail
          go_quiet (fail)
          have HB2 := Lib.hid (below_drewN HBW.out nq)
          clear hc1 hc2
          generalize wr.drewN nq = w2 at *
          go_wp2_with fail
          go_roundw
          case rel => exact ⟨k + 1, by omega, by go_num, HNX.out HXY.out, HB2.out⟩
          case measure => simp [intOf]; omega
        · have hxb : (x != y) = true := by simp [hxy]
          have HD := Lib.hid (HNE.out hxy)
          clear hr1 hr2
          go_wp2_with fail
          go_quiet (fail)
          have HB2 := Lib.hid (below_drewN HBW.out nq)
          clear hc1 hc2
          generalize wr.drewN nq = w2 at *
          go_wp2
          go_ret
          exact ⟨ret_bool HD.out.symm, HB2.out⟩
      · obtain rfl : k = l.length := by omega
        have hlt2 : ¬ (l.length : Int) < (l.length : Int) := by omega
        have HD := Lib.hid (show decide (l = m) = true from decide_eq_true (by
          have := HTK.out
          rw [List.take_length, HLEN.out, List.take_length] at this
          exact this))
        clear hr1 hr2
        go_wp2
        go_ret
        exact ⟨ret_bool HD.out.symm, HBW.out⟩
  · have hn : ((l.length : Int) != (m.length : Int)) = true := by simp; omega
    have HD := Lib.hid (show decide (l = m) = false from decide_eq_false (fun e => hlen (by rw [e])))
    go_enter Tryd.func43, Tryd.ntmps43
    go_wp2
    go_ret
    exact ⟨ret_bool HD.out.symm, Below.refl _ _⟩
theorem takeL_same {A B : List (List Int)} {k : Nat} (h : A.take k = B.take k) (hA : k < A.length) (hB : k < B.length) (hx : A.getD k [] = B.getD k []) : A.take (k + 1) = B.take (k + 1) := by
  rw [take_getD hA, take_getD hB, h, hx]
set_option maxRecDepth 1000000 in
set_option maxHeartbeats 4000000 in
theorem equalLL_any {w : World} {u v : Value} {L M : List (List Int)} (hu : IsLL w u L) (hv : IsLL w v M) :
    Calls Tryd.prog 42 #[u, v, .func (.func 43) #[] #[]] w fun e w' => e = .returned (.bool (decide (L = M))) ∧ Below w.heap.size w w' := by
  have HU := Lib.hid hu
  have HV := Lib.hid hv
  obtain ⟨ua, uc, rfl, hm1⟩ := hu.form
  obtain ⟨va, vc, rfl, hm2⟩ := hv.form
  have hl1 : L.length ≤ 9223372036854775807 := by unfold maxLen at hm1; omega
  have hl2 : M.length ≤ 9223372036854775807 := by unfold maxLen at hm2; omega
  clear hu hv hm1 hm2
  by_cases hlen : L.length = M.length
  · have hn : ((L.length : Int) != (M.length : Int)) = false := by simp; omega
    have HLEN := Lib.hid hlen
    clear hlen
    go_enter Tryd.func42, Tryd.ntmps42
    go_wp2_with fail
    go_loopw [17] (fun i wr => ∃ (k : Nat), k ≤ L.length ∧ i = .int .i64 k ∧ L.take k = M.take k ∧ Below w.heap.size w wr) (fun i _ => L.length - (intOf i).toNat)
    case atStart => exact ⟨0, Nat.zero_le _, rfl, rfl, Below.refl _ _⟩
    case round =>
      obtain ⟨k, hk, rfl, htk, hbw⟩ := hrel
      have HTK := Lib.hid htk
      have HBW := Lib.hid hbw
      have hr1 := HU.out.below hbw
      have hr2 := HV.out.below hbw
      clear htk hbw
      by_cases hlt : k < L.length
      · have hlt2 : (k : Int) < (L.length : Int) := by omega
        have hltm : k < M.length := by have := HLEN.out; omega
        have hlt3 : (k : Int) < (M.length : Int) := by omega
        obtain ⟨b1, o1, a1, n1, c1, rfl, _, hc1, hn1, _, hw1⟩ := ll_at hr1 k hlt
        obtain ⟨b2, o2, a2, n2, c2, rfl, _, hc2, hn2, _, hw2⟩ := ll_at hr2 k hltm
        have HNX := Lib.hid (fun h => takeL_same HTK.out hlt hltm h)
        have HNE := Lib.hid (show L.getD k [] ≠ M.getD k [] → decide (L = M) = false from fun h => decide_eq_false (fun e => h (by rw [e])))
        have HC := Lib.hid (equalR_any hw1 hw2)
        generalize L.getD k [] = x at *
        generalize M.getD k [] = y at *
        clear hr1 hr2 hw1 hw2 hn1 hn2
        go_wp2_with fail
        refine HC.out.mono ?_
        rintro e w2 ⟨rfl, hb⟩
        have HB2 := Lib.hid (HBW.out.trans (hb.mono HBW.out.size))
        clear hb HC hc1 hc2
        by_cases hxy : x = y
        · have HXY := Lib.hid hxy
          rw [decide_eq_true hxy]
          clear hxy
          go_wp2_with fail
          go_roundw
          case rel => exact ⟨k + 1, by omega, by go_num, HNX.out HXY.out, HB2.out⟩
          case measure => simp [intOf]; omega
        · have HD := Lib.hid (HNE.out hxy)
          rw [decide_eq_false hxy]
          go_wp2
          go_ret
          exact ⟨ret_bool HD.out.symm, HB2.out⟩
      · obtain rfl : k = L.length := by omega
        have hlt2 : ¬ (L.length : Int) < (L.length : Int) := by omega
        have HD := Lib.hid (show decide (L = M) = true from decide_eq_true (by
          have := HTK.out
          rw [List.take_length, HLEN.out, List.take_length] at this
          exact this))
        clear hr1 hr2
        go_wp2
        go_ret
        exact ⟨ret_bool HD.out.symm, HBW.out⟩
  · have hn : ((L.length : Int) != (M.length : Int)) = true := by simp; omega
    have HD := Lib.hid (show decide (L = M) = false from decide_eq_false (fun e => hlen (by rw [e])))
    go_enter Tryd.func42, Tryd.ntmps42
    go_wp2
    go_ret
    exact ⟨ret_bool HD.out.symm, Below.refl _ _⟩
end Go.Proofs.YtpdeffpmfbplnaaDoor
