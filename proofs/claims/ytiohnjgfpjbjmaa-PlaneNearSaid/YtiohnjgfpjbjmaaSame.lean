/- Whether two lists of lines are the same; the chapter's example. -/
import Derived.Test.YtiohnjgfpjbjmaaLines
import Derived.Lib.SlBytesConst
namespace Go.Proofs.Ytiohnjgfpjbjmaa
open Go.ChangeShapes Go.WideShapes Go.ChangeAt Go.RowKit

theorem row_cell {w : World} {a : Option Addr} {n cap : Nat} {xs : List Value} (h : Row w (.slice a n cap) xs) (p : Nat) (hp : p < xs.length) : ∃ tb off, a = some ⟨tb, off, none⟩ ∧ w.cell? ⟨tb, off + p, none⟩ = xs[p]? ∧ tb < w.heap.size := by
  obtain ⟨tb, off, cap', he, hc, _, hlt⟩ := row_at h hp
  simp at he
  exact ⟨tb, off, he.1, hc, hlt⟩
theorem Row.form {w : World} {v : Value} {xs : List Value} (h : Row w v xs) : ∃ a cap, v = .slice a xs.length cap ∧ xs.length ≤ maxLen := by
  obtain ⟨hm, a, cap, rfl, _⟩ := h
  exact ⟨a, cap, rfl, hm⟩
theorem IsLL.form {w : World} {v : Value} {L : List (List Int)} (h : IsLL w v L) : ∃ a cap, v = .slice a L.length cap ∧ L.length ≤ maxLen := by
  obtain ⟨vs, h1, h2⟩ := h
  obtain ⟨a, cap, rfl, hm⟩ := h1.form
  rw [h2.len] at *
  exact ⟨a, cap, rfl, hm⟩
theorem ll_at {w : World} {a : Option Addr} {n cap : Nat} {L : List (List Int)} (h : IsLL w (.slice a n cap) L) (j : Nat) (hj : j < L.length) :
    ∃ tb off a1 n1 c1, a = some ⟨tb, off, none⟩ ∧ tb < w.heap.size ∧ w.cell? ⟨tb, off + j, none⟩ = some (.slice a1 n1 c1) ∧ n1 = (L.getD j []).length ∧ n1 ≤ maxLen ∧ Row w (.slice a1 n1 c1) (ints (L.getD j [])) := by
  obtain ⟨vs, h1, h2⟩ := h
  obtain ⟨u, hu, hr⟩ := h2.at j hj
  obtain ⟨tb, off, ha, hc, hlt⟩ := row_cell h1 j (by rw [h2.len]; exact hj)
  obtain ⟨a1, c1, rfl, hm⟩ := hr.form
  rw [ints_len] at *
  exact ⟨tb, off, a1, _, c1, ha, hlt, by rw [hc, hu], rfl, hm, hr⟩
theorem take_ne {A B : List (List Int)} {j : Nat} (h : A.getD j [] ≠ B.getD j []) : A ≠ B := fun e => h (by rw [e])
theorem take_on {α : Type} {d : α} {A B : List α} {j : Nat} (hl : A.length = B.length) (hj : j < A.length) (h : A.take j = B.take j) (he : A.getD j d = B.getD j d) : A.take (j + 1) = B.take (j + 1) := by
  rw [List.take_add_one, List.take_add_one, h]
  rw [List.getD_eq_getElem?_getD, List.getD_eq_getElem?_getD, List.getElem?_eq_getElem hj, List.getElem?_eq_getElem (by omega)] at he
  rw [List.getElem?_eq_getElem hj, List.getElem?_eq_getElem (by omega)]
  simp at he
  rw [he]
theorem take_all {α : Type} {A B : List α} (hl : A.length = B.length) (h : A.take A.length = B.take A.length) : A = B := by
  rw [List.take_length, hl, List.take_length] at h; exact h

set_option maxRecDepth 1000000 in
set_option maxHeartbeats 1000000 in
theorem same_any {w : World} {av bv : Value} {A B : List (List Int)} (hA : IsLL w av A) (hB : IsLL w bv B) :
    Calls Try.prog 9 #[av, bv] w fun e w' => e = .returned (.bool (decide (A = B))) ∧ Below w.heap.size w w' := by
  have HA := Lib.hid hA
  have HB := Lib.hid hB
  obtain ⟨a, capa, rfl, hma⟩ := hA.form
  obtain ⟨b, capb, rfl, hmb⟩ := hB.form
  clear hA hB
  have hm1 : A.length ≤ 9223372036854775807 := by unfold maxLen at hma; omega
  have hm2 : B.length ≤ 9223372036854775807 := by unfold maxLen at hmb; omega
  clear hma hmb
  by_cases hl : A.length = B.length
  · have HL := Lib.hid hl
    rw [← hl]
    have hne : ((A.length : Int) != (A.length : Int)) = false := by simp
    clear hl hm2
    go_enter Try.func9, Try.ntmps9
    go_wp2_with fail
    go_loopw [5] (fun i wr => ∃ j : Nat, j ≤ A.length ∧ i = .int .i64 j ∧ A.take j = B.take j ∧ Below w.heap.size w wr) (fun i _ => A.length - (intOf i).toNat)
    case atStart => exact ⟨0, Nat.zero_le _, rfl, by simp, Below.refl _ _⟩
    case round =>
      obtain ⟨j, hj, rfl, htk, hbw⟩ := hrel
      have HTK := Lib.hid htk
      have HBW := Lib.hid hbw
      clear htk hbw
      by_cases hlt : j < A.length
      · obtain ⟨ta, oa, a1, n1, c1, rfl, hta, ca, hn1, hx1, r1⟩ := ll_at (HA.out.below HBW.out) j hlt
        obtain ⟨tb, ob, a2, n2, c2, rfl, htb, cb, hn2, hx2, r2⟩ := ll_at (HB.out.below HBW.out) j (by rw [← HL.out]; exact hlt)
        have hm3 : n1 ≤ 9223372036854775807 := by unfold maxLen at hx1; omega
        have H1 := Lib.hid r1
        have H2 := Lib.hid r2
        have HN1 := Lib.hid hn1
        have HN2 := Lib.hid hn2
        clear r1 r2 hn1 hn2 hx1 hx2
        by_cases hnn : n1 = n2
        · have HNN := Lib.hid (show (A.getD j []).length = (B.getD j []).length by rw [← HN1.out, ← HN2.out]; exact hnn)
          subst hnn
          have hne2 : ((n1 : Int) != (n1 : Int)) = false := by simp
          go_wp2_with fail
          go_quiet (fail)
          have HW1 := Lib.hid (below_drewN (Below.refl wr.heap.size wr) nq)
          generalize wr.drewN nq = w1 at *
          go_wp2_with fail
          go_loopw [6] (fun i wk => ∃ k : Nat, k ≤ n1 ∧ i = .int .i64 k ∧ (A.getD j []).take k = (B.getD j []).take k ∧ Below wr.heap.size wr wk) (fun i _ => n1 - (intOf i).toNat)
          case atStart => exact ⟨0, Nat.zero_le _, rfl, by simp, HW1.out⟩
          case round =>
            obtain ⟨k, hk, rfl, htk, hbk⟩ := hrel
            have HTK2 := Lib.hid htk
            have HBK := Lib.hid hbk
            have da := (hbk.cell (p := ⟨ta, oa + j, none⟩) hta).trans ca
            have db := (hbk.cell (p := ⟨tb, ob + j, none⟩) htb).trans cb
            have HJ := Lib.hid hj
            clear htk hbk hj
            by_cases hkl : k < n1
            · obtain ⟨t1, o1, rfl, e1, _⟩ := row_cell (H1.out.below HBK.out) k (by rw [ints_len, ← HN1.out]; exact hkl)
              obtain ⟨t2, o2, rfl, e2, _⟩ := row_cell (H2.out.below HBK.out) k (by rw [ints_len, ← HN2.out]; exact hkl)
              rw [ints_at _ _ (by rw [← HN1.out]; exact hkl)] at e1
              rw [ints_at _ _ (by rw [← HN2.out]; exact hkl)] at e2
              obtain ⟨x, hx⟩ : ∃ x, (A.getD j []).getD k 0 = x := ⟨_, rfl⟩
              obtain ⟨y, hy⟩ : ∃ y, (B.getD j []).getD k 0 = y := ⟨_, rfl⟩
              rw [hx] at e1
              rw [hy] at e2
              have HX := Lib.hid hx
              have HY := Lib.hid hy
              clear hx hy ca cb
              by_cases hxy : x = y
              · have HXY := Lib.hid hxy
                have hb0 : (x != y) = false := by simp [hxy]
                clear hxy
                go_wp2_with fail
                go_quiet (fail)
                have HW2 := Lib.hid (below_drewN HBK.out nq)
                generalize wr.drewN nq = w3 at *
                go_wp2
                go_roundw
                case rel => exact ⟨k + 1, by omega, by go_num, take_on (d := 0) HNN.out (by rw [← HN1.out]; exact hkl) HTK2.out (by rw [HX.out, HY.out, HXY.out]), HW2.out⟩
                case measure => simp [intOf]; omega
              · have HXY := Lib.hid hxy
                have hb0 : (x != y) = true := by simp [hxy]
                clear hxy
                go_wp2_with fail
                go_quiet (fail)
                have HW2 := Lib.hid (below_drewN HBK.out nq)
                generalize wr.drewN nq = w3 at *
                go_wp2
                go_ret
                exact ⟨ret_bool (decide_eq_false (take_ne (j := j) (fun e => HXY.out (by rw [← HX.out, ← HY.out, e])))).symm, HBW.out.trans (HW2.out.mono HBW.out.size)⟩
            · obtain rfl : k = n1 := by omega
              clear hkl hk ca cb
              have HEQ := Lib.hid (take_all HNN.out (by rw [← HN1.out]; exact HTK2.out))
              go_wp2
              go_roundw
              case rel => exact ⟨j + 1, by omega, by go_num, take_on (d := []) HL.out hlt HTK.out HEQ.out, HBW.out.trans (HBK.out.mono HBW.out.size)⟩
              case measure => simp [intOf]; omega
        · have hne2 : ((n1 : Int) != (n2 : Int)) = true := by simp; omega
          have HNN := Lib.hid hnn
          clear hnn
          go_wp2_with fail
          go_quiet (fail)
          have HW1 := Lib.hid (below_drewN HBW.out nq)
          generalize wr.drewN nq = w1 at *
          go_wp2
          go_ret
          exact ⟨ret_bool (decide_eq_false (take_ne (j := j) (fun e => HNN.out (by rw [HN1.out, HN2.out, e])))).symm, HW1.out⟩
      · obtain rfl : j = A.length := by omega
        clear hlt hj
        go_wp2
        go_ret
        exact ⟨ret_bool (decide_eq_true (take_all HL.out HTK.out)).symm, HBW.out⟩
  · have HL := Lib.hid hl
    have hne : ((A.length : Int) != (B.length : Int)) = true := by simp; omega
    clear hl
    go_enter Try.func9, Try.ntmps9
    go_wp2
    go_ret
    exact ⟨ret_bool (decide_eq_false (fun e => HL.out (by rw [e]))).symm, Below.refl _ _⟩

def egBytes : List Int := [49, 32, 45, 50, 32, 32, 35, 32, 120, 10, 10, 48, 48, 55]
theorem eg_res : errOf egBytes = 0 ∧ resOf egBytes = [[1, -2], [7]] := by decide +kernel
theorem eg_row (w : World) : Row (w.alloc (.cells #[.int .u8 49, .int .u8 32, .int .u8 45, .int .u8 50, .int .u8 32, .int .u8 32, .int .u8 35, .int .u8 32, .int .u8 120, .int .u8 10, .int .u8 10, .int .u8 48, .int .u8 48,  .int .u8 55] 5 (14, 15))) (.slice (some ⟨w.heap.size, 0, none⟩) 14 14) (byts egBytes) := by
  refine ⟨by simp [egBytes, byts, maxLen], _, _, rfl, by simp [egBytes, byts], ⟨by simp [maxLen], by simp⟩, .inr ⟨_, _, rfl, fun i hi => ?_⟩⟩
  rw [Nat.zero_add, World.cell?_alloc_mark]
  simp [egBytes, byts]
end Go.Proofs.Ytiohnjgfpjbjmaa
