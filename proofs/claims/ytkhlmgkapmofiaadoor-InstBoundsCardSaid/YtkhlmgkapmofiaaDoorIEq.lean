/- Whether two instances are the same: slices.Equal, Same, the document's Same. -/
import Derived.Test.YtkhlmgkapmofiaaDoorIHead
namespace Go.Proofs.YtkhlmgkapmofiaaDoor
open Go.ChangeShapes Go.WideShapes Go.ChangeAt Go.RowKit

theorem nth_take_on {A B : List Stp} {k : Nat} (hk : k < A.length) (hl : A.length = B.length) (h : A.take k = B.take k) (hx : nth A k = nth B k) : A.take (k + 1) = B.take (k + 1) :=
  take_on (d := (⟨0, 0, 0, 0, 0, 0⟩ : Stp)) hl hk h hx
set_option maxRecDepth 1000000 in
set_option maxHeartbeats 1000000 in
theorem equal_any {w : World} {v u : Value} {A B : List Stp} (h : SRow w v A) (k : SRow w u B) :
    Calls Tryd.prog 33 #[v, u] w fun e w' => e = .returned (.bool (decide (A = B))) ∧ Below w.heap.size w w' := by
  have HA := Lib.hid h
  have HB := Lib.hid k
  obtain ⟨ad, cap, rfl, hm, _⟩ := h.form
  obtain ⟨ad2, cap2, rfl, hm2, _⟩ := k.form
  have hm1 : A.length ≤ 9223372036854775807 := by unfold maxLen at hm; omega
  have hm3 : B.length ≤ 9223372036854775807 := by unfold maxLen at hm2; omega
  clear h k hm hm2
  by_cases hl : A.length = B.length
  · have HL := Lib.hid hl
    have hne : ((A.length : Int) != (B.length : Int)) = false := by simp [hl]
    clear hl
    go_enter Tryd.func33, Tryd.ntmps33
    go_wp2_with fail
    go_loopw [13] (fun i wr => ∃ k : Nat, k ≤ A.length ∧ i = .int .i64 k ∧ A.take k = B.take k ∧ Below w.heap.size w wr) (fun i _ => A.length - (intOf i).toNat)
    case atStart => exact ⟨0, Nat.zero_le _, rfl, by simp, Below.refl _ _⟩
    case round =>
      obtain ⟨k, hk, rfl, htk, hbw⟩ := hrel
      have HT := Lib.hid htk
      have HBW := Lib.hid hbw
      clear htk hbw
      by_cases hlt : k < A.length
      · obtain ⟨tb, off, rfl, hat, htb⟩ := srow_at HA.out k hlt
        obtain ⟨tb2, off2, rfl, hat2, htb2⟩ := srow_at HB.out k (by rw [← HL.out]; exact hlt)
        obtain ⟨c0, c1, c2, c3, c4, c5⟩ := hat.below htb HBW.out
        obtain ⟨d0, d1, d2, d3, d4, d5⟩ := hat2.below htb2 HBW.out
        have hb2 : (k : Int) < (B.length : Int) := by have := HL.out; omega
        have hb3 : k < B.length := by omega
        have HST := Lib.hid (fun hx => nth_take_on hlt HL.out HT.out hx)
        have HSN := Lib.hid (fun (hx : nth A k ≠ nth B k) => show decide (A = B) = false from decide_eq_false (fun e => hx (by rw [e])))
        have keq := equalStop (nth A k) (nth B k)
        have kg := guardStop
        generalize nth A k = t at *
        generalize nth B k = s at *
        clear hat hat2
        by_cases hts : t = s
        · have HD := Lib.hid (HST.out hts)
          rw [decide_eq_true hts] at keq
          clear hts
          go_wp2_with fail
          go_quiet (fail)
          have HW1 := Lib.hid (below_drewN HBW.out nq)
          generalize wr.drewN nq = w1 at *
          go_wp2
          go_roundw
          case rel => exact ⟨k + 1, by omega, by go_num, HD.out, HW1.out⟩
          case measure => simp [intOf]; omega
        · have HD := Lib.hid (HSN.out hts)
          rw [decide_eq_false hts] at keq
          clear hts
          go_wp2_with fail
          go_quiet (fail)
          have HW1 := Lib.hid (below_drewN HBW.out nq)
          generalize wr.drewN nq = w1 at *
          go_wp2
          go_ret
          exact ⟨ret_bool HD.out.symm, HW1.out⟩
      · obtain rfl : k = A.length := by omega
        have HD := Lib.hid (show decide (A = B) = true from decide_eq_true (take_all HL.out HT.out))
        clear hlt hk
        go_wp2
        go_ret
        exact ⟨ret_bool HD.out.symm, HBW.out⟩
  · have HD := Lib.hid (show decide (A = B) = false from decide_eq_false (fun e => hl (by rw [e])))
    have hne : ((A.length : Int) != (B.length : Int)) = true := by simp; omega
    clear hl
    go_enter Tryd.func33, Tryd.ntmps33
    go_wp2
    go_ret
    exact ⟨ret_bool HD.out.symm, Below.refl _ _⟩
end Go.Proofs.YtkhlmgkapmofiaaDoor
