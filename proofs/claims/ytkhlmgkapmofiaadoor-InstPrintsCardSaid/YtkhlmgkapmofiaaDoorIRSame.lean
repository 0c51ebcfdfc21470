/- The document's Same. -/
import Derived.Test.YtkhlmgkapmofiaaDoorISame
namespace Go.Proofs.YtkhlmgkapmofiaaDoor
open Go.ChangeShapes Go.WideShapes Go.ChangeAt Go.RowKit

set_option maxRecDepth 1000000 in
set_option maxHeartbeats 2000000 in
theorem rsame_any {w : World} {v u : Value} {I J : Ins} (h : SRow w v I.l) (k : SRow w u J.l) :
    Calls Tryd.prog 12 #[insV I v, insV J u] w fun e w' => e = .returned (.bool (decide (I = J))) ∧ Below w.heap.size w w' := by
  have HA := Lib.hid h
  have HB := Lib.hid k
  obtain ⟨ad, cap, rfl, hm, _⟩ := h.form
  obtain ⟨ad2, cap2, rfl, hm2, _⟩ := k.form
  have hm1 : I.l.length ≤ 9223372036854775807 := by unfold maxLen at hm; omega
  have hm3 : J.l.length ≤ 9223372036854775807 := by unfold maxLen at hm2; omega
  have HD := Lib.hid (Ins.eq_iff I J)
  clear h k hm hm2
  by_cases hp : I.p = J.p ∧ I.c = J.c ∧ I.r = J.r ∧ I.l.length = J.l.length
  · obtain ⟨p1, p2, p3, p4⟩ := hp
    have HP := Lib.hid (show decide (I = J) = decide (I.l = J.l) from decide_eq_decide.2 ⟨fun h => by rw [h], fun h => HD.out.1 ⟨p1, p2, p3, h⟩⟩)
    have HL := Lib.hid p4
    have n1 : (I.p != J.p) = false := by simp [p1]
    have n2 : (I.c != J.c) = false := by simp [p2]
    have n3 : (I.r != J.r) = false := by simp [p3]
    have n4 : ((I.l.length : Int) != (J.l.length : Int)) = false := by simp [p4]
    clear p1 p2 p3 p4 HD
    unfold insV
    go_enter Tryd.func12, Tryd.ntmps12
    go_wp2_with fail
    change Code.wp _ _ _ _ ((w.alloc (boxI I (.slice ad I.l.length cap))).alloc (boxI J (.slice ad2 J.l.length cap2)))
    have HB1 := Lib.hid (((Below.refl _ w).alloc (Nat.le_refl _) (boxI I (.slice ad I.l.length cap))).alloc (by simp) (boxI J (.slice ad2 J.l.length cap2)))
    have HS0 := Lib.hid (holds_two w I J (.slice ad I.l.length cap) (.slice ad2 J.l.length cap2))
    have hlt := Lib.hid (show Lows ((w.alloc (boxI I (.slice ad I.l.length cap))).alloc (boxI J (.slice ad2 J.l.length cap2))).heap.size (cellsTwo w.heap.size (w.heap.size + 1) I J (.slice ad I.l.length cap) (.slice ad2 J.l.length cap2)) from lows_two (by simp; omega) (by simp))
    have HA1 := Lib.hid (HA.out.below HB1.out)
    have HB2 := Lib.hid (HB.out.below HB1.out)
    generalize (w.alloc (boxI I (.slice ad I.l.length cap))).alloc (boxI J (.slice ad2 J.l.length cap2)) = W at *
    go_loopw [5] (fun i wr => ∃ k : Nat, k ≤ I.l.length ∧ i = .int .i64 k ∧ I.l.take k = J.l.take k ∧ Below W.heap.size W wr) (fun i _ => I.l.length - (intOf i).toNat)
    case atStart => exact ⟨0, Nat.zero_le _, rfl, by simp, Below.refl _ _⟩
    case round =>
      obtain ⟨k, hk, rfl, htk, hbw⟩ := hrel
      have HT := Lib.hid htk
      have HBW := Lib.hid hbw
      have hc := Holds.below hbw HS0.out hlt.out
      simp only [cellsTwo, Holds] at hc
      obtain ⟨_, _, _, a3, _, _, _, b3, _⟩ := hc
      clear htk hbw
      by_cases hlt2 : k < I.l.length
      · obtain ⟨tb, off, rfl, hat, htb⟩ := srow_at HA1.out k hlt2
        obtain ⟨tb2, off2, rfl, hat2, htb2⟩ := srow_at HB2.out k (by rw [← HL.out]; exact hlt2)
        obtain ⟨c0, c1, c2, c3, c4, c5⟩ := hat.below htb HBW.out
        obtain ⟨d0, d1, d2, d3, d4, d5⟩ := hat2.below htb2 HBW.out
        have hb2 : (k : Int) < (J.l.length : Int) := by have := HL.out; omega
        have hb3 : k < J.l.length := by omega
        have HST := Lib.hid (fun hx => nth_take_on hlt2 HL.out HT.out hx)
        have HSN := Lib.hid (fun (hx : nth I.l k ≠ nth J.l k) => show decide (I.l = J.l) = false from decide_eq_false (fun e => hx (by rw [e])))
        have keq := equalStop (nth I.l k) (nth J.l k)
        have kg := guardStop
        generalize nth I.l k = t at *
        generalize nth J.l k = s at *
        clear hat hat2
        by_cases hts : t = s
        · have HD := Lib.hid (HST.out hts)
          rw [decide_eq_true hts] at keq
          clear hts
          go_wp2_with fail
          go_quiet (fail)
          have HW1 := Lib.hid (below_drewN HBW.out nq)
          generalize wr.drewN nq = w1 at *
          go_wp2
          go_roundw
          case rel => exact ⟨k + 1, by omega, by go_num, HD.out, HW1.out⟩
          case measure => simp [intOf]; omega
        · have HD := Lib.hid (HSN.out hts)
          rw [decide_eq_false hts] at keq
          clear hts
          go_wp2_with fail
          go_quiet (fail)
          have HW1 := Lib.hid (below_drewN HBW.out nq)
          generalize wr.drewN nq = w1 at *
          go_wp2
          go_ret
          exact ⟨ret_bool (HP.out.trans HD.out).symm, HB1.out.trans (HW1.out.mono HB1.out.size)⟩
      · obtain rfl : k = I.l.length := by omega
        have HD := Lib.hid (show decide (I.l = J.l) = true from decide_eq_true (take_all HL.out HT.out))
        clear hlt2 hk
        go_wp2
        go_ret
        exact ⟨ret_bool (HP.out.trans HD.out).symm, HB1.out.trans (HBW.out.mono HB1.out.size)⟩
  · have HP := Lib.hid (show decide (I = J) = false from decide_eq_false (fun e => hp (by rw [e]; exact ⟨rfl, rfl, rfl, rfl⟩)))
    have key : (I.p != J.p) = true ∨ ((I.p != J.p) = false ∧ (I.c != J.c) = true) ∨ ((I.p != J.p) = false ∧ (I.c != J.c) = false ∧ (I.r != J.r) = true) ∨ ((I.p != J.p) = false ∧ (I.c != J.c) = false ∧ (I.r != J.r) = false ∧ ((I.l.length : Int) != (J.l.length : Int)) = true) := by
      simp only [bne_iff_ne, ne_eq, bne_eq_false_iff_eq]
      omega
    clear hp HD
    unfold insV
    rcases key with n1 | ⟨n1, n2⟩ | ⟨n1, n2, n3⟩ | ⟨n1, n2, n3, n4⟩
    all_goals
      go_enter Tryd.func12, Tryd.ntmps12
      go_wp2
      go_ret
      exact ⟨ret_bool HP.out.symm, ((Below.refl _ w).alloc (Nat.le_refl _) _).alloc (by simp) _⟩
end Go.Proofs.YtkhlmgkapmofiaaDoor
