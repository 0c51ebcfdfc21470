/- The document's May. -/
import Derived.Test.YtolaiccgbngomaaIMay
namespace Go.Proofs.Ytolaiccgbngomaa
open Go.ChangeShapes Go.WideShapes Go.ChangeAt Go.RowKit

theorem okAt_no {I : Ins} {i : Nat} (hi : i < I.l.length) (h : ¬ okAt I.p.toNat I.l i) : mayB I = false := by
  cases hm : mayB I with
  | false => rfl
  | true => exact absurd (((may_iff I).1 hm).2.2.2.2 i hi) h
theorem okAt_all {I : Ins} (h1 : inb 0 16 I.p = true) (h2 : inb 1 8 I.c = true) (h3 : inb 1 1000 I.r = true) (h4 : lenOk I.p I.l.length = true) (h : ∀ i, i < I.l.length → okAt I.p.toNat I.l i) : mayB I = true := (may_iff I).2 ⟨h1, h2, h3, h4, h⟩
theorem okAt_next {p : Nat} {l : List Stp} {k : Nat} (h : ∀ i, i < k → okAt p l i) (hk : okAt p l k) : ∀ i, i < k + 1 → okAt p l i := fun i hi => by
  by_cases c : i < k
  · exact h i c
  · obtain rfl : i = k := by omega
    exact hk
theorem may_no {I : Ins} (h : ¬ (inb 0 16 I.p = true ∧ inb 1 8 I.c = true ∧ inb 1 1000 I.r = true ∧ lenOk I.p I.l.length = true)) : mayB I = false := by
  cases hm : mayB I with
  | false => rfl
  | true => have := (may_iff I).1 hm; exact absurd ⟨this.1, this.2.1, this.2.2.1, this.2.2.2.1⟩ h
theorem lenNe (n : Nat) (p : Int) : ((n : Int) != 2 * p + 1) = !lenOk p n := by unfold lenOk; rw [Bool.eq_iff_iff]; simp
set_option maxRecDepth 1000000 in
set_option maxHeartbeats 4000000 in
theorem rmay_any {w : World} {v : Value} {I : Ins} (h : SRow w v I.l) :
    Calls Try.prog 23 #[insV I v] w fun e w' => e = .returned (.bool (mayB I)) ∧ Below w.heap.size w w' := by
  have H := Lib.hid h
  obtain ⟨ad, cap, rfl, hm, _⟩ := h.form
  have hm1 : I.l.length ≤ 9223372036854775807 := by unfold maxLen at hm; omega
  clear h hm
  unfold insV
  go_enter Try.func23, Try.ntmps23
  go_wp2_with fail
  refine (in_any _ _ _ _).mono ?_
  rintro e w' ⟨rfl, rfl⟩
  go_wp2_with fail
  refine (in_any _ _ _ _).mono ?_
  rintro e w' ⟨rfl, rfl⟩
  go_wp2_with fail
  refine (in_any _ _ _ _).mono ?_
  rintro e w' ⟨rfl, rfl⟩
  cases hb1 : inb 0 16 I.p
  · have HD := Lib.hid (may_no (I := I) (by rw [hb1]; simp))
    go_wp2
    go_ret
    exact ⟨ret_bool HD.out.symm, (Below.refl _ w).alloc (Nat.le_refl _) _⟩
  cases hb2 : inb 1 8 I.c
  · have HD := Lib.hid (may_no (I := I) (by rw [hb2]; simp))
    go_wp2
    go_ret
    exact ⟨ret_bool HD.out.symm, (Below.refl _ w).alloc (Nat.le_refl _) _⟩
  cases hb3 : inb 1 1000 I.r
  · have HD := Lib.hid (may_no (I := I) (by rw [hb3]; simp))
    go_wp2
    go_ret
    exact ⟨ret_bool HD.out.symm, (Below.refl _ w).alloc (Nat.le_refl _) _⟩
  have hp := (inb_iff _ _ _).1 hb1
  have e2 : IntKind.i64.wrap (2 * I.p) = 2 * I.p := IntWalk.i64_in _ (by omega)
  have e3 : IntKind.i64.wrap (2 * I.p + 1) = 2 * I.p + 1 := IntWalk.i64_in _ (by omega)
  have e4 := lenNe I.l.length I.p
  cases hb4 : lenOk I.p I.l.length
  · have HD := Lib.hid (may_no (I := I) (by rw [hb4]; simp))
    rw [hb4] at e4
    simp only [Bool.not_false] at e4
    go_wp2
    go_ret
    exact ⟨ret_bool HD.out.symm, (Below.refl _ w).alloc (Nat.le_refl _) _⟩
  rw [hb4] at e4
  simp only [Bool.not_true] at e4
  have HALL := Lib.hid (okAt_all hb1 hb2 hb3 hb4)
  have hl : (I.l.length : Int) = 2 * I.p + 1 := by unfold lenOk at hb4; exact decide_eq_true_iff.1 hb4
  have hl1 : (I.l.length : Int) ≤ 2 * I.p + 1 := by omega
  have hl2 : 2 * I.p + 1 ≤ (I.l.length : Int) := by omega
  clear hl hb1 hb2 hb3 hb4
  go_wp2_with fail
  change Code.wp _ _ _ _ (w.alloc (boxI I (.slice ad I.l.length cap)))
  have HB1 := Lib.hid ((Below.refl _ w).alloc (Nat.le_refl _) (boxI I (.slice ad I.l.length cap)))
  have HS0 := Lib.hid (holds_box w I (.slice ad I.l.length cap))
  have hlt := Lib.hid (show Lows (w.alloc (boxI I (.slice ad I.l.length cap))).heap.size (cellsI w.heap.size I (.slice ad I.l.length cap)) from ⟨by simp, by simp, by simp, by simp, trivial⟩)
  have HA1 := Lib.hid (H.out.below HB1.out)
  have hN : w.heap.size < (w.alloc (boxI I (.slice ad I.l.length cap))).heap.size := by simp
  generalize w.alloc (boxI I (.slice ad I.l.length cap)) = W at *
  clear e2 e3 e4
  go_loopw [6] (fun i wr => ∃ k : Nat, k ≤ I.l.length ∧ i = .int .i64 k ∧ (∀ i, i < k → okAt I.p.toNat I.l i) ∧ Below W.heap.size W wr) (fun i _ => I.l.length - (intOf i).toNat)
  case atStart => exact ⟨0, Nat.zero_le _, rfl, fun i hi => by omega, Below.refl _ _⟩
  case round =>
    obtain ⟨k, hk, rfl, hall, hbw⟩ := hrel
    have HA := Lib.hid hall
    have HBW := Lib.hid hbw
    have hcc := Holds.below hbw HS0.out hlt.out
    simp only [cellsI, Holds] at hcc
    obtain ⟨b0, _, _, b3, _⟩ := hcc
    have hszw := hbw.size
    clear hall hbw
    by_cases hlt2 : k < I.l.length
    · obtain ⟨tb, off, rfl, hat, htb⟩ := srow_at HA1.out k hlt2
      obtain ⟨c0, c1, c2, c3, c4, c5⟩ := hat.below htb HBW.out
      have HK := Lib.hid (show okAt I.p.toNat I.l k ↔ stopOk (nth I.l k) = true ∧ (k = 0 → (nth I.l k).d = 0 ∧ (nth I.l k).s = 0) ∧ (0 < k → k ≤ I.p.toNat → inb 1 1000 (nth I.l k).d = true) ∧ (I.p.toNat < k → (nth I.l k).d = -(nth I.l (k - I.p.toNat)).d) from Iff.rfl)
      have HNO := Lib.hid (fun h => okAt_no (I := I) hlt2 h)
      generalize hT : nth I.l k = t at *
      have HTT := Lib.hid hT
      clear hat hT
      go_wp2_with fail
      change Calls _ _ #[stopV t] _ _
      refine (stop_any t _).mono ?_
      rintro e w3 ⟨rfl, hb⟩
      have m2 : w3.cell? ⟨wr.heap.size, 2, none⟩ = some (.int .i64 t.d) := by rw [hb.cell (p := ⟨wr.heap.size, 2, none⟩) (by simp)]; go_simp
      have m5 : w3.cell? ⟨wr.heap.size, 5, none⟩ = some (.int .i64 t.s) := by rw [hb.cell (p := ⟨wr.heap.size, 5, none⟩) (by simp)]; go_simp
      have HB3 := Lib.hid ((HBW.out.alloc hszw (.cells #[.int .i64 t.x, .int .i64 t.y, .int .i64 t.d, .int .i64 t.r, .int .i64 t.u, .int .i64 t.s] 38)).trans (hb.mono (by simp; omega)))
      have hz : wr.heap.size < w3.heap.size := by have := hb.size; simp at this; omega
      have q0 : w3.cell? ⟨w.heap.size, 0, none⟩ = some (.int .i64 I.p) := (HB3.out.cell (p := ⟨w.heap.size, 0, none⟩) hN).trans HS0.out.1
      have q3 : w3.cell? ⟨w.heap.size, 3, none⟩ = some (.slice (some ⟨tb, off, none⟩) I.l.length cap) := (HB3.out.cell (p := ⟨w.heap.size, 3, none⟩) hN).trans HS0.out.2.2.2.1
      clear hb c0 c1 c2 c3 c4 c5 b0 b3
      go_wp2_with fail
      refine (in_any _ _ _ _).mono ?_
      rintro e w3 ⟨rfl, rfl⟩
      cases hso : stopOk t
      · have HD := Lib.hid (HNO.out (fun h => by have := (HK.out.1 h).1; rw [hso] at this; simp at this))
        clear hso
        go_wp2_with fail
        go_quiet (fail)
        have HW := Lib.hid (below_drewN HB3.out nq)
        generalize w3.drewN nq = w4 at *
        go_wp2
        go_ret
        exact ⟨ret_bool HD.out.symm, HB1.out.trans (HW.out.mono HB1.out.size)⟩
      by_cases hk0 : k = 0
      · subst hk0
        by_cases hd : t.d = 0
        · have n1 : (t.d != 0) = false := by simp [hd]
          by_cases hs : t.s = 0
          · have n2 : (t.s != 0) = false := by simp [hs]
            have n3 : decide (I.p < 0) = false := decide_eq_false (by omega)
            have HO := Lib.hid (HK.out.2 ⟨hso, fun _ => ⟨hd, hs⟩, fun h => by omega, fun h => by omega⟩)
            clear hso hd hs
            go_wp2_with fail
            go_quiet (fail)
            have HW := Lib.hid (below_drewN HB3.out nq)
            generalize w3.drewN nq = w4 at *
            go_wp2
            go_roundw
            case rel => exact ⟨0 + 1, by omega, by go_num, okAt_next HA.out HO.out, HW.out⟩
            case measure => simp [intOf]; omega
          · have n2 : (t.s != 0) = true := by simp [hs]
            have HD := Lib.hid (HNO.out (fun h => hs ((HK.out.1 h).2.1 rfl).2))
            clear hso hd hs
            go_wp2_with fail
            go_quiet (fail)
            have HW := Lib.hid (below_drewN HB3.out nq)
            generalize w3.drewN nq = w4 at *
            go_wp2
            go_ret
            exact ⟨ret_bool HD.out.symm, HB1.out.trans (HW.out.mono HB1.out.size)⟩
        · have n1 : (t.d != 0) = true := by simp [hd]
          have HD := Lib.hid (HNO.out (fun h => hd ((HK.out.1 h).2.1 rfl).1))
          clear hso hd
          go_wp2_with fail
          go_quiet (fail)
          have HW := Lib.hid (below_drewN HB3.out nq)
          generalize w3.drewN nq = w4 at *
          go_wp2
          go_ret
          exact ⟨ret_bool HD.out.symm, HB1.out.trans (HW.out.mono HB1.out.size)⟩
      have k0 : ((k : Int) == 0) = false := by rw [beq_eq_false_iff_ne]; omega
      have k1 : decide ((0 : Int) < (k : Int)) = true := decide_eq_true (by omega)
      have k2 : decide (0 < k) = true := decide_eq_true (by omega)
      by_cases hkp : (k : Int) ≤ I.p
      · have k3 : decide ((k : Int) ≤ I.p) = true := decide_eq_true hkp
        have k4 : decide (I.p < (k : Int)) = false := decide_eq_false (by omega)
        cases hin : inb 1 1000 t.d
        · have HD := Lib.hid (HNO.out (fun h => by have := (HK.out.1 h).2.2.1 (by omega) (by omega); rw [hin] at this; simp at this))
          clear hso hkp hk0 hin
          go_wp2_with fail
          go_quiet (fail)
          have HW := Lib.hid (below_drewN HB3.out nq)
          generalize w3.drewN nq = w4 at *
          go_wp2
          go_ret
          exact ⟨ret_bool HD.out.symm, HB1.out.trans (HW.out.mono HB1.out.size)⟩
        · have HO := Lib.hid (HK.out.2 ⟨hso, fun h => by omega, fun _ _ => hin, fun h => by omega⟩)
          clear hso hkp hk0 hin
          go_wp2_with fail
          go_quiet (fail)
          have HW := Lib.hid (below_drewN HB3.out nq)
          generalize w3.drewN nq = w4 at *
          go_wp2
          go_roundw
          case rel => exact ⟨k + 1, by omega, by go_num, okAt_next HA.out HO.out, HW.out⟩
          case measure => simp [intOf]; omega
      · have k3 : decide ((k : Int) ≤ I.p) = false := decide_eq_false hkp
        have k4 : decide (I.p < (k : Int)) = true := decide_eq_true (by omega)
        have hjl : k - I.p.toNat < I.l.length := by omega
        have hjb := (inb_iff _ _ _).1 ((HA.out (k - I.p.toNat) (by omega)).2.2.1 (by omega) (by omega))
        have e1 : IntKind.i64.wrap ((k : Int) - I.p) = ((k - I.p.toNat : Nat) : Int) := by rw [IntWalk.i64_in _ (by omega)]; omega
        obtain ⟨tb', off', he, hat2, _⟩ := srow_at HA1.out (k - I.p.toNat) hjl
        simp only [Option.some.injEq, Addr.mk.injEq, and_true] at he
        obtain ⟨rfl, rfl⟩ := he
        have r2 := (hat2.below htb HB3.out).2.2.1
        have HDE := Lib.hid (show (I.p.toNat < k → t.d = -(nth I.l (k - I.p.toNat)).d) ↔ t.d = -(nth I.l (k - I.p.toNat)).d from ⟨fun h => h (by omega), fun h _ => h⟩)
        have HKK := Lib.hid (show (t.d = -(nth I.l (k - I.p.toNat)).d) → okAt I.p.toNat I.l k from fun h => HK.out.2 ⟨hso, fun h => by omega, fun _ h => by omega, fun _ => h⟩)
        have HKN := Lib.hid (show okAt I.p.toNat I.l k → t.d = -(nth I.l (k - I.p.toNat)).d from fun h => (HK.out.1 h).2.2.2 (by omega))
        generalize nth I.l (k - I.p.toNat) = s at *
        have e5 : IntKind.i64.wrap (-s.d) = -s.d := IntWalk.i64_in _ (by omega)
        generalize k - I.p.toNat = j at *
        have hj1 : (j : Int) < (I.l.length : Int) := by omega
        clear hat2 hjb
        by_cases hds : t.d = -s.d
        · have n5 : (t.d != -s.d) = false := by simp [hds]
          have HO := Lib.hid (HKK.out hds)
          clear hso hkp hk0 hds
          go_wp2_with fail
          go_quiet (fail)
          have HW := Lib.hid (below_drewN HB3.out nq)
          generalize w3.drewN nq = w4 at *
          go_wp2
          go_roundw
          case rel => exact ⟨k + 1, by omega, by go_num, okAt_next HA.out HO.out, HW.out⟩
          case measure => simp [intOf]; omega
        · have n5 : (t.d != -s.d) = true := by simp [hds]
          have HD := Lib.hid (HNO.out (fun h => hds (HKN.out h)))
          clear hso hkp hk0 hds
          go_wp2_with fail
          go_quiet (fail)
          have HW := Lib.hid (below_drewN HB3.out nq)
          generalize w3.drewN nq = w4 at *
          go_wp2
          go_ret
          exact ⟨ret_bool HD.out.symm, HB1.out.trans (HW.out.mono HB1.out.size)⟩
    · obtain rfl : k = I.l.length := by omega
      have HD := Lib.hid (HALL.out (fun i hi => HA.out i hi))
      clear hlt2 hk
      go_wp2
      go_ret
      exact ⟨ret_bool HD.out.symm, HB1.out.trans (HBW.out.mono HB1.out.size)⟩
end Go.Proofs.Ytolaiccgbngomaa
