/- The document's own answers: may a state go on, all stops, home, a visit. -/
import Derived.Test.YtgplajofemencaaGreatYF
namespace Go.Proofs.YtgplajofemencaaGreat
open Go.ChangeShapes Go.WideShapes Go.ChangeAt Go.RowKit

/-- The boxes of a call: the instance, the state, the answer's cells. -/
theorem boxes_ans (w : World) (I : Ins) (v : Value) (s : Sta) : YBox (((w.alloc (boxI I v)).alloc (boxSt s)).alloc (boxSt noughtS)) w.heap.size I v ∧ StB (((w.alloc (boxI I v)).alloc (boxSt s)).alloc (boxSt noughtS)) (w.heap.size + 1) s ∧
    StB (((w.alloc (boxI I v)).alloc (boxSt s)).alloc (boxSt noughtS)) (w.heap.size + 1 + 1) noughtS ∧ Below w.heap.size w (((w.alloc (boxI I v)).alloc (boxSt s)).alloc (boxSt noughtS)) := by
  obtain ⟨h1, h2, h3⟩ := boxes_two w I v s
  have e1 : ((w.alloc (boxI I v)).alloc (boxSt s)).heap.size = w.heap.size + 1 + 1 := by simp
  have a3 := st_new ((w.alloc (boxI I v)).alloc (boxSt s)) noughtS
  rw [e1] at a3
  exact ⟨h1.later ((Below.refl _ _).alloc (Nat.le_refl _) _), h2.later ((Below.refl _ _).alloc (Nat.le_refl _) _), a3, h3.alloc h3.size _⟩
set_option maxRecDepth 1000000 in
set_option maxHeartbeats 4000000 in
theorem dmay_any {w : World} {v : Value} {I : Ins} {s : Sta} (hr : SRow w v I.l) :
    Calls Tryz.prog 75 #[insV I v, staV s] w fun e w' => e = .returned (.bool (decide (GoOn I s))) ∧ Below w.heap.size w w' := by
  have HR := Lib.hid hr
  obtain ⟨ad, cap, rfl, hlm, _⟩ := hr.form
  clear hr
  unfold insV
  rw [show staV s = .agg #[.int .i64 s.pos, .int .i64 s.car, .int .i64 s.time, .int .i64 s.load, .int .i64 s.first, .int .u64 s.must, .int .u64 s.may, .int .u64 s.on] from rfl]
  go_enter Tryz.func75, Tryz.ntmps75
  go_wp2_with fail
  obtain ⟨b1, b2, b3⟩ := boxes_two w I (.slice ad I.l.length cap) s
  have HY := Lib.hid b1
  have HT := Lib.hid b2
  have HB := Lib.hid b3
  clear b1 b2 b3
  change Calls _ _ #[insV I (.slice ad I.l.length cap)] ((w.alloc (boxI I (.slice ad I.l.length cap))).alloc (boxSt s)) _
  generalize (w.alloc (boxI I (.slice ad I.l.length cap))).alloc (boxSt s) = W at *
  refine (rmay_any (HR.out.below HB.out)).mono ?_
  rintro e w1 ⟨rfl, hb⟩
  have HYn := Lib.hid (HY.out.later hb)
  have HTn := Lib.hid (HT.out.later hb)
  have HBn := Lib.hid (HB.out.trans (hb.mono HB.out.size))
  clear hb HY HT HB
  have HY := HYn
  have HT := HTn
  have HB := HBn
  clear HYn HTn HBn
  have y0 := (HY.out).cells.1
  have y1 := (HY.out).cells.2.1
  have y2 := (HY.out).cells.2.2.1
  have q0 := (HT.out).c0
  have q1 := (HT.out).c1
  have q2 := (HT.out).c2
  have q3 := (HT.out).c3
  by_cases hm : mayB I = true
  rotate_left
  · have HD := Lib.hid (show decide (GoOn I s) = false from decide_eq_false (fun h => hm h.1))
    rw [Bool.not_eq_true] at hm
    rw [hm]
    clear hm
    go_wp2
    go_ret
    exact ⟨ret_bool HD.out.symm, HB.out⟩
  have HF := Lib.hid (fine_of hm)
  have hp0 := HF.out.p0
  have hp1 := HF.out.p1
  have e1 : IntKind.i64.wrap (2 * I.p) = 2 * I.p := IntWalk.i64_in _ (by omega)
  have HM := Lib.hid hm
  clear hp0 hp1
  rw [hm]
  clear hm
  by_cases g0 : 0 ≤ s.pos
  rotate_left
  · have HD := Lib.hid (show decide (GoOn I s) = false from decide_eq_false (fun h => g0 h.2.1.1))
    have d0 := decide_eq_false g0
    clear g0
    go_wp2
    go_ret
    exact ⟨ret_bool HD.out.symm, HB.out⟩
  have G0 := Lib.hid g0
  have d0 := decide_eq_true g0
  clear g0
  by_cases g1 : s.pos ≤ 2 * I.p
  rotate_left
  · have HD := Lib.hid (show decide (GoOn I s) = false from decide_eq_false (fun h => g1 h.2.1.2))
    have d1 := decide_eq_false g1
    clear g1
    go_wp2
    go_ret
    exact ⟨ret_bool HD.out.symm, HB.out⟩
  have G1 := Lib.hid g1
  have d1 := decide_eq_true g1
  clear g1
  by_cases g2 : 1 ≤ s.car
  rotate_left
  · have HD := Lib.hid (show decide (GoOn I s) = false from decide_eq_false (fun h => g2 h.2.2.1.1))
    have d2 := decide_eq_false g2
    clear g2
    go_wp2
    go_ret
    exact ⟨ret_bool HD.out.symm, HB.out⟩
  have G2 := Lib.hid g2
  have d2 := decide_eq_true g2
  clear g2
  by_cases g3 : s.car ≤ I.c
  rotate_left
  · have HD := Lib.hid (show decide (GoOn I s) = false from decide_eq_false (fun h => g3 h.2.2.1.2))
    have d3 := decide_eq_false g3
    clear g3
    go_wp2
    go_ret
    exact ⟨ret_bool HD.out.symm, HB.out⟩
  have G3 := Lib.hid g3
  have d3 := decide_eq_true g3
  clear g3
  by_cases g4 : 0 ≤ s.time
  rotate_left
  · have HD := Lib.hid (show decide (GoOn I s) = false from decide_eq_false (fun h => g4 h.2.2.2.1.1))
    have d4 := decide_eq_false g4
    clear g4
    go_wp2
    go_ret
    exact ⟨ret_bool HD.out.symm, HB.out⟩
  have G4 := Lib.hid g4
  have d4 := decide_eq_true g4
  clear g4
  by_cases g5 : s.time ≤ 1073741824
  rotate_left
  · have HD := Lib.hid (show decide (GoOn I s) = false from decide_eq_false (fun h => g5 h.2.2.2.1.2))
    have d5 := decide_eq_false g5
    clear g5
    go_wp2
    go_ret
    exact ⟨ret_bool HD.out.symm, HB.out⟩
  have G5 := Lib.hid g5
  have d5 := decide_eq_true g5
  clear g5
  by_cases g6 : 0 ≤ s.load
  rotate_left
  · have HD := Lib.hid (show decide (GoOn I s) = false from decide_eq_false (fun h => g6 h.2.2.2.2.1))
    have d6 := decide_eq_false g6
    clear g6
    go_wp2
    go_ret
    exact ⟨ret_bool HD.out.symm, HB.out⟩
  have G6 := Lib.hid g6
  have d6 := decide_eq_true g6
  clear g6
  have HD := Lib.hid (show decide (GoOn I s) = decide (s.load ≤ 1000) from decide_eq_decide.2 ⟨fun h => h.2.2.2.2.2, fun h => ⟨HM.out, ⟨G0.out, G1.out⟩, ⟨G2.out, G3.out⟩, ⟨G4.out, G5.out⟩, G6.out, h⟩⟩)
  go_wp2
  go_ret
  exact ⟨ret_bool HD.out.symm, HB.out⟩
set_option maxRecDepth 1000000 in
set_option maxHeartbeats 4000000 in
theorem dall_any {w : World} {v : Value} {I : Ins} {t : Nat} (hr : SRow w v I.l) (hm : mayB I = true) (ht : t < 18446744073709551616) :
    Calls Tryz.prog 76 #[insV I v, .int .u64 t] w fun e w' => e = .returned (.bool (within (allS I) t)) ∧ Below w.heap.size w w' := by
  have HA := Lib.hid (allS_min hm)
  have HT := Lib.hid ht
  have hp0 := (fine_of hm).p0
  have hp1 := (fine_of hm).p1
  have e1 : IntKind.i64.wrap (2 * I.p) = 2 * I.p := IntWalk.i64_in _ (by omega)
  have HU := Lib.hid (show -9223372036854775808 ≤ 2 * I.p ∧ 2 * I.p ≤ 9223372036854775807 by omega)
  obtain ⟨ad, cap, rfl, hlm, _⟩ := hr.form
  clear hr hm ht hp0 hp1
  unfold insV
  go_enter Tryz.func76, Tryz.ntmps76
  go_wp2_with fail
  refine (erupto_any _ _ HU.out.1 HU.out.2).mono ?_
  rintro e w' ⟨rfl, rfl⟩
  rw [HA.out]
  go_wp2_with fail
  refine (erwithin_any _ _ _ (by unfold allS; exact upto_lt _) HT.out).mono ?_
  rintro e w' ⟨rfl, rfl⟩
  go_wp2
  go_ret
  exact ⟨rfl, (Below.refl _ w).alloc (Nat.le_refl _) _⟩
set_option maxRecDepth 1000000 in
set_option maxHeartbeats 4000000 in
theorem dhome_any {w : World} {v : Value} {I : Ins} {s : Sta} {d : Int} (hr : SRow w v I.l) (hs : SetsOk s) (hg : GoOn I s) (hd : d = farS1 I s 0) :
    Calls Tryz.prog 78 #[insV I v, staV s, .int .i64 d] w fun e w' => e = .returned (.tuple #[staV (moveS I s 0), .int .i64 (moveC I s 0), .bool (decide (Can I s 0))]) ∧ Below w.heap.size w w' := by
  have HG := Lib.hid hg
  have HM := Lib.hid hg.1
  have HD0 := Lib.hid hd
  have hfb := far1_bd I s 0
  rw [← hd] at hfb
  have hbd := goOn_bd hg
  have e1 : IntKind.i64.wrap (s.time + d) = s.time + d := IntWalk.i64_in _ (by omega)
  have e2 : IntKind.i64.wrap (s.car + 1) = s.car + 1 := IntWalk.i64_in _ (by omega)
  clear hfb hbd hg hd
  have HCE := Lib.hid (can_home HG.out)
  have HR := Lib.hid hr
  have HS := Lib.hid hs
  obtain ⟨ad, cap, rfl, hlm, _⟩ := hr.form
  clear hr hs
  have hl0 : 0 < I.l.length := (pmay_len HM.out).1
  obtain ⟨tb, off, rfl, hkt, hlt0⟩ := srow_at HR.out 0 hl0
  rw [Nat.zero_mul, Nat.add_zero] at hkt
  have HKT := Lib.hid hkt
  have HLT := Lib.hid hlt0
  clear hkt hlt0
  have hki : (0 : Int) < (I.l.length : Int) := by omega
  unfold insV
  rw [show staV s = .agg #[.int .i64 s.pos, .int .i64 s.car, .int .i64 s.time, .int .i64 s.load, .int .i64 s.first, .int .u64 s.must, .int .u64 s.may, .int .u64 s.on] from rfl]
  go_enter Tryz.func78, Tryz.ntmps78
  go_wp2_with fail
  obtain ⟨b1, b2, b3, b4⟩ := boxes_ans w I (.slice (some ⟨tb, off, none⟩) I.l.length cap) s
  have HY := Lib.hid b1
  have HT := Lib.hid b2
  have HX := Lib.hid b3
  have HB := Lib.hid b4
  clear b1 b2 b3 b4
  change Calls _ _ #[insV I (.slice (some ⟨tb, off, none⟩) I.l.length cap), _] (((w.alloc (boxI I (.slice (some ⟨tb, off, none⟩) I.l.length cap))).alloc (boxSt s)).alloc (boxSt noughtS)) _
  generalize ((w.alloc (boxI I (.slice (some ⟨tb, off, none⟩) I.l.length cap))).alloc (boxSt s)).alloc (boxSt noughtS) = W at *
  refine (dall_any (HR.out.below HB.out) HM.out HS.out.1).mono ?_
  rintro e w1 ⟨rfl, hb⟩
  have HYn := Lib.hid (HY.out.later hb)
  have HTn := Lib.hid (HT.out.later hb)
  have HXn := Lib.hid (HX.out.later hb)
  have HBn := Lib.hid (HB.out.trans (hb.mono HB.out.size))
  clear hb HY HT HX HB
  have HY := HYn
  have HT := HTn
  have HX := HXn
  have HB := HBn
  clear HYn HTn HXn HBn
  obtain ⟨k0, k1, k2, k3, k4, k5⟩ := HKT.out.below HLT.out HB.out
  have y0 := (HY.out).cells.1
  have y1 := (HY.out).cells.2.1
  have y2 := (HY.out).cells.2.2.1
  have y3 := (HY.out).cells.2.2.2
  have q0 := (HT.out).c0
  have q1 := (HT.out).c1
  have q2 := (HT.out).c2
  have q3 := (HT.out).c3
  have q4 := (HT.out).c4
  have q5 := (HT.out).c5
  have q6 := (HT.out).c6
  have q7 := (HT.out).c7
  by_cases g0 : s.pos = 0
  · skip
    have HE := Lib.hid (move_no (I := I) (s := s) (j := 0) (fun hc => by have h := HCE.out.1 hc; exact h.2.1 g0))
    have b0 : (s.pos == 0) = true := by simp [g0]
    clear g0
    go_wp2_with fail
    go_quiet (fail)
    have hb := below_drewN (Below.refl w1.heap.size w1) nq
    generalize w1.drewN nq = w2 at *
    have HYn := Lib.hid (HY.out.later hb)
    have HTn := Lib.hid (HT.out.later hb)
    have HXn := Lib.hid (HX.out.later hb)
    have HBn := Lib.hid (HB.out.trans (hb.mono HB.out.size))
    clear hb HY HT HX HB
    have HY := HYn
    have HT := HTn
    have HX := HXn
    have HB := HBn
    clear HYn HTn HXn HBn
    clear y0 y1 y2 y3 q0 q1 q2 q3 q4 q5 q6 q7 k0 k1 k2 k3 k4 k5
    have x0 := HT.out.c0
    have x1 := HT.out.c1
    have x2 := HT.out.c2
    have x3 := HT.out.c3
    have x4 := HT.out.c4
    have x5 := HT.out.c5
    have x6 := HT.out.c6
    have x7 := HT.out.c7
    go_wp2_with (refine wpList_store_state (by rfl) (.tmp 6) (.tmp 45) (by rfl) (w.heap.size + 1 + 1) _ s (by rfl) (by rfl) HX.out ?_)
    intro WE hE hbE
    have z0 := hE.c0
    have z1 := hE.c1
    have z2 := hE.c2
    have z3 := hE.c3
    have z4 := hE.c4
    have z5 := hE.c5
    have z6 := hE.c6
    have z7 := hE.c7
    go_wp2
    exact bodyPost_ret (v := .tuple #[staV s, .int .i64 0, .bool false]) (by simp [results, Tryz.results78, go_sem, z0, z1, z2, z3, z4, z5, z6, z7, staV]) rfl ⟨by rw [HE.out.1, HE.out.2.1, HE.out.2.2], HB.out.trans (hbE _ (by omega))⟩
  have G0 := Lib.hid g0
  have b0 : (s.pos == 0) = false := by simp [g0]
  clear g0
  by_cases g1 : s.on = 0
  rotate_left
  · skip
    have HE := Lib.hid (move_no (I := I) (s := s) (j := 0) (fun hc => by have h := HCE.out.1 hc; exact g1 h.2.2.1))
    have b1 : ((s.on : Int) != 0) = true := by simp [g1]
    clear g1
    go_wp2_with fail
    go_quiet (fail)
    have hb := below_drewN (Below.refl w1.heap.size w1) nq
    generalize w1.drewN nq = w2 at *
    have HYn := Lib.hid (HY.out.later hb)
    have HTn := Lib.hid (HT.out.later hb)
    have HXn := Lib.hid (HX.out.later hb)
    have HBn := Lib.hid (HB.out.trans (hb.mono HB.out.size))
    clear hb HY HT HX HB
    have HY := HYn
    have HT := HTn
    have HX := HXn
    have HB := HBn
    clear HYn HTn HXn HBn
    clear y0 y1 y2 y3 q0 q1 q2 q3 q4 q5 q6 q7 k0 k1 k2 k3 k4 k5
    have x0 := HT.out.c0
    have x1 := HT.out.c1
    have x2 := HT.out.c2
    have x3 := HT.out.c3
    have x4 := HT.out.c4
    have x5 := HT.out.c5
    have x6 := HT.out.c6
    have x7 := HT.out.c7
    go_wp2_with (refine wpList_store_state (by rfl) (.tmp 6) (.tmp 45) (by rfl) (w.heap.size + 1 + 1) _ s (by rfl) (by rfl) HX.out ?_)
    intro WE hE hbE
    have z0 := hE.c0
    have z1 := hE.c1
    have z2 := hE.c2
    have z3 := hE.c3
    have z4 := hE.c4
    have z5 := hE.c5
    have z6 := hE.c6
    have z7 := hE.c7
    go_wp2
    exact bodyPost_ret (v := .tuple #[staV s, .int .i64 0, .bool false]) (by simp [results, Tryz.results78, go_sem, z0, z1, z2, z3, z4, z5, z6, z7, staV]) rfl ⟨by rw [HE.out.1, HE.out.2.1, HE.out.2.2], HB.out.trans (hbE _ (by omega))⟩
  have G1 := Lib.hid g1
  have b1 : ((s.on : Int) != 0) = false := by simp [g1]
  clear g1
  by_cases g2 : I.c ≤ s.car
  · skip
    have HE := Lib.hid (move_no (I := I) (s := s) (j := 0) (fun hc => by have h := HCE.out.1 hc; exact absurd h.2.2.2.1 (by omega)))
    have b2 := decide_eq_true g2
    clear g2
    go_wp2_with fail
    go_quiet (fail)
    have hb := below_drewN (Below.refl w1.heap.size w1) nq
    generalize w1.drewN nq = w2 at *
    have HYn := Lib.hid (HY.out.later hb)
    have HTn := Lib.hid (HT.out.later hb)
    have HXn := Lib.hid (HX.out.later hb)
    have HBn := Lib.hid (HB.out.trans (hb.mono HB.out.size))
    clear hb HY HT HX HB
    have HY := HYn
    have HT := HTn
    have HX := HXn
    have HB := HBn
    clear HYn HTn HXn HBn
    clear y0 y1 y2 y3 q0 q1 q2 q3 q4 q5 q6 q7 k0 k1 k2 k3 k4 k5
    have x0 := HT.out.c0
    have x1 := HT.out.c1
    have x2 := HT.out.c2
    have x3 := HT.out.c3
    have x4 := HT.out.c4
    have x5 := HT.out.c5
    have x6 := HT.out.c6
    have x7 := HT.out.c7
    go_wp2_with (refine wpList_store_state (by rfl) (.tmp 6) (.tmp 45) (by rfl) (w.heap.size + 1 + 1) _ s (by rfl) (by rfl) HX.out ?_)
    intro WE hE hbE
    have z0 := hE.c0
    have z1 := hE.c1
    have z2 := hE.c2
    have z3 := hE.c3
    have z4 := hE.c4
    have z5 := hE.c5
    have z6 := hE.c6
    have z7 := hE.c7
    go_wp2
    exact bodyPost_ret (v := .tuple #[staV s, .int .i64 0, .bool false]) (by simp [results, Tryz.results78, go_sem, z0, z1, z2, z3, z4, z5, z6, z7, staV]) rfl ⟨by rw [HE.out.1, HE.out.2.1, HE.out.2.2], HB.out.trans (hbE _ (by omega))⟩
  have G2 := Lib.hid g2
  have b2 := decide_eq_false g2
  clear g2
  by_cases g3 : within (allS I) s.must = true
  · skip
    have HE := Lib.hid (move_no (I := I) (s := s) (j := 0) (fun hc => by have h := HCE.out.1 hc; exact (by have h5 := h.2.2.2.2.1; rw [g3] at h5; cases h5)))
    rw [g3]
    clear g3
    go_wp2_with fail
    go_quiet (fail)
    have hb := below_drewN (Below.refl w1.heap.size w1) nq
    generalize w1.drewN nq = w2 at *
    have HYn := Lib.hid (HY.out.later hb)
    have HTn := Lib.hid (HT.out.later hb)
    have HXn := Lib.hid (HX.out.later hb)
    have HBn := Lib.hid (HB.out.trans (hb.mono HB.out.size))
    clear hb HY HT HX HB
    have HY := HYn
    have HT := HTn
    have HX := HXn
    have HB := HBn
    clear HYn HTn HXn HBn
    clear y0 y1 y2 y3 q0 q1 q2 q3 q4 q5 q6 q7 k0 k1 k2 k3 k4 k5
    have x0 := HT.out.c0
    have x1 := HT.out.c1
    have x2 := HT.out.c2
    have x3 := HT.out.c3
    have x4 := HT.out.c4
    have x5 := HT.out.c5
    have x6 := HT.out.c6
    have x7 := HT.out.c7
    go_wp2_with (refine wpList_store_state (by rfl) (.tmp 6) (.tmp 45) (by rfl) (w.heap.size + 1 + 1) _ s (by rfl) (by rfl) HX.out ?_)
    intro WE hE hbE
    have z0 := hE.c0
    have z1 := hE.c1
    have z2 := hE.c2
    have z3 := hE.c3
    have z4 := hE.c4
    have z5 := hE.c5
    have z6 := hE.c6
    have z7 := hE.c7
    go_wp2
    exact bodyPost_ret (v := .tuple #[staV s, .int .i64 0, .bool false]) (by simp [results, Tryz.results78, go_sem, z0, z1, z2, z3, z4, z5, z6, z7, staV]) rfl ⟨by rw [HE.out.1, HE.out.2.1, HE.out.2.2], HB.out.trans (hbE _ (by omega))⟩
  rw [Bool.not_eq_true] at g3
  have G3 := Lib.hid g3
  rw [g3]
  clear g3
  by_cases g4 : (nth I.l 0).u < s.time + d
  · skip
    have HE := Lib.hid (move_no (I := I) (s := s) (j := 0) (fun hc => by have h := HCE.out.1 hc; exact (by have := h.2.2.2.2.2; rw [HD0.out] at g4; unfold comeS at this; rw [show farS1 I s 0 = farF (stp I s.pos) (stp I 0) from rfl] at g4; omega)))
    have b4 := decide_eq_true g4
    clear g4
    go_wp2_with fail
    go_quiet (fail)
    have hb := below_drewN (Below.refl w1.heap.size w1) nq
    generalize w1.drewN nq = w2 at *
    have HYn := Lib.hid (HY.out.later hb)
    have HTn := Lib.hid (HT.out.later hb)
    have HXn := Lib.hid (HX.out.later hb)
    have HBn := Lib.hid (HB.out.trans (hb.mono HB.out.size))
    clear hb HY HT HX HB
    have HY := HYn
    have HT := HTn
    have HX := HXn
    have HB := HBn
    clear HYn HTn HXn HBn
    clear y0 y1 y2 y3 q0 q1 q2 q3 q4 q5 q6 q7 k0 k1 k2 k3 k4 k5
    have x0 := HT.out.c0
    have x1 := HT.out.c1
    have x2 := HT.out.c2
    have x3 := HT.out.c3
    have x4 := HT.out.c4
    have x5 := HT.out.c5
    have x6 := HT.out.c6
    have x7 := HT.out.c7
    go_wp2_with (refine wpList_store_state (by rfl) (.tmp 6) (.tmp 45) (by rfl) (w.heap.size + 1 + 1) _ s (by rfl) (by rfl) HX.out ?_)
    intro WE hE hbE
    have z0 := hE.c0
    have z1 := hE.c1
    have z2 := hE.c2
    have z3 := hE.c3
    have z4 := hE.c4
    have z5 := hE.c5
    have z6 := hE.c6
    have z7 := hE.c7
    go_wp2
    exact bodyPost_ret (v := .tuple #[staV s, .int .i64 0, .bool false]) (by simp [results, Tryz.results78, go_sem, z0, z1, z2, z3, z4, z5, z6, z7, staV]) rfl ⟨by rw [HE.out.1, HE.out.2.1, HE.out.2.2], HB.out.trans (hbE _ (by omega))⟩
  have G4 := Lib.hid g4
  have b4 := decide_eq_false g4
  clear g4
  have HE := Lib.hid (move_yes (I := I) (s := s) (j := 0) (HCE.out.2 ⟨rfl, G0.out, G1.out, by have := G2.out; omega, G3.out, by have := G4.out; rw [HD0.out] at this; unfold comeS; rw [show farS1 I s 0 = farF (stp I s.pos) (stp I 0) from rfl] at this; omega⟩))
  have HN := Lib.hid (next_home (I := I) (s := s))
  go_wp2_with fail
  go_quiet (fail)
  have hb := below_drewN (Below.refl w1.heap.size w1) nq
  generalize w1.drewN nq = w2 at *
  have HYn := Lib.hid (HY.out.later hb)
  have HTn := Lib.hid (HT.out.later hb)
  have HXn := Lib.hid (HX.out.later hb)
  have HBn := Lib.hid (HB.out.trans (hb.mono HB.out.size))
  clear hb HY HT HX HB
  have HY := HYn
  have HT := HTn
  have HX := HXn
  have HB := HBn
  clear HYn HTn HXn HBn
  clear y0 y1 y2 y3 q0 q1 q2 q3 q4 q5 q6 q7 k0 k1 k2 k3 k4 k5 b0 b1 b2 b4
  obtain ⟨k0, k1, k2, k3, k4, k5⟩ := HKT.out.below HLT.out HB.out
  clear k0 k1 k2 k4 k5
  have q0 := (HT.out).c0
  have q1 := (HT.out).c1
  have q2 := (HT.out).c2
  have q3 := (HT.out).c3
  have q4 := (HT.out).c4
  have q5 := (HT.out).c5
  have q6 := (HT.out).c6
  have q7 := (HT.out).c7
  have y3 := HY.out.cells.2.2.2
  have hY3 : ∀ o, (w2.alloc o).cell? ⟨w.heap.size, 3, none⟩ = some (.slice (some ⟨tb, off, none⟩) I.l.length cap) := fun o => (((Below.refl w2.heap.size w2).alloc (Nat.le_refl _) o).cell (World.block_lt_of_cell? _ _ y3)).trans y3
  have hT1 : ∀ o, (w2.alloc o).cell? ⟨w.heap.size + 1, 1, none⟩ = some (.int .i64 s.car) := fun o => (((Below.refl w2.heap.size w2).alloc (Nat.le_refl _) o).cell (World.block_lt_of_cell? _ _ q1)).trans q1
  have hK3 : ∀ o, (w2.alloc o).cell? ⟨tb, off + 3, none⟩ = some (.int .i64 (nth I.l 0).r) := fun o => (((Below.refl w2.heap.size w2).alloc (Nat.le_refl _) o).cell (World.block_lt_of_cell? _ _ k3)).trans k3
  go_upto_region 9 with fail
  have HXn := Lib.hid (HX.out.later ((Below.refl _ w2).alloc (Nat.le_refl _) (boxSt (homeS I s))))
  have HBn := Lib.hid (HB.out.alloc HB.out.size (boxSt (homeS I s)))
  have HTn := Lib.hid (st_new w2 (homeS I s))
  clear HX HB HT HY hY3 hT1 hK3 y3 q0 q1 q2 q3 q4 q5 q6 q7 k3
  have HX := HXn
  have HB := HBn
  have HT := HTn
  clear HXn HBn HTn
  change Code.wp _ _ _ _ (w2.alloc (boxSt (homeS I s)))
  generalize w2.alloc (boxSt (homeS I s)) = W3 at *
  generalize w2.heap.size = bm at *
  have x0 := HT.out.c0
  have x1 := HT.out.c1
  have x2 := HT.out.c2
  have x3 := HT.out.c3
  have x4 := HT.out.c4
  have x5 := HT.out.c5
  have x6 := HT.out.c6
  have x7 := HT.out.c7
  go_wp2_with (refine wpList_store_state (by rfl) (.tmp 6) (.tmp 59) (by rfl) (w.heap.size + 1 + 1) _ (homeS I s) (by rfl) (by rfl) HX.out ?_)
  intro WE hE hbE
  have z0 := hE.c0
  have z1 := hE.c1
  have z2 := hE.c2
  have z3 := hE.c3
  have z4 := hE.c4
  have z5 := hE.c5
  have z6 := hE.c6
  have z7 := hE.c7
  go_wp2
  exact bodyPost_ret (v := .tuple #[staV (homeS I s), .int .i64 d, .bool true]) (by simp [results, Tryz.results78, go_sem, z0, z1, z2, z3, z4, z5, z6, z7, staV]) rfl ⟨by rw [HE.out.1, HE.out.2.1, HE.out.2.2, HN.out, HD0.out], HB.out.trans (hbE _ (by omega))⟩
set_option maxRecDepth 1000000 in
set_option maxHeartbeats 4000000 in
theorem dvisit_any {w : World} {v : Value} {I : Ins} {s : Sta} {j b : Int} (hr : SRow w v I.l) (hs : SetsOk s) (hg : GoOn I s) (hj : 1 ≤ j ∧ j ≤ 2 * I.p) (hb0 : b = begS I s j) (hpos : I.p < j → s.pos ≠ 0) :
    Calls Tryz.prog 80 #[insV I v, staV s, .int .i64 j, .int .i64 b] w fun e w' => e = .returned (staV (visitS I s j)) ∧ Below w.heap.size w w' := by
  have HG := Lib.hid hg
  have hj0 : 0 ≤ j ∧ j ≤ 2 * I.p := by omega
  have b1 := beg_bd hg hj0
  have b2 := stop_in ((fine_of hg.1).ok j hj0.1 hj0.2)
  have b3 := dem_bd hg.1 hj0
  have b4 := (goOn_bd hg).2.2.2
  rw [← hb0] at b1
  have hp0 := (fine_of hg.1).p0
  have hp1 := (fine_of hg.1).p1
  have e1 : IntKind.i64.wrap (b + (stp I j).s) = b + (stp I j).s := IntWalk.i64_in _ (by omega)
  have e2 : IntKind.i64.wrap (s.load + (stp I j).d) = s.load + (stp I j).d := IntWalk.i64_in _ (by omega)
  have e3 : IntKind.i64.wrap (j - I.p) = j - I.p := IntWalk.i64_in _ (by omega)
  have HTK := Lib.hid (show j ≤ I.p → 0 ≤ s.load + (stp I j).d from fun h => by have := (fine_of hg.1).take j hj.1 h; omega)
  have HP := Lib.hid hpos
  have HV := Lib.hid (show visitS I s j = ⟨j, s.car, b + (stp I j).s, max (s.load + (stp I j).d) 0, if s.pos = 0 then j else s.first, s.must ||| bitN j, s.may ||| bitN j, if j ≤ I.p then s.on ||| bitN j else minus s.on (bitN (j - I.p))⟩ by rw [hb0]; rfl)
  clear b1 b2 b3 b4 hp0 hp1 hpos hb0
  obtain ⟨k, rfl, hk, ek⟩ := num_stop hg.1 hj0
  rw [ek] at e1 e2 HV HTK
  obtain ⟨ad, cap, rfl, hlm, _⟩ := hr.form
  obtain ⟨tb, off, rfl, hkt, hlt0⟩ := srow_at hr k hk
  have HKT := Lib.hid hkt
  have HLT := Lib.hid hlt0
  have hki : (k : Int) < (I.l.length : Int) := by omega
  have HR := Lib.hid hr
  have HS := Lib.hid hs
  clear hg hj0 hj hkt hlt0 ek hk hr hs
  generalize nth I.l k = t at *
  unfold insV
  rw [show staV s = .agg #[.int .i64 s.pos, .int .i64 s.car, .int .i64 s.time, .int .i64 s.load, .int .i64 s.first, .int .u64 s.must, .int .u64 s.may, .int .u64 s.on] from rfl]
  go_enter Tryz.func80, Tryz.ntmps80
  go_upto_region 1 with fail
  obtain ⟨b1, b2, b3, b4⟩ := boxes_ans w I (.slice (some ⟨tb, off, none⟩) I.l.length cap) s
  have HY := Lib.hid b1
  have HT := Lib.hid b2
  have HX := Lib.hid b3
  have HB := Lib.hid b4
  clear b1 b2 b3 b4
  change Code.wp _ _ _ _ (((w.alloc (boxI I (.slice (some ⟨tb, off, none⟩) I.l.length cap))).alloc (boxSt s)).alloc (boxSt noughtS))
  generalize ((w.alloc (boxI I (.slice (some ⟨tb, off, none⟩) I.l.length cap))).alloc (boxSt s)).alloc (boxSt noughtS) = W at *
  obtain ⟨k0, k1, k2, k3, k4, k5⟩ := HKT.out.below HLT.out HB.out
  clear k0 k1 k3 k4
  have y0 := (HY.out).cells.1
  have y1 := (HY.out).cells.2.1
  have y2 := (HY.out).cells.2.2.1
  have y3 := (HY.out).cells.2.2.2
  have q0 := (HT.out).c0
  have q1 := (HT.out).c1
  have q2 := (HT.out).c2
  have q3 := (HT.out).c3
  have q4 := (HT.out).c4
  have q5 := (HT.out).c5
  have q6 := (HT.out).c6
  have q7 := (HT.out).c7
  have hY0 : ∀ o, (W.alloc o).cell? ⟨w.heap.size, 0, none⟩ = some (.int .i64 I.p) := fun o => (((Below.refl W.heap.size W).alloc (Nat.le_refl _) o).cell (World.block_lt_of_cell? _ _ y0)).trans y0
  have hY3 : ∀ o, (W.alloc o).cell? ⟨w.heap.size, 3, none⟩ = some (.slice (some ⟨tb, off, none⟩) I.l.length cap) := fun o => (((Below.refl W.heap.size W).alloc (Nat.le_refl _) o).cell (World.block_lt_of_cell? _ _ y3)).trans y3
  have hT0 : ∀ o, (W.alloc o).cell? ⟨w.heap.size + 1, 0, none⟩ = some (.int .i64 s.pos) := fun o => (((Below.refl W.heap.size W).alloc (Nat.le_refl _) o).cell (World.block_lt_of_cell? _ _ q0)).trans q0
  have hT3 : ∀ o, (W.alloc o).cell? ⟨w.heap.size + 1, 3, none⟩ = some (.int .i64 s.load) := fun o => (((Below.refl W.heap.size W).alloc (Nat.le_refl _) o).cell (World.block_lt_of_cell? _ _ q3)).trans q3
  have hT5 : ∀ o, (W.alloc o).cell? ⟨w.heap.size + 1, 5, none⟩ = some (.int .u64 s.must) := fun o => (((Below.refl W.heap.size W).alloc (Nat.le_refl _) o).cell (World.block_lt_of_cell? _ _ q5)).trans q5
  have hT6 : ∀ o, (W.alloc o).cell? ⟨w.heap.size + 1, 6, none⟩ = some (.int .u64 s.may) := fun o => (((Below.refl W.heap.size W).alloc (Nat.le_refl _) o).cell (World.block_lt_of_cell? _ _ q6)).trans q6
  have hT7 : ∀ o, (W.alloc o).cell? ⟨w.heap.size + 1, 7, none⟩ = some (.int .u64 s.on) := fun o => (((Below.refl W.heap.size W).alloc (Nat.le_refl _) o).cell (World.block_lt_of_cell? _ _ q7)).trans q7
  have hK2 : ∀ o, (W.alloc o).cell? ⟨tb, off + k * 6 + 2, none⟩ = some (.int .i64 t.d) := fun o => (((Below.refl W.heap.size W).alloc (Nat.le_refl _) o).cell (World.block_lt_of_cell? _ _ k2)).trans k2
  have hK5 : ∀ o, (W.alloc o).cell? ⟨tb, off + k * 6 + 5, none⟩ = some (.int .i64 t.s) := fun o => (((Below.refl W.heap.size W).alloc (Nat.le_refl _) o).cell (World.block_lt_of_cell? _ _ k5)).trans k5
  go_upto_region 4 with fail
  go_region
  clear e1 e2 k2 k5 hK2 hK5 hY3 hT3 y1 y2 y3 q1 q2 q3 q4 q5 q6 q7 hki
  by_cases hkp : (k : Int) ≤ I.p
  · have d1 := decide_eq_true hkp
    have htk := HTK.out hkp
    have d2 : decide (s.load + t.d < 0) = false := decide_eq_false (by omega)
    have hm1 : max (s.load + t.d) 0 = s.load + t.d := by omega
    by_cases hpz : s.pos = 0
    · have b0 : (s.pos == 0) = true := by simp [hpz]
      have HE := Lib.hid (show visitS I s k = ⟨(k : Int), s.car, b + t.s, s.load + t.d, (k : Int), s.must ||| bitN (k : Int), s.may ||| bitN (k : Int), s.on ||| bitN (k : Int)⟩ by rw [HV.out, hm1, if_pos hpz, if_pos hkp])
      go_wp2_with fail
      refine (erwith_any _ _ _ HS.out.1).mono ?_
      rintro e w9 ⟨rfl, rfl⟩
      go_wp2_with fail
      refine (erwith_any _ _ _ HS.out.2.1).mono ?_
      rintro e w9 ⟨rfl, rfl⟩
      go_wp2_with fail
      refine (erwith_any _ _ _ HS.out.2.2).mono ?_
      rintro e w9 ⟨rfl, rfl⟩
      have HX6 := Lib.hid ((HX.out.later ((Below.refl _ W).alloc (Nat.le_refl _) (boxSt ⟨(k : Int), s.car, b + t.s, s.load + t.d, (k : Int), s.must ||| bitN (k : Int), s.may ||| bitN (k : Int), s.on ||| bitN (k : Int)⟩))).later (Below.refl _ _).drew)
      have HB6 := Lib.hid (HB.out.alloc HB.out.size (boxSt ⟨(k : Int), s.car, b + t.s, s.load + t.d, (k : Int), s.must ||| bitN (k : Int), s.may ||| bitN (k : Int), s.on ||| bitN (k : Int)⟩)).drew
      go_wp2_with (refine wpList_store_state (by rfl) (.tmp 8) (.tmp 68) (by rfl) (w.heap.size + 1 + 1) _ ⟨(k : Int), s.car, b + t.s, s.load + t.d, (k : Int), s.must ||| bitN (k : Int), s.may ||| bitN (k : Int), s.on ||| bitN (k : Int)⟩ (by rfl) (by rfl) HX6.out ?_)
      intro WE hE hbE
      have z0 := hE.c0
      have z1 := hE.c1
      have z2 := hE.c2
      have z3 := hE.c3
      have z4 := hE.c4
      have z5 := hE.c5
      have z6 := hE.c6
      have z7 := hE.c7
      go_wp2
      exact bodyPost_ret (v := staV ⟨(k : Int), s.car, b + t.s, s.load + t.d, (k : Int), s.must ||| bitN (k : Int), s.may ||| bitN (k : Int), s.on ||| bitN (k : Int)⟩) (by simp [results, Tryz.results80, go_sem, z0, z1, z2, z3, z4, z5, z6, z7, staV]) rfl ⟨by rw [HE.out], HB6.out.trans (hbE _ (by omega))⟩
    · have b0 : (s.pos == 0) = false := by simp [hpz]
      have HE := Lib.hid (show visitS I s k = ⟨(k : Int), s.car, b + t.s, s.load + t.d, s.first, s.must ||| bitN (k : Int), s.may ||| bitN (k : Int), s.on ||| bitN (k : Int)⟩ by rw [HV.out, hm1, if_neg hpz, if_pos hkp])
      go_wp2_with fail
      refine (erwith_any _ _ _ HS.out.1).mono ?_
      rintro e w9 ⟨rfl, rfl⟩
      go_wp2_with fail
      refine (erwith_any _ _ _ HS.out.2.1).mono ?_
      rintro e w9 ⟨rfl, rfl⟩
      go_wp2_with fail
      refine (erwith_any _ _ _ HS.out.2.2).mono ?_
      rintro e w9 ⟨rfl, rfl⟩
      have HX6 := Lib.hid ((HX.out.later ((Below.refl _ W).alloc (Nat.le_refl _) (boxSt ⟨(k : Int), s.car, b + t.s, s.load + t.d, s.first, s.must ||| bitN (k : Int), s.may ||| bitN (k : Int), s.on ||| bitN (k : Int)⟩))).later (Below.refl _ _).drew)
      have HB6 := Lib.hid (HB.out.alloc HB.out.size (boxSt ⟨(k : Int), s.car, b + t.s, s.load + t.d, s.first, s.must ||| bitN (k : Int), s.may ||| bitN (k : Int), s.on ||| bitN (k : Int)⟩)).drew
      go_wp2_with (refine wpList_store_state (by rfl) (.tmp 8) (.tmp 68) (by rfl) (w.heap.size + 1 + 1) _ ⟨(k : Int), s.car, b + t.s, s.load + t.d, s.first, s.must ||| bitN (k : Int), s.may ||| bitN (k : Int), s.on ||| bitN (k : Int)⟩ (by rfl) (by rfl) HX6.out ?_)
      intro WE hE hbE
      have z0 := hE.c0
      have z1 := hE.c1
      have z2 := hE.c2
      have z3 := hE.c3
      have z4 := hE.c4
      have z5 := hE.c5
      have z6 := hE.c6
      have z7 := hE.c7
      go_wp2
      exact bodyPost_ret (v := staV ⟨(k : Int), s.car, b + t.s, s.load + t.d, s.first, s.must ||| bitN (k : Int), s.may ||| bitN (k : Int), s.on ||| bitN (k : Int)⟩) (by simp [results, Tryz.results80, go_sem, z0, z1, z2, z3, z4, z5, z6, z7, staV]) rfl ⟨by rw [HE.out], HB6.out.trans (hbE _ (by omega))⟩
  have d1 := decide_eq_false hkp
  have hpz := HP.out (by omega)
  have b0 : (s.pos == 0) = false := by simp [hpz]
  by_cases hlo : s.load + t.d < 0
  · have d2 := decide_eq_true hlo
    have hm1 : max (s.load + t.d) 0 = 0 := by omega
    have HE := Lib.hid (show visitS I s k = ⟨(k : Int), s.car, b + t.s, 0, s.first, s.must ||| bitN (k : Int), s.may ||| bitN (k : Int), minus s.on (bitN ((k : Int) - I.p))⟩ by rw [HV.out, hm1, if_neg hpz, if_neg hkp])
    go_wp2_with fail
    refine (erwith_any _ _ _ HS.out.1).mono ?_
    rintro e w9 ⟨rfl, rfl⟩
    go_wp2_with fail
    refine (erwith_any _ _ _ HS.out.2.1).mono ?_
    rintro e w9 ⟨rfl, rfl⟩
    go_wp2_with fail
    refine (erwithout_any _ _ _ HS.out.2.2).mono ?_
    rintro e w9 ⟨rfl, rfl⟩
    have HX6 := Lib.hid ((HX.out.later ((Below.refl _ W).alloc (Nat.le_refl _) (boxSt ⟨(k : Int), s.car, b + t.s, 0, s.first, s.must ||| bitN (k : Int), s.may ||| bitN (k : Int), minus s.on (bitN ((k : Int) - I.p))⟩))).later (Below.refl _ _).drew)
    have HB6 := Lib.hid (HB.out.alloc HB.out.size (boxSt ⟨(k : Int), s.car, b + t.s, 0, s.first, s.must ||| bitN (k : Int), s.may ||| bitN (k : Int), minus s.on (bitN ((k : Int) - I.p))⟩)).drew
    go_wp2_with (refine wpList_store_state (by rfl) (.tmp 8) (.tmp 68) (by rfl) (w.heap.size + 1 + 1) _ ⟨(k : Int), s.car, b + t.s, 0, s.first, s.must ||| bitN (k : Int), s.may ||| bitN (k : Int), minus s.on (bitN ((k : Int) - I.p))⟩ (by rfl) (by rfl) HX6.out ?_)
    intro WE hE hbE
    have z0 := hE.c0
    have z1 := hE.c1
    have z2 := hE.c2
    have z3 := hE.c3
    have z4 := hE.c4
    have z5 := hE.c5
    have z6 := hE.c6
    have z7 := hE.c7
    go_wp2
    exact bodyPost_ret (v := staV ⟨(k : Int), s.car, b + t.s, 0, s.first, s.must ||| bitN (k : Int), s.may ||| bitN (k : Int), minus s.on (bitN ((k : Int) - I.p))⟩) (by simp [results, Tryz.results80, go_sem, z0, z1, z2, z3, z4, z5, z6, z7, staV]) rfl ⟨by rw [HE.out], HB6.out.trans (hbE _ (by omega))⟩
  have d2 := decide_eq_false hlo
  have hm1 : max (s.load + t.d) 0 = s.load + t.d := by omega
  have HE := Lib.hid (show visitS I s k = ⟨(k : Int), s.car, b + t.s, s.load + t.d, s.first, s.must ||| bitN (k : Int), s.may ||| bitN (k : Int), minus s.on (bitN ((k : Int) - I.p))⟩ by rw [HV.out, hm1, if_neg hpz, if_neg hkp])
  go_wp2_with fail
  refine (erwith_any _ _ _ HS.out.1).mono ?_
  rintro e w9 ⟨rfl, rfl⟩
  go_wp2_with fail
  refine (erwith_any _ _ _ HS.out.2.1).mono ?_
  rintro e w9 ⟨rfl, rfl⟩
  go_wp2_with fail
  refine (erwithout_any _ _ _ HS.out.2.2).mono ?_
  rintro e w9 ⟨rfl, rfl⟩
  have HX6 := Lib.hid ((HX.out.later ((Below.refl _ W).alloc (Nat.le_refl _) (boxSt ⟨(k : Int), s.car, b + t.s, s.load + t.d, s.first, s.must ||| bitN (k : Int), s.may ||| bitN (k : Int), minus s.on (bitN ((k : Int) - I.p))⟩))).later (Below.refl _ _).drew)
  have HB6 := Lib.hid (HB.out.alloc HB.out.size (boxSt ⟨(k : Int), s.car, b + t.s, s.load + t.d, s.first, s.must ||| bitN (k : Int), s.may ||| bitN (k : Int), minus s.on (bitN ((k : Int) - I.p))⟩)).drew
  go_wp2_with (refine wpList_store_state (by rfl) (.tmp 8) (.tmp 68) (by rfl) (w.heap.size + 1 + 1) _ ⟨(k : Int), s.car, b + t.s, s.load + t.d, s.first, s.must ||| bitN (k : Int), s.may ||| bitN (k : Int), minus s.on (bitN ((k : Int) - I.p))⟩ (by rfl) (by rfl) HX6.out ?_)
  intro WE hE hbE
  have z0 := hE.c0
  have z1 := hE.c1
  have z2 := hE.c2
  have z3 := hE.c3
  have z4 := hE.c4
  have z5 := hE.c5
  have z6 := hE.c6
  have z7 := hE.c7
  go_wp2
  exact bodyPost_ret (v := staV ⟨(k : Int), s.car, b + t.s, s.load + t.d, s.first, s.must ||| bitN (k : Int), s.may ||| bitN (k : Int), minus s.on (bitN ((k : Int) - I.p))⟩) (by simp [results, Tryz.results80, go_sem, z0, z1, z2, z3, z4, z5, z6, z7, staV]) rfl ⟨by rw [HE.out], HB6.out.trans (hbE _ (by omega))⟩
end Go.Proofs.YtgplajofemencaaGreat
/- The document's own Move. -/
namespace Go.Proofs.YtgplajofemencaaGreat
open Go.ChangeShapes Go.WideShapes Go.ChangeAt Go.RowKit

set_option maxRecDepth 1000000 in
set_option maxHeartbeats 4000000 in
theorem dmove_any {w : World} {v : Value} {I : Ins} {s : Sta} {j : Int} (hr : SRow w v I.l) (hs : SetsOk s) :
    Calls Tryz.prog 50 #[insV I v, staV s, .int .i64 j] w fun e w' => e = .returned (.tuple #[staV (moveS I s j), .int .i64 (moveC I s j), .bool (decide (Can I s j))]) ∧ Below w.heap.size w w' := by
  have HR := Lib.hid hr
  have HS := Lib.hid hs
  obtain ⟨ad, cap, rfl, hlm, _⟩ := hr.form
  clear hr hs
  unfold insV
  rw [show staV s = .agg #[.int .i64 s.pos, .int .i64 s.car, .int .i64 s.time, .int .i64 s.load, .int .i64 s.first, .int .u64 s.must, .int .u64 s.may, .int .u64 s.on] from rfl]
  go_enter Tryz.func50, Tryz.ntmps50
  go_wp2_with fail
  obtain ⟨b1, b2, b3, b4⟩ := boxes_ans w I (.slice ad I.l.length cap) s
  have HY := Lib.hid b1
  have HT := Lib.hid b2
  have HX := Lib.hid b3
  have HB := Lib.hid b4
  clear b1 b2 b3 b4
  change Calls _ _ #[insV I (.slice ad I.l.length cap), staV s] (((w.alloc (boxI I (.slice ad I.l.length cap))).alloc (boxSt s)).alloc (boxSt noughtS)) _
  generalize ((w.alloc (boxI I (.slice ad I.l.length cap))).alloc (boxSt s)).alloc (boxSt noughtS) = W at *
  refine (dmay_any (HR.out.below HB.out)).mono ?_
  rintro e w1 ⟨rfl, hb⟩
  have HYn := Lib.hid (HY.out.later hb)
  have HTn := Lib.hid (HT.out.later hb)
  have HXn := Lib.hid (HX.out.later hb)
  have HBn := Lib.hid (HB.out.trans (hb.mono HB.out.size))
  clear hb HY HT HX HB
  have HY := HYn
  have HT := HTn
  have HX := HXn
  have HB := HBn
  clear HYn HTn HXn HBn
  by_cases hg : GoOn I s
  rotate_left
  · skip
    have HE := Lib.hid (move_no (I := I) (s := s) (j := j) (fun hc => hg hc.1))
    rw [decide_eq_false hg]
    clear hg
    have x0 := HT.out.c0
    have x1 := HT.out.c1
    have x2 := HT.out.c2
    have x3 := HT.out.c3
    have x4 := HT.out.c4
    have x5 := HT.out.c5
    have x6 := HT.out.c6
    have x7 := HT.out.c7
    go_wp2_with (refine wpList_store_state (by rfl) (.tmp 6) (.tmp 33) (by rfl) (w.heap.size + 1 + 1) _ s (by rfl) (by rfl) HX.out ?_)
    intro WE hE hbE
    have z0 := hE.c0
    have z1 := hE.c1
    have z2 := hE.c2
    have z3 := hE.c3
    have z4 := hE.c4
    have z5 := hE.c5
    have z6 := hE.c6
    have z7 := hE.c7
    go_wp2
    exact bodyPost_ret (v := .tuple #[staV s, .int .i64 0, .bool false]) (by simp [results, Tryz.results50, go_sem, z0, z1, z2, z3, z4, z5, z6, z7, staV]) rfl ⟨by rw [HE.out.1, HE.out.2.1, HE.out.2.2], HB.out.trans (hbE _ (by omega))⟩
  rw [decide_eq_true hg]
  have HG := Lib.hid hg
  have HM := Lib.hid hg.1
  have hp0 := (fine_of hg.1).p0
  have hp1 := (fine_of hg.1).p1
  have e0 : IntKind.i64.wrap (2 * I.p) = 2 * I.p := IntWalk.i64_in _ (by omega)
  clear hg
  by_cases h0 : j < 0
  · have d0 := decide_eq_true h0
    have HE := Lib.hid (move_no (I := I) (s := s) (j := j) (fun hc => by have := can_rng hc; omega))
    clear h0 hp0 hp1 e0
    have x0 := HT.out.c0
    have x1 := HT.out.c1
    have x2 := HT.out.c2
    have x3 := HT.out.c3
    have x4 := HT.out.c4
    have x5 := HT.out.c5
    have x6 := HT.out.c6
    have x7 := HT.out.c7
    go_wp2_with (refine wpList_store_state (by rfl) (.tmp 6) (.tmp 33) (by rfl) (w.heap.size + 1 + 1) _ s (by rfl) (by rfl) HX.out ?_)
    intro WE hE hbE
    have z0 := hE.c0
    have z1 := hE.c1
    have z2 := hE.c2
    have z3 := hE.c3
    have z4 := hE.c4
    have z5 := hE.c5
    have z6 := hE.c6
    have z7 := hE.c7
    go_wp2
    exact bodyPost_ret (v := .tuple #[staV s, .int .i64 0, .bool false]) (by simp [results, Tryz.results50, go_sem, z0, z1, z2, z3, z4, z5, z6, z7, staV]) rfl ⟨by rw [HE.out.1, HE.out.2.1, HE.out.2.2], HB.out.trans (hbE _ (by omega))⟩
  have d0 := decide_eq_false h0
  have y0 := HY.out.cells.1
  by_cases h1 : 2 * I.p < j
  · have d1 := decide_eq_true h1
    have HE := Lib.hid (move_no (I := I) (s := s) (j := j) (fun hc => by have := can_rng hc; omega))
    clear h0 h1 hp0 hp1
    have x0 := HT.out.c0
    have x1 := HT.out.c1
    have x2 := HT.out.c2
    have x3 := HT.out.c3
    have x4 := HT.out.c4
    have x5 := HT.out.c5
    have x6 := HT.out.c6
    have x7 := HT.out.c7
    go_wp2_with (refine wpList_store_state (by rfl) (.tmp 6) (.tmp 33) (by rfl) (w.heap.size + 1 + 1) _ s (by rfl) (by rfl) HX.out ?_)
    intro WE hE hbE
    have z0 := hE.c0
    have z1 := hE.c1
    have z2 := hE.c2
    have z3 := hE.c3
    have z4 := hE.c4
    have z5 := hE.c5
    have z6 := hE.c6
    have z7 := hE.c7
    go_wp2
    exact bodyPost_ret (v := .tuple #[staV s, .int .i64 0, .bool false]) (by simp [results, Tryz.results50, go_sem, z0, z1, z2, z3, z4, z5, z6, z7, staV]) rfl ⟨by rw [HE.out.1, HE.out.2.1, HE.out.2.2], HB.out.trans (hbE _ (by omega))⟩
  have d1 := decide_eq_false h1
  obtain ⟨q, hq, hql, eq⟩ := num_stop HM.out HG.out.2.1
  obtain ⟨tb, off, rfl, hkq, hlt0⟩ := srow_at HR.out q hql
  have HQ := Lib.hid hq
  have HKQ := Lib.hid hkq
  have HLT := Lib.hid hlt0
  have EQ := Lib.hid eq
  have hqi : (q : Int) < (I.l.length : Int) := by omega
  clear hq hkq hlt0 eq
  by_cases hj0 : j = 0
  · subst hj0
    have hl0 : 0 < I.l.length := (pmay_len HM.out).1
    have hki : (0 : Int) < (I.l.length : Int) := by omega
    have HKT := Lib.hid (show At w tb off (nth I.l 0) by have := srow_here HR.out 0 hl0; rw [Nat.zero_mul, Nat.add_zero] at this; exact this)
    have HFR := Lib.hid (show farF (nth I.l q) (nth I.l 0) = farS1 I s 0 by unfold farS1; rw [EQ.out]; rfl)
    clear h0 h1 hp0 hp1 hql
    go_upto_region 4 with fail
    have HBd := Lib.hid HB.out.drew
    have HYd := Lib.hid (HY.out.later (Below.refl _ _).drew)
    have HTd := Lib.hid (HT.out.later (Below.refl _ _).drew)
    have HXd := Lib.hid (HX.out.later (Below.refl _ _).drew)
    clear HB HY HT HX
    have HS0 := Lib.hid (show Holds (cellsI w.heap.size I (.slice (some ⟨tb, off, none⟩) I.l.length cap) ++ ((⟨w.heap.size + 1, 0, none⟩, .int .i64 (q : Int)) :: (cellsF tb (off + q * 6) (nth I.l q) ++ cellsF tb off (nth I.l 0)))) w1.drew from Holds.app.2 ⟨⟨HYd.out.cells.1, HYd.out.cells.2.1, HYd.out.cells.2.2.1, HYd.out.cells.2.2.2, trivial⟩, by have c0 := HTd.out.c0; rw [HQ.out] at c0; exact c0, Holds.app.2 ⟨holds_at (HKQ.out.below HLT.out HBd.out), holds_at (HKT.out.below HLT.out HBd.out)⟩⟩)
    refine wp_region_held_drew (S := Holds (cellsI w.heap.size I (.slice (some ⟨tb, off, none⟩) I.l.length cap) ++ ((⟨w.heap.size + 1, 0, none⟩, .int .i64 (q : Int)) :: (cellsF tb (off + q * 6) (nth I.l q) ++ cellsF tb off (nth I.l 0))))) (by kernel_rfl) HS0.out (fun hSn => ?_)
    generalize w1.drew = V at *
    have hlt := Lib.hid (show Lows V.heap.size (cellsI w.heap.size I (.slice (some ⟨tb, off, none⟩) I.l.length cap) ++ ((⟨w.heap.size + 1, 0, none⟩, .int .i64 (q : Int)) :: (cellsF tb (off + q * 6) (nth I.l q) ++ cellsF tb off (nth I.l 0)))) from Lows.app ⟨HYd.out.lt, HYd.out.lt, HYd.out.lt, HYd.out.lt, trivial⟩ ⟨HTd.out.lt, Lows.app (lows_at (Nat.lt_of_lt_of_le HLT.out HBd.out.size)) (lows_at (Nat.lt_of_lt_of_le HLT.out HBd.out.size))⟩)
    have Bc := Lib.hid (Below.refl V.heap.size V)
    simp only [cellsI, cellsF, List.cons_append, List.nil_append] at HS0 hlt hSn ⊢
    refine tks [0, 1, 2, 3, 4, 5, 6, 7, 8, 9, 10] 11 rfl (by kernel_rfl) (fun _ _ _ _ h => h) (by assumption) (fun KT hKT => ?_)
    iterate 11 (refine tkT (by (simp only [gA, gB, gC]; rfl)) (by rfl) (by (intro w hSw; (simp only [Holds] at hSw); go_simp <;> with_reducible rfl)) ?_; simp only [Act.put, pA, pB, pC])
    refine hKT _ ?_
    clear KT hKT
    refine wpAnyH_ready (rs := [11]) (by kernel_rfl) (by simp) ?_
    refine AllReadyH.cons (o := ?oz202) ?iz202 (fun K hK => ?kz202) AllReadyH.nil
    case iz202 => (simp only [List.getElem?_toArray, List.getElem?_cons_zero, List.getElem?_cons_succ]; rfl)
    go_simp
    change Calls _ _ #[stopV (nth I.l q), stopV (nth I.l 0)] _ _
    refine (rfar_any _ _ _).mono ?_
    rintro e w' ⟨rfl, hb⟩
    rw [HFR.out]
    refine held_more hK HS0.out hlt (Bc.out.trans (hb.mono Bc.out.size)) (fun Bc hSn => ?_)
    clear hb hK
    refine tks [12] 1 rfl (by kernel_rfl) (fun _ _ _ _ h => h) (by assumption) (fun KT hKT => ?_)
    refine tkT (by (simp only [gA, gB, gC]; rfl)) (by rfl) (by (intro w hSw; (simp only [Holds] at hSw); go_simp <;> with_reducible rfl)) ?_
    simp only [Act.put, pA, pB, pC]
    refine hKT _ ?_
    clear KT hKT
    refine wpAnyH_done (by kernel_rfl) ?_ _
    have HY := Lib.hid (HYd.out.later Bc.out)
    have HT := Lib.hid (HTd.out.later Bc.out)
    have HX := Lib.hid (HXd.out.later Bc.out)
    have HB := Lib.hid (HBd.out.trans (Bc.out.mono HBd.out.size))
    clear HYd HTd HXd HBd HS0 hlt Bc hSn
    clear d0 d1 y0 e0 hki hqi hl0
    have y0 := (HY.out).cells.1
    have y1 := (HY.out).cells.2.1
    have y2 := (HY.out).cells.2.2.1
    have y3 := (HY.out).cells.2.2.2
    have q0 := (HT.out).c0
    have q1 := (HT.out).c1
    have q2 := (HT.out).c2
    have q3 := (HT.out).c3
    have q4 := (HT.out).c4
    have q5 := (HT.out).c5
    have q6 := (HT.out).c6
    have q7 := (HT.out).c7
    go_wp2_with fail
    clear y0 y1 y2 y3 q0 q1 q2 q3 q4 q5 q6 q7
    change Calls _ _ #[insV I (.slice (some ⟨tb, off, none⟩) I.l.length cap), staV s, _] _ _
    refine (dhome_any (HR.out.below HB.out) HS.out HG.out rfl).mono ?_
    rintro e w2 ⟨rfl, hb⟩
    have HYn := Lib.hid (HY.out.later hb)
    have HTn := Lib.hid (HT.out.later hb)
    have HXn := Lib.hid (HX.out.later hb)
    have HBn := Lib.hid (HB.out.trans (hb.mono HB.out.size))
    clear hb HY HT HX HB
    have HY := HYn
    have HT := HTn
    have HX := HXn
    have HB := HBn
    clear HYn HTn HXn HBn
    obtain ⟨po, ca, ti, lo, fi, mu, ma, on, HMV0⟩ : ∃ po ca ti lo fi mu ma on, moveS I s 0 = ⟨po, ca, ti, lo, fi, mu, ma, on⟩ := ⟨_, _, _, _, _, _, _, _, rfl⟩
    rw [HMV0]
    have HMV := Lib.hid HMV0
    clear HMV0
    unfold staV
    go_upto_region 7 with fail
    have HU := Lib.hid (st_new w2 ⟨po, ca, ti, lo, fi, mu, ma, on⟩)
    have HYn := Lib.hid (HY.out.later ((Below.refl _ w2).alloc (Nat.le_refl _) (boxSt ⟨po, ca, ti, lo, fi, mu, ma, on⟩)))
    have HTn := Lib.hid (HT.out.later ((Below.refl _ w2).alloc (Nat.le_refl _) (boxSt ⟨po, ca, ti, lo, fi, mu, ma, on⟩)))
    have HXn := Lib.hid (HX.out.later ((Below.refl _ w2).alloc (Nat.le_refl _) (boxSt ⟨po, ca, ti, lo, fi, mu, ma, on⟩)))
    have HBn := Lib.hid (HB.out.alloc HB.out.size (boxSt ⟨po, ca, ti, lo, fi, mu, ma, on⟩))
    clear HY HT HX HB
    have HY := HYn
    have HT := HTn
    have HX := HXn
    have HB := HBn
    clear HYn HTn HXn HBn
    change Code.wp _ _ _ _ (w2.alloc (boxSt ⟨po, ca, ti, lo, fi, mu, ma, on⟩))
    generalize w2.alloc (boxSt ⟨po, ca, ti, lo, fi, mu, ma, on⟩) = W3 at *
    generalize w2.heap.size = bm at *
    have x0 := HU.out.c0
    have x1 := HU.out.c1
    have x2 := HU.out.c2
    have x3 := HU.out.c3
    have x4 := HU.out.c4
    have x5 := HU.out.c5
    have x6 := HU.out.c6
    have x7 := HU.out.c7
    go_wp2_with (refine wpList_store_state (by rfl) (.tmp 6) (.tmp 56) (by rfl) (w.heap.size + 1 + 1) _ ⟨po, ca, ti, lo, fi, mu, ma, on⟩ (by rfl) (by rfl) HX.out ?_)
    intro WE hE hbE
    have z0 := hE.c0
    have z1 := hE.c1
    have z2 := hE.c2
    have z3 := hE.c3
    have z4 := hE.c4
    have z5 := hE.c5
    have z6 := hE.c6
    have z7 := hE.c7
    go_wp2
    exact bodyPost_ret (v := .tuple #[staV ⟨po, ca, ti, lo, fi, mu, ma, on⟩, .int .i64 (moveC I s 0), .bool (decide (Can I s 0))]) (by simp [results, Tryz.results50, go_sem, z0, z1, z2, z3, z4, z5, z6, z7, staV]) rfl ⟨by rw [HMV.out], HB.out.trans (hbE _ (by omega))⟩
  have HJ0 := Lib.hid hj0
  have HJ := Lib.hid (show 1 ≤ j ∧ j ≤ 2 * I.p by omega)
  have HNV := Lib.hid (next_visit (I := I) (s := s) hj0)
  obtain ⟨k, rfl, hk, ek⟩ := num_stop HM.out (show 0 ≤ j ∧ j ≤ 2 * I.p by omega)
  have bk0 : ((k : Int) == 0) = false := by simp; omega
  have hki : (k : Int) < (I.l.length : Int) := by omega
  have HKT := Lib.hid (show At w tb (off + k * 6) (nth I.l k) from srow_here HR.out k hk)
  obtain ⟨d, hd⟩ : ∃ d, d = farS1 I s k := ⟨_, rfl⟩
  have HFR := Lib.hid (show farF (nth I.l q) (nth I.l k) = d by rw [hd]; unfold farS1; rw [EQ.out, ek])
  have hbd := goOn_bd HG.out
  have hfb := far1_bd I s k
  have hdb := dem_bd HM.out (show 0 ≤ (k : Int) ∧ (k : Int) ≤ 2 * I.p by omega)
  rw [← hd] at hfb
  rw [ek] at hdb
  have e1 : IntKind.i64.wrap (s.time + d) = s.time + d := IntWalk.i64_in _ (by omega)
  have e2 : IntKind.i64.wrap (s.load + (nth I.l k).d) = s.load + (nth I.l k).d := IntWalk.i64_in _ (by omega)
  have e3 : IntKind.i64.wrap ((k : Int) - I.p) = (k : Int) - I.p := IntWalk.i64_in _ (by omega)
  have HBG := Lib.hid (show begS I s k = max (s.time + d) (nth I.l k).r by rw [hd]; unfold begS comeS; rw [ek]; rfl)
  have HD := Lib.hid hd
  have EK := Lib.hid ek
  clear h0 h1 hp0 hp1 hql hj0 hk hbd hfb hdb hd ek
  go_upto_region 4 with fail
  have HBd := Lib.hid HB.out.drew
  have HYd := Lib.hid (HY.out.later (Below.refl _ _).drew)
  have HTd := Lib.hid (HT.out.later (Below.refl _ _).drew)
  have HXd := Lib.hid (HX.out.later (Below.refl _ _).drew)
  clear HB HY HT HX
  have HS0 := Lib.hid (show Holds (cellsI w.heap.size I (.slice (some ⟨tb, off, none⟩) I.l.length cap) ++ ((⟨w.heap.size + 1, 0, none⟩, .int .i64 (q : Int)) :: (cellsF tb (off + q * 6) (nth I.l q) ++ cellsF tb (off + k * 6) (nth I.l k)))) w1.drew from Holds.app.2 ⟨⟨HYd.out.cells.1, HYd.out.cells.2.1, HYd.out.cells.2.2.1, HYd.out.cells.2.2.2, trivial⟩, by have c0 := HTd.out.c0; rw [HQ.out] at c0; exact c0, Holds.app.2 ⟨holds_at (HKQ.out.below HLT.out HBd.out), holds_at (HKT.out.below HLT.out HBd.out)⟩⟩)
  refine wp_region_held_drew (S := Holds (cellsI w.heap.size I (.slice (some ⟨tb, off, none⟩) I.l.length cap) ++ ((⟨w.heap.size + 1, 0, none⟩, .int .i64 (q : Int)) :: (cellsF tb (off + q * 6) (nth I.l q) ++ cellsF tb (off + k * 6) (nth I.l k))))) (by kernel_rfl) HS0.out (fun hSn => ?_)
  generalize w1.drew = V at *
  have hlt := Lib.hid (show Lows V.heap.size (cellsI w.heap.size I (.slice (some ⟨tb, off, none⟩) I.l.length cap) ++ ((⟨w.heap.size + 1, 0, none⟩, .int .i64 (q : Int)) :: (cellsF tb (off + q * 6) (nth I.l q) ++ cellsF tb (off + k * 6) (nth I.l k)))) from Lows.app ⟨HYd.out.lt, HYd.out.lt, HYd.out.lt, HYd.out.lt, trivial⟩ ⟨HTd.out.lt, Lows.app (lows_at (Nat.lt_of_lt_of_le HLT.out HBd.out.size)) (lows_at (Nat.lt_of_lt_of_le HLT.out HBd.out.size))⟩)
  have Bc := Lib.hid (Below.refl V.heap.size V)
  simp only [cellsI, cellsF, List.cons_append, List.nil_append] at HS0 hlt hSn ⊢
  refine tks [0, 1, 2, 3, 4, 5, 6, 7, 8, 9, 10] 11 rfl (by kernel_rfl) (fun _ _ _ _ h => h) (by assumption) (fun KT hKT => ?_)
  iterate 11 (refine tkT (by (simp only [gA, gB, gC]; rfl)) (by rfl) (by (intro w hSw; (simp only [Holds] at hSw); go_simp <;> with_reducible rfl)) ?_; simp only [Act.put, pA, pB, pC])
  refine hKT _ ?_
  clear KT hKT
  refine wpAnyH_ready (rs := [11]) (by kernel_rfl) (by simp) ?_
  refine AllReadyH.cons (o := ?oz203) ?iz203 (fun K hK => ?kz203) AllReadyH.nil
  case iz203 => (simp only [List.getElem?_toArray, List.getElem?_cons_zero, List.getElem?_cons_succ]; rfl)
  go_simp
  change Calls _ _ #[stopV (nth I.l q), stopV (nth I.l k)] _ _
  refine (rfar_any _ _ _).mono ?_
  rintro e w' ⟨rfl, hb⟩
  rw [HFR.out]
  refine held_more hK HS0.out hlt (Bc.out.trans (hb.mono Bc.out.size)) (fun Bc hSn => ?_)
  clear hb hK
  refine tks [12] 1 rfl (by kernel_rfl) (fun _ _ _ _ h => h) (by assumption) (fun KT hKT => ?_)
  refine tkT (by (simp only [gA, gB, gC]; rfl)) (by rfl) (by (intro w hSw; (simp only [Holds] at hSw); go_simp <;> with_reducible rfl)) ?_
  simp only [Act.put, pA, pB, pC]
  refine hKT _ ?_
  clear KT hKT
  refine wpAnyH_done (by kernel_rfl) ?_ _
  have HY := Lib.hid (HYd.out.later Bc.out)
  have HT := Lib.hid (HTd.out.later Bc.out)
  have HX := Lib.hid (HXd.out.later Bc.out)
  have HB := Lib.hid (HBd.out.trans (Bc.out.mono HBd.out.size))
  clear HYd HTd HXd HBd HS0 hlt Bc hSn
  clear d0 d1 y0 e0 hqi
  generalize nth I.l k = t at *
  obtain ⟨k0, k1, k2, k3, k4, k5⟩ := HKT.out.below HLT.out HB.out
  clear k0 k1 k5
  have y0 := (HY.out).cells.1
  have y1 := (HY.out).cells.2.1
  have y2 := (HY.out).cells.2.2.1
  have y3 := (HY.out).cells.2.2.2
  have q0 := (HT.out).c0
  have q1 := (HT.out).c1
  have q2 := (HT.out).c2
  have q3 := (HT.out).c3
  have q4 := (HT.out).c4
  have q5 := (HT.out).c5
  have q6 := (HT.out).c6
  have q7 := (HT.out).c7
  clear y1
  go_upto_if 70 with fail
  go_cut [14] from 17 (fun c wx => c = .int .i64 (begS I s k) ∧ wx = w')
  case first =>
    by_cases hrd : s.time + d < t.r
    · have d2 := decide_eq_true hrd
      have hmx : max (s.time + d) t.r = t.r := by omega
      go_wp2_with fail
      go_meet
      exact ⟨by rw [HBG.out, hmx], rfl⟩
    · have d2 := decide_eq_false hrd
      have hmx : max (s.time + d) t.r = s.time + d := by omega
      go_wp2_with fail
      go_meet
      exact ⟨by rw [HBG.out, hmx], rfl⟩
  case rest =>
  obtain ⟨rfl, rfl⟩ := hcut
  clear HBG e1 k3
  go_wp2_with fail
  refine (erhas_any _ _ _ HS.out.1).mono ?_
  rintro e w9 ⟨rfl, rfl⟩
  by_cases hse : has s.must k = true
  · skip
    have HE := Lib.hid (move_no (I := I) (s := s) (j := k) (fun hc => by rcases hc.2 with h | h | h; (have := h.2.1; rw [hse] at this; cases this); (have := h.2.2.1; rw [hse] at this; cases this); exact HJ0.out h.1))
    rw [hse]
    clear hse k2 k4 y0 y2 y3 e2 e3 q0 q1 q2 q3 q4 q5 q6 q7
    have x0 := HT.out.c0
    have x1 := HT.out.c1
    have x2 := HT.out.c2
    have x3 := HT.out.c3
    have x4 := HT.out.c4
    have x5 := HT.out.c5
    have x6 := HT.out.c6
    have x7 := HT.out.c7
    go_wp2_with (refine wpList_store_state (by rfl) (.tmp 6) (.tmp 92) (by rfl) (w.heap.size + 1 + 1) _ s (by rfl) (by rfl) HX.out ?_)
    intro WE hE hbE
    have z0 := hE.c0
    have z1 := hE.c1
    have z2 := hE.c2
    have z3 := hE.c3
    have z4 := hE.c4
    have z5 := hE.c5
    have z6 := hE.c6
    have z7 := hE.c7
    go_wp2
    exact bodyPost_ret (v := .tuple #[staV s, .int .i64 0, .bool false]) (by simp [results, Tryz.results50, go_sem, z0, z1, z2, z3, z4, z5, z6, z7, staV]) rfl ⟨by rw [HE.out.1, HE.out.2.1, HE.out.2.2], HB.out.trans (hbE _ (by omega))⟩
  rw [Bool.not_eq_true] at hse
  have HSE := Lib.hid hse
  rw [hse]
  clear hse
  by_cases hla : t.u < begS I s k
  · have d3 := decide_eq_true hla
    have HE := Lib.hid (move_no (I := I) (s := s) (j := k) (fun hc => by rcases hc.2 with h | h | h; (have := h.2.2.2.1; rw [EK.out] at this; omega); (have := h.2.2.2.2; rw [EK.out] at this; omega); exact HJ0.out h.1))
    clear hla k2 y0 y2 e2 e3 q0 q1 q2 q3 q4 q5 q6 q7
    have x0 := HT.out.c0
    have x1 := HT.out.c1
    have x2 := HT.out.c2
    have x3 := HT.out.c3
    have x4 := HT.out.c4
    have x5 := HT.out.c5
    have x6 := HT.out.c6
    have x7 := HT.out.c7
    go_wp2_with (refine wpList_store_state (by rfl) (.tmp 6) (.tmp 92) (by rfl) (w.heap.size + 1 + 1) _ s (by rfl) (by rfl) HX.out ?_)
    intro WE hE hbE
    have z0 := hE.c0
    have z1 := hE.c1
    have z2 := hE.c2
    have z3 := hE.c3
    have z4 := hE.c4
    have z5 := hE.c5
    have z6 := hE.c6
    have z7 := hE.c7
    go_wp2
    exact bodyPost_ret (v := .tuple #[staV s, .int .i64 0, .bool false]) (by simp [results, Tryz.results50, go_sem, z0, z1, z2, z3, z4, z5, z6, z7, staV]) rfl ⟨by rw [HE.out.1, HE.out.2.1, HE.out.2.2], HB.out.trans (hbE _ (by omega))⟩
  have d3 := decide_eq_false hla
  have HLA := Lib.hid hla
  clear hla
  by_cases hkp : (k : Int) ≤ I.p
  · have d4 := decide_eq_true hkp
    have d5 : decide (I.p < (k : Int)) = false := decide_eq_false (by omega)
    have HKP := Lib.hid hkp
    clear hkp
    by_cases hfu : I.r < s.load + t.d
    · have d6 := decide_eq_true hfu
      have HE := Lib.hid (move_no (I := I) (s := s) (j := k) (fun hc => by rcases hc.2 with h | h | h; (have := h.2.2.1; rw [EK.out] at this; omega); (have := h.1.1; have := HKP.out; omega); exact HJ0.out h.1))
      clear hfu d5
      go_wp2_with fail
      go_quiet (fail)
      have hb := below_drewN (Below.refl wc.heap.size wc) nq
      generalize wc.drewN nq = wq at *
      have HYn := Lib.hid (HY.out.later hb)
      have HTn := Lib.hid (HT.out.later hb)
      have HXn := Lib.hid (HX.out.later hb)
      have HBn := Lib.hid (HB.out.trans (hb.mono HB.out.size))
      clear hb HY HT HX HB
      have HY := HYn
      have HT := HTn
      have HX := HXn
      have HB := HBn
      clear HYn HTn HXn HBn
      clear k2 k4 y0 y2 y3 e2 e3 d3 q0 q1 q2 q3 q4 q5 q6 q7 d4 d6
      have x0 := HT.out.c0
      have x1 := HT.out.c1
      have x2 := HT.out.c2
      have x3 := HT.out.c3
      have x4 := HT.out.c4
      have x5 := HT.out.c5
      have x6 := HT.out.c6
      have x7 := HT.out.c7
      go_wp2_with (refine wpList_store_state (by rfl) (.tmp 6) (.tmp 122) (by rfl) (w.heap.size + 1 + 1) _ s (by rfl) (by rfl) HX.out ?_)
      intro WE hE hbE
      have z0 := hE.c0
      have z1 := hE.c1
      have z2 := hE.c2
      have z3 := hE.c3
      have z4 := hE.c4
      have z5 := hE.c5
      have z6 := hE.c6
      have z7 := hE.c7
      go_wp2
      exact bodyPost_ret (v := .tuple #[staV s, .int .i64 0, .bool false]) (by simp [results, Tryz.results50, go_sem, z0, z1, z2, z3, z4, z5, z6, z7, staV]) rfl ⟨by rw [HE.out.1, HE.out.2.1, HE.out.2.2], HB.out.trans (hbE _ (by omega))⟩
    have d6 := decide_eq_false hfu
    have HFU := Lib.hid hfu
    clear hfu
    by_cases hpz : s.pos = 0
    · have b0 : (s.pos == 0) = true := by simp [hpz]
      have HPZ := Lib.hid hpz
      clear hpz
      by_cases hfi : (k : Int) ≤ s.first
      · have d7 := decide_eq_true hfi
        have HE := Lib.hid (move_no (I := I) (s := s) (j := k) (fun hc => by rcases hc.2 with h | h | h; (have := h.2.2.2.2 HPZ.out; omega); (have := h.1.1; have := HKP.out; omega); exact HJ0.out h.1))
        clear hfi d5
        go_wp2_with fail
        go_quiet (fail)
        have hb := below_drewN (Below.refl wc.heap.size wc) nq
        generalize wc.drewN nq = wq at *
        have HYn := Lib.hid (HY.out.later hb)
        have HTn := Lib.hid (HT.out.later hb)
        have HXn := Lib.hid (HX.out.later hb)
        have HBn := Lib.hid (HB.out.trans (hb.mono HB.out.size))
        clear hb HY HT HX HB
        have HY := HYn
        have HT := HTn
        have HX := HXn
        have HB := HBn
        clear HYn HTn HXn HBn
        clear k2 k4 y0 y2 y3 e2 e3 d3 q0 q1 q2 q3 q4 q5 q6 q7 d4 d6 d7 b0
        have x0 := HT.out.c0
        have x1 := HT.out.c1
        have x2 := HT.out.c2
        have x3 := HT.out.c3
        have x4 := HT.out.c4
        have x5 := HT.out.c5
        have x6 := HT.out.c6
        have x7 := HT.out.c7
        go_wp2_with (refine wpList_store_state (by rfl) (.tmp 6) (.tmp 122) (by rfl) (w.heap.size + 1 + 1) _ s (by rfl) (by rfl) HX.out ?_)
        intro WE hE hbE
        have z0 := hE.c0
        have z1 := hE.c1
        have z2 := hE.c2
        have z3 := hE.c3
        have z4 := hE.c4
        have z5 := hE.c5
        have z6 := hE.c6
        have z7 := hE.c7
        go_wp2
        exact bodyPost_ret (v := .tuple #[staV s, .int .i64 0, .bool false]) (by simp [results, Tryz.results50, go_sem, z0, z1, z2, z3, z4, z5, z6, z7, staV]) rfl ⟨by rw [HE.out.1, HE.out.2.1, HE.out.2.2], HB.out.trans (hbE _ (by omega))⟩
      have d7 := decide_eq_false hfi
      have HFI := Lib.hid hfi
      clear hfi
      go_wp2_with fail
      go_quiet (fail)
      have hb := below_drewN (Below.refl wc.heap.size wc) nq
      generalize wc.drewN nq = wq at *
      have HYn := Lib.hid (HY.out.later hb)
      have HTn := Lib.hid (HT.out.later hb)
      have HXn := Lib.hid (HX.out.later hb)
      have HBn := Lib.hid (HB.out.trans (hb.mono HB.out.size))
      clear hb HY HT HX HB
      have HY := HYn
      have HT := HTn
      have HX := HXn
      have HB := HBn
      clear HYn HTn HXn HBn
      clear k2 k4 y0 y2 y3 e2 d3 q0 q1 q2 q3 q4 q5 q6 q7
      clear d4 d6 d7 b0
      have y0 := HY.out.cells.1
      have q6 := HT.out.c6
      go_wp2_with fail
      refine (erhas_any _ _ _ HS.out.2.1).mono ?_
      rintro e w9 ⟨rfl, rfl⟩
      have HE := Lib.hid (move_yes (I := I) (s := s) (j := k) ⟨HG.out, .inl ⟨⟨HJ.out.1, HKP.out⟩, HSE.out, by rw [EK.out]; have := HFU.out; omega, by rw [EK.out]; have := HLA.out; omega, fun _ => by have := HFI.out; omega⟩⟩)
      have HPO := Lib.hid (show I.p < (k : Int) → s.pos ≠ 0 from fun h => by have := HKP.out; omega)
      clear e3 q6 y0
      have y0 := (HY.out).cells.1
      have y1 := (HY.out).cells.2.1
      have y2 := (HY.out).cells.2.2.1
      have y3 := (HY.out).cells.2.2.2
      have q0 := (HT.out).c0
      have q1 := (HT.out).c1
      have q2 := (HT.out).c2
      have q3 := (HT.out).c3
      have q4 := (HT.out).c4
      have q5 := (HT.out).c5
      have q6 := (HT.out).c6
      have q7 := (HT.out).c7
      go_wp2_with fail
      clear y0 y1 y2 y3 q0 q1 q2 q3 q4 q5 q6 q7
      change Calls _ _ #[insV I (.slice (some ⟨tb, off, none⟩) I.l.length cap), staV s, _, _] _ _
      refine (dvisit_any (HR.out.below HB.out) HS.out HG.out HJ.out rfl HPO.out).mono ?_
      rintro e w9 ⟨rfl, hb⟩
      have HYn := Lib.hid (HY.out.later hb)
      have HTn := Lib.hid (HT.out.later hb)
      have HXn := Lib.hid (HX.out.later hb)
      have HBn := Lib.hid (HB.out.trans (hb.mono HB.out.size))
      clear hb HY HT HX HB
      have HY := HYn
      have HT := HTn
      have HX := HXn
      have HB := HBn
      clear HYn HTn HXn HBn
      go_wp2_with (refine wpList_store_state (by rfl) (.tmp 6) (.tmp 148) (by rfl) (w.heap.size + 1 + 1) _ (visitS I s k) (by rfl) (by rfl) HX.out ?_)
      intro WE hE hbE
      have z0 := hE.c0
      have z1 := hE.c1
      have z2 := hE.c2
      have z3 := hE.c3
      have z4 := hE.c4
      have z5 := hE.c5
      have z6 := hE.c6
      have z7 := hE.c7
      go_wp2
      exact bodyPost_ret (v := .tuple #[staV (visitS I s k), .int .i64 d, .bool true]) (by simp [results, Tryz.results50, go_sem, z0, z1, z2, z3, z4, z5, z6, z7, staV]) rfl ⟨by rw [HE.out.1, HE.out.2.1, HE.out.2.2, HNV.out, HD.out], HB.out.trans (hbE _ (by omega))⟩
    have b0 : (s.pos == 0) = false := by simp [hpz]
    have HPZ := Lib.hid hpz
    clear hpz
    go_wp2_with fail
    go_quiet (fail)
    have hb := below_drewN (Below.refl wc.heap.size wc) nq
    generalize wc.drewN nq = wq at *
    have HYn := Lib.hid (HY.out.later hb)
    have HTn := Lib.hid (HT.out.later hb)
    have HXn := Lib.hid (HX.out.later hb)
    have HBn := Lib.hid (HB.out.trans (hb.mono HB.out.size))
    clear hb HY HT HX HB
    have HY := HYn
    have HT := HTn
    have HX := HXn
    have HB := HBn
    clear HYn HTn HXn HBn
    clear k2 k4 y0 y2 y3 e2 d3 q0 q1 q2 q3 q4 q5 q6 q7
    clear d4 d6 b0
    have y0 := HY.out.cells.1
    have q6 := HT.out.c6
    go_wp2_with fail
    refine (erhas_any _ _ _ HS.out.2.1).mono ?_
    rintro e w9 ⟨rfl, rfl⟩
    have HE := Lib.hid (move_yes (I := I) (s := s) (j := k) ⟨HG.out, .inl ⟨⟨HJ.out.1, HKP.out⟩, HSE.out, by rw [EK.out]; have := HFU.out; omega, by rw [EK.out]; have := HLA.out; omega, fun h => absurd h HPZ.out⟩⟩)
    have HPO := Lib.hid (show I.p < (k : Int) → s.pos ≠ 0 from fun h => by have := HKP.out; omega)
    clear e3 q6 y0
    have y0 := (HY.out).cells.1
    have y1 := (HY.out).cells.2.1
    have y2 := (HY.out).cells.2.2.1
    have y3 := (HY.out).cells.2.2.2
    have q0 := (HT.out).c0
    have q1 := (HT.out).c1
    have q2 := (HT.out).c2
    have q3 := (HT.out).c3
    have q4 := (HT.out).c4
    have q5 := (HT.out).c5
    have q6 := (HT.out).c6
    have q7 := (HT.out).c7
    go_wp2_with fail
    clear y0 y1 y2 y3 q0 q1 q2 q3 q4 q5 q6 q7
    change Calls _ _ #[insV I (.slice (some ⟨tb, off, none⟩) I.l.length cap), staV s, _, _] _ _
    refine (dvisit_any (HR.out.below HB.out) HS.out HG.out HJ.out rfl HPO.out).mono ?_
    rintro e w9 ⟨rfl, hb⟩
    have HYn := Lib.hid (HY.out.later hb)
    have HTn := Lib.hid (HT.out.later hb)
    have HXn := Lib.hid (HX.out.later hb)
    have HBn := Lib.hid (HB.out.trans (hb.mono HB.out.size))
    clear hb HY HT HX HB
    have HY := HYn
    have HT := HTn
    have HX := HXn
    have HB := HBn
    clear HYn HTn HXn HBn
    go_wp2_with (refine wpList_store_state (by rfl) (.tmp 6) (.tmp 148) (by rfl) (w.heap.size + 1 + 1) _ (visitS I s k) (by rfl) (by rfl) HX.out ?_)
    intro WE hE hbE
    have z0 := hE.c0
    have z1 := hE.c1
    have z2 := hE.c2
    have z3 := hE.c3
    have z4 := hE.c4
    have z5 := hE.c5
    have z6 := hE.c6
    have z7 := hE.c7
    go_wp2
    exact bodyPost_ret (v := .tuple #[staV (visitS I s k), .int .i64 d, .bool true]) (by simp [results, Tryz.results50, go_sem, z0, z1, z2, z3, z4, z5, z6, z7, staV]) rfl ⟨by rw [HE.out.1, HE.out.2.1, HE.out.2.2, HNV.out, HD.out], HB.out.trans (hbE _ (by omega))⟩
  have d4 := decide_eq_false hkp
  have d5 : decide (I.p < (k : Int)) = true := decide_eq_true (by omega)
  have HKP := Lib.hid (show I.p < (k : Int) by omega)
  clear hkp
  go_wp2_with fail
  go_quiet (fail)
  have hb := below_drewN (Below.refl wc.heap.size wc) nq
  generalize wc.drewN nq = wq at *
  have HYn := Lib.hid (HY.out.later hb)
  have HTn := Lib.hid (HT.out.later hb)
  have HXn := Lib.hid (HX.out.later hb)
  have HBn := Lib.hid (HB.out.trans (hb.mono HB.out.size))
  clear hb HY HT HX HB
  have HY := HYn
  have HT := HTn
  have HX := HXn
  have HB := HBn
  clear HYn HTn HXn HBn
  clear k2 k4 y0 y2 y3 e2 d3 q0 q1 q2 q3 q4 q5 q6 q7
  clear d4
  have y0 := HY.out.cells.1
  have q6 := HT.out.c6
  go_wp2_with fail
  refine (erhas_any _ _ _ HS.out.2.1).mono ?_
  rintro e w9 ⟨rfl, rfl⟩
  have q0 := HT.out.c0
  by_cases hpz : s.pos = 0
  · have b0 : (s.pos == 0) = true := by simp [hpz]
    have HE := Lib.hid (move_no (I := I) (s := s) (j := k) (fun hc => by rcases hc.2 with h | h | h; (have := h.1.2; have := HKP.out; omega); exact h.2.1 hpz; exact HJ0.out h.1))
    clear hpz e3 q6 q0
    have x0 := HT.out.c0
    have x1 := HT.out.c1
    have x2 := HT.out.c2
    have x3 := HT.out.c3
    have x4 := HT.out.c4
    have x5 := HT.out.c5
    have x6 := HT.out.c6
    have x7 := HT.out.c7
    go_wp2_with (refine wpList_store_state (by rfl) (.tmp 6) (.tmp 143) (by rfl) (w.heap.size + 1 + 1) _ s (by rfl) (by rfl) HX.out ?_)
    intro WE hE hbE
    have z0 := hE.c0
    have z1 := hE.c1
    have z2 := hE.c2
    have z3 := hE.c3
    have z4 := hE.c4
    have z5 := hE.c5
    have z6 := hE.c6
    have z7 := hE.c7
    go_wp2
    exact bodyPost_ret (v := .tuple #[staV s, .int .i64 0, .bool false]) (by simp [results, Tryz.results50, go_sem, z0, z1, z2, z3, z4, z5, z6, z7, staV]) rfl ⟨by rw [HE.out.1, HE.out.2.1, HE.out.2.2], HB.out.trans (hbE _ (by omega))⟩
  have b0 : (s.pos == 0) = false := by simp [hpz]
  have HPZ := Lib.hid hpz
  clear hpz
  by_cases hta : has s.may ((k : Int) - I.p) = true
  rotate_left
  · skip
    have HE := Lib.hid (move_no (I := I) (s := s) (j := k) (fun hc => by rcases hc.2 with h | h | h; (have := h.1.2; have := HKP.out; omega); exact hta h.2.2.2.1; exact HJ0.out h.1))
    rw [Bool.not_eq_true] at hta
    rw [hta]
    clear hta e3 q6
    clear q0
    have q0 := HT.out.c0
    have x0 := HT.out.c0
    have x1 := HT.out.c1
    have x2 := HT.out.c2
    have x3 := HT.out.c3
    have x4 := HT.out.c4
    have x5 := HT.out.c5
    have x6 := HT.out.c6
    have x7 := HT.out.c7
    go_wp2_with (refine wpList_store_state (by rfl) (.tmp 6) (.tmp 143) (by rfl) (w.heap.size + 1 + 1) _ s (by rfl) (by rfl) HX.out ?_)
    intro WE hE hbE
    have z0 := hE.c0
    have z1 := hE.c1
    have z2 := hE.c2
    have z3 := hE.c3
    have z4 := hE.c4
    have z5 := hE.c5
    have z6 := hE.c6
    have z7 := hE.c7
    go_wp2
    exact bodyPost_ret (v := .tuple #[staV s, .int .i64 0, .bool false]) (by simp [results, Tryz.results50, go_sem, z0, z1, z2, z3, z4, z5, z6, z7, staV]) rfl ⟨by rw [HE.out.1, HE.out.2.1, HE.out.2.2], HB.out.trans (hbE _ (by omega))⟩
  have HTA := Lib.hid hta
  rw [hta]
  clear hta
  have HE := Lib.hid (move_yes (I := I) (s := s) (j := k) ⟨HG.out, .inr (.inl ⟨⟨HKP.out, HJ.out.2⟩, HPZ.out, HSE.out, HTA.out, by rw [EK.out]; have := HLA.out; omega⟩)⟩)
  have HPO := Lib.hid (show I.p < (k : Int) → s.pos ≠ 0 from fun _ => HPZ.out)
  clear e3 q6 y0 q0
  have y0 := (HY.out).cells.1
  have y1 := (HY.out).cells.2.1
  have y2 := (HY.out).cells.2.2.1
  have y3 := (HY.out).cells.2.2.2
  have q0 := (HT.out).c0
  have q1 := (HT.out).c1
  have q2 := (HT.out).c2
  have q3 := (HT.out).c3
  have q4 := (HT.out).c4
  have q5 := (HT.out).c5
  have q6 := (HT.out).c6
  have q7 := (HT.out).c7
  go_wp2_with fail
  clear y0 y1 y2 y3 q0 q1 q2 q3 q4 q5 q6 q7
  change Calls _ _ #[insV I (.slice (some ⟨tb, off, none⟩) I.l.length cap), staV s, _, _] _ _
  refine (dvisit_any (HR.out.below HB.out) HS.out HG.out HJ.out rfl HPO.out).mono ?_
  rintro e w9 ⟨rfl, hb⟩
  have HYn := Lib.hid (HY.out.later hb)
  have HTn := Lib.hid (HT.out.later hb)
  have HXn := Lib.hid (HX.out.later hb)
  have HBn := Lib.hid (HB.out.trans (hb.mono HB.out.size))
  clear hb HY HT HX HB
  have HY := HYn
  have HT := HTn
  have HX := HXn
  have HB := HBn
  clear HYn HTn HXn HBn
  go_wp2_with (refine wpList_store_state (by rfl) (.tmp 6) (.tmp 148) (by rfl) (w.heap.size + 1 + 1) _ (visitS I s k) (by rfl) (by rfl) HX.out ?_)
  intro WE hE hbE
  have z0 := hE.c0
  have z1 := hE.c1
  have z2 := hE.c2
  have z3 := hE.c3
  have z4 := hE.c4
  have z5 := hE.c5
  have z6 := hE.c6
  have z7 := hE.c7
  go_wp2
  exact bodyPost_ret (v := .tuple #[staV (visitS I s k), .int .i64 d, .bool true]) (by simp [results, Tryz.results50, go_sem, z0, z1, z2, z3, z4, z5, z6, z7, staV]) rfl ⟨by rw [HE.out.1, HE.out.2.1, HE.out.2.2, HNV.out, HD.out], HB.out.trans (hbE _ (by omega))⟩
end Go.Proofs.YtgplajofemencaaGreat
/- The document's own Moves, End and Follow. -/
namespace Go.Proofs.YtgplajofemencaaGreat
open Go.ChangeShapes Go.WideShapes Go.ChangeAt Go.RowKit

theorem movesN_mayD {I : Ins} {s : Sta} {n : Nat} (h : I.l.length ≤ n) : movesN I s n = movesS I s := by
  cases hm : mayB I with
  | true => exact movesN_all (by have := (fine_of hm).len; omega)
  | false =>
    have hg : ¬ GoOn I s := fun h => by have := h.1; rw [hm] at this; cases this
    rw [moves_none hg]
    unfold movesN
    rw [List.filter_eq_nil_iff]
    intro j _
    simp only [decide_eq_true_eq]
    exact fun hc => hg hc.1
theorem movesN_few {I : Ins} {s : Sta} {n : Nat} : (movesN I s n).length ≤ 33 := by
  cases hm : mayB I with
  | false =>
    have : movesN I s n = [] := by
      unfold movesN
      rw [List.filter_eq_nil_iff]
      intro j _
      simp only [decide_eq_true_eq]
      exact fun hc => by have := hc.1.1; rw [hm] at this; cases this
    rw [this]
    exact Nat.zero_le _
  | true =>
    have hp := (fine_of hm).p1
    have hp0 := (fine_of hm).p0
    by_cases h : (2 * I.p + 1).toNat ≤ n
    · rw [movesN_all h]
      have := movesN_len I s (2 * I.p + 1).toNat
      unfold movesS
      omega
    · have := movesN_len I s n
      omega
set_option maxRecDepth 1000000 in
set_option maxHeartbeats 4000000 in
theorem dmoves_any {w : World} {v : Value} {I : Ins} {s : Sta} (hr : SRow w v I.l) (hs : SetsOk s) :
    Calls Tryz.prog 49 #[insV I v, staV s] w fun e w' => ∃ u, e = .returned u ∧ OwnI w' w.heap.size u (movesS I s) ∧ Below w.heap.size w w' := by
  have HR := Lib.hid hr
  have HS := Lib.hid hs
  obtain ⟨ad, cap, rfl, hlm, _⟩ := hr.form
  clear hr hs
  unfold insV
  rw [show staV s = .agg #[.int .i64 s.pos, .int .i64 s.car, .int .i64 s.time, .int .i64 s.load, .int .i64 s.first, .int .u64 s.must, .int .u64 s.may, .int .u64 s.on] from rfl]
  have hlm2 : I.l.length ≤ 9223372036854775807 := by unfold maxLen at hlm; omega
  clear hlm
  have HALL := Lib.hid (movesN_mayD (I := I) (s := s) (Nat.le_refl _))
  go_enter Tryz.func49, Tryz.ntmps49
  go_wp2_with fail
  obtain ⟨b1, b2, b3⟩ := boxes_two w I (.slice ad I.l.length cap) s
  have HY := Lib.hid b1
  have HT := Lib.hid b2
  have HB := Lib.hid b3
  clear b1 b2 b3
  change Code.wp _ _ _ _ ((w.alloc (boxI I (.slice ad I.l.length cap))).alloc (boxSt s))
  generalize (w.alloc (boxI I (.slice ad I.l.length cap))).alloc (boxSt s) = W at *
  go_loopw [5, 6] (fun u i wr => ∃ k : Nat, k ≤ I.l.length ∧ i = .int .i64 k ∧ OwnI wr W.heap.size u (movesN I s k) ∧ Below W.heap.size W wr) (fun _ i _ => I.l.length - (intOf i).toNat)
  case atStart => exact ⟨0, Nat.zero_le _, rfl, ownI_nil _ _, Below.refl _ _⟩
  case round =>
    obtain ⟨k, hk, rfl, hu, hbw⟩ := hrel
    have HU2 := Lib.hid hu
    have HY2 := Lib.hid (HY.out.later hbw)
    have HT2 := Lib.hid (HT.out.later hbw)
    have HB2 := Lib.hid hbw
    have HBB := Lib.hid (HB.out.trans (hbw.mono HB.out.size))
    clear hu hbw
    have y3 := HY2.out.cells.2.2.2
    by_cases hltk : k < I.l.length
    · have hki : (k : Int) < (I.l.length : Int) := by omega
      have HKL := Lib.hid hltk
      clear hk
      have y0 := HY2.out.cells.1
      have y1 := HY2.out.cells.2.1
      have y2 := HY2.out.cells.2.2.1
      have q0 := (HT2.out).c0
      have q1 := (HT2.out).c1
      have q2 := (HT2.out).c2
      have q3 := (HT2.out).c3
      have q4 := (HT2.out).c4
      have q5 := (HT2.out).c5
      have q6 := (HT2.out).c6
      have q7 := (HT2.out).c7
      go_wp2_with fail
      clear y0 y1 y2 y3 q0 q1 q2 q3 q4 q5 q6 q7
      change Calls _ _ #[insV I (.slice ad I.l.length cap), staV s, _] _ _
      refine (dmove_any (HR.out.below HBB.out) HS.out).mono ?_
      rintro e w3 ⟨rfl, hb⟩
      have HU3 := Lib.hid (HU2.out.below hb)
      have HB3 := Lib.hid (HB2.out.trans (hb.mono HB2.out.size))
      clear hb HU2 HB2 HY2 HT2 HBB
      obtain ⟨po, ca, ti, lo, fi, mu, ma, on, HMV0⟩ : ∃ po ca ti lo fi mu ma on, moveS I s k = ⟨po, ca, ti, lo, fi, mu, ma, on⟩ := ⟨_, _, _, _, _, _, _, _, rfl⟩
      rw [HMV0]
      have HMV := Lib.hid HMV0
      clear HMV0
      unfold staV
      go_upto_region 6 with fail
      have HU4 := Lib.hid (HU3.out.alloc (boxSt ⟨po, ca, ti, lo, fi, mu, ma, on⟩))
      have HB4 := Lib.hid (HB3.out.alloc HB3.out.size (boxSt ⟨po, ca, ti, lo, fi, mu, ma, on⟩))
      clear HU3 HB3
      change Code.wp _ _ _ _ (w3.alloc (boxSt ⟨po, ca, ti, lo, fi, mu, ma, on⟩))
      generalize w3.alloc (boxSt ⟨po, ca, ti, lo, fi, mu, ma, on⟩) = w4 at *
      generalize w3.heap.size = bm at *
      by_cases hcan : Can I s k
      · have HE := Lib.hid (show movesN I s (k + 1) = movesN I s k ++ [(k : Int)] by rw [movesN_succ, if_pos hcan])
        rw [decide_eq_true hcan]
        clear hcan
        have hml := movesN_few (I := I) (s := s) (n := k)
        generalize movesN I s k = L at *
        obtain ⟨ua, uc, rfl⟩ := HU4.out.shape
        go_wp2_with (first | (at_builtin; refine app_ints rfl _ _ rfl W.heap.size _ L rfl (HU4.out.alloc _) _ [(k : Int)] rfl (row_newi _ _) (by simp; omega) (by have := HB4.out.size; simp; omega) ?_))
        intro v' w' hown hgrow _
        have HN := Lib.hid hown
        have HBN := Lib.hid (HB4.out.trans (grown_below (grown_alloc hgrow) HB4.out.size (fun q hq => (World.ownsRow.lt HU4.out q hq).1)))
        clear hown hgrow hml
        go_wp2
        go_roundw
        case rel => exact ⟨k + 1, by have := HKL.out; omega, by go_num, by rw [HE.out]; exact HN.out, HBN.out⟩
        case measure => have := HKL.out; simp [intOf]; omega
      · have HE := Lib.hid (show movesN I s (k + 1) = movesN I s k by rw [movesN_succ, if_neg hcan])
        rw [decide_eq_false hcan]
        clear hcan
        go_wp2
        go_roundw
        case rel => exact ⟨k + 1, by have := HKL.out; omega, by go_num, by rw [HE.out]; exact HU4.out, HB4.out⟩
        case measure => have := HKL.out; simp [intOf]; omega
    · obtain rfl : k = I.l.length := by omega
      rw [HALL.out] at HU2
      clear hltk hk
      go_wp2
      go_ret
      exact ⟨_, rfl, HU2.out.less HB.out.size, HBB.out⟩
set_option maxRecDepth 1000000 in
set_option maxHeartbeats 4000000 in
theorem dend_any {w : World} {v : Value} {I : Ins} {s : Sta} (hr : SRow w v I.l) (hs : SetsOk s) :
    Calls Tryz.prog 47 #[insV I v, staV s] w fun e w' => e = .returned (.tuple #[.int .i64 (endC I s), .bool (decide (EndS I s))]) ∧ Below w.heap.size w w' := by
  have HR := Lib.hid hr
  have HS := Lib.hid hs
  obtain ⟨ad, cap, rfl, hlm, _⟩ := hr.form
  clear hr hs
  unfold insV
  rw [show staV s = .agg #[.int .i64 s.pos, .int .i64 s.car, .int .i64 s.time, .int .i64 s.load, .int .i64 s.first, .int .u64 s.must, .int .u64 s.may, .int .u64 s.on] from rfl]
  go_enter Tryz.func47, Tryz.ntmps47
  go_wp2_with fail
  obtain ⟨b1, b2, b3⟩ := boxes_two w I (.slice ad I.l.length cap) s
  have HY := Lib.hid b1
  have HT := Lib.hid b2
  have HB := Lib.hid b3
  clear b1 b2 b3
  change Calls _ _ #[insV I (.slice ad I.l.length cap)] ((w.alloc (boxI I (.slice ad I.l.length cap))).alloc (boxSt s)) _
  generalize (w.alloc (boxI I (.slice ad I.l.length cap))).alloc (boxSt s) = W at *
  refine (rmay_any (HR.out.below HB.out)).mono ?_
  rintro e w1 ⟨rfl, hb⟩
  have HYn := Lib.hid (HY.out.later hb)
  have HTn := Lib.hid (HT.out.later hb)
  have HBn := Lib.hid (HB.out.trans (hb.mono HB.out.size))
  clear hb HY HT HB
  have HY := HYn
  have HT := HTn
  have HB := HBn
  clear HYn HTn HBn
  obtain ⟨mb, hmb⟩ : ∃ mb, mayB I = mb := ⟨_, rfl⟩
  rw [hmb]
  have HMB := Lib.hid hmb
  clear hmb
  go_upto_region 2 with fail
  go_cut [23] from 12 (fun c wx => c = .bool (decide (FirstS I s)) ∧ YBox wx w.heap.size I (.slice ad I.l.length cap) ∧ StB wx (w.heap.size + 1) s ∧ Below w.heap.size w wx)
  case first =>
    have HYd := Lib.hid (HY.out.later (Below.refl _ _).drew)
    have HTd := Lib.hid (HT.out.later (Below.refl _ _).drew)
    have HBd := Lib.hid HB.out.drew
    have HS0 := Lib.hid (show Holds (cellsI w.heap.size I (.slice ad I.l.length cap) ++ cellsSt (w.heap.size + 1) s) w1.drew from Holds.app.2 ⟨⟨HYd.out.cells.1, HYd.out.cells.2.1, HYd.out.cells.2.2.1, HYd.out.cells.2.2.2, trivial⟩, HTd.out.holds⟩)
    refine wp_region_held_drew (S := Holds (cellsI w.heap.size I (.slice ad I.l.length cap) ++ cellsSt (w.heap.size + 1) s)) (by kernel_rfl) HS0.out (fun hSn => ?_)
    clear HY HT HB
    generalize w1.drew = V at *
    have hlt := Lib.hid (show Lows V.heap.size (cellsI w.heap.size I (.slice ad I.l.length cap) ++ cellsSt (w.heap.size + 1) s) from Lows.app ⟨HYd.out.lt, HYd.out.lt, HYd.out.lt, HYd.out.lt, trivial⟩ (lows_St HTd.out.lt))
    have Bc := Lib.hid (Below.refl V.heap.size V)
    simp only [cellsI, cellsSt, List.cons_append, List.nil_append] at HS0 hlt hSn ⊢
    cases mb
    case' false =>
      have HE := Lib.hid (show decide (FirstS I s) = false from decide_eq_false (fun h => by have := HMB.out; rw [h.1] at this; cases this))
      refine tks [0, 1] 2 rfl (by kernel_rfl) (fun _ _ _ _ h => h) (by assumption) (fun KT hKT => ?_)
      iterate 2 (refine tkT (by (simp only [gA, gB, gC]; rfl)) (by rfl) (by (intro w hSw; (simp only [Holds] at hSw); go_simp <;> with_reducible rfl)) ?_; simp only [Act.put, pA, pB, pC])
      refine hKT _ ?_
      clear KT hKT
      refine tks [2, 3, 4] 3 rfl (by kernel_rfl) (fun _ _ _ _ h => h) (by assumption) (fun KT hKT => ?_)
      iterate 3 (refine tkS (by (simp only [gA, gB, gC]; rfl)) (by rfl) ?_; simp only [Act.put, pA, pB, pC])
      refine hKT _ ?_
      clear KT hKT
      refine tks [5, 6] 2 rfl (by kernel_rfl) (fun _ _ _ _ h => h) (by assumption) (fun KT hKT => ?_)
      iterate 2 (refine tkT (by (simp only [gA, gB, gC]; rfl)) (by rfl) (by (intro w hSw; (simp only [Holds] at hSw); go_simp <;> with_reducible rfl)) ?_; simp only [Act.put, pA, pB, pC])
      refine hKT _ ?_
      clear KT hKT
      refine tks [7, 8, 9, 10] 4 rfl (by kernel_rfl) (fun _ _ _ _ h => h) (by assumption) (fun KT hKT => ?_)
      iterate 4 (refine tkS (by (simp only [gA, gB, gC]; rfl)) (by rfl) ?_; simp only [Act.put, pA, pB, pC])
      refine hKT _ ?_
      clear KT hKT
      refine tks [11] 1 rfl (by kernel_rfl) (fun _ _ _ _ h => h) (by assumption) (fun KT hKT => ?_)
      refine tkT (by (simp only [gA, gB, gC]; rfl)) (by rfl) (by (intro w hSw; (simp only [Holds] at hSw); go_simp <;> with_reducible rfl)) ?_
      simp only [Act.put, pA, pB, pC]
      refine hKT _ ?_
      clear KT hKT
      refine wpAnyH_done (by kernel_rfl) ?_ _
      go_wp2_with fail
      go_meet
      exact ⟨by rw [HE.out], HYd.out.later Bc.out, HTd.out.later Bc.out, HBd.out.trans (Bc.out.mono HBd.out.size)⟩
    have HM := Lib.hid HMB.out
    refine tks [0, 1] 2 rfl (by kernel_rfl) (fun _ _ _ _ h => h) (by assumption) (fun KT hKT => ?_)
    iterate 2 (refine tkT (by (simp only [gA, gB, gC]; rfl)) (by rfl) (by (intro w hSw; (simp only [Holds] at hSw); go_simp <;> with_reducible rfl)) ?_; simp only [Act.put, pA, pB, pC])
    refine hKT _ ?_
    clear KT hKT
    by_cases h0 : I.p = 0
    case' neg =>
      have HE := Lib.hid (show decide (FirstS I s) = false from decide_eq_false (fun h => h0 h.2.1))
      have b0 : (I.p == 0) = false := by simp [h0]
      clear h0
      refine tks [2, 3, 4] 3 rfl (by kernel_rfl) (fun _ _ _ _ h => h) (by assumption) (fun KT hKT => ?_)
      iterate 3 (refine tkT (by (simp only [gA, gB, gC]; rfl)) (by rfl) (by (intro w hSw; (simp only [Holds] at hSw); go_simp <;> with_reducible rfl)) ?_; simp only [Act.put, pA, pB, pC])
      refine hKT _ ?_
      clear KT hKT
      refine tks [5, 6] 2 rfl (by kernel_rfl) (fun _ _ _ _ h => h) (by assumption) (fun KT hKT => ?_)
      iterate 2 (refine tkT (by (simp only [gA, gB, gC]; rfl)) (by rfl) (by (intro w hSw; (simp only [Holds] at hSw); go_simp <;> with_reducible rfl)) ?_; simp only [Act.put, pA, pB, pC])
      refine hKT _ ?_
      clear KT hKT
      refine tks [7, 8, 9, 10] 4 rfl (by kernel_rfl) (fun _ _ _ _ h => h) (by assumption) (fun KT hKT => ?_)
      iterate 4 (refine tkS (by (simp only [gA, gB, gC]; rfl)) (by rfl) ?_; simp only [Act.put, pA, pB, pC])
      refine hKT _ ?_
      clear KT hKT
      refine tks [11] 1 rfl (by kernel_rfl) (fun _ _ _ _ h => h) (by assumption) (fun KT hKT => ?_)
      refine tkT (by (simp only [gA, gB, gC]; rfl)) (by rfl) (by (intro w hSw; (simp only [Holds] at hSw); go_simp <;> with_reducible rfl)) ?_
      simp only [Act.put, pA, pB, pC]
      refine hKT _ ?_
      clear KT hKT
      refine wpAnyH_done (by kernel_rfl) ?_ _
      go_wp2_with fail
      go_meet
      exact ⟨by rw [HE.out], HYd.out.later Bc.out, HTd.out.later Bc.out, HBd.out.trans (Bc.out.mono HBd.out.size)⟩
    have H0 := Lib.hid h0
    have b0 : (I.p == 0) = true := by simp [h0]
    clear h0
    refine tks [2, 3, 4] 3 rfl (by kernel_rfl) (fun _ _ _ _ h => h) (by assumption) (fun KT hKT => ?_)
    iterate 3 (refine tkT (by (simp only [gA, gB, gC]; rfl)) (by rfl) (by (intro w hSw; (simp only [Holds] at hSw); go_simp <;> with_reducible rfl)) ?_; simp only [Act.put, pA, pB, pC])
    refine hKT _ ?_
    clear KT hKT
    refine tks [5, 6] 2 rfl (by kernel_rfl) (fun _ _ _ _ h => h) (by assumption) (fun KT hKT => ?_)
    iterate 2 (refine tkT (by (simp only [gA, gB, gC]; rfl)) (by rfl) (by (intro w hSw; (simp only [Holds] at hSw); go_simp <;> with_reducible rfl)) ?_; simp only [Act.put, pA, pB, pC])
    refine hKT _ ?_
    clear KT hKT
    refine tks [7, 8] 2 rfl (by kernel_rfl) (fun _ _ _ _ h => h) (by assumption) (fun KT hKT => ?_)
    iterate 2 (refine tkT (by (simp only [gA, gB, gC]; rfl)) (by rfl) (by (intro w hSw; (simp only [Holds] at hSw); go_simp <;> with_reducible rfl)) ?_; simp only [Act.put, pA, pB, pC])
    refine hKT _ ?_
    clear KT hKT
    refine wpAnyH_ready (rs := [9]) (by kernel_rfl) (by simp) ?_
    refine AllReadyH.cons (o := ?oz204) ?iz204 (fun K hK => ?kz204) AllReadyH.nil
    case iz204 => (simp only [List.getElem?_toArray, List.getElem?_cons_zero, List.getElem?_cons_succ]; rfl)
    go_simp
    change Calls _ _ #[insV I (.slice ad I.l.length cap)] _ _
    refine (droot_any (HR.out.below (HBd.out.trans (Bc.out.mono HBd.out.size)))).mono ?_
    rintro e w' ⟨rfl, hb⟩
    refine held_more hK HS0.out hlt (Bc.out.trans (hb.mono Bc.out.size)) (fun Bc hSn => ?_)
    clear hb hK
    have keq := equalSta s (rootS I)
    have kg := guardSta
    have HE := Lib.hid (show decide (FirstS I s) = decide (s = rootS I) from decide_eq_decide.2 ⟨fun h => h.2.2, fun h => ⟨HM.out, H0.out, h⟩⟩)
    unfold staV
    by_cases hq : s = rootS I
    · rw [decide_eq_true hq] at keq HE
      clear hq
      refine tks [10] 1 rfl (by kernel_rfl) (fun _ _ _ _ h => h) (by assumption) (fun KT hKT => ?_)
      refine tkT (by (simp only [gA, gB, gC]; rfl)) (by rfl) (by (intro w hSw; (simp only [Holds] at hSw); go_simp <;> with_reducible rfl)) ?_
      simp only [Act.put, pA, pB, pC]
      refine hKT _ ?_
      clear KT hKT
      refine tks [11] 1 rfl (by kernel_rfl) (fun _ _ _ _ h => h) (by assumption) (fun KT hKT => ?_)
      refine tkT (by (simp only [gA, gB, gC]; rfl)) (by rfl) (by (intro w hSw; (simp only [Holds] at hSw); go_simp <;> with_reducible rfl)) ?_
      simp only [Act.put, pA, pB, pC]
      refine hKT _ ?_
      clear KT hKT
      refine wpAnyH_done (by kernel_rfl) ?_ _
      go_wp2_with fail
      go_meet
      exact ⟨by rw [HE.out], HYd.out.later Bc.out, HTd.out.later Bc.out, HBd.out.trans (Bc.out.mono HBd.out.size)⟩
    · rw [decide_eq_false hq] at keq HE
      clear hq
      refine tks [10] 1 rfl (by kernel_rfl) (fun _ _ _ _ h => h) (by assumption) (fun KT hKT => ?_)
      refine tkT (by (simp only [gA, gB, gC]; rfl)) (by rfl) (by (intro w hSw; (simp only [Holds] at hSw); go_simp <;> with_reducible rfl)) ?_
      simp only [Act.put, pA, pB, pC]
      refine hKT _ ?_
      clear KT hKT
      refine tks [11] 1 rfl (by kernel_rfl) (fun _ _ _ _ h => h) (by assumption) (fun KT hKT => ?_)
      refine tkT (by (simp only [gA, gB, gC]; rfl)) (by rfl) (by (intro w hSw; (simp only [Holds] at hSw); go_simp <;> with_reducible rfl)) ?_
      simp only [Act.put, pA, pB, pC]
      refine hKT _ ?_
      clear KT hKT
      refine wpAnyH_done (by kernel_rfl) ?_ _
      go_wp2_with fail
      go_meet
      exact ⟨by rw [HE.out], HYd.out.later Bc.out, HTd.out.later Bc.out, HBd.out.trans (Bc.out.mono HBd.out.size)⟩
  case rest =>
  obtain ⟨rfl, hy, ht, hb⟩ := hcut
  clear HY HT HB
  have HY := Lib.hid hy
  have HT := Lib.hid ht
  have HB := Lib.hid hb
  clear hy ht hb
  by_cases hf : FirstS I s
  · have HE := Lib.hid (end_first hf)
    rw [decide_eq_true hf]
    clear hf
    go_wp2
    exact bodyPost_ret (v := .tuple #[.int .i64 0, .bool true]) (by simp [results, Tryz.results47, go_sem]) rfl ⟨by rw [HE.out.1, HE.out.2], HB.out⟩
  rw [decide_eq_false hf]
  have HF := Lib.hid hf
  clear hf
  have y0 := (HY.out).cells.1
  have y1 := (HY.out).cells.2.1
  have y2 := (HY.out).cells.2.2.1
  have y3 := (HY.out).cells.2.2.2
  have q0 := (HT.out).c0
  have q1 := (HT.out).c1
  have q2 := (HT.out).c2
  have q3 := (HT.out).c3
  have q4 := (HT.out).c4
  have q5 := (HT.out).c5
  have q6 := (HT.out).c6
  have q7 := (HT.out).c7
  go_wp2_with fail
  clear y0 y1 y2 y3 q0 q1 q2 q3 q4 q5 q6 q7
  change Calls _ _ #[insV I (.slice ad I.l.length cap), staV s] _ _
  refine (dmay_any (HR.out.below HB.out)).mono ?_
  rintro e w1 ⟨rfl, hb⟩
  have HYn := Lib.hid (HY.out.later hb)
  have HTn := Lib.hid (HT.out.later hb)
  have HBn := Lib.hid (HB.out.trans (hb.mono HB.out.size))
  clear hb HY HT HB
  have HY := HYn
  have HT := HTn
  have HB := HBn
  clear HYn HTn HBn
  by_cases hg : GoOn I s
  rotate_left
  · rw [decide_eq_false hg]
    have HE := Lib.hid (end_no HF.out (fun h => hg h.1))
    clear hg
    go_wp2
    exact bodyPost_ret (v := .tuple #[.int .i64 0, .bool false]) (by simp [results, Tryz.results47, go_sem]) rfl ⟨by rw [HE.out.1, HE.out.2], HB.out⟩
  rw [decide_eq_true hg]
  have HG := Lib.hid hg
  have HM := Lib.hid hg.1
  clear hg
  have q0 := (HT.out).c0
  have q6 := (HT.out).c6
  have q7 := (HT.out).c7
  by_cases hpz : s.pos = 0
  · have b0 : (s.pos == 0) = true := by simp [hpz]
    have HE := Lib.hid (end_no HF.out (fun h => h.2.1.1 hpz))
    clear hpz
    go_wp2
    exact bodyPost_ret (v := .tuple #[.int .i64 0, .bool false]) (by simp [results, Tryz.results47, go_sem]) rfl ⟨by rw [HE.out.1, HE.out.2], HB.out⟩
  have b0 : (s.pos == 0) = false := by simp [hpz]
  have HPZ := Lib.hid hpz
  clear hpz
  by_cases hon : s.on = 0
  rotate_left
  · have b1 : ((s.on : Int) != 0) = true := by simp [hon]
    have HE := Lib.hid (end_no HF.out (fun h => hon h.2.1.2.1))
    clear hon
    go_wp2
    exact bodyPost_ret (v := .tuple #[.int .i64 0, .bool false]) (by simp [results, Tryz.results47, go_sem]) rfl ⟨by rw [HE.out.1, HE.out.2], HB.out⟩
  have b1 : ((s.on : Int) != 0) = false := by simp [hon]
  have HON := Lib.hid hon
  clear hon
  have y0 := (HY.out).cells.1
  have y1 := (HY.out).cells.2.1
  have y2 := (HY.out).cells.2.2.1
  have y3 := (HY.out).cells.2.2.2
  go_wp2_with fail
  clear q0 q6 q7 y0 y1 y2 y3 b0 b1
  change Calls _ _ #[insV I (.slice ad I.l.length cap), _] _ _
  refine (dall_any (HR.out.below HB.out) HM.out HS.out.2.1).mono ?_
  rintro e w1 ⟨rfl, hb⟩
  have HYn := Lib.hid (HY.out.later hb)
  have HTn := Lib.hid (HT.out.later hb)
  have HBn := Lib.hid (HB.out.trans (hb.mono HB.out.size))
  clear hb HY HT HB
  have HY := HYn
  have HT := HTn
  have HB := HBn
  clear HYn HTn HBn
  have hl0 : 0 < I.l.length := (pmay_len HM.out).1
  have hki : (0 : Int) < (I.l.length : Int) := by omega
  obtain ⟨q, hq, hql, eq⟩ := num_stop HM.out HG.out.2.1
  obtain ⟨tb, off, rfl, hkq, hlt0⟩ := srow_at HR.out q hql
  have HQ := Lib.hid hq
  have HKQ := Lib.hid hkq
  have HLT := Lib.hid hlt0
  have hqi : (q : Int) < (I.l.length : Int) := by omega
  have HKT := Lib.hid (show At w tb off (nth I.l 0) by have := srow_here HR.out 0 hl0; rw [Nat.zero_mul, Nat.add_zero] at this; exact this)
  obtain ⟨d, hd⟩ : ∃ d, d = farS1 I s 0 := ⟨_, rfl⟩
  have HFR := Lib.hid (show farF (nth I.l q) (nth I.l 0) = d by rw [hd]; unfold farS1; rw [eq]; rfl)
  have hbd := goOn_bd HG.out
  have hfb := far1_bd I s 0
  rw [← hd] at hfb
  have e1 : IntKind.i64.wrap (s.time + d) = s.time + d := IntWalk.i64_in _ (by omega)
  have HD := Lib.hid hd
  have HCO := Lib.hid (show comeS I s 0 = s.time + d by rw [hd]; rfl)
  clear hkq hlt0 eq hql hq hbd hfb hd
  go_upto_region 8 with fail
  have HBd := Lib.hid HB.out.drew
  have HYd := Lib.hid (HY.out.later (Below.refl _ _).drew)
  have HTd := Lib.hid (HT.out.later (Below.refl _ _).drew)
  have HXd := Lib.hid (HY.out.later (Below.refl _ _).drew)
  clear HB HY HT
  have HS0 := Lib.hid (show Holds (cellsI w.heap.size I (.slice (some ⟨tb, off, none⟩) I.l.length cap) ++ ((⟨w.heap.size + 1, 0, none⟩, .int .i64 (q : Int)) :: (cellsF tb (off + q * 6) (nth I.l q) ++ cellsF tb off (nth I.l 0)))) w1.drew from Holds.app.2 ⟨⟨HYd.out.cells.1, HYd.out.cells.2.1, HYd.out.cells.2.2.1, HYd.out.cells.2.2.2, trivial⟩, by have c0 := HTd.out.c0; rw [HQ.out] at c0; exact c0, Holds.app.2 ⟨holds_at (HKQ.out.below HLT.out HBd.out), holds_at (HKT.out.below HLT.out HBd.out)⟩⟩)
  refine wp_region_held_drew (S := Holds (cellsI w.heap.size I (.slice (some ⟨tb, off, none⟩) I.l.length cap) ++ ((⟨w.heap.size + 1, 0, none⟩, .int .i64 (q : Int)) :: (cellsF tb (off + q * 6) (nth I.l q) ++ cellsF tb off (nth I.l 0))))) (by kernel_rfl) HS0.out (fun hSn => ?_)
  generalize w1.drew = V at *
  have hlt := Lib.hid (show Lows V.heap.size (cellsI w.heap.size I (.slice (some ⟨tb, off, none⟩) I.l.length cap) ++ ((⟨w.heap.size + 1, 0, none⟩, .int .i64 (q : Int)) :: (cellsF tb (off + q * 6) (nth I.l q) ++ cellsF tb off (nth I.l 0)))) from Lows.app ⟨HYd.out.lt, HYd.out.lt, HYd.out.lt, HYd.out.lt, trivial⟩ ⟨HTd.out.lt, Lows.app (lows_at (Nat.lt_of_lt_of_le HLT.out HBd.out.size)) (lows_at (Nat.lt_of_lt_of_le HLT.out HBd.out.size))⟩)
  have Bc := Lib.hid (Below.refl V.heap.size V)
  simp only [cellsI, cellsF, List.cons_append, List.nil_append] at HS0 hlt hSn ⊢
  refine tks [0, 1, 2, 3, 4, 5, 6, 7, 8, 9] 10 rfl (by kernel_rfl) (fun _ _ _ _ h => h) (by assumption) (fun KT hKT => ?_)
  iterate 10 (refine tkT (by (simp only [gA, gB, gC]; rfl)) (by rfl) (by (intro w hSw; (simp only [Holds] at hSw); go_simp <;> with_reducible rfl)) ?_; simp only [Act.put, pA, pB, pC])
  refine hKT _ ?_
  clear KT hKT
  refine wpAnyH_ready (rs := [10]) (by kernel_rfl) (by simp) ?_
  refine AllReadyH.cons (o := ?oz205) ?iz205 (fun K hK => ?kz205) AllReadyH.nil
  case iz205 => (simp only [List.getElem?_toArray, List.getElem?_cons_zero, List.getElem?_cons_succ]; rfl)
  go_simp
  change Calls _ _ #[stopV (nth I.l q), stopV (nth I.l 0)] _ _
  refine (rfar_any _ _ _).mono ?_
  rintro e w' ⟨rfl, hb⟩
  rw [HFR.out]
  refine held_more hK HS0.out hlt (Bc.out.trans (hb.mono Bc.out.size)) (fun Bc hSn => ?_)
  clear hb hK
  refine tks [11] 1 rfl (by kernel_rfl) (fun _ _ _ _ h => h) (by assumption) (fun KT hKT => ?_)
  refine tkT (by (simp only [gA, gB, gC]; rfl)) (by rfl) (by (intro w hSw; (simp only [Holds] at hSw); go_simp <;> with_reducible rfl)) ?_
  simp only [Act.put, pA, pB, pC]
  refine hKT _ ?_
  clear KT hKT
  refine wpAnyH_done (by kernel_rfl) ?_ _
  have HY := Lib.hid (HYd.out.later Bc.out)
  have HT := Lib.hid (HTd.out.later Bc.out)
  have HB := Lib.hid (HBd.out.trans (Bc.out.mono HBd.out.size))
  clear HYd HTd HXd HBd HS0 hlt Bc hSn
  obtain ⟨k0, k1, k2, k3, k4, k5⟩ := HKT.out.below HLT.out HB.out
  clear k0 k1 k2 k3 k5
  have y3 := HY.out.cells.2.2.2
  have q2 := HT.out.c2
  by_cases hwi : within (allS I) s.may = true
  rotate_left
  · have HE := Lib.hid (end_no HF.out (fun h => hwi h.2.2))
    rw [Bool.not_eq_true] at hwi
    rw [hwi]
    clear hwi
    go_wp2_with fail
    go_quiet (fail)
    have hb := below_drewN (Below.refl w'.heap.size w') nq
    generalize w'.drewN nq = wq at *
    have HYn := Lib.hid (HY.out.later hb)
    have HTn := Lib.hid (HT.out.later hb)
    have HBn := Lib.hid (HB.out.trans (hb.mono HB.out.size))
    clear hb HY HT HB
    have HY := HYn
    have HT := HTn
    have HB := HBn
    clear HYn HTn HBn
    clear y3 q2 k4
    go_wp2
    exact bodyPost_ret (v := .tuple #[.int .i64 0, .bool false]) (by simp [results, Tryz.results47, go_sem]) rfl ⟨by rw [HE.out.1, HE.out.2], HB.out⟩
  have HWI := Lib.hid hwi
  rw [hwi]
  clear hwi
  by_cases hla : (nth I.l 0).u < s.time + d
  · have d1 := decide_eq_true hla
    have HE := Lib.hid (end_no HF.out (fun h => by have := h.2.1.2.2; rw [HCO.out] at this; omega))
    clear hla
    go_wp2_with fail
    go_quiet (fail)
    have hb := below_drewN (Below.refl w'.heap.size w') nq
    generalize w'.drewN nq = wq at *
    have HYn := Lib.hid (HY.out.later hb)
    have HTn := Lib.hid (HT.out.later hb)
    have HBn := Lib.hid (HB.out.trans (hb.mono HB.out.size))
    clear hb HY HT HB
    have HY := HYn
    have HT := HTn
    have HB := HBn
    clear HYn HTn HBn
    clear y3 q2 k4
    go_wp2
    exact bodyPost_ret (v := .tuple #[.int .i64 0, .bool false]) (by simp [results, Tryz.results47, go_sem]) rfl ⟨by rw [HE.out.1, HE.out.2], HB.out⟩
  have d1 := decide_eq_false hla
  have HE := Lib.hid (end_back (I := I) (s := s) ⟨HG.out, ⟨HPZ.out, HON.out, by rw [HCO.out]; omega⟩, HWI.out⟩)
  clear hla
  go_wp2_with fail
  go_quiet (fail)
  have hb := below_drewN (Below.refl w'.heap.size w') nq
  generalize w'.drewN nq = wq at *
  have HYn := Lib.hid (HY.out.later hb)
  have HTn := Lib.hid (HT.out.later hb)
  have HBn := Lib.hid (HB.out.trans (hb.mono HB.out.size))
  clear hb HY HT HB
  have HY := HYn
  have HT := HTn
  have HB := HBn
  clear HYn HTn HBn
  clear y3 q2 k4
  go_wp2
  exact bodyPost_ret (v := .tuple #[.int .i64 d, .bool true]) (by simp [results, Tryz.results47, go_sem]) rfl ⟨by rw [HE.out.1, HE.out.2, HD.out], HB.out⟩
end Go.Proofs.YtgplajofemencaaGreat
