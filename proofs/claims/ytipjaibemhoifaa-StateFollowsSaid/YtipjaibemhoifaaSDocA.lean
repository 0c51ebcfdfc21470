/- The document's own answers: may a state go on, all stops, home, a visit. -/
import Derived.Test.YtipjaibemhoifaaSAwake
namespace Go.Proofs.Ytipjaibemhoifaa
open Go.ChangeShapes Go.WideShapes Go.ChangeAt Go.RowKit

/-- The boxes of a call: the instance, the state, the answer's cells. -/
theorem boxes_ans (w : World) (I : Ins) (v : Value) (s : Sta) : YBox (((w.alloc (boxI I v)).alloc (boxSt s)).alloc (boxSt noughtS)) w.heap.size I v ∧ StB (((w.alloc (boxI I v)).alloc (boxSt s)).alloc (boxSt noughtS)) (w.heap.size + 1) s ∧
    StB (((w.alloc (boxI I v)).alloc (boxSt s)).alloc (boxSt noughtS)) (w.heap.size + 1 + 1) noughtS ∧ Below w.heap.size w (((w.alloc (boxI I v)).alloc (boxSt s)).alloc (boxSt noughtS)) := by
  obtain ⟨h1, h2, h3⟩ := boxes_two w I v s
  have e1 : ((w.alloc (boxI I v)).alloc (boxSt s)).heap.size = w.heap.size + 1 + 1 := by simp
  have a3 := st_new ((w.alloc (boxI I v)).alloc (boxSt s)) noughtS
  rw [e1] at a3
  exact ⟨h1.later ((Below.refl _ _).alloc (Nat.le_refl _) _), h2.later ((Below.refl _ _).alloc (Nat.le_refl _) _), a3, h3.alloc h3.size _⟩
set_option maxRecDepth 1000000 in
set_option maxHeartbeats 4000000 in
theorem dmay_any {w : World} {v : Value} {I : Ins} {s : Sta} (hr : SRow w v I.l) :
    Calls Try.prog 34 #[insV I v, staV s] w fun e w' => e = .returned (.bool (decide (GoOn I s))) ∧ Below w.heap.size w w' := by
  have HR := Lib.hid hr
  obtain ⟨ad, cap, rfl, hlm, _⟩ := hr.form
  clear hr
  unfold insV
  rw [show staV s = .agg #[.int .i64 s.pos, .int .i64 s.car, .int .i64 s.time, .int .i64 s.load, .int .i64 s.first, .int .u64 s.must, .int .u64 s.may, .int .u64 s.on] from rfl]
  go_enter Try.func34, Try.ntmps34
  go_wp2_with fail
  obtain ⟨b1, b2, b3⟩ := boxes_two w I (.slice ad I.l.length cap) s
  have HY := Lib.hid b1
  have HT := Lib.hid b2
  have HB := Lib.hid b3
  clear b1 b2 b3
  change Calls _ _ #[insV I (.slice ad I.l.length cap)] ((w.alloc (boxI I (.slice ad I.l.length cap))).alloc (boxSt s)) _
  generalize (w.alloc (boxI I (.slice ad I.l.length cap))).alloc (boxSt s) = W at *
  refine (rmay_any (HR.out.below HB.out)).mono ?_
  rintro e w1 ⟨rfl, hb⟩
  have HYn := Lib.hid (HY.out.later hb)
  have HTn := Lib.hid (HT.out.later hb)
  have HBn := Lib.hid (HB.out.trans (hb.mono HB.out.size))
  clear hb HY HT HB
  have HY := HYn
  have HT := HTn
  have HB := HBn
  clear HYn HTn HBn
  have y0 := (HY.out).cells.1
  have y1 := (HY.out).cells.2.1
  have y2 := (HY.out).cells.2.2.1
  have q0 := (HT.out).c0
  have q1 := (HT.out).c1
  have q2 := (HT.out).c2
  have q3 := (HT.out).c3
  by_cases hm : mayB I = true
  rotate_left
  · have HD := Lib.hid (show decide (GoOn I s) = false from decide_eq_false (fun h => hm h.1))
    rw [Bool.not_eq_true] at hm
    rw [hm]
    clear hm
    go_wp2
    go_ret
    exact ⟨ret_bool HD.out.symm, HB.out⟩
  have HF := Lib.hid (fine_of hm)
  have hp0 := HF.out.p0
  have hp1 := HF.out.p1
  have e1 : IntKind.i64.wrap (2 * I.p) = 2 * I.p := IntWalk.i64_in _ (by omega)
  have HM := Lib.hid hm
  clear hp0 hp1
  rw [hm]
  clear hm
  by_cases g0 : 0 ≤ s.pos
  rotate_left
  · have HD := Lib.hid (show decide (GoOn I s) = false from decide_eq_false (fun h => g0 h.2.1.1))
    have d0 := decide_eq_false g0
    clear g0
    go_wp2
    go_ret
    exact ⟨ret_bool HD.out.symm, HB.out⟩
  have G0 := Lib.hid g0
  have d0 := decide_eq_true g0
  clear g0
  by_cases g1 : s.pos ≤ 2 * I.p
  rotate_left
  · have HD := Lib.hid (show decide (GoOn I s) = false from decide_eq_false (fun h => g1 h.2.1.2))
    have d1 := decide_eq_false g1
    clear g1
    go_wp2
    go_ret
    exact ⟨ret_bool HD.out.symm, HB.out⟩
  have G1 := Lib.hid g1
  have d1 := decide_eq_true g1
  clear g1
  by_cases g2 : 1 ≤ s.car
  rotate_left
  · have HD := Lib.hid (show decide (GoOn I s) = false from decide_eq_false (fun h => g2 h.2.2.1.1))
    have d2 := decide_eq_false g2
    clear g2
    go_wp2
    go_ret
    exact ⟨ret_bool HD.out.symm, HB.out⟩
  have G2 := Lib.hid g2
  have d2 := decide_eq_true g2
  clear g2
  by_cases g3 : s.car ≤ I.c
  rotate_left
  · have HD := Lib.hid (show decide (GoOn I s) = false from decide_eq_false (fun h => g3 h.2.2.1.2))
    have d3 := decide_eq_false g3
    clear g3
    go_wp2
    go_ret
    exact ⟨ret_bool HD.out.symm, HB.out⟩
  have G3 := Lib.hid g3
  have d3 := decide_eq_true g3
  clear g3
  by_cases g4 : 0 ≤ s.time
  rotate_left
  · have HD := Lib.hid (show decide (GoOn I s) = false from decide_eq_false (fun h => g4 h.2.2.2.1.1))
    have d4 := decide_eq_false g4
    clear g4
    go_wp2
    go_ret
    exact ⟨ret_bool HD.out.symm, HB.out⟩
  have G4 := Lib.hid g4
  have d4 := decide_eq_true g4
  clear g4
  by_cases g5 : s.time ≤ 1073741824
  rotate_left
  · have HD := Lib.hid (show decide (GoOn I s) = false from decide_eq_false (fun h => g5 h.2.2.2.1.2))
    have d5 := decide_eq_false g5
    clear g5
    go_wp2
    go_ret
    exact ⟨ret_bool HD.out.symm, HB.out⟩
  have G5 := Lib.hid g5
  have d5 := decide_eq_true g5
  clear g5
  by_cases g6 : 0 ≤ s.load
  rotate_left
  · have HD := Lib.hid (show decide (GoOn I s) = false from decide_eq_false (fun h => g6 h.2.2.2.2.1))
    have d6 := decide_eq_false g6
    clear g6
    go_wp2
    go_ret
    exact ⟨ret_bool HD.out.symm, HB.out⟩
  have G6 := Lib.hid g6
  have d6 := decide_eq_true g6
  clear g6
  have HD := Lib.hid (show decide (GoOn I s) = decide (s.load ≤ 1000) from decide_eq_decide.2 ⟨fun h => h.2.2.2.2.2, fun h => ⟨HM.out, ⟨G0.out, G1.out⟩, ⟨G2.out, G3.out⟩, ⟨G4.out, G5.out⟩, G6.out, h⟩⟩)
  go_wp2
  go_ret
  exact ⟨ret_bool HD.out.symm, HB.out⟩
set_option maxRecDepth 1000000 in
set_option maxHeartbeats 4000000 in
theorem dall_any {w : World} {v : Value} {I : Ins} {t : Nat} (hr : SRow w v I.l) (hm : mayB I = true) (ht : t < 18446744073709551616) :
    Calls Try.prog 42 #[insV I v, .int .u64 t] w fun e w' => e = .returned (.bool (within (allS I) t)) ∧ Below w.heap.size w w' := by
  have HA := Lib.hid (allS_min hm)
  have HT := Lib.hid ht
  have hp0 := (fine_of hm).p0
  have hp1 := (fine_of hm).p1
  have e1 : IntKind.i64.wrap (2 * I.p) = 2 * I.p := IntWalk.i64_in _ (by omega)
  have HU := Lib.hid (show -9223372036854775808 ≤ 2 * I.p ∧ 2 * I.p ≤ 9223372036854775807 by omega)
  obtain ⟨ad, cap, rfl, hlm, _⟩ := hr.form
  clear hr hm ht hp0 hp1
  unfold insV
  go_enter Try.func42, Try.ntmps42
  go_wp2_with fail
  refine (erupto_any _ _ HU.out.1 HU.out.2).mono ?_
  rintro e w' ⟨rfl, rfl⟩
  rw [HA.out]
  go_wp2_with fail
  refine (erwithin_any _ _ _ (by unfold allS; exact upto_lt _) HT.out).mono ?_
  rintro e w' ⟨rfl, rfl⟩
  go_wp2
  go_ret
  exact ⟨rfl, (Below.refl _ w).alloc (Nat.le_refl _) _⟩
set_option maxRecDepth 1000000 in
set_option maxHeartbeats 4000000 in
theorem dhome_any {w : World} {v : Value} {I : Ins} {s : Sta} {d : Int} (hr : SRow w v I.l) (hs : SetsOk s) (hg : GoOn I s) (hd : d = farS1 I s 0) :
    Calls Try.prog 36 #[insV I v, staV s, .int .i64 d] w fun e w' => e = .returned (.tuple #[staV (moveS I s 0), .int .i64 (moveC I s 0), .bool (decide (Can I s 0))]) ∧ Below w.heap.size w w' := by
  have HG := Lib.hid hg
  have HM := Lib.hid hg.1
  have HD0 := Lib.hid hd
  have hfb := far1_bd I s 0
  rw [← hd] at hfb
  have hbd := goOn_bd hg
  have e1 : IntKind.i64.wrap (s.time + d) = s.time + d := IntWalk.i64_in _ (by omega)
  have e2 : IntKind.i64.wrap (s.car + 1) = s.car + 1 := IntWalk.i64_in _ (by omega)
  clear hfb hbd hg hd
  have HCE := Lib.hid (can_home HG.out)
  have HR := Lib.hid hr
  have HS := Lib.hid hs
  obtain ⟨ad, cap, rfl, hlm, _⟩ := hr.form
  clear hr hs
  have hl0 : 0 < I.l.length := (pmay_len HM.out).1
  obtain ⟨tb, off, rfl, hkt, hlt0⟩ := srow_at HR.out 0 hl0
  rw [Nat.zero_mul, Nat.add_zero] at hkt
  have HKT := Lib.hid hkt
  have HLT := Lib.hid hlt0
  clear hkt hlt0
  have hki : (0 : Int) < (I.l.length : Int) := by omega
  unfold insV
  rw [show staV s = .agg #[.int .i64 s.pos, .int .i64 s.car, .int .i64 s.time, .int .i64 s.load, .int .i64 s.first, .int .u64 s.must, .int .u64 s.may, .int .u64 s.on] from rfl]
  go_enter Try.func36, Try.ntmps36
  go_wp2_with fail
  obtain ⟨b1, b2, b3, b4⟩ := boxes_ans w I (.slice (some ⟨tb, off, none⟩) I.l.length cap) s
  have HY := Lib.hid b1
  have HT := Lib.hid b2
  have HX := Lib.hid b3
  have HB := Lib.hid b4
  clear b1 b2 b3 b4
  change Calls _ _ #[insV I (.slice (some ⟨tb, off, none⟩) I.l.length cap), _] (((w.alloc (boxI I (.slice (some ⟨tb, off, none⟩) I.l.length cap))).alloc (boxSt s)).alloc (boxSt noughtS)) _
  generalize ((w.alloc (boxI I (.slice (some ⟨tb, off, none⟩) I.l.length cap))).alloc (boxSt s)).alloc (boxSt noughtS) = W at *
  refine (dall_any (HR.out.below HB.out) HM.out HS.out.1).mono ?_
  rintro e w1 ⟨rfl, hb⟩
  have HYn := Lib.hid (HY.out.later hb)
  have HTn := Lib.hid (HT.out.later hb)
  have HXn := Lib.hid (HX.out.later hb)
  have HBn := Lib.hid (HB.out.trans (hb.mono HB.out.size))
  clear hb HY HT HX HB
  have HY := HYn
  have HT := HTn
  have HX := HXn
  have HB := HBn
  clear HYn HTn HXn HBn
  obtain ⟨k0, k1, k2, k3, k4, k5⟩ := HKT.out.below HLT.out HB.out
  have y0 := (HY.out).cells.1
  have y1 := (HY.out).cells.2.1
  have y2 := (HY.out).cells.2.2.1
  have y3 := (HY.out).cells.2.2.2
  have q0 := (HT.out).c0
  have q1 := (HT.out).c1
  have q2 := (HT.out).c2
  have q3 := (HT.out).c3
  have q4 := (HT.out).c4
  have q5 := (HT.out).c5
  have q6 := (HT.out).c6
  have q7 := (HT.out).c7
  by_cases g0 : s.pos = 0
  · skip
    have HE := Lib.hid (move_no (I := I) (s := s) (j := 0) (fun hc => by have h := HCE.out.1 hc; exact h.2.1 g0))
    have b0 : (s.pos == 0) = true := by simp [g0]
    clear g0
    go_wp2_with fail
    go_quiet (fail)
    have hb := below_drewN (Below.refl w1.heap.size w1) nq
    generalize w1.drewN nq = w2 at *
    have HYn := Lib.hid (HY.out.later hb)
    have HTn := Lib.hid (HT.out.later hb)
    have HXn := Lib.hid (HX.out.later hb)
    have HBn := Lib.hid (HB.out.trans (hb.mono HB.out.size))
    clear hb HY HT HX HB
    have HY := HYn
    have HT := HTn
    have HX := HXn
    have HB := HBn
    clear HYn HTn HXn HBn
    clear y0 y1 y2 y3 q0 q1 q2 q3 q4 q5 q6 q7 k0 k1 k2 k3 k4 k5
    have x0 := HT.out.c0
    have x1 := HT.out.c1
    have x2 := HT.out.c2
    have x3 := HT.out.c3
    have x4 := HT.out.c4
    have x5 := HT.out.c5
    have x6 := HT.out.c6
    have x7 := HT.out.c7
    go_wp2_with (refine wpList_store_state (by rfl) (.tmp 6) (.tmp 45) (by rfl) (w.heap.size + 1 + 1) _ s (by rfl) (by rfl) HX.out ?_)
    intro WE hE hbE
    have z0 := hE.c0
    have z1 := hE.c1
    have z2 := hE.c2
    have z3 := hE.c3
    have z4 := hE.c4
    have z5 := hE.c5
    have z6 := hE.c6
    have z7 := hE.c7
    go_wp2
    exact bodyPost_ret (v := .tuple #[staV s, .int .i64 0, .bool false]) (by simp [results, Try.results36, go_sem, z0, z1, z2, z3, z4, z5, z6, z7, staV]) rfl ⟨by rw [HE.out.1, HE.out.2.1, HE.out.2.2], HB.out.trans (hbE _ (by omega))⟩
  have G0 := Lib.hid g0
  have b0 : (s.pos == 0) = false := by simp [g0]
  clear g0
  by_cases g1 : s.on = 0
  rotate_left
  · skip
    have HE := Lib.hid (move_no (I := I) (s := s) (j := 0) (fun hc => by have h := HCE.out.1 hc; exact g1 h.2.2.1))
    have b1 : ((s.on : Int) != 0) = true := by simp [g1]
    clear g1
    go_wp2_with fail
    go_quiet (fail)
    have hb := below_drewN (Below.refl w1.heap.size w1) nq
    generalize w1.drewN nq = w2 at *
    have HYn := Lib.hid (HY.out.later hb)
    have HTn := Lib.hid (HT.out.later hb)
    have HXn := Lib.hid (HX.out.later hb)
    have HBn := Lib.hid (HB.out.trans (hb.mono HB.out.size))
    clear hb HY HT HX HB
    have HY := HYn
    have HT := HTn
    have HX := HXn
    have HB := HBn
    clear HYn HTn HXn HBn
    clear y0 y1 y2 y3 q0 q1 q2 q3 q4 q5 q6 q7 k0 k1 k2 k3 k4 k5
    have x0 := HT.out.c0
    have x1 := HT.out.c1
    have x2 := HT.out.c2
    have x3 := HT.out.c3
    have x4 := HT.out.c4
    have x5 := HT.out.c5
    have x6 := HT.out.c6
    have x7 := HT.out.c7
    go_wp2_with (refine wpList_store_state (by rfl) (.tmp 6) (.tmp 45) (by rfl) (w.heap.size + 1 + 1) _ s (by rfl) (by rfl) HX.out ?_)
    intro WE hE hbE
    have z0 := hE.c0
    have z1 := hE.c1
    have z2 := hE.c2
    have z3 := hE.c3
    have z4 := hE.c4
    have z5 := hE.c5
    have z6 := hE.c6
    have z7 := hE.c7
    go_wp2
    exact bodyPost_ret (v := .tuple #[staV s, .int .i64 0, .bool false]) (by simp [results, Try.results36, go_sem, z0, z1, z2, z3, z4, z5, z6, z7, staV]) rfl ⟨by rw [HE.out.1, HE.out.2.1, HE.out.2.2], HB.out.trans (hbE _ (by omega))⟩
  have G1 := Lib.hid g1
  have b1 : ((s.on : Int) != 0) = false := by simp [g1]
  clear g1
  by_cases g2 : I.c ≤ s.car
  · skip
    have HE := Lib.hid (move_no (I := I) (s := s) (j := 0) (fun hc => by have h := HCE.out.1 hc; exact absurd h.2.2.2.1 (by omega)))
    have b2 := decide_eq_true g2
    clear g2
    go_wp2_with fail
    go_quiet (fail)
    have hb := below_drewN (Below.refl w1.heap.size w1) nq
    generalize w1.drewN nq = w2 at *
    have HYn := Lib.hid (HY.out.later hb)
    have HTn := Lib.hid (HT.out.later hb)
    have HXn := Lib.hid (HX.out.later hb)
    have HBn := Lib.hid (HB.out.trans (hb.mono HB.out.size))
    clear hb HY HT HX HB
    have HY := HYn
    have HT := HTn
    have HX := HXn
    have HB := HBn
    clear HYn HTn HXn HBn
    clear y0 y1 y2 y3 q0 q1 q2 q3 q4 q5 q6 q7 k0 k1 k2 k3 k4 k5
    have x0 := HT.out.c0
    have x1 := HT.out.c1
    have x2 := HT.out.c2
    have x3 := HT.out.c3
    have x4 := HT.out.c4
    have x5 := HT.out.c5
    have x6 := HT.out.c6
    have x7 := HT.out.c7
    go_wp2_with (refine wpList_store_state (by rfl) (.tmp 6) (.tmp 45) (by rfl) (w.heap.size + 1 + 1) _ s (by rfl) (by rfl) HX.out ?_)
    intro WE hE hbE
    have z0 := hE.c0
    have z1 := hE.c1
    have z2 := hE.c2
    have z3 := hE.c3
    have z4 := hE.c4
    have z5 := hE.c5
    have z6 := hE.c6
    have z7 := hE.c7
    go_wp2
    exact bodyPost_ret (v := .tuple #[staV s, .int .i64 0, .bool false]) (by simp [results, Try.results36, go_sem, z0, z1, z2, z3, z4, z5, z6, z7, staV]) rfl ⟨by rw [HE.out.1, HE.out.2.1, HE.out.2.2], HB.out.trans (hbE _ (by omega))⟩
  have G2 := Lib.hid g2
  have b2 := decide_eq_false g2
  clear g2
  by_cases g3 : within (allS I) s.must = true
  · skip
    have HE := Lib.hid (move_no (I := I) (s := s) (j := 0) (fun hc => by have h := HCE.out.1 hc; exact (by have h5 := h.2.2.2.2.1; rw [g3] at h5; cases h5)))
    rw [g3]
    clear g3
    go_wp2_with fail
    go_quiet (fail)
    have hb := below_drewN (Below.refl w1.heap.size w1) nq
    generalize w1.drewN nq = w2 at *
    have HYn := Lib.hid (HY.out.later hb)
    have HTn := Lib.hid (HT.out.later hb)
    have HXn := Lib.hid (HX.out.later hb)
    have HBn := Lib.hid (HB.out.trans (hb.mono HB.out.size))
    clear hb HY HT HX HB
    have HY := HYn
    have HT := HTn
    have HX := HXn
    have HB := HBn
    clear HYn HTn HXn HBn
    clear y0 y1 y2 y3 q0 q1 q2 q3 q4 q5 q6 q7 k0 k1 k2 k3 k4 k5
    have x0 := HT.out.c0
    have x1 := HT.out.c1
    have x2 := HT.out.c2
    have x3 := HT.out.c3
    have x4 := HT.out.c4
    have x5 := HT.out.c5
    have x6 := HT.out.c6
    have x7 := HT.out.c7
    go_wp2_with (refine wpList_store_state (by rfl) (.tmp 6) (.tmp 45) (by rfl) (w.heap.size + 1 + 1) _ s (by rfl) (by rfl) HX.out ?_)
    intro WE hE hbE
    have z0 := hE.c0
    have z1 := hE.c1
    have z2 := hE.c2
    have z3 := hE.c3
    have z4 := hE.c4
    have z5 := hE.c5
    have z6 := hE.c6
    have z7 := hE.c7
    go_wp2
    exact bodyPost_ret (v := .tuple #[staV s, .int .i64 0, .bool false]) (by simp [results, Try.results36, go_sem, z0, z1, z2, z3, z4, z5, z6, z7, staV]) rfl ⟨by rw [HE.out.1, HE.out.2.1, HE.out.2.2], HB.out.trans (hbE _ (by omega))⟩
  rw [Bool.not_eq_true] at g3
  have G3 := Lib.hid g3
  rw [g3]
  clear g3
  by_cases g4 : (nth I.l 0).u < s.time + d
  · skip
    have HE := Lib.hid (move_no (I := I) (s := s) (j := 0) (fun hc => by have h := HCE.out.1 hc; exact (by have := h.2.2.2.2.2; rw [HD0.out] at g4; unfold comeS at this; rw [show farS1 I s 0 = farF (stp I s.pos) (stp I 0) from rfl] at g4; omega)))
    have b4 := decide_eq_true g4
    clear g4
    go_wp2_with fail
    go_quiet (fail)
    have hb := below_drewN (Below.refl w1.heap.size w1) nq
    generalize w1.drewN nq = w2 at *
    have HYn := Lib.hid (HY.out.later hb)
    have HTn := Lib.hid (HT.out.later hb)
    have HXn := Lib.hid (HX.out.later hb)
    have HBn := Lib.hid (HB.out.trans (hb.mono HB.out.size))
    clear hb HY HT HX HB
    have HY := HYn
    have HT := HTn
    have HX := HXn
    have HB := HBn
    clear HYn HTn HXn HBn
    clear y0 y1 y2 y3 q0 q1 q2 q3 q4 q5 q6 q7 k0 k1 k2 k3 k4 k5
    have x0 := HT.out.c0
    have x1 := HT.out.c1
    have x2 := HT.out.c2
    have x3 := HT.out.c3
    have x4 := HT.out.c4
    have x5 := HT.out.c5
    have x6 := HT.out.c6
    have x7 := HT.out.c7
    go_wp2_with (refine wpList_store_state (by rfl) (.tmp 6) (.tmp 45) (by rfl) (w.heap.size + 1 + 1) _ s (by rfl) (by rfl) HX.out ?_)
    intro WE hE hbE
    have z0 := hE.c0
    have z1 := hE.c1
    have z2 := hE.c2
    have z3 := hE.c3
    have z4 := hE.c4
    have z5 := hE.c5
    have z6 := hE.c6
    have z7 := hE.c7
    go_wp2
    exact bodyPost_ret (v := .tuple #[staV s, .int .i64 0, .bool false]) (by simp [results, Try.results36, go_sem, z0, z1, z2, z3, z4, z5, z6, z7, staV]) rfl ⟨by rw [HE.out.1, HE.out.2.1, HE.out.2.2], HB.out.trans (hbE _ (by omega))⟩
  have G4 := Lib.hid g4
  have b4 := decide_eq_false g4
  clear g4
  have HE := Lib.hid (move_yes (I := I) (s := s) (j := 0) (HCE.out.2 ⟨rfl, G0.out, G1.out, by have := G2.out; omega, G3.out, by have := G4.out; rw [HD0.out] at this; unfold comeS; rw [show farS1 I s 0 = farF (stp I s.pos) (stp I 0) from rfl] at this; omega⟩))
  have HN := Lib.hid (next_home (I := I) (s := s))
  go_wp2_with fail
  go_quiet (fail)
  have hb := below_drewN (Below.refl w1.heap.size w1) nq
  generalize w1.drewN nq = w2 at *
  have HYn := Lib.hid (HY.out.later hb)
  have HTn := Lib.hid (HT.out.later hb)
  have HXn := Lib.hid (HX.out.later hb)
  have HBn := Lib.hid (HB.out.trans (hb.mono HB.out.size))
  clear hb HY HT HX HB
  have HY := HYn
  have HT := HTn
  have HX := HXn
  have HB := HBn
  clear HYn HTn HXn HBn
  clear y0 y1 y2 y3 q0 q1 q2 q3 q4 q5 q6 q7 k0 k1 k2 k3 k4 k5 b0 b1 b2 b4
  obtain ⟨k0, k1, k2, k3, k4, k5⟩ := HKT.out.below HLT.out HB.out
  clear k0 k1 k2 k4 k5
  have q0 := (HT.out).c0
  have q1 := (HT.out).c1
  have q2 := (HT.out).c2
  have q3 := (HT.out).c3
  have q4 := (HT.out).c4
  have q5 := (HT.out).c5
  have q6 := (HT.out).c6
  have q7 := (HT.out).c7
  have y3 := HY.out.cells.2.2.2
  have hY3 : ∀ o, (w2.alloc o).cell? ⟨w.heap.size, 3, none⟩ = some (.slice (some ⟨tb, off, none⟩) I.l.length cap) := fun o => (((Below.refl w2.heap.size w2).alloc (Nat.le_refl _) o).cell (World.block_lt_of_cell? _ _ y3)).trans y3
  have hT1 : ∀ o, (w2.alloc o).cell? ⟨w.heap.size + 1, 1, none⟩ = some (.int .i64 s.car) := fun o => (((Below.refl w2.heap.size w2).alloc (Nat.le_refl _) o).cell (World.block_lt_of_cell? _ _ q1)).trans q1
  have hK3 : ∀ o, (w2.alloc o).cell? ⟨tb, off + 3, none⟩ = some (.int .i64 (nth I.l 0).r) := fun o => (((Below.refl w2.heap.size w2).alloc (Nat.le_refl _) o).cell (World.block_lt_of_cell? _ _ k3)).trans k3
  go_upto_region 9 with fail
  have HXn := Lib.hid (HX.out.later ((Below.refl _ w2).alloc (Nat.le_refl _) (boxSt (homeS I s))))
  have HBn := Lib.hid (HB.out.alloc HB.out.size (boxSt (homeS I s)))
  have HTn := Lib.hid (st_new w2 (homeS I s))
  clear HX HB HT HY hY3 hT1 hK3 y3 q0 q1 q2 q3 q4 q5 q6 q7 k3
  have HX := HXn
  have HB := HBn
  have HT := HTn
  clear HXn HBn HTn
  change Code.wp _ _ _ _ (w2.alloc (boxSt (homeS I s)))
  generalize w2.alloc (boxSt (homeS I s)) = W3 at *
  generalize w2.heap.size = bm at *
  have x0 := HT.out.c0
  have x1 := HT.out.c1
  have x2 := HT.out.c2
  have x3 := HT.out.c3
  have x4 := HT.out.c4
  have x5 := HT.out.c5
  have x6 := HT.out.c6
  have x7 := HT.out.c7
  go_wp2_with (refine wpList_store_state (by rfl) (.tmp 6) (.tmp 59) (by rfl) (w.heap.size + 1 + 1) _ (homeS I s) (by rfl) (by rfl) HX.out ?_)
  intro WE hE hbE
  have z0 := hE.c0
  have z1 := hE.c1
  have z2 := hE.c2
  have z3 := hE.c3
  have z4 := hE.c4
  have z5 := hE.c5
  have z6 := hE.c6
  have z7 := hE.c7
  go_wp2
  exact bodyPost_ret (v := .tuple #[staV (homeS I s), .int .i64 d, .bool true]) (by simp [results, Try.results36, go_sem, z0, z1, z2, z3, z4, z5, z6, z7, staV]) rfl ⟨by rw [HE.out.1, HE.out.2.1, HE.out.2.2, HN.out, HD0.out], HB.out.trans (hbE _ (by omega))⟩
set_option maxRecDepth 1000000 in
set_option maxHeartbeats 4000000 in
theorem dvisit_any {w : World} {v : Value} {I : Ins} {s : Sta} {j b : Int} (hr : SRow w v I.l) (hs : SetsOk s) (hg : GoOn I s) (hj : 1 ≤ j ∧ j ≤ 2 * I.p) (hb0 : b = begS I s j) (hpos : I.p < j → s.pos ≠ 0) :
    Calls Try.prog 38 #[insV I v, staV s, .int .i64 j, .int .i64 b] w fun e w' => e = .returned (staV (visitS I s j)) ∧ Below w.heap.size w w' := by
  have HG := Lib.hid hg
  have hj0 : 0 ≤ j ∧ j ≤ 2 * I.p := by omega
  have b1 := beg_bd hg hj0
  have b2 := stop_in ((fine_of hg.1).ok j hj0.1 hj0.2)
  have b3 := dem_bd hg.1 hj0
  have b4 := (goOn_bd hg).2.2.2
  rw [← hb0] at b1
  have hp0 := (fine_of hg.1).p0
  have hp1 := (fine_of hg.1).p1
  have e1 : IntKind.i64.wrap (b + (stp I j).s) = b + (stp I j).s := IntWalk.i64_in _ (by omega)
  have e2 : IntKind.i64.wrap (s.load + (stp I j).d) = s.load + (stp I j).d := IntWalk.i64_in _ (by omega)
  have e3 : IntKind.i64.wrap (j - I.p) = j - I.p := IntWalk.i64_in _ (by omega)
  have HTK := Lib.hid (show j ≤ I.p → 0 ≤ s.load + (stp I j).d from fun h => by have := (fine_of hg.1).take j hj.1 h; omega)
  have HP := Lib.hid hpos
  have HV := Lib.hid (show visitS I s j = ⟨j, s.car, b + (stp I j).s, max (s.load + (stp I j).d) 0, if s.pos = 0 then j else s.first, s.must ||| bitN j, s.may ||| bitN j, if j ≤ I.p then s.on ||| bitN j else minus s.on (bitN (j - I.p))⟩ by rw [hb0]; rfl)
  clear b1 b2 b3 b4 hp0 hp1 hpos hb0
  obtain ⟨k, rfl, hk, ek⟩ := num_stop hg.1 hj0
  rw [ek] at e1 e2 HV HTK
  obtain ⟨ad, cap, rfl, hlm, _⟩ := hr.form
  obtain ⟨tb, off, rfl, hkt, hlt0⟩ := srow_at hr k hk
  have HKT := Lib.hid hkt
  have HLT := Lib.hid hlt0
  have hki : (k : Int) < (I.l.length : Int) := by omega
  have HR := Lib.hid hr
  have HS := Lib.hid hs
  clear hg hj0 hj hkt hlt0 ek hk hr hs
  generalize nth I.l k = t at *
  unfold insV
  rw [show staV s = .agg #[.int .i64 s.pos, .int .i64 s.car, .int .i64 s.time, .int .i64 s.load, .int .i64 s.first, .int .u64 s.must, .int .u64 s.may, .int .u64 s.on] from rfl]
  go_enter Try.func38, Try.ntmps38
  go_upto_region 1 with fail
  obtain ⟨b1, b2, b3, b4⟩ := boxes_ans w I (.slice (some ⟨tb, off, none⟩) I.l.length cap) s
  have HY := Lib.hid b1
  have HT := Lib.hid b2
  have HX := Lib.hid b3
  have HB := Lib.hid b4
  clear b1 b2 b3 b4
  change Code.wp _ _ _ _ (((w.alloc (boxI I (.slice (some ⟨tb, off, none⟩) I.l.length cap))).alloc (boxSt s)).alloc (boxSt noughtS))
  generalize ((w.alloc (boxI I (.slice (some ⟨tb, off, none⟩) I.l.length cap))).alloc (boxSt s)).alloc (boxSt noughtS) = W at *
  obtain ⟨k0, k1, k2, k3, k4, k5⟩ := HKT.out.below HLT.out HB.out
  clear k0 k1 k3 k4
  have y0 := (HY.out).cells.1
  have y1 := (HY.out).cells.2.1
  have y2 := (HY.out).cells.2.2.1
  have y3 := (HY.out).cells.2.2.2
  have q0 := (HT.out).c0
  have q1 := (HT.out).c1
  have q2 := (HT.out).c2
  have q3 := (HT.out).c3
  have q4 := (HT.out).c4
  have q5 := (HT.out).c5
  have q6 := (HT.out).c6
  have q7 := (HT.out).c7
  have hY0 : ∀ o, (W.alloc o).cell? ⟨w.heap.size, 0, none⟩ = some (.int .i64 I.p) := fun o => (((Below.refl W.heap.size W).alloc (Nat.le_refl _) o).cell (World.block_lt_of_cell? _ _ y0)).trans y0
  have hY3 : ∀ o, (W.alloc o).cell? ⟨w.heap.size, 3, none⟩ = some (.slice (some ⟨tb, off, none⟩) I.l.length cap) := fun o => (((Below.refl W.heap.size W).alloc (Nat.le_refl _) o).cell (World.block_lt_of_cell? _ _ y3)).trans y3
  have hT0 : ∀ o, (W.alloc o).cell? ⟨w.heap.size + 1, 0, none⟩ = some (.int .i64 s.pos) := fun o => (((Below.refl W.heap.size W).alloc (Nat.le_refl _) o).cell (World.block_lt_of_cell? _ _ q0)).trans q0
  have hT3 : ∀ o, (W.alloc o).cell? ⟨w.heap.size + 1, 3, none⟩ = some (.int .i64 s.load) := fun o => (((Below.refl W.heap.size W).alloc (Nat.le_refl _) o).cell (World.block_lt_of_cell? _ _ q3)).trans q3
  have hT5 : ∀ o, (W.alloc o).cell? ⟨w.heap.size + 1, 5, none⟩ = some (.int .u64 s.must) := fun o => (((Below.refl W.heap.size W).alloc (Nat.le_refl _) o).cell (World.block_lt_of_cell? _ _ q5)).trans q5
  have hT6 : ∀ o, (W.alloc o).cell? ⟨w.heap.size + 1, 6, none⟩ = some (.int .u64 s.may) := fun o => (((Below.refl W.heap.size W).alloc (Nat.le_refl _) o).cell (World.block_lt_of_cell? _ _ q6)).trans q6
  have hT7 : ∀ o, (W.alloc o).cell? ⟨w.heap.size + 1, 7, none⟩ = some (.int .u64 s.on) := fun o => (((Below.refl W.heap.size W).alloc (Nat.le_refl _) o).cell (World.block_lt_of_cell? _ _ q7)).trans q7
  have hK2 : ∀ o, (W.alloc o).cell? ⟨tb, off + k * 6 + 2, none⟩ = some (.int .i64 t.d) := fun o => (((Below.refl W.heap.size W).alloc (Nat.le_refl _) o).cell (World.block_lt_of_cell? _ _ k2)).trans k2
  have hK5 : ∀ o, (W.alloc o).cell? ⟨tb, off + k * 6 + 5, none⟩ = some (.int .i64 t.s) := fun o => (((Below.refl W.heap.size W).alloc (Nat.le_refl _) o).cell (World.block_lt_of_cell? _ _ k5)).trans k5
  go_upto_region 4 with fail
  go_region
  clear e1 e2 k2 k5 hK2 hK5 hY3 hT3 y1 y2 y3 q1 q2 q3 q4 q5 q6 q7 hki
  by_cases hkp : (k : Int) ≤ I.p
  · have d1 := decide_eq_true hkp
    have htk := HTK.out hkp
    have d2 : decide (s.load + t.d < 0) = false := decide_eq_false (by omega)
    have hm1 : max (s.load + t.d) 0 = s.load + t.d := by omega
    by_cases hpz : s.pos = 0
    · have b0 : (s.pos == 0) = true := by simp [hpz]
      have HE := Lib.hid (show visitS I s k = ⟨(k : Int), s.car, b + t.s, s.load + t.d, (k : Int), s.must ||| bitN (k : Int), s.may ||| bitN (k : Int), s.on ||| bitN (k : Int)⟩ by rw [HV.out, hm1, if_pos hpz, if_pos hkp])
      go_wp2_with fail
      refine (erwith_any _ _ _ HS.out.1).mono ?_
      rintro e w9 ⟨rfl, rfl⟩
      go_wp2_with fail
      refine (erwith_any _ _ _ HS.out.2.1).mono ?_
      rintro e w9 ⟨rfl, rfl⟩
      go_wp2_with fail
      refine (erwith_any _ _ _ HS.out.2.2).mono ?_
      rintro e w9 ⟨rfl, rfl⟩
      have HX6 := Lib.hid ((HX.out.later ((Below.refl _ W).alloc (Nat.le_refl _) (boxSt ⟨(k : Int), s.car, b + t.s, s.load + t.d, (k : Int), s.must ||| bitN (k : Int), s.may ||| bitN (k : Int), s.on ||| bitN (k : Int)⟩))).later (Below.refl _ _).drew)
      have HB6 := Lib.hid (HB.out.alloc HB.out.size (boxSt ⟨(k : Int), s.car, b + t.s, s.load + t.d, (k : Int), s.must ||| bitN (k : Int), s.may ||| bitN (k : Int), s.on ||| bitN (k : Int)⟩)).drew
      go_wp2_with (refine wpList_store_state (by rfl) (.tmp 8) (.tmp 68) (by rfl) (w.heap.size + 1 + 1) _ ⟨(k : Int), s.car, b + t.s, s.load + t.d, (k : Int), s.must ||| bitN (k : Int), s.may ||| bitN (k : Int), s.on ||| bitN (k : Int)⟩ (by rfl) (by rfl) HX6.out ?_)
      intro WE hE hbE
      have z0 := hE.c0
      have z1 := hE.c1
      have z2 := hE.c2
      have z3 := hE.c3
      have z4 := hE.c4
      have z5 := hE.c5
      have z6 := hE.c6
      have z7 := hE.c7
      go_wp2
      exact bodyPost_ret (v := staV ⟨(k : Int), s.car, b + t.s, s.load + t.d, (k : Int), s.must ||| bitN (k : Int), s.may ||| bitN (k : Int), s.on ||| bitN (k : Int)⟩) (by simp [results, Try.results38, go_sem, z0, z1, z2, z3, z4, z5, z6, z7, staV]) rfl ⟨by rw [HE.out], HB6.out.trans (hbE _ (by omega))⟩
    · have b0 : (s.pos == 0) = false := by simp [hpz]
      have HE := Lib.hid (show visitS I s k = ⟨(k : Int), s.car, b + t.s, s.load + t.d, s.first, s.must ||| bitN (k : Int), s.may ||| bitN (k : Int), s.on ||| bitN (k : Int)⟩ by rw [HV.out, hm1, if_neg hpz, if_pos hkp])
      go_wp2_with fail
      refine (erwith_any _ _ _ HS.out.1).mono ?_
      rintro e w9 ⟨rfl, rfl⟩
      go_wp2_with fail
      refine (erwith_any _ _ _ HS.out.2.1).mono ?_
      rintro e w9 ⟨rfl, rfl⟩
      go_wp2_with fail
      refine (erwith_any _ _ _ HS.out.2.2).mono ?_
      rintro e w9 ⟨rfl, rfl⟩
      have HX6 := Lib.hid ((HX.out.later ((Below.refl _ W).alloc (Nat.le_refl _) (boxSt ⟨(k : Int), s.car, b + t.s, s.load + t.d, s.first, s.must ||| bitN (k : Int), s.may ||| bitN (k : Int), s.on ||| bitN (k : Int)⟩))).later (Below.refl _ _).drew)
      have HB6 := Lib.hid (HB.out.alloc HB.out.size (boxSt ⟨(k : Int), s.car, b + t.s, s.load + t.d, s.first, s.must ||| bitN (k : Int), s.may ||| bitN (k : Int), s.on ||| bitN (k : Int)⟩)).drew
      go_wp2_with (refine wpList_store_state (by rfl) (.tmp 8) (.tmp 68) (by rfl) (w.heap.size + 1 + 1) _ ⟨(k : Int), s.car, b + t.s, s.load + t.d, s.first, s.must ||| bitN (k : Int), s.may ||| bitN (k : Int), s.on ||| bitN (k : Int)⟩ (by rfl) (by rfl) HX6.out ?_)
      intro WE hE hbE
      have z0 := hE.c0
      have z1 := hE.c1
      have z2 := hE.c2
      have z3 := hE.c3
      have z4 := hE.c4
      have z5 := hE.c5
      have z6 := hE.c6
      have z7 := hE.c7
      go_wp2
      exact bodyPost_ret (v := staV ⟨(k : Int), s.car, b + t.s, s.load + t.d, s.first, s.must ||| bitN (k : Int), s.may ||| bitN (k : Int), s.on ||| bitN (k : Int)⟩) (by simp [results, Try.results38, go_sem, z0, z1, z2, z3, z4, z5, z6, z7, staV]) rfl ⟨by rw [HE.out], HB6.out.trans (hbE _ (by omega))⟩
  have d1 := decide_eq_false hkp
  have hpz := HP.out (by omega)
  have b0 : (s.pos == 0) = false := by simp [hpz]
  by_cases hlo : s.load + t.d < 0
  · have d2 := decide_eq_true hlo
    have hm1 : max (s.load + t.d) 0 = 0 := by omega
    have HE := Lib.hid (show visitS I s k = ⟨(k : Int), s.car, b + t.s, 0, s.first, s.must ||| bitN (k : Int), s.may ||| bitN (k : Int), minus s.on (bitN ((k : Int) - I.p))⟩ by rw [HV.out, hm1, if_neg hpz, if_neg hkp])
    go_wp2_with fail
    refine (erwith_any _ _ _ HS.out.1).mono ?_
    rintro e w9 ⟨rfl, rfl⟩
    go_wp2_with fail
    refine (erwith_any _ _ _ HS.out.2.1).mono ?_
    rintro e w9 ⟨rfl, rfl⟩
    go_wp2_with fail
    refine (erwithout_any _ _ _ HS.out.2.2).mono ?_
    rintro e w9 ⟨rfl, rfl⟩
    have HX6 := Lib.hid ((HX.out.later ((Below.refl _ W).alloc (Nat.le_refl _) (boxSt ⟨(k : Int), s.car, b + t.s, 0, s.first, s.must ||| bitN (k : Int), s.may ||| bitN (k : Int), minus s.on (bitN ((k : Int) - I.p))⟩))).later (Below.refl _ _).drew)
    have HB6 := Lib.hid (HB.out.alloc HB.out.size (boxSt ⟨(k : Int), s.car, b + t.s, 0, s.first, s.must ||| bitN (k : Int), s.may ||| bitN (k : Int), minus s.on (bitN ((k : Int) - I.p))⟩)).drew
    go_wp2_with (refine wpList_store_state (by rfl) (.tmp 8) (.tmp 68) (by rfl) (w.heap.size + 1 + 1) _ ⟨(k : Int), s.car, b + t.s, 0, s.first, s.must ||| bitN (k : Int), s.may ||| bitN (k : Int), minus s.on (bitN ((k : Int) - I.p))⟩ (by rfl) (by rfl) HX6.out ?_)
    intro WE hE hbE
    have z0 := hE.c0
    have z1 := hE.c1
    have z2 := hE.c2
    have z3 := hE.c3
    have z4 := hE.c4
    have z5 := hE.c5
    have z6 := hE.c6
    have z7 := hE.c7
    go_wp2
    exact bodyPost_ret (v := staV ⟨(k : Int), s.car, b + t.s, 0, s.first, s.must ||| bitN (k : Int), s.may ||| bitN (k : Int), minus s.on (bitN ((k : Int) - I.p))⟩) (by simp [results, Try.results38, go_sem, z0, z1, z2, z3, z4, z5, z6, z7, staV]) rfl ⟨by rw [HE.out], HB6.out.trans (hbE _ (by omega))⟩
  have d2 := decide_eq_false hlo
  have hm1 : max (s.load + t.d) 0 = s.load + t.d := by omega
  have HE := Lib.hid (show visitS I s k = ⟨(k : Int), s.car, b + t.s, s.load + t.d, s.first, s.must ||| bitN (k : Int), s.may ||| bitN (k : Int), minus s.on (bitN ((k : Int) - I.p))⟩ by rw [HV.out, hm1, if_neg hpz, if_neg hkp])
  go_wp2_with fail
  refine (erwith_any _ _ _ HS.out.1).mono ?_
  rintro e w9 ⟨rfl, rfl⟩
  go_wp2_with fail
  refine (erwith_any _ _ _ HS.out.2.1).mono ?_
  rintro e w9 ⟨rfl, rfl⟩
  go_wp2_with fail
  refine (erwithout_any _ _ _ HS.out.2.2).mono ?_
  rintro e w9 ⟨rfl, rfl⟩
  have HX6 := Lib.hid ((HX.out.later ((Below.refl _ W).alloc (Nat.le_refl _) (boxSt ⟨(k : Int), s.car, b + t.s, s.load + t.d, s.first, s.must ||| bitN (k : Int), s.may ||| bitN (k : Int), minus s.on (bitN ((k : Int) - I.p))⟩))).later (Below.refl _ _).drew)
  have HB6 := Lib.hid (HB.out.alloc HB.out.size (boxSt ⟨(k : Int), s.car, b + t.s, s.load + t.d, s.first, s.must ||| bitN (k : Int), s.may ||| bitN (k : Int), minus s.on (bitN ((k : Int) - I.p))⟩)).drew
  go_wp2_with (refine wpList_store_state (by rfl) (.tmp 8) (.tmp 68) (by rfl) (w.heap.size + 1 + 1) _ ⟨(k : Int), s.car, b + t.s, s.load + t.d, s.first, s.must ||| bitN (k : Int), s.may ||| bitN (k : Int), minus s.on (bitN ((k : Int) - I.p))⟩ (by rfl) (by rfl) HX6.out ?_)
  intro WE hE hbE
  have z0 := hE.c0
  have z1 := hE.c1
  have z2 := hE.c2
  have z3 := hE.c3
  have z4 := hE.c4
  have z5 := hE.c5
  have z6 := hE.c6
  have z7 := hE.c7
  go_wp2
  exact bodyPost_ret (v := staV ⟨(k : Int), s.car, b + t.s, s.load + t.d, s.first, s.must ||| bitN (k : Int), s.may ||| bitN (k : Int), minus s.on (bitN ((k : Int) - I.p))⟩) (by simp [results, Try.results38, go_sem, z0, z1, z2, z3, z4, z5, z6, z7, staV]) rfl ⟨by rw [HE.out], HB6.out.trans (hbE _ (by omega))⟩
end Go.Proofs.Ytipjaibemhoifaa
