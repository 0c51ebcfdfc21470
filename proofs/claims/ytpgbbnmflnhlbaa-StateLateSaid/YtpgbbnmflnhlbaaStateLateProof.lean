/- A move that can be made can be made sooner -/
import Derived.Test.YtpgbbnmflnhlbaaOrd
import Derived.Test.YtpgbbnmflnhlbaaRows
import Derived.Test.YtpgbbnmflnhlbaaSAwake
namespace Go.Proofs.Ytpgbbnmflnhlbaa.stateLate
open Go.ChangeShapes Go.WideShapes Go.ChangeAt Go.RowKit

set_option maxRecDepth 1000000 in
set_option maxHeartbeats 4000000 in
theorem walk (I0 : Ins) (v0 : Value) (s1 : Sta) (a2 : Int) (a3 : Int) (a4 : Int) (w : World) (e0 : SRow w v0 I0.l) (e1 : SetsOk s1) :
    Calls Try.prog 21 #[insV I0 v0, staV s1, .int .i64 a2, .int .i64 a3, .int .i64 a4] w fun e w' => e = .returned (.bool true) ∧ Below w.heap.size w w' := by
  have HR := Lib.hid e0
  have HS := Lib.hid e1
  obtain ⟨ad, cap, rfl, hlm, _⟩ := e0.form
  clear e0 e1
  unfold insV
  rw [show staV s1 = .agg #[.int .i64 s1.pos, .int .i64 s1.car, .int .i64 s1.time, .int .i64 s1.load, .int .i64 s1.first, .int .u64 s1.must, .int .u64 s1.may, .int .u64 s1.on] from rfl]
  go_enter Try.func21, Try.ntmps21
  go_wp2_with fail
  obtain ⟨b1, b2, b3⟩ := boxes_two w I0 (.slice ad I0.l.length cap) s1
  have HY := Lib.hid b1
  have HT := Lib.hid b2
  have HB := Lib.hid b3
  clear b1 b2 b3
  change Calls _ _ _ ((w.alloc (boxI I0 (.slice ad I0.l.length cap))).alloc (boxSt s1)) _
  generalize (w.alloc (boxI I0 (.slice ad I0.l.length cap))).alloc (boxSt s1) = W at *
  refine (sawake_any _).mono ?_
  rintro e w1 ⟨rfl, hb⟩
  have HYn := Lib.hid (HY.out.later hb)
  have HTn := Lib.hid (HT.out.later hb)
  have HBn := Lib.hid (HB.out.trans (hb.mono HB.out.size))
  clear hb HY HT HB
  have HY := HYn
  have HT := HTn
  have HB := HBn
  clear HYn HTn HBn
  obtain ⟨y0, y1, y2, y3⟩ := HY.out.cells
  have q0 := HT.out.c0
  have q1 := HT.out.c1
  have q2 := HT.out.c2
  have q3 := HT.out.c3
  have q4 := HT.out.c4
  have q5 := HT.out.c5
  have q6 := HT.out.c6
  have q7 := HT.out.c7
  go_wp2_with fail
  clear y0 y1 y2 y3 q0 q1 q2 q3 q4 q5 q6 q7
  change Calls _ _ #[insV I0 (.slice ad I0.l.length cap), staV s1, _] _ _
  refine (smove_any (HR.out.below HB.out) HS.out).mono ?_
  rintro e w2 ⟨rfl, hb⟩
  have HYn := Lib.hid (HY.out.later hb)
  have HTn := Lib.hid (HT.out.later hb)
  have HBn := Lib.hid (HB.out.trans (hb.mono HB.out.size))
  clear hb HY HT HB
  have HY := HYn
  have HT := HTn
  have HB := HBn
  clear HYn HTn HBn
  obtain ⟨po, ca, ti, lo, fi, mu, ma, on, HM0⟩ : ∃ po ca ti lo fi mu ma on, moveS I0 s1 a2 = ⟨po, ca, ti, lo, fi, mu, ma, on⟩ := ⟨_, _, _, _, _, _, _, _, rfl⟩
  rw [HM0]
  have HM := Lib.hid HM0
  clear HM0
  unfold staV
  go_upto_region 3 with fail
  have HU := Lib.hid (st_new w2 ⟨po, ca, ti, lo, fi, mu, ma, on⟩)
  have HYn := Lib.hid (HY.out.later ((Below.refl _ w2).alloc (Nat.le_refl _) (boxSt ⟨po, ca, ti, lo, fi, mu, ma, on⟩)))
  have HTn := Lib.hid (HT.out.later ((Below.refl _ w2).alloc (Nat.le_refl _) (boxSt ⟨po, ca, ti, lo, fi, mu, ma, on⟩)))
  have HBn := Lib.hid (HB.out.alloc HB.out.size (boxSt ⟨po, ca, ti, lo, fi, mu, ma, on⟩))
  clear HY HT HB
  have HY := HYn
  have HT := HTn
  have HB := HBn
  clear HYn HTn HBn
  change Code.wp _ _ _ _ (w2.alloc (boxSt ⟨po, ca, ti, lo, fi, mu, ma, on⟩))
  generalize w2.alloc (boxSt ⟨po, ca, ti, lo, fi, mu, ma, on⟩) = W3 at *
  generalize w2.heap.size = bm at *
  have y3 := HY.out.cells.2.2.2
  have q2 := HT.out.c2
  have q3 := HT.out.c3
  by_cases g1 : 33 < I0.l.length
  · have d1 : decide (33 < (I0.l.length : Int)) = true := decide_eq_true (by omega)
    have d2 := decide_eq_true g1
    clear g1
    go_wp2
    go_ret
    exact ⟨rfl, HB.out⟩
  have d1 : decide (33 < (I0.l.length : Int)) = false := decide_eq_false (by omega)
  have d2 := decide_eq_false g1
  clear g1
  by_cases hcan : Can I0 s1 a2
  rotate_left
  · rw [decide_eq_false hcan]
    clear hcan
    go_wp2
    go_ret
    exact ⟨rfl, HB.out⟩
  rw [decide_eq_true hcan]
  have HC := Lib.hid hcan
  have HCM := Lib.hid (move_yes hcan)
  clear hcan
  by_cases g3 : a3 < 0
  · have d3 := decide_eq_true g3
    clear g3
    go_wp2
    go_ret
    exact ⟨rfl, HB.out⟩
  have d3 := decide_eq_false g3
  by_cases g4 : a4 < 0
  · have d4 := decide_eq_true g4
    clear g3 g4
    go_wp2
    go_ret
    exact ⟨rfl, HB.out⟩
  have d4 := decide_eq_false g4
  by_cases g5 : s1.time < a3
  · have d5 := decide_eq_true g5
    clear g3 g4 g5
    go_wp2
    go_ret
    exact ⟨rfl, HB.out⟩
  have d5 := decide_eq_false g5
  by_cases g6 : s1.load < a4
  · have d6 := decide_eq_true g6
    clear g3 g4 g5 g6
    go_wp2
    go_ret
    exact ⟨rfl, HB.out⟩
  have d6 := decide_eq_false g6
  have HL := Lib.hid (late HC.out (u := a3) (v := a4) (by omega) (by omega))
  have hbd := goOn_bd HC.out.1
  have e1 : IntKind.i64.wrap (s1.time - a3) = s1.time - a3 := IntWalk.i64_in _ (by omega)
  have e2 : IntKind.i64.wrap (s1.load - a4) = s1.load - a4 := IntWalk.i64_in _ (by omega)
  clear g3 g4 g5 g6 hbd
  have q0 := HT.out.c0
  have q1 := HT.out.c1
  have q4 := HT.out.c4
  have q5 := HT.out.c5
  have q6 := HT.out.c6
  have q7 := HT.out.c7
  have hxl := HT.out.lt
  go_upto_region 8 with fail
  clear hxl y3 q0 q1 q2 q3 q4 q5 q6 q7 d1 d2 d3 d4 d5 d6 e1 e2
  have HA := Lib.hid (st_new W3 ⟨s1.pos, s1.car, s1.time - a3, s1.load - a4, s1.first, s1.must, s1.may, s1.on⟩)
  have HYn := Lib.hid (HY.out.later ((Below.refl _ W3).alloc (Nat.le_refl _) (boxSt ⟨s1.pos, s1.car, s1.time - a3, s1.load - a4, s1.first, s1.must, s1.may, s1.on⟩)))
  have HTn := Lib.hid (HT.out.later ((Below.refl _ W3).alloc (Nat.le_refl _) (boxSt ⟨s1.pos, s1.car, s1.time - a3, s1.load - a4, s1.first, s1.must, s1.may, s1.on⟩)))
  have HUn := Lib.hid (HU.out.later ((Below.refl _ W3).alloc (Nat.le_refl _) (boxSt ⟨s1.pos, s1.car, s1.time - a3, s1.load - a4, s1.first, s1.must, s1.may, s1.on⟩)))
  have HBn := Lib.hid (HB.out.alloc HB.out.size (boxSt ⟨s1.pos, s1.car, s1.time - a3, s1.load - a4, s1.first, s1.must, s1.may, s1.on⟩))
  clear HY HT HU HB
  have HY := HYn
  have HT := HTn
  have HU := HUn
  have HB := HBn
  clear HYn HTn HUn HBn
  change Code.wp _ _ _ _ (W3.alloc (boxSt ⟨s1.pos, s1.car, s1.time - a3, s1.load - a4, s1.first, s1.must, s1.may, s1.on⟩))
  generalize W3.alloc (boxSt ⟨s1.pos, s1.car, s1.time - a3, s1.load - a4, s1.first, s1.must, s1.may, s1.on⟩) = W4 at *
  generalize W3.heap.size = ba at *
  obtain ⟨y0, y1, y2, y3⟩ := HY.out.cells
  have q0 := HA.out.c0
  have q1 := HA.out.c1
  have q2 := HA.out.c2
  have q3 := HA.out.c3
  have q4 := HA.out.c4
  have q5 := HA.out.c5
  have q6 := HA.out.c6
  have q7 := HA.out.c7
  go_wp2_with fail
  clear y0 y1 y2 y3 q0 q1 q2 q3 q4 q5 q6 q7
  change Calls _ _ #[insV I0 (.slice ad I0.l.length cap), staV ⟨s1.pos, s1.car, s1.time - a3, s1.load - a4, s1.first, s1.must, s1.may, s1.on⟩, _] _ _
  obtain ⟨sL, hL⟩ : ∃ x : Sta, x = ⟨s1.pos, s1.car, s1.time - a3, s1.load - a4, s1.first, s1.must, s1.may, s1.on⟩ := ⟨_, rfl⟩
  have HSL := Lib.hid (show SetsOk sL by rw [hL]; exact HS.out)
  have HF := Lib.hid (show farS1 I0 sL a2 = farS1 I0 s1 a2 by rw [hL]; rfl)
  have hl0 := HL.out
  rw [← hL] at hl0 ⊢
  have HL2 := Lib.hid hl0
  clear hl0 hL HL
  refine (smove_any (HR.out.below HB.out) HSL.out).mono ?_
  rintro e w5 ⟨rfl, hb⟩
  have HYn := Lib.hid (HY.out.later hb)
  have HTn := Lib.hid (HT.out.later hb)
  have HUn := Lib.hid (HU.out.later hb)
  have HAn := Lib.hid (HA.out.later hb)
  have HBn := Lib.hid (HB.out.trans (hb.mono HB.out.size))
  clear hb HY HT HU HA HB
  have HY := HYn
  have HT := HTn
  have HU := HUn
  have HA := HAn
  have HB := HBn
  clear HYn HTn HUn HAn HBn
  rw [decide_eq_true HL2.out.1, (move_yes HL2.out.1).1, (move_yes HL2.out.1).2.1, HCM.out.2.1, HF.out]
  have HQ := Lib.hid (show nextS I0 s1 a2 = ⟨po, ca, ti, lo, fi, mu, ma, on⟩ from HCM.out.1.symm.trans HM.out)
  have hl := HL2.out.2
  rw [HQ.out] at hl
  obtain ⟨xpo, xca, xti, xlo, xfi, xmu, xma, xon, HM20⟩ : ∃ xpo xca xti xlo xfi xmu xma xon, nextS I0 sL a2 = ⟨xpo, xca, xti, xlo, xfi, xmu, xma, xon⟩ := ⟨_, _, _, _, _, _, _, _, rfl⟩
  rw [HM20]
  have HM2 := Lib.hid HM20
  clear HM20
  rw [HM2.out] at hl
  simp only at hl
  obtain ⟨l1, l2, l3, l4⟩ := hl
  subst l3 l4
  have d1 := decide_eq_true l1
  have d2 := decide_eq_true l2
  clear l1 l2
  unfold staV
  go_upto_region 9 with fail
  have HV := Lib.hid (st_new w5 ⟨xpo, xca, xti, xlo, xfi, xmu, xma, xon⟩)
  have HYn := Lib.hid (HY.out.later ((Below.refl _ w5).alloc (Nat.le_refl _) (boxSt ⟨xpo, xca, xti, xlo, xfi, xmu, xma, xon⟩)))
  have HTn := Lib.hid (HT.out.later ((Below.refl _ w5).alloc (Nat.le_refl _) (boxSt ⟨xpo, xca, xti, xlo, xfi, xmu, xma, xon⟩)))
  have HUn := Lib.hid (HU.out.later ((Below.refl _ w5).alloc (Nat.le_refl _) (boxSt ⟨xpo, xca, xti, xlo, xfi, xmu, xma, xon⟩)))
  have HAn := Lib.hid (HA.out.later ((Below.refl _ w5).alloc (Nat.le_refl _) (boxSt ⟨xpo, xca, xti, xlo, xfi, xmu, xma, xon⟩)))
  have HBn := Lib.hid (HB.out.alloc HB.out.size (boxSt ⟨xpo, xca, xti, xlo, xfi, xmu, xma, xon⟩))
  clear HY HT HU HA HB
  have HY := HYn
  have HT := HTn
  have HU := HUn
  have HA := HAn
  have HB := HBn
  clear HYn HTn HUn HAn HBn
  change Code.wp _ _ _ _ (w5.alloc (boxSt ⟨xpo, xca, xti, xlo, xfi, xmu, xma, xon⟩))
  generalize w5.alloc (boxSt ⟨xpo, xca, xti, xlo, xfi, xmu, xma, xon⟩) = W6 at *
  generalize w5.heap.size = bv at *
  have q0 := HU.out.c0
  have q1 := HU.out.c1
  have q2 := HU.out.c2
  have q3 := HU.out.c3
  have q4 := HU.out.c4
  have q5 := HU.out.c5
  have q6 := HU.out.c6
  have q7 := HU.out.c7
  have z0 := HV.out.c0
  have z1 := HV.out.c1
  have z2 := HV.out.c2
  have z3 := HV.out.c3
  have z4 := HV.out.c4
  have z5 := HV.out.c5
  have z6 := HV.out.c6
  have z7 := HV.out.c7
  go_wp2
  go_ret
  exact ⟨rfl, HB.out⟩

set_option maxRecDepth 100000 in
theorem lifted (os : Os) (started : os.Started) (H : Type) (enc : TypeId × Value → H) :
    ReturnsInHanded {} Try.checked os 21 .any (Rows.stateLateSpec.pre6 enc Try.prog Try.f21 Rows.stateLateRow.domain false) (Rows.stateLateSpec.post enc Try.prog Try.f21 false true false false) := by
  refine returnsInHanded_of_change (C := Try.checked) own started (by kernel_rfl) Try.func21
    (ChangeSpec.witness6 (enc := enc) (C := Try.checked) false ⟨#[], #[.agg #[.int .i64 0, .int .i64 0, .int .i64 0, .slice none 0 0], .agg #[.int .i64 0, .int .i64 0, .int .i64 0, .int .i64 0, .int .i64 0, .int .u64 0, .int .u64 0, .int .u64 0], .int .i64 0, .int .i64 0, .int .i64 0], []⟩ 8 (by kernel_rfl) (by kernel_rfl) (by kernel_rfl) (by kernel_rfl)) ?_
  intro W base args ds gs before hval0 hW hcnd _
  have hval : ∀ (j : Nat) t v, Try.f21.params[j]? = some t → args[j]? = some v → Value.okWide Try.prog W .any base t v := hval0
  have hW' := hW
  obtain ⟨p, q, hA0, hV, rfl, hfz, hnd⟩ := hW
  have hA : DataW.TrodAll enc Try.prog W 0 (fun _ => true) true Try.f21.params.toList args.toList ds p := hA0
  rw [Try.params21] at hA hval
  obtain ⟨v0, vs0, d0, ds0, p0, q0, hargs, rfl, rfl, h0, r0⟩ := trodAll_cons hA
  obtain ⟨v1, vs1, d1, ds1, p1, q1, rfl, rfl, rfl, h1, r1⟩ := trodAll_cons r0
  obtain ⟨v2, vs2, d2, ds2, p2, q2, rfl, rfl, rfl, h2, r2⟩ := trodAll_cons r1
  obtain ⟨v3, vs3, d3, ds3, p3, q3, rfl, rfl, rfl, h3, r3⟩ := trodAll_cons r2
  obtain ⟨v4, vs4, d4, ds4, p4, q4, rfl, rfl, rfl, h4, r4⟩ := trodAll_cons r3
  obtain ⟨rfl, rfl, rfl⟩ := trodAll_nil r4
  obtain rfl : args = #[v0, v1, v2, v3, v4] := by cases args; simp_all
  obtain ⟨rfl, rfl⟩ := trodVars_none hV
  have k0 := h0
  have lt0 : ∀ x ∈ p0, x.block < W.heap.size := by obtain ⟨m, hm⟩ := k0; exact DataW.trod_lt m _ _ _ hm
  have k1 := h1
  have lt1 : ∀ x ∈ p1, x.block < W.heap.size := by obtain ⟨m, hm⟩ := k1; exact DataW.trod_lt m _ _ _ hm
  have k2 := h2
  have lt2 : ∀ x ∈ p2, x.block < W.heap.size := by obtain ⟨m, hm⟩ := k2; exact DataW.trod_lt m _ _ _ hm
  have k3 := h3
  have lt3 : ∀ x ∈ p3, x.block < W.heap.size := by obtain ⟨m, hm⟩ := k3; exact DataW.trod_lt m _ _ _ hm
  have k4 := h4
  have lt4 : ∀ x ∈ p4, x.block < W.heap.size := by obtain ⟨m, hm⟩ := k4; exact DataW.trod_lt m _ _ _ hm
  obtain ⟨I0, u0, rfl, e0, _⟩ := open_inst (hval 0 26 v0 rfl rfl) h0
  obtain ⟨s1, rfl, _, e1⟩ := open_state (hval 1 55 v1 rfl rfl) h1
  obtain ⟨a2, rfl, rfl, rfl, i2⟩ := open_int Try.underlying3 (hval 2 3 v2 rfl rfl) h2
  obtain ⟨a3, rfl, rfl, rfl, i3⟩ := open_int Try.underlying3 (hval 3 3 v3 rfl rfl) h3
  obtain ⟨a4, rfl, rfl, rfl, i4⟩ := open_int Try.underlying3 (hval 4 3 v4 rfl rfl) h4
  clear hA0 hval0
  refine (walk I0 _ s1 a2 a3 a4 W e0 e1).mono fun e W' ⟨he, bel⟩ => ?_
  subst he
  exact ⟨_, rfl, _, _, _, [], _, [], hW', trodAll_mk1 (shut_bool Try.underlying4 _), (trodAll_cons_mk (Below.trod laidOut (by kernel_rfl) (of_decide_eq_true (by kernel_rfl)) k0 bel lt0) (trodAll_cons_mk (Below.trod laidOut (by kernel_rfl) (of_decide_eq_true (by kernel_rfl)) k1 bel lt1) (trodAll_cons_mk (Below.trod laidOut (by kernel_rfl) (of_decide_eq_true (by kernel_rfl)) k2 bel lt2) (trodAll_cons_mk (Below.trod laidOut (by kernel_rfl) (of_decide_eq_true (by kernel_rfl)) k3 bel lt3) (trodAll_cons_mk (Below.trod laidOut (by kernel_rfl) (of_decide_eq_true (by kernel_rfl)) k4 bel lt4) trodAll_mk0))))), rfl, bel.frame _, fun h => by cases h⟩

theorem over : Rows.stateLateRow.holds Try.pinned (OpenSpec.ofChange Rows.stateLateSpec) :=
  OpenClaim.holds_of_wide 21 Try.f21 rfl rfl rfl rfl rfl rfl rfl ⟨rfl, rfl, rfl, rfl, rfl⟩ rfl rfl rfl rfl rfl (by kernel_rfl) Try.func21 (by show joinedFacts Try.checked.prog _ _ _ _ = true; unfold joinedFacts; rw [ord_may, ord_lifts, ord_make]; kernel_rfl)
    (of_decide_eq_true (by kernel_rfl)) (by unfold Func.isWrapper; first | (rw [if_pos (by decide +kernel)]; kernel_rfl) | (rw [if_neg (by decide +kernel)]; exact ⟨rfl, rfl⟩))
    (fun os started H enc _ => lifted os started H enc)

theorem proved : Rows.StateLateSaid := over
#print axioms proved
end Go.Proofs.Ytpgbbnmflnhlbaa.stateLate
