/- RelaxOrder holds for all states: to cover is an order; no condition beyond what the statement gives. -/
import Derived.Test.YtclepdnpclmegaaRows
import Derived.Test.YtclepdnpclmegaaXAwake
namespace Go.Proofs.Ytclepdnpclmegaa.relaxOrder
open Go.ChangeShapes Go.WideShapes Go.ChangeAt Go.RowKit

set_option maxRecDepth 1000000 in
set_option maxHeartbeats 4000000 in
theorem walk (s0 : Sta) (s1 : Sta) (s2 : Sta) (w : World) (e0 : SetsOk s0) (e1 : SetsOk s1) (e2 : SetsOk s2) :
    Calls Try.prog 5 #[staV s0, staV s1, staV s2] w fun e w' => e = .returned (.bool true) ∧ Below w.heap.size w w' := by
  have H0 := Lib.hid e0
  have H1 := Lib.hid e1
  have H2 := Lib.hid e2
  clear e0 e1 e2
  unfold staV
  go_enter Try.func5, Try.ntmps5
  go_upto_region 1 with fail
  obtain ⟨k1, k2, k3, k4⟩ := boxes_st3 w s0 s1 s2
  have HX := Lib.hid k1
  have HY := Lib.hid k2
  have HZ := Lib.hid k3
  have HB := Lib.hid k4
  clear k1 k2 k3 k4
  change Code.wp _ _ _ _ (((w.alloc (boxSt s0)).alloc (boxSt s1)).alloc (boxSt s2))
  generalize ((w.alloc (boxSt s0)).alloc (boxSt s1)).alloc (boxSt s2) = W at *
  go_wp2_with fail
  refine (xawake_any _).mono ?_
  rintro e w1 ⟨rfl, hb⟩
  have HXn := Lib.hid (HX.out.later hb)
  have HYn := Lib.hid (HY.out.later hb)
  have HZn := Lib.hid (HZ.out.later hb)
  have HBn := Lib.hid (HB.out.trans (hb.mono HB.out.size))
  clear hb HX HY HZ HB
  have HX := HXn
  have HY := HYn
  have HZ := HZn
  have HB := HBn
  clear HXn HYn HZn HBn
  have x0 := HX.out.c0
  have x1 := HX.out.c1
  have x2 := HX.out.c2
  have x3 := HX.out.c3
  have x4 := HX.out.c4
  have x5 := HX.out.c5
  have x6 := HX.out.c6
  have x7 := HX.out.c7
  have y0 := HY.out.c0
  have y1 := HY.out.c1
  have y2 := HY.out.c2
  have y3 := HY.out.c3
  have y4 := HY.out.c4
  have y5 := HY.out.c5
  have y6 := HY.out.c6
  have y7 := HY.out.c7
  have z0 := HZ.out.c0
  have z1 := HZ.out.c1
  have z2 := HZ.out.c2
  have z3 := HZ.out.c3
  have z4 := HZ.out.c4
  have z5 := HZ.out.c5
  have z6 := HZ.out.c6
  have z7 := HZ.out.c7
  go_wp2_with fail
  clear x0 x1 x2 x3 x4 x5 x6 x7 y0 y1 y2 y3 y4 y5 y6 y7 z0 z1 z2 z3 z4 z5 z6 z7
  change Calls _ _ #[staV s0, staV s1] _ _
  refine (covers_any _ H0.out H1.out).mono ?_
  rintro e w2 ⟨rfl, hb⟩
  have HXn := Lib.hid (HX.out.later hb)
  have HYn := Lib.hid (HY.out.later hb)
  have HZn := Lib.hid (HZ.out.later hb)
  have HBn := Lib.hid (HB.out.trans (hb.mono HB.out.size))
  clear hb HX HY HZ HB
  have HX := HXn
  have HY := HYn
  have HZ := HZn
  have HB := HBn
  clear HXn HYn HZn HBn
  have x0 := HX.out.c0
  have x1 := HX.out.c1
  have x2 := HX.out.c2
  have x3 := HX.out.c3
  have x4 := HX.out.c4
  have x5 := HX.out.c5
  have x6 := HX.out.c6
  have x7 := HX.out.c7
  have y0 := HY.out.c0
  have y1 := HY.out.c1
  have y2 := HY.out.c2
  have y3 := HY.out.c3
  have y4 := HY.out.c4
  have y5 := HY.out.c5
  have y6 := HY.out.c6
  have y7 := HY.out.c7
  have z0 := HZ.out.c0
  have z1 := HZ.out.c1
  have z2 := HZ.out.c2
  have z3 := HZ.out.c3
  have z4 := HZ.out.c4
  have z5 := HZ.out.c5
  have z6 := HZ.out.c6
  have z7 := HZ.out.c7
  go_wp2_with fail
  clear x0 x1 x2 x3 x4 x5 x6 x7 y0 y1 y2 y3 y4 y5 y6 y7 z0 z1 z2 z3 z4 z5 z6 z7
  change Calls _ _ #[staV s1, staV s2] _ _
  refine (covers_any _ H1.out H2.out).mono ?_
  rintro e w3 ⟨rfl, hb⟩
  have HXn := Lib.hid (HX.out.later hb)
  have HYn := Lib.hid (HY.out.later hb)
  have HZn := Lib.hid (HZ.out.later hb)
  have HBn := Lib.hid (HB.out.trans (hb.mono HB.out.size))
  clear hb HX HY HZ HB
  have HX := HXn
  have HY := HYn
  have HZ := HZn
  have HB := HBn
  clear HXn HYn HZn HBn
  have HEQ := Lib.hid (covers_both (fits_of H0.out) (fits_of H1.out))
  have HTR := Lib.hid (fun h k => covers_trans (fits_of H0.out) (fits_of H1.out) (fits_of H2.out) h k)
  have HRF := Lib.hid (covers_refl (fits_of H0.out))
  have keq := equalSta s0 s1
  have kg := guardSta
  generalize hba : decide (Covers s0 s1) = ba
  generalize hbb : decide (Covers s1 s2) = bb
  go_upto_region 4 with fail
  have HXd := Lib.hid (HX.out.later (Below.refl _ w3).drew)
  have HYd := Lib.hid (HY.out.later (Below.refl _ w3).drew)
  have HZd := Lib.hid (HZ.out.later (Below.refl _ w3).drew)
  have HBd := Lib.hid HB.out.drew
  clear HX HY HZ HB
  have HS0 := Lib.hid (show Holds (cellsSt w.heap.size s0 ++ (cellsSt (w.heap.size + 1) s1 ++ cellsSt (w.heap.size + 2) s2)) w3.drew from Holds.app.2 ⟨HXd.out.holds, Holds.app.2 ⟨HYd.out.holds, HZd.out.holds⟩⟩)
  refine wp_region_held_drew (S := Holds (cellsSt w.heap.size s0 ++ (cellsSt (w.heap.size + 1) s1 ++ cellsSt (w.heap.size + 2) s2))) (by kernel_rfl) HS0.out (fun hSn => ?_)
  generalize w3.drew = V at *
  have hlt := Lib.hid (show Lows V.heap.size (cellsSt w.heap.size s0 ++ (cellsSt (w.heap.size + 1) s1 ++ cellsSt (w.heap.size + 2) s2)) from Lows.app (lows_St HXd.out.lt) (Lows.app (lows_St HYd.out.lt) (lows_St HZd.out.lt)))
  have Bc := Lib.hid (Below.refl V.heap.size V)
  simp only [cellsSt, List.cons_append, List.nil_append] at HS0 hlt hSn ⊢
  cases ba with
  | false =>
    have hn : ¬ Covers s0 s1 := of_decide_eq_false hba
    have he : decide (s0 = s1) = false := decide_eq_false (fun h => hn (HEQ.out.2 h).1)
    rw [he] at keq
    clear hba hbb hn he
    refine tks [0, 1, 2, 3] 4 rfl (by kernel_rfl) (fun _ _ _ _ h => h) (by assumption) (fun KT hKT => ?_)
    iterate 4 (refine tkT (by (simp only [gA, gB, gC]; rfl)) (by rfl) (by (intro w hSw; (simp only [Holds] at hSw); go_simp <;> with_reducible rfl)) ?_; simp only [Act.put, pA, pB, pC])
    refine hKT _ ?_
    clear KT hKT
    refine wpAnyH_ready (rs := [4]) (by kernel_rfl) (by simp) ?_
    refine AllReadyH.cons (o := ?oz1) ?iz1 (fun K hK => ?kz1) AllReadyH.nil
    case iz1 => (simp only [List.getElem?_toArray, List.getElem?_cons_zero, List.getElem?_cons_succ]; rfl)
    go_simp
    change Calls _ _ #[staV s0, staV s0] _ _
    refine (covers_any _ H0.out H0.out).mono ?_
    rw [decide_eq_true HRF.out]
    rintro e w' ⟨rfl, hb⟩
    refine held_more hK HS0.out hlt (Bc.out.trans (hb.mono Bc.out.size)) (fun Bc hSn => ?_)
    clear hb hK
    refine tks [5, 6, 7, 8, 9] 5 rfl (by kernel_rfl) (fun _ _ _ _ h => h) (by assumption) (fun KT hKT => ?_)
    iterate 5 (refine tkT (by (simp only [gA, gB, gC]; rfl)) (by rfl) (by (intro w hSw; (simp only [Holds] at hSw); go_simp <;> with_reducible rfl)) ?_; simp only [Act.put, pA, pB, pC])
    refine hKT _ ?_
    clear KT hKT
    refine tks [10, 11] 2 rfl (by kernel_rfl) (fun _ _ _ _ h => h) (by assumption) (fun KT hKT => ?_)
    iterate 2 (refine tkS (by (simp only [gA, gB, gC]; rfl)) (by rfl) ?_; simp only [Act.put, pA, pB, pC])
    refine hKT _ ?_
    clear KT hKT
    refine tks [12, 13] 2 rfl (by kernel_rfl) (fun _ _ _ _ h => h) (by assumption) (fun KT hKT => ?_)
    iterate 2 (refine tkT (by (simp only [gA, gB, gC]; rfl)) (by rfl) (by (intro w hSw; (simp only [Holds] at hSw); go_simp <;> with_reducible rfl)) ?_; simp only [Act.put, pA, pB, pC])
    refine hKT _ ?_
    clear KT hKT
    refine tks [14, 15, 16] 3 rfl (by kernel_rfl) (fun _ _ _ _ h => h) (by assumption) (fun KT hKT => ?_)
    iterate 3 (refine tkS (by (simp only [gA, gB, gC]; rfl)) (by rfl) ?_; simp only [Act.put, pA, pB, pC])
    refine hKT _ ?_
    clear KT hKT
    refine tks [17, 18, 19, 20, 21] 5 rfl (by kernel_rfl) (fun _ _ _ _ h => h) (by assumption) (fun KT hKT => ?_)
    iterate 5 (refine tkT (by (simp only [gA, gB, gC]; rfl)) (by rfl) (by (intro w hSw; (simp only [Holds] at hSw); go_simp <;> with_reducible rfl)) ?_; simp only [Act.put, pA, pB, pC])
    refine hKT _ ?_
    clear KT hKT
    refine tks [22, 23, 24] 3 rfl (by kernel_rfl) (fun _ _ _ _ h => h) (by assumption) (fun KT hKT => ?_)
    iterate 3 (refine tkS (by (simp only [gA, gB, gC]; rfl)) (by rfl) ?_; simp only [Act.put, pA, pB, pC])
    refine hKT _ ?_
    clear KT hKT
    refine tks [25, 26, 27, 28, 29, 30, 31] 7 rfl (by kernel_rfl) (fun _ _ _ _ h => h) (by assumption) (fun KT hKT => ?_)
    iterate 7 (refine tkT (by (simp only [gA, gB, gC]; rfl)) (by rfl) (by (intro w hSw; (simp only [Holds] at hSw); go_simp <;> with_reducible rfl)) ?_; simp only [Act.put, pA, pB, pC])
    refine hKT _ ?_
    clear KT hKT
    refine wpAnyH_done (by kernel_rfl) ?_ _
    go_wp2
    go_ret
    exact ⟨rfl, HBd.out.trans (Bc.out.mono HBd.out.size)⟩
  | true =>
    have hc : Covers s0 s1 := of_decide_eq_true hba
    have he : decide (Covers s1 s0) = decide (s0 = s1) := decide_eq_decide.2 ⟨fun h => HEQ.out.1 ⟨hc, h⟩, fun h => (HEQ.out.2 h).2⟩
    have HE := Lib.hid he
    clear he
    generalize decide (s0 = s1) = eb at *
    cases bb with
    | false =>
      clear hba hbb hc
      refine tks [0, 1, 2, 3] 4 rfl (by kernel_rfl) (fun _ _ _ _ h => h) (by assumption) (fun KT hKT => ?_)
      iterate 4 (refine tkT (by (simp only [gA, gB, gC]; rfl)) (by rfl) (by (intro w hSw; (simp only [Holds] at hSw); go_simp <;> with_reducible rfl)) ?_; simp only [Act.put, pA, pB, pC])
      refine hKT _ ?_
      clear KT hKT
      refine wpAnyH_ready (rs := [4]) (by kernel_rfl) (by simp) ?_
      refine AllReadyH.cons (o := ?oz2) ?iz2 (fun K hK => ?kz2) AllReadyH.nil
      case iz2 => (simp only [List.getElem?_toArray, List.getElem?_cons_zero, List.getElem?_cons_succ]; rfl)
      go_simp
      change Calls _ _ #[staV s0, staV s0] _ _
      refine (covers_any _ H0.out H0.out).mono ?_
      rw [decide_eq_true HRF.out]
      rintro e w' ⟨rfl, hb⟩
      refine held_more hK HS0.out hlt (Bc.out.trans (hb.mono Bc.out.size)) (fun Bc hSn => ?_)
      clear hb hK
      refine tks [5, 6, 7, 8, 9, 10, 11, 12, 13] 9 rfl (by kernel_rfl) (fun _ _ _ _ h => h) (by assumption) (fun KT hKT => ?_)
      iterate 9 (refine tkT (by (simp only [gA, gB, gC]; rfl)) (by rfl) (by (intro w hSw; (simp only [Holds] at hSw); go_simp <;> with_reducible rfl)) ?_; simp only [Act.put, pA, pB, pC])
      refine hKT _ ?_
      clear KT hKT
      refine tks [14, 15, 16] 3 rfl (by kernel_rfl) (fun _ _ _ _ h => h) (by assumption) (fun KT hKT => ?_)
      iterate 3 (refine tkS (by (simp only [gA, gB, gC]; rfl)) (by rfl) ?_; simp only [Act.put, pA, pB, pC])
      refine hKT _ ?_
      clear KT hKT
      refine tks [17, 18, 19, 20, 21, 22, 23, 26, 27, 28] 10 rfl (by kernel_rfl) (fun _ _ _ _ h => h) (by assumption) (fun KT hKT => ?_)
      iterate 10 (refine tkT (by (simp only [gA, gB, gC]; rfl)) (by rfl) (by (intro w hSw; (simp only [Holds] at hSw); go_simp <;> with_reducible rfl)) ?_; simp only [Act.put, pA, pB, pC])
      refine hKT _ ?_
      clear KT hKT
      refine wpAnyH_ready (rs := [24]) (by kernel_rfl) (by simp) ?_
      refine AllReadyH.cons (o := ?oz3) ?iz3 (fun K hK => ?kz3) AllReadyH.nil
      case iz3 => (simp only [List.getElem?_toArray, List.getElem?_cons_zero, List.getElem?_cons_succ]; rfl)
      go_simp
      change Calls _ _ #[staV s1, staV s0] _ _
      refine (covers_any _ H1.out H0.out).mono ?_
      rw [HE.out]
      rintro e w' ⟨rfl, hb⟩
      refine held_more hK HS0.out hlt (Bc.out.trans (hb.mono Bc.out.size)) (fun Bc hSn => ?_)
      clear hb hK
      refine tks [25, 29, 30, 31] 4 rfl (by kernel_rfl) (fun _ _ _ _ h => h) (by assumption) (fun KT hKT => ?_)
      iterate 4 (refine tkT (by (simp only [gA, gB, gC]; rfl)) (by rfl) (by (intro w hSw; (simp only [Holds] at hSw); go_simp <;> with_reducible rfl)) ?_; simp only [Act.put, pA, pB, pC])
      refine hKT _ ?_
      clear KT hKT
      refine wpAnyH_done (by kernel_rfl) ?_ _
      go_wp2
      go_ret
      exact ⟨by cases eb <;> rfl, HBd.out.trans (Bc.out.mono HBd.out.size)⟩
    | true =>
      have HAC := Lib.hid (HTR.out hc (of_decide_eq_true hbb))
      clear hba hbb hc
      refine tks [0, 1, 2, 3] 4 rfl (by kernel_rfl) (fun _ _ _ _ h => h) (by assumption) (fun KT hKT => ?_)
      iterate 4 (refine tkT (by (simp only [gA, gB, gC]; rfl)) (by rfl) (by (intro w hSw; (simp only [Holds] at hSw); go_simp <;> with_reducible rfl)) ?_; simp only [Act.put, pA, pB, pC])
      refine hKT _ ?_
      clear KT hKT
      refine wpAnyH_ready (rs := [4]) (by kernel_rfl) (by simp) ?_
      refine AllReadyH.cons (o := ?oz4) ?iz4 (fun K hK => ?kz4) AllReadyH.nil
      case iz4 => (simp only [List.getElem?_toArray, List.getElem?_cons_zero, List.getElem?_cons_succ]; rfl)
      go_simp
      change Calls _ _ #[staV s0, staV s0] _ _
      refine (covers_any _ H0.out H0.out).mono ?_
      rw [decide_eq_true HRF.out]
      rintro e w' ⟨rfl, hb⟩
      refine held_more hK HS0.out hlt (Bc.out.trans (hb.mono Bc.out.size)) (fun Bc hSn => ?_)
      clear hb hK
      refine tks [5, 6, 7, 8, 9, 10, 11, 12, 13, 14, 15] 11 rfl (by kernel_rfl) (fun _ _ _ _ h => h) (by assumption) (fun KT hKT => ?_)
      iterate 11 (refine tkT (by (simp only [gA, gB, gC]; rfl)) (by rfl) (by (intro w hSw; (simp only [Holds] at hSw); go_simp <;> with_reducible rfl)) ?_; simp only [Act.put, pA, pB, pC])
      refine hKT _ ?_
      clear KT hKT
      refine wpAnyH_ready (rs := [16]) (by kernel_rfl) (by simp) ?_
      refine AllReadyH.cons (o := ?oz5) ?iz5 (fun K hK => ?kz5) AllReadyH.nil
      case iz5 => (simp only [List.getElem?_toArray, List.getElem?_cons_zero, List.getElem?_cons_succ]; rfl)
      go_simp
      change Calls _ _ #[staV s0, staV s2] _ _
      refine (covers_any _ H0.out H2.out).mono ?_
      rw [decide_eq_true HAC.out]
      rintro e w' ⟨rfl, hb⟩
      refine held_more hK HS0.out hlt (Bc.out.trans (hb.mono Bc.out.size)) (fun Bc hSn => ?_)
      clear hb hK
      refine tks [17, 18, 19, 20, 21, 22, 23, 26, 27, 28] 10 rfl (by kernel_rfl) (fun _ _ _ _ h => h) (by assumption) (fun KT hKT => ?_)
      iterate 10 (refine tkT (by (simp only [gA, gB, gC]; rfl)) (by rfl) (by (intro w hSw; (simp only [Holds] at hSw); go_simp <;> with_reducible rfl)) ?_; simp only [Act.put, pA, pB, pC])
      refine hKT _ ?_
      clear KT hKT
      refine wpAnyH_ready (rs := [24]) (by kernel_rfl) (by simp) ?_
      refine AllReadyH.cons (o := ?oz6) ?iz6 (fun K hK => ?kz6) AllReadyH.nil
      case iz6 => (simp only [List.getElem?_toArray, List.getElem?_cons_zero, List.getElem?_cons_succ]; rfl)
      go_simp
      change Calls _ _ #[staV s1, staV s0] _ _
      refine (covers_any _ H1.out H0.out).mono ?_
      rw [HE.out]
      rintro e w' ⟨rfl, hb⟩
      refine held_more hK HS0.out hlt (Bc.out.trans (hb.mono Bc.out.size)) (fun Bc hSn => ?_)
      clear hb hK
      refine tks [25, 29, 30, 31] 4 rfl (by kernel_rfl) (fun _ _ _ _ h => h) (by assumption) (fun KT hKT => ?_)
      iterate 4 (refine tkT (by (simp only [gA, gB, gC]; rfl)) (by rfl) (by (intro w hSw; (simp only [Holds] at hSw); go_simp <;> with_reducible rfl)) ?_; simp only [Act.put, pA, pB, pC])
      refine hKT _ ?_
      clear KT hKT
      refine wpAnyH_done (by kernel_rfl) ?_ _
      go_wp2
      go_ret
      exact ⟨by cases eb <;> rfl, HBd.out.trans (Bc.out.mono HBd.out.size)⟩

set_option maxRecDepth 100000 in
theorem lifted (os : Os) (started : os.Started) (H : Type) (enc : TypeId × Value → H) :
    ReturnsInHanded {} Try.checked os 5 .any (Rows.relaxOrderSpec.pre6 enc Try.prog Try.f5 Rows.relaxOrderRow.domain false) (Rows.relaxOrderSpec.post enc Try.prog Try.f5 false true false false) := by
  refine returnsInHanded_of_change (C := Try.checked) own started (by kernel_rfl) Try.func5
    (ChangeSpec.witness6 (enc := enc) (C := Try.checked) false ⟨#[], #[.agg #[.int .i64 0, .int .i64 0, .int .i64 0, .int .i64 0, .int .i64 0, .int .u64 0, .int .u64 0, .int .u64 0], .agg #[.int .i64 0, .int .i64 0, .int .i64 0, .int .i64 0, .int .i64 0, .int .u64 0, .int .u64 0, .int .u64 0], .agg #[.int .i64 0, .int .i64 0, .int .i64 0, .int .i64 0, .int .i64 0, .int .u64 0, .int .u64 0, .int .u64 0]], []⟩ 8 (by kernel_rfl) (by kernel_rfl) (by kernel_rfl) (by kernel_rfl)) ?_
  intro W base args ds gs before hval0 hW hcnd _
  have hval : ∀ (j : Nat) t v, Try.f5.params[j]? = some t → args[j]? = some v → Value.okWide Try.prog W .any base t v := hval0
  have hW' := hW
  obtain ⟨p, q, hA0, hV, rfl, hfz, hnd⟩ := hW
  have hA : DataW.TrodAll enc Try.prog W 0 (fun _ => true) true Try.f5.params.toList args.toList ds p := hA0
  rw [Try.params5] at hA hval
  obtain ⟨v0, vs0, d0, ds0, p0, q0, hargs, rfl, rfl, h0, r0⟩ := trodAll_cons hA
  obtain ⟨v1, vs1, d1, ds1, p1, q1, rfl, rfl, rfl, h1, r1⟩ := trodAll_cons r0
  obtain ⟨v2, vs2, d2, ds2, p2, q2, rfl, rfl, rfl, h2, r2⟩ := trodAll_cons r1
  obtain ⟨rfl, rfl, rfl⟩ := trodAll_nil r2
  obtain rfl : args = #[v0, v1, v2] := by cases args; simp_all
  obtain ⟨rfl, rfl⟩ := trodVars_none hV
  have k0 := h0
  have lt0 : ∀ x ∈ p0, x.block < W.heap.size := by obtain ⟨m, hm⟩ := k0; exact DataW.trod_lt m _ _ _ hm
  have k1 := h1
  have lt1 : ∀ x ∈ p1, x.block < W.heap.size := by obtain ⟨m, hm⟩ := k1; exact DataW.trod_lt m _ _ _ hm
  have k2 := h2
  have lt2 : ∀ x ∈ p2, x.block < W.heap.size := by obtain ⟨m, hm⟩ := k2; exact DataW.trod_lt m _ _ _ hm
  obtain ⟨s0, rfl, _, e0⟩ := open_state (hval 0 24 v0 rfl rfl) h0
  obtain ⟨s1, rfl, _, e1⟩ := open_state (hval 1 24 v1 rfl rfl) h1
  obtain ⟨s2, rfl, _, e2⟩ := open_state (hval 2 24 v2 rfl rfl) h2
  clear hA0 hval0
  refine (walk s0 s1 s2 W e0 e1 e2).mono fun e W' ⟨he, bel⟩ => ?_
  subst he
  exact ⟨_, rfl, _, _, _, [], _, [], hW', trodAll_mk1 (shut_bool Try.underlying4 _), (trodAll_cons_mk (Below.trod laidOut (by kernel_rfl) (of_decide_eq_true (by kernel_rfl)) k0 bel lt0) (trodAll_cons_mk (Below.trod laidOut (by kernel_rfl) (of_decide_eq_true (by kernel_rfl)) k1 bel lt1) (trodAll_cons_mk (Below.trod laidOut (by kernel_rfl) (of_decide_eq_true (by kernel_rfl)) k2 bel lt2) trodAll_mk0))), rfl, bel.frame _, fun h => by cases h⟩

theorem over : Rows.relaxOrderRow.holds Try.pinned (OpenSpec.ofChange Rows.relaxOrderSpec) :=
  OpenClaim.holds_of_wide 5 Try.f5 rfl rfl rfl rfl rfl rfl rfl ⟨rfl, rfl, rfl, rfl, rfl⟩ rfl rfl rfl rfl rfl (by kernel_rfl) Try.func5 (by kernel_rfl)
    (of_decide_eq_true (by kernel_rfl)) (by unfold Func.isWrapper; first | (rw [if_pos (by decide +kernel)]; kernel_rfl) | (rw [if_neg (by decide +kernel)]; exact ⟨rfl, rfl⟩))
    (fun os started H enc _ => lifted os started H enc)

theorem proved : Rows.RelaxOrderSaid := over
#print axioms proved
end Go.Proofs.Ytclepdnpclmegaa.relaxOrder
