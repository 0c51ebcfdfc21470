/- For any instance that may be, of at most 5 stops, it costs no less from the beginning than of all ways there are; and the more was seen the less it is: haulierlaw12.BoundLess answers true. Condition: none. -/
import Derived.Test.YtaaljploegiihaaOrd
import Derived.Test.YtaaljploegiihaaRows
import Derived.Test.YtaaljploegiihaaBAwake
import Derived.Test.YtaaljploegiihaaYC
import Derived.Test.YtaaljploegiihaaQEvW
import Derived.Test.YtaaljploegiihaaYG
namespace Go.Proofs.Ytaaljploegiihaa.boundLess
open Go.ChangeShapes Go.WideShapes Go.ChangeAt Go.RowKit

set_option maxRecDepth 1000000 in
set_option maxHeartbeats 4000000 in
theorem walk (I0 : Ins) (v0 : Value) (s1 : Sta) (m2 : Nat) (w : World) (e0 : SRow w v0 I0.l) (e1 : SetsOk s1) (e2 : m2 < 18446744073709551616) :
    Calls Try.prog 7 #[insV I0 v0, staV s1, .int .u64 (m2 : Nat)] w fun e w' => e = .returned (.bool true) ∧ Below w.heap.size w w' := by
  have HR := Lib.hid e0
  have H1 := Lib.hid e1
  have H2 := Lib.hid e2
  obtain ⟨ad, cap, rfl, hlm, _⟩ := e0.form
  clear e0 e1 e2
  unfold insV staV
  go_enter Try.func7, Try.ntmps7
  go_upto_region 1 with fail
  obtain ⟨k1, k2, k3⟩ := boxes_is w I0 (.slice ad I0.l.length cap) s1
  have HY := Lib.hid k1
  have HA := Lib.hid k2
  have HB := Lib.hid k3
  clear k1 k2 k3
  change Code.wp _ _ _ _ ((w.alloc (boxI I0 (.slice ad I0.l.length cap))).alloc (boxSt s1))
  generalize (w.alloc (boxI I0 (.slice ad I0.l.length cap))).alloc (boxSt s1) = W at *
  go_wp2_with fail
  refine (bawake_any _).mono ?_
  rintro e w1 ⟨rfl, hb⟩
  have HYn := Lib.hid (HY.out.later hb)
  have HAn := Lib.hid (HA.out.later hb)
  have HBn := Lib.hid (HB.out.trans (hb.mono HB.out.size))
  clear hb HY HA HB
  have HY := HYn
  have HA := HAn
  have HB := HBn
  clear HYn HAn HBn
  obtain ⟨y0, y1, y2, y3⟩ := HY.out.cells
  by_cases g1 : 5 < I0.l.length
  · have d1 : decide (5 < (I0.l.length : Int)) = true := decide_eq_true (by omega)
    have d2 := decide_eq_true g1
    clear g1
    go_wp2
    go_ret
    exact ⟨rfl, HB.out⟩
  have d1 : decide (5 < (I0.l.length : Int)) = false := decide_eq_false (by omega)
  have d2 := decide_eq_false g1
  clear g1
  go_wp2_with fail
  clear y0 y1 y2 y3
  change Calls _ _ #[insV I0 (.slice ad I0.l.length cap)] _ _
  refine (may_any (I := I0) (HR.out.below HB.out)).mono ?_
  rintro e w2 ⟨rfl, hb⟩
  have HYn := Lib.hid (HY.out.later hb)
  have HAn := Lib.hid (HA.out.later hb)
  have HBn := Lib.hid (HB.out.trans (hb.mono HB.out.size))
  clear hb HY HA HB
  have HY := HYn
  have HA := HAn
  have HB := HBn
  clear HYn HAn HBn
  by_cases hm : mayB I0 = true
  rotate_left
  · rw [show mayB I0 = false by simpa using hm]
    clear hm
    go_wp2
    go_ret
    exact ⟨rfl, HB.out⟩
  rw [hm]
  have HM := Lib.hid hm
  clear hm
  have x0 := HA.out.c0
  have x1 := HA.out.c1
  have x2 := HA.out.c2
  have x3 := HA.out.c3
  have x4 := HA.out.c4
  have x5 := HA.out.c5
  have x6 := HA.out.c6
  have x7 := HA.out.c7
  go_upto_region 5 with fail
  clear x0 x1 x2 x3 x4 x5 x6 x7
  have HTL := Lib.hid (show w.heap.size + 1 < w2.heap.size from HA.out.lt)
  have HT := Lib.hid (st_new w2 s1)
  have HYn := Lib.hid (HY.out.later ((Below.refl _ w2).alloc (Nat.le_refl _) (boxSt s1)))
  have HAn := Lib.hid (HA.out.later ((Below.refl _ w2).alloc (Nat.le_refl _) (boxSt s1)))
  have HBn := Lib.hid (HB.out.alloc HB.out.size (boxSt s1))
  clear HY HA HB
  have HY := HYn
  have HA := HAn
  have HB := HBn
  clear HYn HAn HBn
  change Code.wp _ _ _ _ (w2.alloc (boxSt s1))
  generalize w2.alloc (boxSt s1) = W3 at *
  generalize w2.heap.size = bt at *
  have HTS := Lib.hid (HT.out.set6 (s1.may ||| m2))
  have x6 := HA.out.c6
  have z6 := HT.out.c6
  have f6 := HT.out.free 6
  have hor : bits .or .u64 (s1.may : Int) (m2 : Int) = ((s1.may ||| m2 : Nat) : Int) := bits_or_u64_nat _ _ H1.out.2.1 H2.out
  have HBT := Lib.hid (show w.heap.size ≤ bt ∧ bt ≠ w.heap.size ∧ bt ≠ w.heap.size + 1 by have := HTL.out; omega)
  have HMB := Lib.hid (or_lt H1.out.2.1 H2.out)
  have HWI := Lib.hid (within_or s1.may m2 H1.out.2.1)
  obtain ⟨mm, hmm⟩ : ∃ mm, s1.may ||| m2 = mm := ⟨_, rfl⟩
  rw [hmm] at hor HTS HMB HWI
  clear hmm
  go_upto_region 6 with fail
  clear x6 z6 f6 hor d1 d2
  have HT4 := HTS
  have HY4 := Lib.hid (HY.out.other ⟨bt, 6, none⟩ (.int .u64 (mm : Nat)) HBT.out.2.1)
  have HA4 := Lib.hid (HA.out.other ⟨bt, 6, none⟩ (.int .u64 (mm : Nat)) HBT.out.2.2)
  have HB4 := Lib.hid (HB.out.setCell (p := ⟨bt, 6, none⟩) HBT.out.1 (.int .u64 (mm : Nat)))
  change Code.wp _ _ _ _ (W3.setCell ⟨bt, 6, none⟩ (.int .u64 (mm : Nat)))
  clear HY HA HB HT HTS
  have HY := HY4
  have HA := HA4
  have HB := HB4
  have HT := HT4
  clear HY4 HA4 HB4 HT4
  generalize W3.setCell ⟨bt, 6, none⟩ (.int .u64 (mm : Nat)) = W4 at *
  have hr1 := bound_every (I := I0) (2 * I0.p + I0.c - 1).toNat (rootS I0) (.inl (by rw [root_may HM.out]))
  have hr2 := bound_mono (I := I0) (s := s1) (t := ⟨s1.pos, s1.car, s1.time, s1.load, s1.first, s1.must, mm, s1.on⟩) H1.out.2.1 HWI.out
  have HSR := Lib.hid (show SetsOk (rootS I0) by rw [root_may HM.out]; exact ⟨Nat.two_pow_pos 64, Nat.two_pow_pos 64, Nat.two_pow_pos 64⟩)
  have HST := Lib.hid (show SetsOk (⟨s1.pos, s1.car, s1.time, s1.load, s1.first, s1.must, mm, s1.on⟩ : Sta) from ⟨H1.out.1, HMB.out, H1.out.2.2⟩)
  obtain ⟨n1, hn1⟩ : ∃ n, boundS I0 (rootS I0) = n := ⟨_, rfl⟩
  obtain ⟨n2, hn2⟩ : ∃ n, everyF I0 (2 * I0.p + I0.c - 1).toNat (rootS I0) = n := ⟨_, rfl⟩
  obtain ⟨n3, hn3⟩ : ∃ n, boundS I0 ⟨s1.pos, s1.car, s1.time, s1.load, s1.first, s1.must, mm, s1.on⟩ = n := ⟨_, rfl⟩
  obtain ⟨n4, hn4⟩ : ∃ n, boundS I0 s1 = n := ⟨_, rfl⟩
  rw [hn1, hn2] at hr1
  rw [hn3, hn4] at hr2
  have HN1 := Lib.hid hn1
  have HN2 := Lib.hid hn2
  have HN3 := Lib.hid hn3
  have HN4 := Lib.hid hn4
  have dr1 := decide_eq_true hr1
  have dr2 := decide_eq_true hr2
  clear hn1 hn2 hn3 hn4 hr1 hr2
  have HRV := Lib.hid (HR.out.below HB.out)
  have HRD := Lib.hid (HRV.out.below (Below.refl _ _).drew)
  clear HRV
  have HYn := Lib.hid (HY.out.later (Below.refl _ W4).drew)
  have HAn := Lib.hid (HA.out.later (Below.refl _ W4).drew)
  have HTn := Lib.hid (HT.out.later (Below.refl _ W4).drew)
  have HBn := Lib.hid HB.out.drew
  clear HY HA HT HB
  have HY := HYn
  have HA := HAn
  have HT := HTn
  have HB := HBn
  clear HYn HAn HTn HBn
  have HS0 := Lib.hid (show Holds (cellsI w.heap.size I0 (.slice ad I0.l.length cap) ++ (cellsSt (w.heap.size + 1) s1 ++ cellsSt bt ⟨s1.pos, s1.car, s1.time, s1.load, s1.first, s1.must, mm, s1.on⟩)) W4.drew from (Holds.app.2 ⟨⟨HY.out.cells.1, HY.out.cells.2.1, HY.out.cells.2.2.1, HY.out.cells.2.2.2, trivial⟩, (Holds.app.2 ⟨HA.out.holds, HT.out.holds⟩)⟩))
  refine wp_region_held_drew (S := Holds (cellsI w.heap.size I0 (.slice ad I0.l.length cap) ++ (cellsSt (w.heap.size + 1) s1 ++ cellsSt bt ⟨s1.pos, s1.car, s1.time, s1.load, s1.first, s1.must, mm, s1.on⟩))) (by kernel_rfl) HS0.out (fun hSn => ?_)
  generalize W4.drew = V at *
  have hlt := Lib.hid (show Lows V.heap.size (cellsI w.heap.size I0 (.slice ad I0.l.length cap) ++ (cellsSt (w.heap.size + 1) s1 ++ cellsSt bt ⟨s1.pos, s1.car, s1.time, s1.load, s1.first, s1.must, mm, s1.on⟩)) from (Lows.app (show Lows _ (cellsI w.heap.size I0 (.slice ad I0.l.length cap)) from ⟨HY.out.lt, HY.out.lt, HY.out.lt, HY.out.lt, trivial⟩) (Lows.app (lows_St HA.out.lt) (lows_St HT.out.lt))))
  have Bc := Lib.hid (Below.refl V.heap.size V)
  simp only [cellsI, cellsSt, List.cons_append, List.nil_append] at HS0 hlt hSn ⊢
  refine tks [0, 1, 4] 3 rfl (by kernel_rfl) (fun _ _ _ _ h => h) (by assumption) (fun KT hKT => ?_)
  iterate 3 (refine tkT (by (simp only [gA, gB, gC]; rfl)) (by rfl) (by (intro w hSw; (simp only [Holds] at hSw); go_simp <;> with_reducible rfl)) ?_; simp only [Act.put, pA, pB, pC])
  refine hKT _ ?_
  clear KT hKT
  refine wpAnyH_ready (rs := [2]) (by kernel_rfl) (by simp) ?_
  refine AllReadyH.cons (o := ?oz206) ?iz206 (fun K hK => ?kz206) AllReadyH.nil
  case iz206 => (simp only [List.getElem?_toArray, List.getElem?_cons_zero, List.getElem?_cons_succ]; rfl)
  go_simp
  change Calls _ _ #[insV I0 (.slice ad I0.l.length cap)] _ _
  refine (sroot_any (I := I0) (HRD.out.below Bc.out)).mono ?_
  rintro e w' ⟨rfl, hb⟩
  refine held_more hK HS0.out hlt (Bc.out.trans (hb.mono Bc.out.size)) (fun Bc hSn => ?_)
  clear hb hK
  refine wpAnyH_ready (rs := [3]) (by kernel_rfl) (by simp) ?_
  refine AllReadyH.cons (o := ?oz207) ?iz207 (fun K hK => ?kz207) AllReadyH.nil
  case iz207 => (simp only [List.getElem?_toArray, List.getElem?_cons_zero, List.getElem?_cons_succ]; rfl)
  go_simp
  change Calls _ _ #[insV I0 (.slice ad I0.l.length cap), staV (rootS I0)] _ _
  refine (bat_any (I := I0) (HRD.out.below Bc.out) HSR.out).mono ?_
  rw [HN1.out]
  rintro e w' ⟨rfl, hb⟩
  refine held_more hK HS0.out hlt (Bc.out.trans (hb.mono Bc.out.size)) (fun Bc hSn => ?_)
  clear hb hK
  refine wpAnyH_ready (rs := [5]) (by kernel_rfl) (by simp) ?_
  refine AllReadyH.cons (o := ?oz208) ?iz208 (fun K hK => ?kz208) AllReadyH.nil
  case iz208 => (simp only [List.getElem?_toArray, List.getElem?_cons_zero, List.getElem?_cons_succ]; rfl)
  go_simp
  change Calls _ _ #[insV I0 (.slice ad I0.l.length cap)] _ _
  refine (qevery_any (I := I0) (HRD.out.below Bc.out) HM.out).mono ?_
  rw [HN2.out]
  rintro e w' ⟨rfl, hb⟩
  refine held_more hK HS0.out hlt (Bc.out.trans (hb.mono Bc.out.size)) (fun Bc hSn => ?_)
  clear hb hK
  refine tks [6, 7, 8, 9, 11, 12] 6 rfl (by kernel_rfl) (fun _ _ _ _ h => h) (by assumption) (fun KT hKT => ?_)
  iterate 6 (refine tkT (by (simp only [gA, gB, gC]; rfl)) (by rfl) (by (intro w hSw; (simp only [Holds] at hSw); go_simp <;> with_reducible rfl)) ?_; simp only [Act.put, pA, pB, pC])
  refine hKT _ ?_
  clear KT hKT
  refine wpAnyH_ready (rs := [10]) (by kernel_rfl) (by simp) ?_
  refine AllReadyH.cons (o := ?oz209) ?iz209 (fun K hK => ?kz209) AllReadyH.nil
  case iz209 => (simp only [List.getElem?_toArray, List.getElem?_cons_zero, List.getElem?_cons_succ]; rfl)
  go_simp
  change Calls _ _ #[insV I0 (.slice ad I0.l.length cap), staV ⟨s1.pos, s1.car, s1.time, s1.load, s1.first, s1.must, mm, s1.on⟩] _ _
  refine (bat_any (I := I0) (HRD.out.below Bc.out) HST.out).mono ?_
  rw [HN3.out]
  rintro e w' ⟨rfl, hb⟩
  refine held_more hK HS0.out hlt (Bc.out.trans (hb.mono Bc.out.size)) (fun Bc hSn => ?_)
  clear hb hK
  refine wpAnyH_ready (rs := [13]) (by kernel_rfl) (by simp) ?_
  refine AllReadyH.cons (o := ?oz210) ?iz210 (fun K hK => ?kz210) AllReadyH.nil
  case iz210 => (simp only [List.getElem?_toArray, List.getElem?_cons_zero, List.getElem?_cons_succ]; rfl)
  go_simp
  change Calls _ _ #[insV I0 (.slice ad I0.l.length cap), staV s1] _ _
  refine (bat_any (I := I0) (HRD.out.below Bc.out) H1.out).mono ?_
  rw [HN4.out]
  rintro e w' ⟨rfl, hb⟩
  refine held_more hK HS0.out hlt (Bc.out.trans (hb.mono Bc.out.size)) (fun Bc hSn => ?_)
  clear hb hK
  refine tks [14, 15, 16] 3 rfl (by kernel_rfl) (fun _ _ _ _ h => h) (by assumption) (fun KT hKT => ?_)
  iterate 3 (refine tkT (by (simp only [gA, gB, gC]; rfl)) (by rfl) (by (intro w hSw; (simp only [Holds] at hSw); go_simp <;> with_reducible rfl)) ?_; simp only [Act.put, pA, pB, pC])
  refine hKT _ ?_
  clear KT hKT
  refine wpAnyH_done (by kernel_rfl) ?_ _
  go_wp2
  go_ret
  exact ⟨rfl, HB.out.trans (Bc.out.mono HB.out.size)⟩

set_option maxRecDepth 100000 in
theorem lifted (os : Os) (started : os.Started) (H : Type) (enc : TypeId × Value → H) :
    ReturnsInHanded {} Try.checked os 7 .any (Rows.boundLessSpec.pre6 enc Try.prog Try.f7 Rows.boundLessRow.domain false) (Rows.boundLessSpec.post enc Try.prog Try.f7 false true false false) := by
  refine returnsInHanded_of_change (C := Try.checked) own started (by kernel_rfl) Try.func7
    (ChangeSpec.witness6 (enc := enc) (C := Try.checked) false ⟨#[], #[.agg #[.int .i64 0, .int .i64 0, .int .i64 0, .slice none 0 0], .agg #[.int .i64 0, .int .i64 0, .int .i64 0, .int .i64 0, .int .i64 0, .int .u64 0, .int .u64 0, .int .u64 0], .int .u64 0], []⟩ 8 (by kernel_rfl) (by kernel_rfl) (by kernel_rfl) (by kernel_rfl)) ?_
  intro W base args ds gs before hval0 hW hcnd _
  have hval : ∀ (j : Nat) t v, Try.f7.params[j]? = some t → args[j]? = some v → Value.okWide Try.prog W .any base t v := hval0
  have hW' := hW
  obtain ⟨p, q, hA0, hV, rfl, hfz, hnd⟩ := hW
  have hA : DataW.TrodAll enc Try.prog W 0 (fun _ => true) true Try.f7.params.toList args.toList ds p := hA0
  rw [Try.params7] at hA hval
  obtain ⟨v0, vs0, d0, ds0, p0, q0, hargs, rfl, rfl, h0, r0⟩ := trodAll_cons hA
  obtain ⟨v1, vs1, d1, ds1, p1, q1, rfl, rfl, rfl, h1, r1⟩ := trodAll_cons r0
  obtain ⟨v2, vs2, d2, ds2, p2, q2, rfl, rfl, rfl, h2, r2⟩ := trodAll_cons r1
  obtain ⟨rfl, rfl, rfl⟩ := trodAll_nil r2
  obtain rfl : args = #[v0, v1, v2] := by cases args; simp_all
  obtain ⟨rfl, rfl⟩ := trodVars_none hV
  have k0 := h0
  have lt0 : ∀ x ∈ p0, x.block < W.heap.size := by obtain ⟨m, hm⟩ := k0; exact DataW.trod_lt m _ _ _ hm
  have k1 := h1
  have lt1 : ∀ x ∈ p1, x.block < W.heap.size := by obtain ⟨m, hm⟩ := k1; exact DataW.trod_lt m _ _ _ hm
  have k2 := h2
  have lt2 : ∀ x ∈ p2, x.block < W.heap.size := by obtain ⟨m, hm⟩ := k2; exact DataW.trod_lt m _ _ _ hm
  obtain ⟨I0, u0, rfl, e0, _⟩ := open_inst (hval 0 24 v0 rfl rfl) h0
  obtain ⟨s1, rfl, _, e1⟩ := open_state (hval 1 27 v1 rfl rfl) h1
  obtain ⟨a2, rfl, rfl, rfl, i2⟩ := open_int Try.underlying25 (hval 2 25 v2 rfl rfl) h2
  obtain ⟨m2, rfl, e2⟩ := u64_bd a2 i2
  clear hA0 hval0
  refine (walk I0 _ s1 m2 W e0 e1 e2).mono fun e W' ⟨he, bel⟩ => ?_
  subst he
  exact ⟨_, rfl, _, _, _, [], _, [], hW', trodAll_mk1 (shut_bool Try.underlying4 _), (trodAll_cons_mk (Below.trod laidOut (by kernel_rfl) (of_decide_eq_true (by kernel_rfl)) k0 bel lt0) (trodAll_cons_mk (Below.trod laidOut (by kernel_rfl) (of_decide_eq_true (by kernel_rfl)) k1 bel lt1) (trodAll_cons_mk (Below.trod laidOut (by kernel_rfl) (of_decide_eq_true (by kernel_rfl)) k2 bel lt2) trodAll_mk0))), rfl, bel.frame _, fun h => by cases h⟩

theorem over : Rows.boundLessRow.holds Try.pinned (OpenSpec.ofChange Rows.boundLessSpec) :=
  OpenClaim.holds_of_wide 7 Try.f7 rfl rfl rfl rfl rfl rfl rfl ⟨rfl, rfl, rfl, rfl, rfl⟩ rfl rfl rfl rfl rfl (by kernel_rfl) Try.func7 (by show joinedFacts Try.checked.prog _ _ _ _ = true; unfold joinedFacts; rw [ord_may, ord_lifts, ord_make]; kernel_rfl)
    (of_decide_eq_true (by kernel_rfl)) (by unfold Func.isWrapper; first | (rw [if_pos (by decide +kernel)]; kernel_rfl) | (rw [if_neg (by decide +kernel)]; exact ⟨rfl, rfl⟩))
    (fun os started H enc _ => lifted os started H enc)

theorem proved : Rows.BoundLessSaid := over
#print axioms proved
end Go.Proofs.Ytaaljploegiihaa.boundLess
