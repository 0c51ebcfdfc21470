/- RelaxTells holds for all states and rows of states: the program answers as the document does; no condition beyond what the statement gives. -/
import Derived.Test.YtclepdnpclmegaaRows
import Derived.Test.YtclepdnpclmegaaXAwake
import Derived.Test.YtclepdnpclmegaaYJoin
namespace Go.Proofs.Ytclepdnpclmegaa.relaxTells
open Go.ChangeShapes Go.WideShapes Go.ChangeAt Go.RowKit

set_option maxRecDepth 1000000 in
set_option maxHeartbeats 4000000 in
theorem walk (s0 : Sta) (s1 : Sta) (v2 : Value) (l2 : List Sta) (w : World) (e0 : SetsOk s0) (e1 : SetsOk s1) (e2 : ARow w v2 l2) (f2 : ∀ s ∈ l2, SetsOk s) :
    Calls Try.prog 3 #[staV s0, staV s1, v2] w fun e w' => e = .returned (.bool true) ∧ Below w.heap.size w w' := by
  have H0 := Lib.hid e0
  have H1 := Lib.hid e1
  have HR := Lib.hid e2
  have HF := Lib.hid f2
  obtain ⟨ad, cap, rfl, hlm, _⟩ := e2.form
  unfold maxLen at hlm
  clear e0 e1 e2 f2
  unfold staV
  go_enter Try.func3, Try.ntmps3
  go_upto_region 1 with fail
  obtain ⟨k1, k2, k3⟩ := boxes_st w s0 s1
  have HX := Lib.hid k1
  have HY := Lib.hid k2
  have HB := Lib.hid k3
  clear k1 k2 k3
  change Code.wp _ _ _ _ ((w.alloc (boxSt s0)).alloc (boxSt s1))
  generalize (w.alloc (boxSt s0)).alloc (boxSt s1) = W at *
  go_wp2_with fail
  refine (xawake_any _).mono ?_
  rintro e w1 ⟨rfl, hb⟩
  have HXn := Lib.hid (HX.out.later hb)
  have HYn := Lib.hid (HY.out.later hb)
  have HBn := Lib.hid (HB.out.trans (hb.mono HB.out.size))
  clear hb HX HY HB
  have HX := HXn
  have HY := HYn
  have HB := HBn
  clear HXn HYn HBn
  by_cases g1 : 60 < l2.length
  · have d1 : decide (60 < (l2.length : Int)) = true := decide_eq_true (by omega)
    have d2 := decide_eq_true g1
    clear g1
    go_wp2
    go_ret
    exact ⟨rfl, HB.out⟩
  have d1 : decide (60 < (l2.length : Int)) = false := decide_eq_false (by omega)
  have d2 := decide_eq_false g1
  clear g1
  go_wp2_with fail
  refine (xjoin_any (HR.out.below HB.out) HF.out).mono ?_
  rintro e w2 ⟨rfl, hb⟩
  have HXn := Lib.hid (HX.out.later hb)
  have HYn := Lib.hid (HY.out.later hb)
  have HBn := Lib.hid (HB.out.trans (hb.mono HB.out.size))
  clear hb HX HY HB
  have HX := HXn
  have HY := HYn
  have HB := HBn
  clear HXn HYn HBn
  generalize hq : jOf l2 = q
  generalize hbq : (joinS l2).isSome = bq
  have HQ := Lib.hid hq
  have HBQ := Lib.hid hbq
  clear hq hbq
  rw [show staV q = .agg #[.int .i64 q.pos, .int .i64 q.car, .int .i64 q.time, .int .i64 q.load, .int .i64 q.first, .int .u64 q.must, .int .u64 q.may, .int .u64 q.on] from rfl]
  go_upto_region 5 with fail
  have HP := Lib.hid (st_new w2 q)
  have HXn := Lib.hid (HX.out.later ((Below.refl _ w2).alloc (Nat.le_refl _) (boxSt q)))
  have HYn := Lib.hid (HY.out.later ((Below.refl _ w2).alloc (Nat.le_refl _) (boxSt q)))
  have HBn := Lib.hid (HB.out.alloc HB.out.size (boxSt q))
  clear HX HY HB
  have HX := HXn
  have HY := HYn
  have HB := HBn
  clear HXn HYn HBn
  change Code.wp _ _ _ _ (w2.alloc (boxSt q))
  generalize w2.alloc (boxSt q) = W3 at *
  generalize w2.heap.size = bp at *
  go_wp2_with fail
  refine (yjoin_any (HR.out.below HB.out) HF.out).mono ?_
  rw [HQ.out, HBQ.out]
  rintro e w4 ⟨rfl, hb⟩
  have HXn := Lib.hid (HX.out.later hb)
  have HYn := Lib.hid (HY.out.later hb)
  have HPn := Lib.hid (HP.out.later hb)
  have HBn := Lib.hid (HB.out.trans (hb.mono HB.out.size))
  clear hb HX HY HP HB
  have HX := HXn
  have HY := HYn
  have HP := HPn
  have HB := HBn
  clear HXn HYn HPn HBn
  unfold staV
  go_upto_region 6 with fail
  have HQB := Lib.hid (st_new w4 q)
  have HXn := Lib.hid (HX.out.later ((Below.refl _ w4).alloc (Nat.le_refl _) (boxSt q)))
  have HYn := Lib.hid (HY.out.later ((Below.refl _ w4).alloc (Nat.le_refl _) (boxSt q)))
  have HPn := Lib.hid (HP.out.later ((Below.refl _ w4).alloc (Nat.le_refl _) (boxSt q)))
  have HBn := Lib.hid (HB.out.alloc HB.out.size (boxSt q))
  clear HX HY HP HB
  have HX := HXn
  have HY := HYn
  have HP := HPn
  have HB := HBn
  clear HXn HYn HPn HBn
  change Code.wp _ _ _ _ (w4.alloc (boxSt q))
  generalize w4.alloc (boxSt q) = W5 at *
  generalize w4.heap.size = bq2 at *
  have keq := equalSta q q
  rw [decide_eq_true (rfl : q = q)] at keq
  have kg := guardSta
  have kb : (bq == bq) = true := by simp
  have HXn := Lib.hid (HX.out.later (Below.refl _ W5).drew)
  have HYn := Lib.hid (HY.out.later (Below.refl _ W5).drew)
  have HPn := Lib.hid (HP.out.later (Below.refl _ W5).drew)
  have HQBn := Lib.hid (HQB.out.later (Below.refl _ W5).drew)
  have HBn := Lib.hid HB.out.drew
  clear HX HY HP HQB HB
  have HX := HXn
  have HY := HYn
  have HP := HPn
  have HQB := HQBn
  have HB := HBn
  clear HXn HYn HPn HQBn HBn
  have HS0 := Lib.hid (show Holds (cellsSt w.heap.size s0 ++ (cellsSt (w.heap.size + 1) s1 ++ (cellsSt bp q ++ cellsSt bq2 q))) W5.drew from (Holds.app.2 ⟨HX.out.holds, (Holds.app.2 ⟨HY.out.holds, (Holds.app.2 ⟨HP.out.holds, HQB.out.holds⟩)⟩)⟩))
  refine wp_region_held_drew (S := Holds (cellsSt w.heap.size s0 ++ (cellsSt (w.heap.size + 1) s1 ++ (cellsSt bp q ++ cellsSt bq2 q)))) (by kernel_rfl) HS0.out (fun hSn => ?_)
  generalize W5.drew = V at *
  have hlt := Lib.hid (show Lows V.heap.size (cellsSt w.heap.size s0 ++ (cellsSt (w.heap.size + 1) s1 ++ (cellsSt bp q ++ cellsSt bq2 q))) from (Lows.app (lows_St HX.out.lt) (Lows.app (lows_St HY.out.lt) (Lows.app (lows_St HP.out.lt) (lows_St HQB.out.lt)))))
  have Bc := Lib.hid (Below.refl V.heap.size V)
  simp only [cellsSt, List.cons_append, List.nil_append] at HS0 hlt hSn ⊢
  refine tks [0, 1, 2, 3, 4, 5, 6, 7, 8, 9, 10, 12, 13] 13 rfl (by kernel_rfl) (fun _ _ _ _ h => h) (by assumption) (fun KT hKT => ?_)
  iterate 13 (refine tkT (by (simp only [gA, gB, gC]; rfl)) (by rfl) (by (intro w hSw; (simp only [Holds] at hSw); go_simp <;> with_reducible rfl)) ?_; simp only [Act.put, pA, pB, pC])
  refine hKT _ ?_
  clear KT hKT
  refine wpAnyH_ready (rs := [11]) (by kernel_rfl) (by simp) ?_
  refine AllReadyH.cons (o := ?oz1) ?iz1 (fun K hK => ?kz1) AllReadyH.nil
  case iz1 => (simp only [List.getElem?_toArray, List.getElem?_cons_zero, List.getElem?_cons_succ]; rfl)
  go_simp
  change Calls _ _ #[staV s0, staV s1] _ _
  refine (covers_any _ H0.out H1.out).mono ?_
  rintro e w' ⟨rfl, hb⟩
  refine held_more hK HS0.out hlt (Bc.out.trans (hb.mono Bc.out.size)) (fun Bc hSn => ?_)
  clear hb hK
  refine wpAnyH_ready (rs := [14]) (by kernel_rfl) (by simp) ?_
  refine AllReadyH.cons (o := ?oz2) ?iz2 (fun K hK => ?kz2) AllReadyH.nil
  case iz2 => (simp only [List.getElem?_toArray, List.getElem?_cons_zero, List.getElem?_cons_succ]; rfl)
  go_simp
  change Calls _ _ #[staV s0, staV s1] _ _
  refine (ycovers_any _ H0.out H1.out).mono ?_
  rintro e w' ⟨rfl, hb⟩
  refine held_more hK HS0.out hlt (Bc.out.trans (hb.mono Bc.out.size)) (fun Bc hSn => ?_)
  clear hb hK
  refine tks [15, 16, 17] 3 rfl (by kernel_rfl) (fun _ _ _ _ h => h) (by assumption) (fun KT hKT => ?_)
  iterate 3 (refine tkT (by (simp only [gA, gB, gC]; rfl)) (by rfl) (by (intro w hSw; (simp only [Holds] at hSw); go_simp <;> with_reducible rfl)) ?_; simp only [Act.put, pA, pB, pC])
  refine hKT _ ?_
  clear KT hKT
  refine wpAnyH_done (by kernel_rfl) ?_ _
  go_wp2
  go_ret
  exact ⟨rfl, HB.out.trans (Bc.out.mono HB.out.size)⟩

set_option maxRecDepth 100000 in
theorem lifted (os : Os) (started : os.Started) (H : Type) (enc : TypeId × Value → H) :
    ReturnsInHanded {} Try.checked os 3 .any (Rows.relaxTellsSpec.pre6 enc Try.prog Try.f3 Rows.relaxTellsRow.domain false) (Rows.relaxTellsSpec.post enc Try.prog Try.f3 false true false false) := by
  refine returnsInHanded_of_change (C := Try.checked) own started (by kernel_rfl) Try.func3
    (ChangeSpec.witness6 (enc := enc) (C := Try.checked) false ⟨#[], #[.agg #[.int .i64 0, .int .i64 0, .int .i64 0, .int .i64 0, .int .i64 0, .int .u64 0, .int .u64 0, .int .u64 0], .agg #[.int .i64 0, .int .i64 0, .int .i64 0, .int .i64 0, .int .i64 0, .int .u64 0, .int .u64 0, .int .u64 0], .slice none 0 0], []⟩ 8 (by kernel_rfl) (by kernel_rfl) (by kernel_rfl) (by kernel_rfl)) ?_
  intro W base args ds gs before hval0 hW hcnd _
  have hval : ∀ (j : Nat) t v, Try.f3.params[j]? = some t → args[j]? = some v → Value.okWide Try.prog W .any base t v := hval0
  have hW' := hW
  obtain ⟨p, q, hA0, hV, rfl, hfz, hnd⟩ := hW
  have hA : DataW.TrodAll enc Try.prog W 0 (fun _ => true) true Try.f3.params.toList args.toList ds p := hA0
  rw [Try.params3] at hA hval
  obtain ⟨v0, vs0, d0, ds0, p0, q0, hargs, rfl, rfl, h0, r0⟩ := trodAll_cons hA
  obtain ⟨v1, vs1, d1, ds1, p1, q1, rfl, rfl, rfl, h1, r1⟩ := trodAll_cons r0
  obtain ⟨v2, vs2, d2, ds2, p2, q2, rfl, rfl, rfl, h2, r2⟩ := trodAll_cons r1
  obtain ⟨rfl, rfl, rfl⟩ := trodAll_nil r2
  obtain rfl : args = #[v0, v1, v2] := by cases args; simp_all
  obtain ⟨rfl, rfl⟩ := trodVars_none hV
  have k0 := h0
  have lt0 : ∀ x ∈ p0, x.block < W.heap.size := by obtain ⟨m, hm⟩ := k0; exact DataW.trod_lt m _ _ _ hm
  have k1 := h1
  have lt1 : ∀ x ∈ p1, x.block < W.heap.size := by obtain ⟨m, hm⟩ := k1; exact DataW.trod_lt m _ _ _ hm
  have k2 := h2
  have lt2 : ∀ x ∈ p2, x.block < W.heap.size := by obtain ⟨m, hm⟩ := k2; exact DataW.trod_lt m _ _ _ hm
  obtain ⟨s0, rfl, _, e0⟩ := open_state (hval 0 24 v0 rfl rfl) h0
  obtain ⟨s1, rfl, _, e1⟩ := open_state (hval 1 24 v1 rfl rfl) h1
  obtain ⟨a2, len2, cap2, rfl⟩ := okWide_slice Try.underlying25 (hval 2 25 v2 rfl rfl)
  obtain ⟨l2, e2, f2⟩ := open_states h2
  clear hA0 hval0
  refine (walk s0 s1 _ l2 W e0 e1 e2 f2).mono fun e W' ⟨he, bel⟩ => ?_
  subst he
  exact ⟨_, rfl, _, _, _, [], _, [], hW', trodAll_mk1 (shut_bool Try.underlying4 _), (trodAll_cons_mk (Below.trod laidOut (by kernel_rfl) (of_decide_eq_true (by kernel_rfl)) k0 bel lt0) (trodAll_cons_mk (Below.trod laidOut (by kernel_rfl) (of_decide_eq_true (by kernel_rfl)) k1 bel lt1) (trodAll_cons_mk (Below.trod laidOut (by kernel_rfl) (of_decide_eq_true (by kernel_rfl)) k2 bel lt2) trodAll_mk0))), rfl, bel.frame _, fun h => by cases h⟩

theorem over : Rows.relaxTellsRow.holds Try.pinned (OpenSpec.ofChange Rows.relaxTellsSpec) :=
  OpenClaim.holds_of_wide 3 Try.f3 rfl rfl rfl rfl rfl rfl rfl ⟨rfl, rfl, rfl, rfl, rfl⟩ rfl rfl rfl rfl rfl (by kernel_rfl) Try.func3 (by kernel_rfl)
    (of_decide_eq_true (by kernel_rfl)) (by unfold Func.isWrapper; first | (rw [if_pos (by decide +kernel)]; kernel_rfl) | (rw [if_neg (by decide +kernel)]; exact ⟨rfl, rfl⟩))
    (fun os started H enc _ => lifted os started H enc)

theorem proved : Rows.RelaxTellsSaid := over
#print axioms proved
end Go.Proofs.Ytclepdnpclmegaa.relaxTells
