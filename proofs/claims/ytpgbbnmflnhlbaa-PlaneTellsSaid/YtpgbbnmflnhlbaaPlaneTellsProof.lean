/- PlaneTells holds for all stops and instances; there is no further condition. -/
import Derived.Test.YtpgbbnmflnhlbaaOrd
import Derived.Test.YtpgbbnmflnhlbaaRows
import Derived.Test.YtpgbbnmflnhlbaaPRef
namespace Go.Proofs.Ytpgbbnmflnhlbaa.planeTells
open Go.ChangeShapes Go.WideShapes Go.ChangeAt Go.RowKit

theorem holdsT (w : World) (a b : Stp) (I : Ins) (v : Value) : Holds (cellsP w.heap.size a ++ cellsP (w.heap.size + 1) b ++ cellsI (w.heap.size + 2) I v) (((w.alloc (boxS a)).alloc (boxS b)).alloc (boxI I v)) := Holds.app.2
  ⟨Holds.below (M := ((w.alloc (boxS a)).alloc (boxS b)).heap.size) ((Below.refl _ ((w.alloc (boxS a)).alloc (boxS b))).alloc (Nat.le_refl _) (boxI I v)) (holdsP2 w a b) (lowsP2 (by simp)), by have := holds_box ((w.alloc (boxS a)).alloc (boxS b)) I v; rw [show ((w.alloc (boxS a)).alloc (boxS b)).heap.size = w.heap.size + 2 by simp] at this; exact this⟩
theorem lowsT {M N : Nat} {a b : Stp} {I : Ins} {v : Value} (h : N + 2 < M) : Lows M (cellsP N a ++ cellsP (N + 1) b ++ cellsI (N + 2) I v) := Lows.app (lowsP2 (by omega)) ⟨h, h, h, h, trivial⟩
set_option maxRecDepth 1000000 in
set_option maxHeartbeats 4000000 in
theorem walk (s0 : Stp) (s1 : Stp) (I2 : Ins) (v2 : Value) (w : World) (e2 : SRow w v2 I2.l) :
    Calls Try.prog 3 #[stopV s0, stopV s1, insV I2 v2] w fun e w' => e = .returned (.bool true) ∧ Below w.heap.size w w' := by
  have HE := Lib.hid e2
  obtain ⟨ad, cap, rfl, hm, _⟩ := e2.form
  have hm1 : I2.l.length ≤ 9223372036854775807 := by unfold maxLen at hm; omega
  clear e2 hm
  unfold stopV insV
  go_enter Try.func3, Try.ntmps3
  go_wp2_with fail
  change Calls _ _ _ (((w.alloc (boxS s0)).alloc (boxS s1)).alloc (boxI I2 (.slice ad I2.l.length cap))) _
  have HB0 := Lib.hid ((((Below.refl _ w).alloc (Nat.le_refl _) (boxS s0)).alloc (by simp) (boxS s1)).alloc (by simp; omega) (boxI I2 (.slice ad I2.l.length cap)))
  have HSA := Lib.hid (holdsT w s0 s1 I2 (.slice ad I2.l.length cap))
  have hltA := Lib.hid (show Lows (((w.alloc (boxS s0)).alloc (boxS s1)).alloc (boxI I2 (.slice ad I2.l.length cap))).heap.size _ from lowsT (a := s0) (b := s1) (I := I2) (v := .slice ad I2.l.length cap) (N := w.heap.size) (by simp))
  have hWz : (((w.alloc (boxS s0)).alloc (boxS s1)).alloc (boxI I2 (.slice ad I2.l.length cap))).heap.size = w.heap.size + 3 := by simp
  generalize ((w.alloc (boxS s0)).alloc (boxS s1)).alloc (boxI I2 (.slice ad I2.l.length cap)) = W at *
  refine (pawake_any _).mono ?_
  rintro e w1 ⟨rfl, hb⟩
  have HW1 := Lib.hid (HB0.out.trans (hb.mono HB0.out.size))
  have HS0 := Lib.hid (Holds.below hb HSA.out hltA.out)
  have hlt := Lib.hid (show Lows w1.heap.size (cellsP w.heap.size s0 ++ cellsP (w.heap.size + 1) s1 ++ cellsI (w.heap.size + 2) I2 (.slice ad I2.l.length cap)) from lowsT (by have := hb.size; omega))
  have HE1 := Lib.hid (HE.out.below HW1.out)
  clear hb HSA hltA
  have hc := HS0.out
  simp only [cellsP, cellsI, List.cons_append, List.nil_append, Holds] at hc
  obtain ⟨_, _, _, _, _, _, _, _, _, _, _, _, c0, c1, c2, c3, _⟩ := hc
  by_cases d : 100 < (I2.l.length : Int)
  · have d0 := decide_eq_true d
    clear d
    go_wp2
    go_ret
    exact ⟨rfl, HW1.out⟩
  have d0 := decide_eq_false d
  clear d
  go_wp2_with fail
  clear c0 c1 c2 c3 d0
  have Bc := Lib.hid ((Below.refl w1.heap.size w1).drew)
  refine wp_region_held_drew (S := Holds (cellsP w.heap.size s0 ++ cellsP (w.heap.size + 1) s1 ++ cellsI (w.heap.size + 2) I2 (.slice ad I2.l.length cap))) (by kernel_rfl) (Holds.below Bc.out HS0.out hlt.out) (fun hSn => ?_)
  simp only [cellsP, cellsI, List.cons_append, List.nil_append] at *
  refine tks [0, 2] 2 rfl (by kernel_rfl) (fun _ _ _ _ h => h) (by assumption) (fun KT hKT => ?_)
  iterate 2 (refine tkT (by (simp only [gA, gB, gC]; rfl)) (by rfl) (by (intro w hSw; (simp only [Holds] at hSw); go_simp <;> with_reducible rfl)) ?_; simp only [Act.put, pA, pB, pC])
  refine hKT _ ?_
  clear KT hKT
  refine wpAnyH_ready (rs := [1]) (by kernel_rfl) (by simp) ?_
  refine AllReadyH.cons (o := ?oz43) ?iz43 (fun K hK => ?kz43) AllReadyH.nil
  case iz43 => (simp only [List.getElem?_toArray, List.getElem?_cons_zero, List.getElem?_cons_succ]; rfl)
  go_simp
  change Calls _ _ #[insV I2 (.slice ad I2.l.length cap)] _ _
  refine (matrix_any (HE1.out.below Bc.out)).mono ?_
  rintro e w2 ⟨m1, rfl, hx, hb⟩
  have HX := Lib.hid hx.is
  refine held_more hK HS0.out hlt (Bc.out.trans (hb.mono Bc.out.size)) (fun Bc hSn => ?_)
  clear hb hK hx
  refine wpAnyH_ready (rs := [3]) (by kernel_rfl) (by simp) ?_
  refine AllReadyH.cons (o := ?oz44) ?iz44 (fun K hK => ?kz44) AllReadyH.nil
  case iz44 => (simp only [List.getElem?_toArray, List.getElem?_cons_zero, List.getElem?_cons_succ]; rfl)
  go_simp
  change Calls _ _ #[insV I2 (.slice ad I2.l.length cap)] _ _
  refine (rmatrix_any (HE1.out.below Bc.out)).mono ?_
  rintro e w3 ⟨m2, rfl, hy, hb⟩
  have HX3 := Lib.hid (HX.out.below hb)
  have HY := Lib.hid hy.is
  refine held_more hK HS0.out hlt (Bc.out.trans (hb.mono Bc.out.size)) (fun Bc hSn => ?_)
  clear hb hK hy
  refine wpAnyH_ready (rs := [4]) (by kernel_rfl) (by simp) ?_
  refine AllReadyH.cons (o := ?oz45) ?iz45 (fun K hK => ?kz45) AllReadyH.nil
  case iz45 => (simp only [List.getElem?_toArray, List.getElem?_cons_zero, List.getElem?_cons_succ]; rfl)
  go_simp
  refine (same_refl HX3.out HY.out).mono ?_
  rintro e w4 ⟨rfl, hb⟩
  refine held_more hK HS0.out hlt (Bc.out.trans (hb.mono Bc.out.size)) (fun Bc hSn => ?_)
  clear hb hK HX HX3 HY
  refine tks [5] 1 rfl (by kernel_rfl) (fun _ _ _ _ h => h) (by assumption) (fun KT hKT => ?_)
  refine tkT (by (simp only [gA, gB, gC]; rfl)) (by rfl) (by (intro w hSw; (simp only [Holds] at hSw); go_simp <;> with_reducible rfl)) ?_
  simp only [Act.put, pA, pB, pC]
  refine hKT _ ?_
  clear KT hKT
  refine wpAnyH_done (by kernel_rfl) ?_ _
  go_wp2_with fail
  have Bd := Lib.hid Bc.out.drew
  clear hSn Bc
  refine wp_region_held_drew (by kernel_rfl) (Holds.below Bd.out HS0.out hlt.out) (fun hSn => ?_)
  have Bc := Bd
  clear Bd
  refine tks [0, 2] 2 rfl (by kernel_rfl) (fun _ _ _ _ h => h) (by assumption) (fun KT hKT => ?_)
  iterate 2 (refine tkT (by (simp only [gA, gB, gC]; rfl)) (by rfl) (by (intro w hSw; (simp only [Holds] at hSw); go_simp <;> with_reducible rfl)) ?_; simp only [Act.put, pA, pB, pC])
  refine hKT _ ?_
  clear KT hKT
  refine wpAnyH_ready (rs := [1]) (by kernel_rfl) (by simp) ?_
  refine AllReadyH.cons (o := ?oz46) ?iz46 (fun K hK => ?kz46) AllReadyH.nil
  case iz46 => (simp only [List.getElem?_toArray, List.getElem?_cons_zero, List.getElem?_cons_succ]; rfl)
  go_simp
  change Calls _ _ #[insV I2 (.slice ad I2.l.length cap)] _ _
  refine (near_any (HE1.out.below Bc.out)).mono ?_
  rintro e w5 ⟨n1, rfl, hx, hb⟩
  have HX := Lib.hid hx.row
  refine held_more hK HS0.out hlt (Bc.out.trans (hb.mono Bc.out.size)) (fun Bc hSn => ?_)
  clear hb hK hx
  refine wpAnyH_ready (rs := [3]) (by kernel_rfl) (by simp) ?_
  refine AllReadyH.cons (o := ?oz47) ?iz47 (fun K hK => ?kz47) AllReadyH.nil
  case iz47 => (simp only [List.getElem?_toArray, List.getElem?_cons_zero, List.getElem?_cons_succ]; rfl)
  go_simp
  change Calls _ _ #[insV I2 (.slice ad I2.l.length cap)] _ _
  refine (rnear_any (HE1.out.below Bc.out)).mono ?_
  rintro e w6 ⟨n2, rfl, hy, hb⟩
  have HX3 := Lib.hid (HX.out.below hb)
  have HY := Lib.hid hy.row
  refine held_more hK HS0.out hlt (Bc.out.trans (hb.mono Bc.out.size)) (fun Bc hSn => ?_)
  clear hb hK hy
  refine wpAnyH_ready (rs := [4]) (by kernel_rfl) (by simp) ?_
  refine AllReadyH.cons (o := ?oz48) ?iz48 (fun K hK => ?kz48) AllReadyH.nil
  case iz48 => (simp only [List.getElem?_toArray, List.getElem?_cons_zero, List.getElem?_cons_succ]; rfl)
  go_simp
  refine (same2_any HX3.out HY.out).mono ?_
  rw [decide_eq_true (rfl : nearM (matI I2) = nearM (matI I2))]
  rintro e w7 ⟨rfl, hb⟩
  refine held_more hK HS0.out hlt (Bc.out.trans (hb.mono Bc.out.size)) (fun Bc hSn => ?_)
  clear hb hK HX HX3 HY
  refine tks [5] 1 rfl (by kernel_rfl) (fun _ _ _ _ h => h) (by assumption) (fun KT hKT => ?_)
  refine tkT (by (simp only [gA, gB, gC]; rfl)) (by rfl) (by (intro w hSw; (simp only [Holds] at hSw); go_simp <;> with_reducible rfl)) ?_
  simp only [Act.put, pA, pB, pC]
  refine hKT _ ?_
  clear KT hKT
  refine wpAnyH_done (by kernel_rfl) ?_ _
  go_wp2_with fail
  have Bd := Lib.hid Bc.out.drew
  clear hSn Bc
  refine wp_region_held_drew (by kernel_rfl) (Holds.below Bd.out HS0.out hlt.out) (fun hSn => ?_)
  have Bc := Bd
  clear Bd
  refine tks [0, 1, 2, 3, 4, 5, 6] 7 rfl (by kernel_rfl) (fun _ _ _ _ h => h) (by assumption) (fun KT hKT => ?_)
  iterate 7 (refine tkT (by (simp only [gA, gB, gC]; rfl)) (by rfl) (by (intro w hSw; (simp only [Holds] at hSw); go_simp <;> with_reducible rfl)) ?_; simp only [Act.put, pA, pB, pC])
  refine hKT _ ?_
  clear KT hKT
  refine tks [8, 9] 2 rfl (by kernel_rfl) (fun _ _ _ _ h => h) (by assumption) (fun KT hKT => ?_)
  iterate 2 (refine tkT (by (simp only [gA, gB, gC]; rfl)) (by rfl) (by (intro w hSw; (simp only [Holds] at hSw); go_simp <;> with_reducible rfl)) ?_; simp only [Act.put, pA, pB, pC])
  refine hKT _ ?_
  clear KT hKT
  refine wpAnyH_ready (rs := [7]) (by kernel_rfl) (by simp) ?_
  refine AllReadyH.cons (o := ?oz49) ?iz49 (fun K hK => ?kz49) AllReadyH.nil
  case iz49 => (simp only [List.getElem?_toArray, List.getElem?_cons_zero, List.getElem?_cons_succ]; rfl)
  go_simp
  change Calls _ _ #[stopV s0, stopV s1] _ _
  refine (far_any s0 s1 _).mono ?_
  rintro e w8 ⟨rfl, hb⟩
  refine held_more hK HS0.out hlt (Bc.out.trans (hb.mono Bc.out.size)) (fun Bc hSn => ?_)
  clear hb hK
  refine wpAnyH_ready (rs := [10]) (by kernel_rfl) (by simp) ?_
  refine AllReadyH.cons (o := ?oz50) ?iz50 (fun K hK => ?kz50) AllReadyH.nil
  case iz50 => (simp only [List.getElem?_toArray, List.getElem?_cons_zero, List.getElem?_cons_succ]; rfl)
  go_simp
  change Calls _ _ #[stopV s0, stopV s1] _ _
  refine (rfar_any s0 s1 _).mono ?_
  rintro e w9 ⟨rfl, hb⟩
  refine held_more hK HS0.out hlt (Bc.out.trans (hb.mono Bc.out.size)) (fun Bc hSn => ?_)
  clear hb hK
  generalize farF s0 s1 = dd at *
  refine tks [11, 12, 13] 3 rfl (by kernel_rfl) (fun _ _ _ _ h => h) (by assumption) (fun KT hKT => ?_)
  iterate 3 (refine tkT (by (simp only [gA, gB, gC]; rfl)) (by rfl) (by (intro w hSw; (simp only [Holds] at hSw); go_simp <;> with_reducible rfl)) ?_; simp only [Act.put, pA, pB, pC])
  refine hKT _ ?_
  clear KT hKT
  refine wpAnyH_done (by kernel_rfl) ?_ _
  go_wp2
  go_ret
  exact ⟨rfl, HW1.out.trans (Bc.out.mono HW1.out.size)⟩

set_option maxRecDepth 100000 in
theorem lifted (os : Os) (started : os.Started) (H : Type) (enc : TypeId × Value → H) :
    ReturnsInHanded {} Try.checked os 3 .any (Rows.planeTellsSpec.pre6 enc Try.prog Try.f3 Rows.planeTellsRow.domain false) (Rows.planeTellsSpec.post enc Try.prog Try.f3 false true false false) := by
  refine returnsInHanded_of_change (C := Try.checked) own started (by kernel_rfl) Try.func3
    (ChangeSpec.witness6 (enc := enc) (C := Try.checked) false ⟨#[], #[.agg #[.int .i64 0, .int .i64 0, .int .i64 0, .int .i64 0, .int .i64 0, .int .i64 0], .agg #[.int .i64 0, .int .i64 0, .int .i64 0, .int .i64 0, .int .i64 0, .int .i64 0], .agg #[.int .i64 0, .int .i64 0, .int .i64 0, .slice none 0 0]], []⟩ 8 (by kernel_rfl) (by kernel_rfl) (by kernel_rfl) (by kernel_rfl)) ?_
  intro W base args ds gs before hval0 hW hcnd _
  have hval : ∀ (j : Nat) t v, Try.f3.params[j]? = some t → args[j]? = some v → Value.okWide Try.prog W .any base t v := hval0
  have hW' := hW
  obtain ⟨p, q, hA0, hV, rfl, hfz, hnd⟩ := hW
  have hA : DataW.TrodAll enc Try.prog W 0 (fun _ => true) true Try.f3.params.toList args.toList ds p := hA0
  rw [Try.params3] at hA hval
  obtain ⟨v0, vs0, d0, ds0, p0, q0, hargs, rfl, rfl, h0, r0⟩ := trodAll_cons hA
  obtain ⟨v1, vs1, d1, ds1, p1, q1, rfl, rfl, rfl, h1, r1⟩ := trodAll_cons r0
  obtain ⟨v2, vs2, d2, ds2, p2, q2, rfl, rfl, rfl, h2, r2⟩ := trodAll_cons r1
  obtain ⟨rfl, rfl, rfl⟩ := trodAll_nil r2
  obtain rfl : args = #[v0, v1, v2] := by cases args; simp_all
  obtain ⟨rfl, rfl⟩ := trodVars_none hV
  have k0 := h0
  have lt0 : ∀ x ∈ p0, x.block < W.heap.size := by obtain ⟨m, hm⟩ := k0; exact DataW.trod_lt m _ _ _ hm
  have k1 := h1
  have lt1 : ∀ x ∈ p1, x.block < W.heap.size := by obtain ⟨m, hm⟩ := k1; exact DataW.trod_lt m _ _ _ hm
  have k2 := h2
  have lt2 : ∀ x ∈ p2, x.block < W.heap.size := by obtain ⟨m, hm⟩ := k2; exact DataW.trod_lt m _ _ _ hm
  obtain ⟨s0, rfl, _⟩ := open_stop (hval 0 23 v0 rfl rfl) h0
  obtain ⟨s1, rfl, _⟩ := open_stop (hval 1 23 v1 rfl rfl) h1
  obtain ⟨I2, u2, rfl, e2, _⟩ := open_inst (hval 2 26 v2 rfl rfl) h2
  clear hA0 hval0
  refine (walk s0 s1 I2 _ W e2).mono fun e W' ⟨he, bel⟩ => ?_
  subst he
  exact ⟨_, rfl, _, _, _, [], _, [], hW', trodAll_mk1 (shut_bool Try.underlying4 _), (trodAll_cons_mk (Below.trod laidOut (by kernel_rfl) (of_decide_eq_true (by kernel_rfl)) k0 bel lt0) (trodAll_cons_mk (Below.trod laidOut (by kernel_rfl) (of_decide_eq_true (by kernel_rfl)) k1 bel lt1) (trodAll_cons_mk (Below.trod laidOut (by kernel_rfl) (of_decide_eq_true (by kernel_rfl)) k2 bel lt2) trodAll_mk0))), rfl, bel.frame _, fun h => by cases h⟩

theorem over : Rows.planeTellsRow.holds Try.pinned (OpenSpec.ofChange Rows.planeTellsSpec) :=
  OpenClaim.holds_of_wide 3 Try.f3 rfl rfl rfl rfl rfl rfl rfl ⟨rfl, rfl, rfl, rfl, rfl⟩ rfl rfl rfl rfl rfl (by kernel_rfl) Try.func3 (by show joinedFacts Try.checked.prog _ _ _ _ = true; unfold joinedFacts; rw [ord_may, ord_lifts, ord_make]; kernel_rfl)
    (of_decide_eq_true (by kernel_rfl)) (by unfold Func.isWrapper; first | (rw [if_pos (by decide +kernel)]; kernel_rfl) | (rw [if_neg (by decide +kernel)]; exact ⟨rfl, rfl⟩))
    (fun os started H enc _ => lifted os started H enc)

theorem proved : Rows.PlaneTellsSaid := over
#print axioms proved
end Go.Proofs.Ytpgbbnmflnhlbaa.planeTells
