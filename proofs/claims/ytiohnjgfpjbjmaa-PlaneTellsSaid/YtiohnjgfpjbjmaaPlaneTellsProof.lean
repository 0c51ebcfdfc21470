/- PlaneTells holds for all stops and instances; there is no further condition. -/
import Derived.Test.YtiohnjgfpjbjmaaRows
import Derived.Test.YtiohnjgfpjbjmaaPRef
namespace Go.Proofs.Ytiohnjgfpjbjmaa.planeTells
open Go.ChangeShapes Go.WideShapes Go.ChangeAt Go.RowKit

theorem holdsT (w : World) (a b : Stp) (I : Ins) (v : Value) : Holds (cellsP w.heap.size a ++ cellsP (w.heap.size + 1) b ++ cellsI (w.heap.size + 2) I v) (((w.alloc (boxS a)).alloc (boxS b)).alloc (boxI I v)) := Holds.app.2
  ⟨Holds.below (M := ((w.alloc (boxS a)).alloc (boxS b)).heap.size) ((Below.refl _ ((w.alloc (boxS a)).alloc (boxS b))).alloc (Nat.le_refl _) (boxI I v)) (holdsP2 w a b) (lowsP2 (by simp)), by have := holds_box ((w.alloc (boxS a)).alloc (boxS b)) I v; rw [show ((w.alloc (boxS a)).alloc (boxS b)).heap.size = w.heap.size + 2 by simp] at this; exact this⟩
theorem lowsT {M N : Nat} {a b : Stp} {I : Ins} {v : Value} (h : N + 2 < M) : Lows M (cellsP N a ++ cellsP (N + 1) b ++ cellsI (N + 2) I v) := Lows.app (lowsP2 (by omega)) ⟨h, h, h, h, trivial⟩
set_option maxRecDepth 1000000 in
set_option maxHeartbeats 4000000 in
theorem walk (s0 : Stp) (s1 : Stp) (I2 : Ins) (v2 : Value) (w : World) (e2 : SRow w v2 I2.l) :
    Calls Try.prog 3 #[stopV s0, stopV s1, insV I2 v2] w fun e w' => e = .returned (.bool true) ∧ Below w.heap.size w w' := by
  have HE := Lib.hid e2
  obtain ⟨ad, cap, rfl, hm, _⟩ := e2.form
  have hm1 : I2.l.length ≤ 9223372036854775807 := by unfold maxLen at hm; omega
  clear e2 hm
  unfold stopV insV
  go_enter Try.func3, Try.ntmps3
  go_wp2_with fail
  change Calls _ _ _ (((w.alloc (boxS s0)).alloc (boxS s1)).alloc (boxI I2 (.slice ad I2.l.length cap))) _
  have HB0 := Lib.hid ((((Below.refl _ w).alloc (Nat.le_refl _) (boxS s0)).alloc (by simp) (boxS s1)).alloc (by simp; omega) (boxI I2 (.slice ad I2.l.length cap)))
  have HSA := Lib.hid (holdsT w s0 s1 I2 (.slice ad I2.l.length cap))
  have hltA := Lib.hid (show Lows (((w.alloc (boxS s0)).alloc (boxS s1)).alloc (boxI I2 (.slice ad I2.l.length cap))).heap.size _ from lowsT (a := s0) (b := s1) (I := I2) (v := .slice ad I2.l.length cap) (N := w.heap.size) (by simp))
  have hWz : (((w.alloc (boxS s0)).alloc (boxS s1)).alloc (boxI I2 (.slice ad I2.l.length cap))).heap.size = w.heap.size + 3 := by simp
  generalize ((w.alloc (boxS s0)).alloc (boxS s1)).alloc (boxI I2 (.slice ad I2.l.length cap)) = W at *
  refine (pawake_any _).mono ?_
  rintro e w1 ⟨rfl, hb⟩
  have HW1 := Lib.hid (HB0.out.trans (hb.mono HB0.out.size))
  have HS0 := Lib.hid (Holds.below hb HSA.out hltA.out)
  have hlt := Lib.hid (show Lows w1.heap.size (cellsP w.heap.size s0 ++ cellsP (w.heap.size + 1) s1 ++ cellsI (w.heap.size + 2) I2 (.slice ad I2.l.length cap)) from lowsT (by have := hb.size; omega))
  have HE1 := Lib.hid (HE.out.below HW1.out)
  clear hb HSA hltA
  have hc := HS0.out
  simp only [cellsP, cellsI, List.cons_append, List.nil_append, Holds] at hc
  obtain ⟨_, _, _, _, _, _, _, _, _, _, _, _, c0, c1, c2, c3, _⟩ := hc
  by_cases d : 100 < (I2.l.length : Int)
  · have d0 := decide_eq_true d
    clear d
    go_wp2
    go_ret
    exact ⟨rfl, HW1.out⟩
  have d0 := decide_eq_false d
  clear d
  go_wp2_with fail
  clear c0 c1 c2 c3 d0
  have Bc := Lib.hid ((Below.refl w1.heap.size w1).drew)
  refine wp_region_held_drew (S := Holds (cellsP w.heap.size s0 ++ cellsP (w.heap.size + 1) s1 ++ cellsI (w.heap.size + 2) I2 (.slice ad I2.l.length cap))) (by kernel_rfl) (Holds.below Bc.out HS0.out hlt.out) (fun hSn => ?_)
  simp only [cellsP, cellsI, List.cons_append, List.nil_append] at *
  refine wpAnyH_take (i := 0) (oi := ?oz1) (v := ?vz1) ?iz1 (by kernel_rfl) (by kernel_rfl) (by kernel_rfl) ?qz1 (Or.inl ⟨?gz1, ?hz1⟩) (by assumption) ?rz1
  case iz1 => (simp only [List.getElem?_toArray, List.getElem?_cons_zero]; rfl)
  case qz1 => exact fun _ _ _ h => h
  case gz1 => rfl
  case hz1 => (intro w hSw; (simp only [Holds] at hSw); go_simp <;> with_reducible rfl)
  simp only [Act.put, List.setIfInBounds_toArray, List.set_cons_zero, List.set_cons_succ]
  refine wpAnyH_take (i := 2) (oi := ?oz2) (v := ?vz2) ?iz2 (by kernel_rfl) (by kernel_rfl) (by kernel_rfl) ?qz2 (Or.inl ⟨?gz2, ?hz2⟩) (by assumption) ?rz2
  case iz2 => (simp only [List.getElem?_toArray, List.getElem?_cons_zero, List.getElem?_cons_succ]; rfl)
  case qz2 => exact fun _ _ _ h => h
  case gz2 => rfl
  case hz2 => (intro w hSw; (simp only [Holds] at hSw); go_simp <;> with_reducible rfl)
  simp only [Act.put, List.setIfInBounds_toArray, List.set_cons_zero, List.set_cons_succ]
  refine wpAnyH_ready (rs := [1]) (by kernel_rfl) (by simp) ?_
  refine AllReadyH.cons (o := ?oz3) ?iz3 (fun K hK => ?kz3) AllReadyH.nil
  case iz3 => (simp only [List.getElem?_toArray, List.getElem?_cons_zero, List.getElem?_cons_succ]; rfl)
  go_simp
  change Calls _ _ #[insV I2 (.slice ad I2.l.length cap)] _ _
  refine (matrix_any (HE1.out.below Bc.out)).mono ?_
  rintro e w2 ⟨m1, rfl, hx, hb⟩
  have HX := Lib.hid hx.is
  refine held_more hK HS0.out hlt (Bc.out.trans (hb.mono Bc.out.size)) (fun Bc hSn => ?_)
  clear hb hK hx
  refine wpAnyH_ready (rs := [3]) (by kernel_rfl) (by simp) ?_
  refine AllReadyH.cons (o := ?oz4) ?iz4 (fun K hK => ?kz4) AllReadyH.nil
  case iz4 => (simp only [List.getElem?_toArray, List.getElem?_cons_zero, List.getElem?_cons_succ]; rfl)
  go_simp
  change Calls _ _ #[insV I2 (.slice ad I2.l.length cap)] _ _
  refine (rmatrix_any (HE1.out.below Bc.out)).mono ?_
  rintro e w3 ⟨m2, rfl, hy, hb⟩
  have HX3 := Lib.hid (HX.out.below hb)
  have HY := Lib.hid hy.is
  refine held_more hK HS0.out hlt (Bc.out.trans (hb.mono Bc.out.size)) (fun Bc hSn => ?_)
  clear hb hK hy
  refine wpAnyH_ready (rs := [4]) (by kernel_rfl) (by simp) ?_
  refine AllReadyH.cons (o := ?oz5) ?iz5 (fun K hK => ?kz5) AllReadyH.nil
  case iz5 => (simp only [List.getElem?_toArray, List.getElem?_cons_zero, List.getElem?_cons_succ]; rfl)
  go_simp
  refine (same_refl HX3.out HY.out).mono ?_
  rintro e w4 ⟨rfl, hb⟩
  refine held_more hK HS0.out hlt (Bc.out.trans (hb.mono Bc.out.size)) (fun Bc hSn => ?_)
  clear hb hK HX HX3 HY
  refine wpAnyH_take (i := 5) (oi := ?oz6) (v := ?vz6) ?iz6 (by kernel_rfl) (by kernel_rfl) (by kernel_rfl) ?qz6 (Or.inl ⟨?gz6, ?hz6⟩) (by assumption) ?rz6
  case iz6 => (simp only [List.getElem?_toArray, List.getElem?_cons_zero, List.getElem?_cons_succ]; rfl)
  case qz6 => exact fun _ _ _ h => h
  case gz6 => rfl
  case hz6 => (intro w hSw; (simp only [Holds] at hSw); go_simp <;> with_reducible rfl)
  simp only [Act.put, List.setIfInBounds_toArray, List.set_cons_zero, List.set_cons_succ]
  refine wpAnyH_done (by kernel_rfl) ?_ _
  go_wp2_with fail
  have Bd := Lib.hid Bc.out.drew
  clear hSn Bc
  refine wp_region_held_drew (by kernel_rfl) (Holds.below Bd.out HS0.out hlt.out) (fun hSn => ?_)
  have Bc := Bd
  clear Bd
  refine wpAnyH_take (i := 0) (oi := ?oz7) (v := ?vz7) ?iz7 (by kernel_rfl) (by kernel_rfl) (by kernel_rfl) ?qz7 (Or.inl ⟨?gz7, ?hz7⟩) (by assumption) ?rz7
  case iz7 => (simp only [List.getElem?_toArray, List.getElem?_cons_zero]; rfl)
  case qz7 => exact fun _ _ _ h => h
  case gz7 => rfl
  case hz7 => (intro w hSw; (simp only [Holds] at hSw); go_simp <;> with_reducible rfl)
  simp only [Act.put, List.setIfInBounds_toArray, List.set_cons_zero, List.set_cons_succ]
  refine wpAnyH_take (i := 2) (oi := ?oz8) (v := ?vz8) ?iz8 (by kernel_rfl) (by kernel_rfl) (by kernel_rfl) ?qz8 (Or.inl ⟨?gz8, ?hz8⟩) (by assumption) ?rz8
  case iz8 => (simp only [List.getElem?_toArray, List.getElem?_cons_zero, List.getElem?_cons_succ]; rfl)
  case qz8 => exact fun _ _ _ h => h
  case gz8 => rfl
  case hz8 => (intro w hSw; (simp only [Holds] at hSw); go_simp <;> with_reducible rfl)
  simp only [Act.put, List.setIfInBounds_toArray, List.set_cons_zero, List.set_cons_succ]
  refine wpAnyH_ready (rs := [1]) (by kernel_rfl) (by simp) ?_
  refine AllReadyH.cons (o := ?oz9) ?iz9 (fun K hK => ?kz9) AllReadyH.nil
  case iz9 => (simp only [List.getElem?_toArray, List.getElem?_cons_zero, List.getElem?_cons_succ]; rfl)
  go_simp
  change Calls _ _ #[insV I2 (.slice ad I2.l.length cap)] _ _
  refine (near_any (HE1.out.below Bc.out)).mono ?_
  rintro e w5 ⟨n1, rfl, hx, hb⟩
  have HX := Lib.hid hx.row
  refine held_more hK HS0.out hlt (Bc.out.trans (hb.mono Bc.out.size)) (fun Bc hSn => ?_)
  clear hb hK hx
  refine wpAnyH_ready (rs := [3]) (by kernel_rfl) (by simp) ?_
  refine AllReadyH.cons (o := ?oz10) ?iz10 (fun K hK => ?kz10) AllReadyH.nil
  case iz10 => (simp only [List.getElem?_toArray, List.getElem?_cons_zero, List.getElem?_cons_succ]; rfl)
  go_simp
  change Calls _ _ #[insV I2 (.slice ad I2.l.length cap)] _ _
  refine (rnear_any (HE1.out.below Bc.out)).mono ?_
  rintro e w6 ⟨n2, rfl, hy, hb⟩
  have HX3 := Lib.hid (HX.out.below hb)
  have HY := Lib.hid hy.row
  refine held_more hK HS0.out hlt (Bc.out.trans (hb.mono Bc.out.size)) (fun Bc hSn => ?_)
  clear hb hK hy
  refine wpAnyH_ready (rs := [4]) (by kernel_rfl) (by simp) ?_
  refine AllReadyH.cons (o := ?oz11) ?iz11 (fun K hK => ?kz11) AllReadyH.nil
  case iz11 => (simp only [List.getElem?_toArray, List.getElem?_cons_zero, List.getElem?_cons_succ]; rfl)
  go_simp
  refine (same2_any HX3.out HY.out).mono ?_
  rw [decide_eq_true (rfl : nearM (matI I2) = nearM (matI I2))]
  rintro e w7 ⟨rfl, hb⟩
  refine held_more hK HS0.out hlt (Bc.out.trans (hb.mono Bc.out.size)) (fun Bc hSn => ?_)
  clear hb hK HX HX3 HY
  refine wpAnyH_take (i := 5) (oi := ?oz12) (v := ?vz12) ?iz12 (by kernel_rfl) (by kernel_rfl) (by kernel_rfl) ?qz12 (Or.inl ⟨?gz12, ?hz12⟩) (by assumption) ?rz12
  case iz12 => (simp only [List.getElem?_toArray, List.getElem?_cons_zero, List.getElem?_cons_succ]; rfl)
  case qz12 => exact fun _ _ _ h => h
  case gz12 => rfl
  case hz12 => (intro w hSw; (simp only [Holds] at hSw); go_simp <;> with_reducible rfl)
  simp only [Act.put, List.setIfInBounds_toArray, List.set_cons_zero, List.set_cons_succ]
  refine wpAnyH_done (by kernel_rfl) ?_ _
  go_wp2_with fail
  have Bd := Lib.hid Bc.out.drew
  clear hSn Bc
  refine wp_region_held_drew (by kernel_rfl) (Holds.below Bd.out HS0.out hlt.out) (fun hSn => ?_)
  have Bc := Bd
  clear Bd
  refine wpAnyH_take (i := 0) (oi := ?oz13) (v := ?vz13) ?iz13 (by kernel_rfl) (by kernel_rfl) (by kernel_rfl) ?qz13 (Or.inl ⟨?gz13, ?hz13⟩) (by assumption) ?rz13
  case iz13 => (simp only [List.getElem?_toArray, List.getElem?_cons_zero]; rfl)
  case qz13 => exact fun _ _ _ h => h
  case gz13 => rfl
  case hz13 => (intro w hSw; (simp only [Holds] at hSw); go_simp <;> with_reducible rfl)
  simp only [Act.put, List.setIfInBounds_toArray, List.set_cons_zero, List.set_cons_succ]
  refine wpAnyH_take (i := 1) (oi := ?oz14) (v := ?vz14) ?iz14 (by kernel_rfl) (by kernel_rfl) (by kernel_rfl) ?qz14 (Or.inl ⟨?gz14, ?hz14⟩) (by assumption) ?rz14
  case iz14 => (simp only [List.getElem?_toArray, List.getElem?_cons_zero, List.getElem?_cons_succ]; rfl)
  case qz14 => exact fun _ _ _ h => h
  case gz14 => rfl
  case hz14 => (intro w hSw; (simp only [Holds] at hSw); go_simp <;> with_reducible rfl)
  simp only [Act.put, List.setIfInBounds_toArray, List.set_cons_zero, List.set_cons_succ]
  refine wpAnyH_take (i := 2) (oi := ?oz15) (v := ?vz15) ?iz15 (by kernel_rfl) (by kernel_rfl) (by kernel_rfl) ?qz15 (Or.inl ⟨?gz15, ?hz15⟩) (by assumption) ?rz15
  case iz15 => (simp only [List.getElem?_toArray, List.getElem?_cons_zero, List.getElem?_cons_succ]; rfl)
  case qz15 => exact fun _ _ _ h => h
  case gz15 => rfl
  case hz15 => (intro w hSw; (simp only [Holds] at hSw); go_simp <;> with_reducible rfl)
  simp only [Act.put, List.setIfInBounds_toArray, List.set_cons_zero, List.set_cons_succ]
  refine wpAnyH_take (i := 3) (oi := ?oz16) (v := ?vz16) ?iz16 (by kernel_rfl) (by kernel_rfl) (by kernel_rfl) ?qz16 (Or.inl ⟨?gz16, ?hz16⟩) (by assumption) ?rz16
  case iz16 => (simp only [List.getElem?_toArray, List.getElem?_cons_zero, List.getElem?_cons_succ]; rfl)
  case qz16 => exact fun _ _ _ h => h
  case gz16 => rfl
  case hz16 => (intro w hSw; (simp only [Holds] at hSw); go_simp <;> with_reducible rfl)
  simp only [Act.put, List.setIfInBounds_toArray, List.set_cons_zero, List.set_cons_succ]
  refine wpAnyH_take (i := 4) (oi := ?oz17) (v := ?vz17) ?iz17 (by kernel_rfl) (by kernel_rfl) (by kernel_rfl) ?qz17 (Or.inl ⟨?gz17, ?hz17⟩) (by assumption) ?rz17
  case iz17 => (simp only [List.getElem?_toArray, List.getElem?_cons_zero, List.getElem?_cons_succ]; rfl)
  case qz17 => exact fun _ _ _ h => h
  case gz17 => rfl
  case hz17 => (intro w hSw; (simp only [Holds] at hSw); go_simp <;> with_reducible rfl)
  simp only [Act.put, List.setIfInBounds_toArray, List.set_cons_zero, List.set_cons_succ]
  refine wpAnyH_take (i := 5) (oi := ?oz18) (v := ?vz18) ?iz18 (by kernel_rfl) (by kernel_rfl) (by kernel_rfl) ?qz18 (Or.inl ⟨?gz18, ?hz18⟩) (by assumption) ?rz18
  case iz18 => (simp only [List.getElem?_toArray, List.getElem?_cons_zero, List.getElem?_cons_succ]; rfl)
  case qz18 => exact fun _ _ _ h => h
  case gz18 => rfl
  case hz18 => (intro w hSw; (simp only [Holds] at hSw); go_simp <;> with_reducible rfl)
  simp only [Act.put, List.setIfInBounds_toArray, List.set_cons_zero, List.set_cons_succ]
  refine wpAnyH_take (i := 6) (oi := ?oz19) (v := ?vz19) ?iz19 (by kernel_rfl) (by kernel_rfl) (by kernel_rfl) ?qz19 (Or.inl ⟨?gz19, ?hz19⟩) (by assumption) ?rz19
  case iz19 => (simp only [List.getElem?_toArray, List.getElem?_cons_zero, List.getElem?_cons_succ]; rfl)
  case qz19 => exact fun _ _ _ h => h
  case gz19 => rfl
  case hz19 => (intro w hSw; (simp only [Holds] at hSw); go_simp <;> with_reducible rfl)
  simp only [Act.put, List.setIfInBounds_toArray, List.set_cons_zero, List.set_cons_succ]
  refine wpAnyH_take (i := 8) (oi := ?oz20) (v := ?vz20) ?iz20 (by kernel_rfl) (by kernel_rfl) (by kernel_rfl) ?qz20 (Or.inl ⟨?gz20, ?hz20⟩) (by assumption) ?rz20
  case iz20 => (simp only [List.getElem?_toArray, List.getElem?_cons_zero, List.getElem?_cons_succ]; rfl)
  case qz20 => exact fun _ _ _ h => h
  case gz20 => rfl
  case hz20 => (intro w hSw; (simp only [Holds] at hSw); go_simp <;> with_reducible rfl)
  simp only [Act.put, List.setIfInBounds_toArray, List.set_cons_zero, List.set_cons_succ]
  refine wpAnyH_take (i := 9) (oi := ?oz21) (v := ?vz21) ?iz21 (by kernel_rfl) (by kernel_rfl) (by kernel_rfl) ?qz21 (Or.inl ⟨?gz21, ?hz21⟩) (by assumption) ?rz21
  case iz21 => (simp only [List.getElem?_toArray, List.getElem?_cons_zero, List.getElem?_cons_succ]; rfl)
  case qz21 => exact fun _ _ _ h => h
  case gz21 => rfl
  case hz21 => (intro w hSw; (simp only [Holds] at hSw); go_simp <;> with_reducible rfl)
  simp only [Act.put, List.setIfInBounds_toArray, List.set_cons_zero, List.set_cons_succ]
  refine wpAnyH_ready (rs := [7]) (by kernel_rfl) (by simp) ?_
  refine AllReadyH.cons (o := ?oz22) ?iz22 (fun K hK => ?kz22) AllReadyH.nil
  case iz22 => (simp only [List.getElem?_toArray, List.getElem?_cons_zero, List.getElem?_cons_succ]; rfl)
  go_simp
  change Calls _ _ #[stopV s0, stopV s1] _ _
  refine (far_any s0 s1 _).mono ?_
  rintro e w8 ⟨rfl, hb⟩
  refine held_more hK HS0.out hlt (Bc.out.trans (hb.mono Bc.out.size)) (fun Bc hSn => ?_)
  clear hb hK
  refine wpAnyH_ready (rs := [10]) (by kernel_rfl) (by simp) ?_
  refine AllReadyH.cons (o := ?oz23) ?iz23 (fun K hK => ?kz23) AllReadyH.nil
  case iz23 => (simp only [List.getElem?_toArray, List.getElem?_cons_zero, List.getElem?_cons_succ]; rfl)
  go_simp
  change Calls _ _ #[stopV s0, stopV s1] _ _
  refine (rfar_any s0 s1 _).mono ?_
  rintro e w9 ⟨rfl, hb⟩
  refine held_more hK HS0.out hlt (Bc.out.trans (hb.mono Bc.out.size)) (fun Bc hSn => ?_)
  clear hb hK
  generalize farF s0 s1 = dd at *
  refine wpAnyH_take (i := 11) (oi := ?oz24) (v := ?vz24) ?iz24 (by kernel_rfl) (by kernel_rfl) (by kernel_rfl) ?qz24 (Or.inl ⟨?gz24, ?hz24⟩) (by assumption) ?rz24
  case iz24 => (simp only [List.getElem?_toArray, List.getElem?_cons_zero, List.getElem?_cons_succ]; rfl)
  case qz24 => exact fun _ _ _ h => h
  case gz24 => rfl
  case hz24 => (intro w hSw; (simp only [Holds] at hSw); go_simp <;> with_reducible rfl)
  simp only [Act.put, List.setIfInBounds_toArray, List.set_cons_zero, List.set_cons_succ]
  refine wpAnyH_take (i := 12) (oi := ?oz25) (v := ?vz25) ?iz25 (by kernel_rfl) (by kernel_rfl) (by kernel_rfl) ?qz25 (Or.inl ⟨?gz25, ?hz25⟩) (by assumption) ?rz25
  case iz25 => (simp only [List.getElem?_toArray, List.getElem?_cons_zero, List.getElem?_cons_succ]; rfl)
  case qz25 => exact fun _ _ _ h => h
  case gz25 => rfl
  case hz25 => (intro w hSw; (simp only [Holds] at hSw); go_simp <;> with_reducible rfl)
  simp only [Act.put, List.setIfInBounds_toArray, List.set_cons_zero, List.set_cons_succ]
  refine wpAnyH_take (i := 13) (oi := ?oz26) (v := ?vz26) ?iz26 (by kernel_rfl) (by kernel_rfl) (by kernel_rfl) ?qz26 (Or.inl ⟨?gz26, ?hz26⟩) (by assumption) ?rz26
  case iz26 => (simp only [List.getElem?_toArray, List.getElem?_cons_zero, List.getElem?_cons_succ]; rfl)
  case qz26 => exact fun _ _ _ h => h
  case gz26 => rfl
  case hz26 => (intro w hSw; (simp only [Holds] at hSw); go_simp <;> with_reducible rfl)
  simp only [Act.put, List.setIfInBounds_toArray, List.set_cons_zero, List.set_cons_succ]
  refine wpAnyH_done (by kernel_rfl) ?_ _
  go_wp2
  go_ret
  exact ⟨rfl, HW1.out.trans (Bc.out.mono HW1.out.size)⟩

set_option maxRecDepth 100000 in
theorem lifted (os : Os) (started : os.Started) (H : Type) (enc : TypeId × Value → H) :
    ReturnsInHanded {} Try.checked os 3 .any (Rows.planeTellsSpec.pre6 enc Try.prog Try.f3 Rows.planeTellsRow.domain false) (Rows.planeTellsSpec.post enc Try.prog Try.f3 false true false false) := by
  refine returnsInHanded_of_change (C := Try.checked) own started (by kernel_rfl) Try.func3
    (ChangeSpec.witness6 (enc := enc) (C := Try.checked) false ⟨#[], #[.agg #[.int .i64 0, .int .i64 0, .int .i64 0, .int .i64 0, .int .i64 0, .int .i64 0], .agg #[.int .i64 0, .int .i64 0, .int .i64 0, .int .i64 0, .int .i64 0, .int .i64 0], .agg #[.int .i64 0, .int .i64 0, .int .i64 0, .slice none 0 0]], []⟩ 8 (by kernel_rfl) (by kernel_rfl) (by kernel_rfl) (by kernel_rfl)) ?_
  intro W base args ds gs before hval0 hW hcnd _
  have hval : ∀ (j : Nat) t v, Try.f3.params[j]? = some t → args[j]? = some v → Value.okWide Try.prog W .any base t v := hval0
  have hW' := hW
  obtain ⟨p, q, hA0, hV, rfl, hfz, hnd⟩ := hW
  have hA : DataW.TrodAll enc Try.prog W 0 (fun _ => true) true Try.f3.params.toList args.toList ds p := hA0
  rw [Try.params3] at hA hval
  obtain ⟨v0, vs0, d0, ds0, p0, q0, hargs, rfl, rfl, h0, r0⟩ := trodAll_cons hA
  obtain ⟨v1, vs1, d1, ds1, p1, q1, rfl, rfl, rfl, h1, r1⟩ := trodAll_cons r0
  obtain ⟨v2, vs2, d2, ds2, p2, q2, rfl, rfl, rfl, h2, r2⟩ := trodAll_cons r1
  obtain ⟨rfl, rfl, rfl⟩ := trodAll_nil r2
  obtain rfl : args = #[v0, v1, v2] := by cases args; simp_all
  obtain ⟨rfl, rfl⟩ := trodVars_none hV
  have k0 := h0
  have lt0 : ∀ x ∈ p0, x.block < W.heap.size := by obtain ⟨m, hm⟩ := k0; exact DataW.trod_lt m _ _ _ hm
  have k1 := h1
  have lt1 : ∀ x ∈ p1, x.block < W.heap.size := by obtain ⟨m, hm⟩ := k1; exact DataW.trod_lt m _ _ _ hm
  have k2 := h2
  have lt2 : ∀ x ∈ p2, x.block < W.heap.size := by obtain ⟨m, hm⟩ := k2; exact DataW.trod_lt m _ _ _ hm
  obtain ⟨s0, rfl, _⟩ := open_stop (hval 0 23 v0 rfl rfl) h0
  obtain ⟨s1, rfl, _⟩ := open_stop (hval 1 23 v1 rfl rfl) h1
  obtain ⟨I2, u2, rfl, e2, _⟩ := open_inst (hval 2 26 v2 rfl rfl) h2
  clear hA0 hval0
  refine (walk s0 s1 I2 _ W e2).mono fun e W' ⟨he, bel⟩ => ?_
  subst he
  exact ⟨_, rfl, _, _, _, [], _, [], hW', trodAll_mk1 (shut_bool Try.underlying4 _), (trodAll_cons_mk (Below.trod laidOut (by kernel_rfl) (of_decide_eq_true (by kernel_rfl)) k0 bel lt0) (trodAll_cons_mk (Below.trod laidOut (by kernel_rfl) (of_decide_eq_true (by kernel_rfl)) k1 bel lt1) (trodAll_cons_mk (Below.trod laidOut (by kernel_rfl) (of_decide_eq_true (by kernel_rfl)) k2 bel lt2) trodAll_mk0))), rfl, bel.frame _, fun h => by cases h⟩

theorem over : Rows.planeTellsRow.holds Try.pinned (OpenSpec.ofChange Rows.planeTellsSpec) :=
  OpenClaim.holds_of_wide 3 Try.f3 rfl rfl rfl rfl rfl rfl rfl ⟨rfl, rfl, rfl, rfl, rfl⟩ rfl rfl rfl rfl rfl (by kernel_rfl) Try.func3 (by kernel_rfl)
    (of_decide_eq_true (by kernel_rfl)) (by unfold Func.isWrapper; first | (rw [if_pos (by decide +kernel)]; kernel_rfl) | (rw [if_neg (by decide +kernel)]; exact ⟨rfl, rfl⟩))
    (fun os started H enc _ => lifted os started H enc)

theorem proved : Rows.PlaneTellsSaid := over
#print axioms proved
end Go.Proofs.Ytiohnjgfpjbjmaa.planeTells
