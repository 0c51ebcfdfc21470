/- PlaneMoves holds for all stops and numbers; there is no further condition. -/
import Derived.Test.YtpgbbnmflnhlbaaOrd
import Derived.Test.YtpgbbnmflnhlbaaRows
import Derived.Test.YtpgbbnmflnhlbaaPMovesA
import Derived.Test.YtpgbbnmflnhlbaaPMovesB
namespace Go.Proofs.Ytpgbbnmflnhlbaa.planeMoves
open Go.ChangeShapes Go.WideShapes Go.ChangeAt Go.RowKit

theorem lows_mono {M N : Nat} : ∀ {cs : List (Addr × Value)}, Lows M cs → M ≤ N → Lows N cs
  | [], _, _ => trivial
  | _ :: _, h, k => ⟨by have := h.1; omega, lows_mono h.2 k⟩
set_option maxRecDepth 1000000 in
set_option maxHeartbeats 4000000 in
theorem walk (s0 : Stp) (s1 : Stp) (a2 : Int) (a3 : Int) (w : World) :
    Calls Try.prog 5 #[stopV s0, stopV s1, .int .i64 a2, .int .i64 a3] w fun e w' => e = .returned (.bool true) ∧ Below w.heap.size w w' := by
  by_cases hA : 0 ≤ s0.x ∧ 0 ≤ s1.x ∧ 0 ≤ s0.y ∧ 0 ≤ s1.y ∧ 0 ≤ a2 ∧ 0 ≤ a3 ∧ a2 ≤ 10000 ∧ a3 ≤ 10000
  case neg => exact moves_a s0 s1 a2 a3 w hA
  by_cases hB : s0.x ≤ 10000 ∧ s1.x ≤ 10000 ∧ s0.y ≤ 10000 ∧ s1.y ≤ 10000
  case neg => exact moves_b s0 s1 a2 a3 w hA hB
  obtain ⟨g0, g1, g2, g3, g4, g5, g6, g7⟩ := hA
  obtain ⟨g8, g9, g10, g11⟩ := hB
  by_cases hC : s0.x + a2 ≤ 10000 ∧ s1.x + a2 ≤ 10000 ∧ s0.y + a3 ≤ 10000 ∧ s1.y + a3 ≤ 10000
  case neg => exact moves_c s0 s1 a2 a3 w ⟨g0, g1, g2, g3, g4, g5, g6, g7, g8, g9, g10, g11⟩ hC
  obtain ⟨g12, g13, g14, g15⟩ := hC
  have HF := Lib.hid (show farF ⟨s0.x + a2, s0.y + a3, 0, 0, 0, 0⟩ ⟨s1.x + a2, s1.y + a3, 0, 0, 0, 0⟩ = farF s0 s1 ∧ farF ⟨s0.y, s0.x, 0, 0, 0, 0⟩ ⟨s1.y, s1.x, 0, 0, 0, 0⟩ = farF s0 s1 by
    unfold farF
    simp only []
    rw [cl_in s0.x (by omega) (by omega), cl_in s0.y (by omega) (by omega), cl_in s1.x (by omega) (by omega), cl_in s1.y (by omega) (by omega), cl_in (s0.x + a2) (by omega) (by omega), cl_in (s0.y + a3) (by omega) (by omega), cl_in (s1.x + a2) (by omega) (by omega), cl_in (s1.y + a3) (by omega) (by omega)]
    rw [show s1.x + a2 - (s0.x + a2) = s1.x - s0.x by omega, show s1.y + a3 - (s0.y + a3) = s1.y - s0.y by omega]
    refine ⟨rfl, ?_⟩
    unfold farD
    rw [Int.add_comm])
  have d0 : decide (s0.x < 0) = false := decide_eq_false (by omega)
  have d1 : decide (s1.x < 0) = false := decide_eq_false (by omega)
  have d2 : decide (s0.y < 0) = false := decide_eq_false (by omega)
  have d3 : decide (s1.y < 0) = false := decide_eq_false (by omega)
  have d4 : decide (a2 < 0) = false := decide_eq_false (by omega)
  have d5 : decide (a3 < 0) = false := decide_eq_false (by omega)
  have d6 : decide (10000 < a2) = false := decide_eq_false (by omega)
  have d7 : decide (10000 < a3) = false := decide_eq_false (by omega)
  have d8 : decide (10000 < s0.x) = false := decide_eq_false (by omega)
  have d9 : decide (10000 < s1.x) = false := decide_eq_false (by omega)
  have d10 : decide (10000 < s0.y) = false := decide_eq_false (by omega)
  have d11 : decide (10000 < s1.y) = false := decide_eq_false (by omega)
  have d12 : decide (10000 < s0.x + a2) = false := decide_eq_false (by omega)
  have d13 : decide (10000 < s1.x + a2) = false := decide_eq_false (by omega)
  have d14 : decide (10000 < s0.y + a3) = false := decide_eq_false (by omega)
  have d15 : decide (10000 < s1.y + a3) = false := decide_eq_false (by omega)
  have e0 : IntKind.i64.wrap (s0.x + a2) = s0.x + a2 := IntWalk.i64_in _ (by omega)
  have e1 : IntKind.i64.wrap (s1.x + a2) = s1.x + a2 := IntWalk.i64_in _ (by omega)
  have e2 : IntKind.i64.wrap (s0.y + a3) = s0.y + a3 := IntWalk.i64_in _ (by omega)
  have e3 : IntKind.i64.wrap (s1.y + a3) = s1.y + a3 := IntWalk.i64_in _ (by omega)
  clear g0 g1 g2 g3 g4 g5 g6 g7 g8 g9 g10 g11 g12 g13 g14 g15
  unfold stopV
  go_enter Try.func5, Try.ntmps5
  go_wp2_with fail
  change Calls _ _ _ ((w.alloc (boxS s0)).alloc (boxS s1)) _
  have HB0 := Lib.hid (((Below.refl _ w).alloc (Nat.le_refl _) (boxS s0)).alloc (by simp) (boxS s1))
  have HS0 := Lib.hid (holdsP2 w s0 s1)
  have hlt0 := Lib.hid (show Lows ((w.alloc (boxS s0)).alloc (boxS s1)).heap.size _ from lowsP2 (a := s0) (b := s1) (N := w.heap.size) (by simp))
  have hWz : ((w.alloc (boxS s0)).alloc (boxS s1)).heap.size = w.heap.size + 2 := by simp
  generalize (w.alloc (boxS s0)).alloc (boxS s1) = W at *
  refine (pawake_any _).mono ?_
  rintro e w1 ⟨rfl, hb⟩
  have HW1 := Lib.hid hb
  have hc := Holds.below hb HS0.out hlt0.out
  have hz1 : w.heap.size < w1.heap.size := by have := hb.size; omega
  have hz2 : w.heap.size + 1 < w1.heap.size := by have := hb.size; omega
  clear hb
  simp only [cellsP, List.cons_append, List.nil_append, Holds] at hc
  obtain ⟨c0, c1, c2, c3, c4, c5, c6, c7, c8, c9, c10, c11, _⟩ := hc
  go_wp2_with fail
  clear d0 d1 d2 d3 d4 d5 d6 d7 d8 d9 d10 d11 d12 d13 d14 d15 c0 c1 c2 c3 c4 c5 c6 c7 c8 c9 c10 c11 e0 e1 e2 e3
  change Calls _ _ #[stopV ⟨s0.y, s0.x, 0, 0, 0, 0⟩, stopV ⟨s1.y, s1.x, 0, 0, 0, 0⟩] ((w1.alloc (boxS ⟨s0.x + a2, s0.y + a3, 0, 0, 0, 0⟩)).alloc (boxS ⟨s1.x + a2, s1.y + a3, 0, 0, 0, 0⟩)) _
  have fcd : ∀ w, Calls Try.prog 38 #[stopV ⟨s0.x + a2, s0.y + a3, 0, 0, 0, 0⟩, stopV ⟨s1.x + a2, s1.y + a3, 0, 0, 0, 0⟩] w fun e w' => e = .returned (.int .i64 (farF s0 s1)) ∧ Below w.heap.size w w' := fun w => by rw [← HF.out.1]; exact far_any _ _ w
  have ftu : ∀ w, Calls Try.prog 38 #[stopV ⟨s0.y, s0.x, 0, 0, 0, 0⟩, stopV ⟨s1.y, s1.x, 0, 0, 0, 0⟩] w fun e w' => e = .returned (.int .i64 (farF s0 s1)) ∧ Below w.heap.size w w' := fun w => by rw [← HF.out.2]; exact far_any _ _ w
  have fab := far_any s0 s1
  clear HF
  generalize farF s0 s1 = d at *
  obtain ⟨c, hc⟩ : ∃ c : Stp, (⟨s0.x + a2, s0.y + a3, 0, 0, 0, 0⟩ : Stp) = c := ⟨_, rfl⟩
  obtain ⟨g, hg⟩ : ∃ g : Stp, (⟨s1.x + a2, s1.y + a3, 0, 0, 0, 0⟩ : Stp) = g := ⟨_, rfl⟩
  rw [hc, hg] at fcd ⊢
  have HX1 := Lib.hid (HW1.out.trans (((Below.refl _ w1).alloc (Nat.le_refl _) (boxS c)).alloc (by simp) (boxS g) |>.mono (by omega)))
  have HSX := Lib.hid (show Holds ((cellsP w.heap.size s0 ++ cellsP (w.heap.size + 1) s1) ++ (cellsP w1.heap.size c ++ cellsP (w1.heap.size + 1) g)) ((w1.alloc (boxS c)).alloc (boxS g)) from Holds.app.2 ⟨Holds.below HX1.out HS0.out hlt0.out, holdsP2 w1 c g⟩)
  have hltX : Lows ((w1.alloc (boxS c)).alloc (boxS g)).heap.size ((cellsP w.heap.size s0 ++ cellsP (w.heap.size + 1) s1) ++ (cellsP w1.heap.size c ++ cellsP (w1.heap.size + 1) g)) := Lows.app (lowsP2 (by simp; omega)) (lowsP2 (by simp))
  generalize (w1.alloc (boxS c)).alloc (boxS g) = X at *
  refine (ftu _).mono ?_
  rintro e w2 ⟨rfl, hb⟩
  have HX2 := Lib.hid (HX1.out.trans (hb.mono HX1.out.size))
  have HS2 := Lib.hid (Holds.below hb HSX.out hltX)
  have hlt2 : Lows w2.heap.size _ := lows_mono hltX hb.size
  clear hb ftu HSX hltX
  go_wp2_with fail
  have HD := Lib.hid HX2.out.drew
  have HS0' := Lib.hid (Holds.below ((Below.refl w2.heap.size w2).drew) HS2.out hlt2)
  refine wp_region_held_drew (S := Holds ((cellsP w.heap.size s0 ++ cellsP (w.heap.size + 1) s1) ++ (cellsP w1.heap.size c ++ cellsP (w1.heap.size + 1) g))) (by kernel_rfl) HS0'.out (fun hSn => ?_)
  have hlt := Lib.hid (show Lows w2.drew.heap.size _ from hlt2)
  have Bc := Lib.hid (Below.refl w2.drew.heap.size w2.drew)
  clear HS0 HS2
  have HS0 := HS0'
  clear HS0'
  simp only [cellsP, List.cons_append, List.nil_append] at *
  refine tks [0, 1, 3, 4] 4 rfl (by kernel_rfl) (fun _ _ _ _ h => h) (by assumption) (fun KT hKT => ?_)
  iterate 4 (refine tkT (by (simp only [gA, gB, gC]; rfl)) (by rfl) (by (intro w hSw; (simp only [Holds] at hSw); go_simp <;> with_reducible rfl)) ?_; simp only [Act.put, pA, pB, pC])
  refine hKT _ ?_
  clear KT hKT
  refine wpAnyH_ready (rs := [2]) (by kernel_rfl) (by simp) ?_
  refine AllReadyH.cons (o := ?oz58) ?iz58 (fun K hK => ?kz58) AllReadyH.nil
  case iz58 => (simp only [List.getElem?_toArray, List.getElem?_cons_zero, List.getElem?_cons_succ]; rfl)
  go_simp
  change Calls _ _ #[stopV s0, stopV s1] _ _
  refine (fab _).mono ?_
  rintro e w' ⟨rfl, hb⟩
  refine held_more hK HS0.out hlt (Bc.out.trans (hb.mono Bc.out.size)) (fun Bc hSn => ?_)
  clear hb hK
  refine wpAnyH_ready (rs := [5]) (by kernel_rfl) (by simp) ?_
  refine AllReadyH.cons (o := ?oz59) ?iz59 (fun K hK => ?kz59) AllReadyH.nil
  case iz59 => (simp only [List.getElem?_toArray, List.getElem?_cons_zero, List.getElem?_cons_succ]; rfl)
  go_simp
  change Calls _ _ #[stopV c, stopV g] _ _
  refine (fcd _).mono ?_
  rintro e w' ⟨rfl, hb⟩
  refine held_more hK HS0.out hlt (Bc.out.trans (hb.mono Bc.out.size)) (fun Bc hSn => ?_)
  clear hb hK
  refine tks [6, 7, 8, 9, 10] 5 rfl (by kernel_rfl) (fun _ _ _ _ h => h) (by assumption) (fun KT hKT => ?_)
  iterate 5 (refine tkT (by (simp only [gA, gB, gC]; rfl)) (by rfl) (by (intro w hSw; (simp only [Holds] at hSw); go_simp <;> with_reducible rfl)) ?_; simp only [Act.put, pA, pB, pC])
  refine hKT _ ?_
  clear KT hKT
  refine wpAnyH_ready (rs := [11]) (by kernel_rfl) (by simp) ?_
  refine AllReadyH.cons (o := ?oz60) ?iz60 (fun K hK => ?kz60) AllReadyH.nil
  case iz60 => (simp only [List.getElem?_toArray, List.getElem?_cons_zero, List.getElem?_cons_succ]; rfl)
  go_simp
  change Calls _ _ #[stopV s0, stopV s1] _ _
  refine (fab _).mono ?_
  rintro e w' ⟨rfl, hb⟩
  refine held_more hK HS0.out hlt (Bc.out.trans (hb.mono Bc.out.size)) (fun Bc hSn => ?_)
  clear hb hK
  refine tks [12, 13, 14] 3 rfl (by kernel_rfl) (fun _ _ _ _ h => h) (by assumption) (fun KT hKT => ?_)
  iterate 3 (refine tkT (by (simp only [gA, gB, gC]; rfl)) (by rfl) (by (intro w hSw; (simp only [Holds] at hSw); go_simp <;> with_reducible rfl)) ?_; simp only [Act.put, pA, pB, pC])
  refine hKT _ ?_
  clear KT hKT
  refine wpAnyH_done (by kernel_rfl) ?_ _
  go_wp2
  go_ret
  exact ⟨rfl, HB0.out.trans ((HD.out.trans (Bc.out.mono HD.out.size)).mono HB0.out.size)⟩

set_option maxRecDepth 100000 in
theorem lifted (os : Os) (started : os.Started) (H : Type) (enc : TypeId × Value → H) :
    ReturnsInHanded {} Try.checked os 5 .any (Rows.planeMovesSpec.pre6 enc Try.prog Try.f5 Rows.planeMovesRow.domain false) (Rows.planeMovesSpec.post enc Try.prog Try.f5 false true false false) := by
  refine returnsInHanded_of_change (C := Try.checked) own started (by kernel_rfl) Try.func5
    (ChangeSpec.witness6 (enc := enc) (C := Try.checked) false ⟨#[], #[.agg #[.int .i64 0, .int .i64 0, .int .i64 0, .int .i64 0, .int .i64 0, .int .i64 0], .agg #[.int .i64 0, .int .i64 0, .int .i64 0, .int .i64 0, .int .i64 0, .int .i64 0], .int .i64 0, .int .i64 0], []⟩ 8 (by kernel_rfl) (by kernel_rfl) (by kernel_rfl) (by kernel_rfl)) ?_
  intro W base args ds gs before hval0 hW hcnd _
  have hval : ∀ (j : Nat) t v, Try.f5.params[j]? = some t → args[j]? = some v → Value.okWide Try.prog W .any base t v := hval0
  have hW' := hW
  obtain ⟨p, q, hA0, hV, rfl, hfz, hnd⟩ := hW
  have hA : DataW.TrodAll enc Try.prog W 0 (fun _ => true) true Try.f5.params.toList args.toList ds p := hA0
  rw [Try.params5] at hA hval
  obtain ⟨v0, vs0, d0, ds0, p0, q0, hargs, rfl, rfl, h0, r0⟩ := trodAll_cons hA
  obtain ⟨v1, vs1, d1, ds1, p1, q1, rfl, rfl, rfl, h1, r1⟩ := trodAll_cons r0
  obtain ⟨v2, vs2, d2, ds2, p2, q2, rfl, rfl, rfl, h2, r2⟩ := trodAll_cons r1
  obtain ⟨v3, vs3, d3, ds3, p3, q3, rfl, rfl, rfl, h3, r3⟩ := trodAll_cons r2
  obtain ⟨rfl, rfl, rfl⟩ := trodAll_nil r3
  obtain rfl : args = #[v0, v1, v2, v3] := by cases args; simp_all
  obtain ⟨rfl, rfl⟩ := trodVars_none hV
  have k0 := h0
  have lt0 : ∀ x ∈ p0, x.block < W.heap.size := by obtain ⟨m, hm⟩ := k0; exact DataW.trod_lt m _ _ _ hm
  have k1 := h1
  have lt1 : ∀ x ∈ p1, x.block < W.heap.size := by obtain ⟨m, hm⟩ := k1; exact DataW.trod_lt m _ _ _ hm
  have k2 := h2
  have lt2 : ∀ x ∈ p2, x.block < W.heap.size := by obtain ⟨m, hm⟩ := k2; exact DataW.trod_lt m _ _ _ hm
  have k3 := h3
  have lt3 : ∀ x ∈ p3, x.block < W.heap.size := by obtain ⟨m, hm⟩ := k3; exact DataW.trod_lt m _ _ _ hm
  obtain ⟨s0, rfl, _⟩ := open_stop (hval 0 23 v0 rfl rfl) h0
  obtain ⟨s1, rfl, _⟩ := open_stop (hval 1 23 v1 rfl rfl) h1
  obtain ⟨a2, rfl, rfl, rfl, i2⟩ := open_int Try.underlying3 (hval 2 3 v2 rfl rfl) h2
  obtain ⟨a3, rfl, rfl, rfl, i3⟩ := open_int Try.underlying3 (hval 3 3 v3 rfl rfl) h3
  clear hA0 hval0
  refine (walk s0 s1 a2 a3 W ).mono fun e W' ⟨he, bel⟩ => ?_
  subst he
  exact ⟨_, rfl, _, _, _, [], _, [], hW', trodAll_mk1 (shut_bool Try.underlying4 _), (trodAll_cons_mk (Below.trod laidOut (by kernel_rfl) (of_decide_eq_true (by kernel_rfl)) k0 bel lt0) (trodAll_cons_mk (Below.trod laidOut (by kernel_rfl) (of_decide_eq_true (by kernel_rfl)) k1 bel lt1) (trodAll_cons_mk (Below.trod laidOut (by kernel_rfl) (of_decide_eq_true (by kernel_rfl)) k2 bel lt2) (trodAll_cons_mk (Below.trod laidOut (by kernel_rfl) (of_decide_eq_true (by kernel_rfl)) k3 bel lt3) trodAll_mk0)))), rfl, bel.frame _, fun h => by cases h⟩

theorem over : Rows.planeMovesRow.holds Try.pinned (OpenSpec.ofChange Rows.planeMovesSpec) :=
  OpenClaim.holds_of_wide 5 Try.f5 rfl rfl rfl rfl rfl rfl rfl ⟨rfl, rfl, rfl, rfl, rfl⟩ rfl rfl rfl rfl rfl (by kernel_rfl) Try.func5 (by show joinedFacts Try.checked.prog _ _ _ _ = true; unfold joinedFacts; rw [ord_may, ord_lifts, ord_make]; kernel_rfl)
    (of_decide_eq_true (by kernel_rfl)) (by unfold Func.isWrapper; first | (rw [if_pos (by decide +kernel)]; kernel_rfl) | (rw [if_neg (by decide +kernel)]; exact ⟨rfl, rfl⟩))
    (fun os started H enc _ => lifted os started H enc)

theorem proved : Rows.PlaneMovesSaid := over
#print axioms proved
end Go.Proofs.Ytpgbbnmflnhlbaa.planeMoves
