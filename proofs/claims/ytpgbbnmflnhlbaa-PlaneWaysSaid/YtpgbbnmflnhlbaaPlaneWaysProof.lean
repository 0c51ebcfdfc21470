/- PlaneWays holds for all stops; there is no further condition. -/
import Derived.Test.YtpgbbnmflnhlbaaOrd
import Derived.Test.YtpgbbnmflnhlbaaRows
import Derived.Test.YtpgbbnmflnhlbaaXPCore
namespace Go.Proofs.Ytpgbbnmflnhlbaa.planeWays
open Go.ChangeShapes Go.WideShapes Go.ChangeAt Go.RowKit

set_option maxRecDepth 1000000 in
set_option maxHeartbeats 4000000 in
theorem walk (s0 : Stp) (s1 : Stp) (s2 : Stp) (w : World) :
    Calls Try.prog 4 #[stopV s0, stopV s1, stopV s2] w fun e w' => e = .returned (.bool true) ∧ Below w.heap.size w w' := by
  unfold stopV
  go_enter Try.func4, Try.ntmps4
  go_wp2_with fail
  change Calls _ _ _ (((w.alloc (boxS s0)).alloc (boxS s1)).alloc (boxS s2)) _
  have HB0 := Lib.hid ((((Below.refl _ w).alloc (Nat.le_refl _) (boxS s0)).alloc (by simp) (boxS s1)).alloc (by simp; omega) (boxS s2))
  have HS0 := Lib.hid (holdsP3 w s0 s1 s2)
  have hlt0 := Lib.hid (show Lows (((w.alloc (boxS s0)).alloc (boxS s1)).alloc (boxS s2)).heap.size _ from lowsP3 (a := s0) (b := s1) (c := s2) (N := w.heap.size) (by simp))
  generalize ((w.alloc (boxS s0)).alloc (boxS s1)).alloc (boxS s2) = W at *
  refine (pawake_any _).mono ?_
  rintro e w1 ⟨rfl, hb⟩
  have HW1 := Lib.hid hb
  have hc := Holds.below hb HS0.out hlt0.out
  clear hb
  simp only [cellsP, List.cons_append, List.nil_append, Holds] at hc
  obtain ⟨c0, c1, c2, c3, c4, c5, c6, c7, c8, c9, c10, c11, c12, c13, c14, c15, c16, c17, _⟩ := hc
  by_cases h0 : s0.x < 0
  · have d0 := decide_eq_true h0
    clear h0
    go_wp2
    go_ret
    exact ⟨rfl, HB0.out.trans (HW1.out.mono HB0.out.size)⟩
  have d0 := decide_eq_false h0
  by_cases h1 : 10000 < s0.x
  · have d1 := decide_eq_true h1
    clear h0 h1
    go_wp2
    go_ret
    exact ⟨rfl, HB0.out.trans (HW1.out.mono HB0.out.size)⟩
  have d1 := decide_eq_false h1
  by_cases h2 : s0.y < 0
  · have d2 := decide_eq_true h2
    clear h0 h1 h2
    go_wp2
    go_ret
    exact ⟨rfl, HB0.out.trans (HW1.out.mono HB0.out.size)⟩
  have d2 := decide_eq_false h2
  by_cases h3 : 10000 < s0.y
  · have d3 := decide_eq_true h3
    clear h0 h1 h2 h3
    go_wp2
    go_ret
    exact ⟨rfl, HB0.out.trans (HW1.out.mono HB0.out.size)⟩
  have d3 := decide_eq_false h3
  by_cases h4 : s1.x < 0
  · have d4 := decide_eq_true h4
    clear h0 h1 h2 h3 h4
    go_wp2
    go_ret
    exact ⟨rfl, HB0.out.trans (HW1.out.mono HB0.out.size)⟩
  have d4 := decide_eq_false h4
  by_cases h5 : 10000 < s1.x
  · have d5 := decide_eq_true h5
    clear h0 h1 h2 h3 h4 h5
    go_wp2
    go_ret
    exact ⟨rfl, HB0.out.trans (HW1.out.mono HB0.out.size)⟩
  have d5 := decide_eq_false h5
  by_cases h6 : s1.y < 0
  · have d6 := decide_eq_true h6
    clear h0 h1 h2 h3 h4 h5 h6
    go_wp2
    go_ret
    exact ⟨rfl, HB0.out.trans (HW1.out.mono HB0.out.size)⟩
  have d6 := decide_eq_false h6
  by_cases h7 : 10000 < s1.y
  · have d7 := decide_eq_true h7
    clear h0 h1 h2 h3 h4 h5 h6 h7
    go_wp2
    go_ret
    exact ⟨rfl, HB0.out.trans (HW1.out.mono HB0.out.size)⟩
  have d7 := decide_eq_false h7
  by_cases h8 : s2.x < 0
  · have d8 := decide_eq_true h8
    clear h0 h1 h2 h3 h4 h5 h6 h7 h8
    go_wp2
    go_ret
    exact ⟨rfl, HB0.out.trans (HW1.out.mono HB0.out.size)⟩
  have d8 := decide_eq_false h8
  by_cases h9 : 10000 < s2.x
  · have d9 := decide_eq_true h9
    clear h0 h1 h2 h3 h4 h5 h6 h7 h8 h9
    go_wp2
    go_ret
    exact ⟨rfl, HB0.out.trans (HW1.out.mono HB0.out.size)⟩
  have d9 := decide_eq_false h9
  by_cases h10 : s2.y < 0
  · have d10 := decide_eq_true h10
    clear h0 h1 h2 h3 h4 h5 h6 h7 h8 h9 h10
    go_wp2
    go_ret
    exact ⟨rfl, HB0.out.trans (HW1.out.mono HB0.out.size)⟩
  have d10 := decide_eq_false h10
  by_cases h11 : 10000 < s2.y
  · have d11 := decide_eq_true h11
    clear h0 h1 h2 h3 h4 h5 h6 h7 h8 h9 h10 h11
    go_wp2
    go_ret
    exact ⟨rfl, HB0.out.trans (HW1.out.mono HB0.out.size)⟩
  have d11 := decide_eq_false h11
  have HX := Lib.hid (show (0 ≤ s0.x ∧ s0.x ≤ 10000) ∧ (0 ≤ s0.y ∧ s0.y ≤ 10000) ∧ (0 ≤ s1.x ∧ s1.x ≤ 10000) ∧ (0 ≤ s1.y ∧ s1.y ≤ 10000) by omega)
  clear h0 h1 h2 h3 h4 h5 h6 h7 h8 h9 h10 h11
  go_wp2_with fail
  change Calls _ _ #[stopV s0, stopV s1] _ _
  refine (far_any s0 s1 _).mono ?_
  rintro e w2 ⟨rfl, hb⟩
  clear d0 d1 d2 d3 d4 d5 d6 d7 d8 d9 d10 d11
  have HW2 := Lib.hid (HW1.out.trans (hb.mono HW1.out.size))
  clear hb c0 c1 c2 c3 c4 c5 c6 c7 c8 c9 c10 c11 c12 c13 c14 c15 c16 c17
  have fba : ∀ w, Calls Try.prog 38 #[stopV s1, stopV s0] w fun e w' => e = .returned (.int .i64 (farF s0 s1)) ∧ Below w.heap.size w w' := fun w => by rw [farF_comm s0 s1]; exact far_any s1 s0 w
  have fac := far_any s0 s2
  have fcb := far_any s2 s1
  have hby := farF_by s0 s1 s2
  have hz := farF_zero s0 s1
  have hs := farF_eq (a := s0) (b := s1) (c := s0) (d := s0) rfl rfl
  rw [farF_self] at hs
  have b0 := farF_bd s0 s1
  have b1 := farF_bd s0 s2
  have b2 := farF_bd s2 s1
  generalize farF s0 s1 = d at *
  generalize farF s0 s2 = p at *
  generalize farF s2 s1 = q at *
  have hs1 : IntKind.i64.wrap (p + q) = p + q := IntWalk.i64_in _ (by omega)
  have q1 : decide (d ≤ p + q) = true := by simpa using hby
  have q2 : decide (0 ≤ d) = true := by simpa using b0.1
  have q3 : decide (d ≤ 14143) = true := by simpa using b0.2
  have key : ((s0.x == s1.x) = false ∧ (d == 0) = false) ∨ ((s0.x == s1.x) = true ∧ (s0.y == s1.y) = false ∧ (d == 0) = false) ∨ ((s0.x == s1.x) = true ∧ (s0.y == s1.y) = true ∧ (d == 0) = true) := by
    obtain ⟨h1, h2, h3, h4⟩ := HX.out
    rw [cl_in _ h1.1 h1.2, cl_in _ h2.1 h2.2, cl_in _ h3.1 h3.2, cl_in _ h4.1 h4.2] at hz
    simp only [beq_iff_eq, beq_eq_false_iff_ne, ne_eq]
    by_cases e1 : s0.x = s1.x
    · by_cases e2 : s0.y = s1.y
      · exact .inr (.inr ⟨e1, e2, hs e1.symm e2.symm⟩)
      · exact .inr (.inl ⟨e1, e2, fun e => e2 (hz e).2⟩)
    · exact .inl ⟨e1, fun e => e1 (hz e).1⟩
  clear hby hz hs b0 b1 b2
  go_wp2_with fail
  have Bc := Lib.hid HW2.out.drew
  have hlt := hlt0
  refine wp_region_held_drew (S := Holds (cellsP w.heap.size s0 ++ cellsP (w.heap.size + 1) s1 ++ cellsP (w.heap.size + 2) s2)) (by kernel_rfl) (Holds.below Bc.out HS0.out hlt.out) (fun hSn => ?_)
  simp only [cellsP, List.cons_append, List.nil_append] at *
  refine tks [0, 1, 2] 3 rfl (by kernel_rfl) (fun _ _ _ _ h => h) (by assumption) (fun KT hKT => ?_)
  iterate 3 (refine tkT (by (simp only [gA, gB, gC]; rfl)) (by rfl) (by (intro w hSw; (simp only [Holds] at hSw); go_simp <;> with_reducible rfl)) ?_; simp only [Act.put, pA, pB, pC])
  refine hKT _ ?_
  clear KT hKT
  refine wpAnyH_ready (rs := [3]) (by kernel_rfl) (by simp) ?_
  refine AllReadyH.cons (o := ?oz51) ?iz51 (fun K hK => ?kz51) AllReadyH.nil
  case iz51 => (simp only [List.getElem?_toArray, List.getElem?_cons_zero, List.getElem?_cons_succ]; rfl)
  go_simp
  change Calls _ _ #[stopV s1, stopV s0] _ _
  refine (fba _).mono ?_
  rintro e w' ⟨rfl, hb⟩
  refine held_more hK HS0.out hlt (Bc.out.trans (hb.mono Bc.out.size)) (fun Bc hSn => ?_)
  clear hb hK
  rcases key with ⟨k1, k2⟩ | ⟨k1, k2, k3⟩ | ⟨k1, k2, k3⟩
  ·
    refine tks [4] 1 rfl (by kernel_rfl) (fun _ _ _ _ h => h) (by assumption) (fun KT hKT => ?_)
    refine tkT (by (simp only [gA, gB, gC]; rfl)) (by rfl) (by (intro w hSw; (simp only [Holds] at hSw); go_simp <;> with_reducible rfl)) ?_
    simp only [Act.put, pA, pB, pC]
    refine hKT _ ?_
    clear KT hKT
    refine tks [5, 6, 7, 8, 9, 10, 11, 12, 13] 9 rfl (by kernel_rfl) (fun _ _ _ _ h => h) (by assumption) (fun KT hKT => ?_)
    iterate 9 (refine tkT (by (simp only [gA, gB, gC]; rfl)) (by rfl) (by (intro w hSw; (simp only [Holds] at hSw); go_simp <;> with_reducible rfl)) ?_; simp only [Act.put, pA, pB, pC])
    refine hKT _ ?_
    clear KT hKT
    refine tks [14, 15, 16, 17, 18] 5 rfl (by kernel_rfl) (fun _ _ _ _ h => h) (by assumption) (fun KT hKT => ?_)
    iterate 5 (refine tkS (by (simp only [gA, gB, gC]; rfl)) (by rfl) ?_; simp only [Act.put, pA, pB, pC])
    refine hKT _ ?_
    clear KT hKT
    refine tks [19, 20, 21, 22, 23, 24, 25] 7 rfl (by kernel_rfl) (fun _ _ _ _ h => h) (by assumption) (fun KT hKT => ?_)
    iterate 7 (refine tkT (by (simp only [gA, gB, gC]; rfl)) (by rfl) (by (intro w hSw; (simp only [Holds] at hSw); go_simp <;> with_reducible rfl)) ?_; simp only [Act.put, pA, pB, pC])
    refine hKT _ ?_
    clear KT hKT
    refine tks [27, 28] 2 rfl (by kernel_rfl) (fun _ _ _ _ h => h) (by assumption) (fun KT hKT => ?_)
    iterate 2 (refine tkT (by (simp only [gA, gB, gC]; rfl)) (by rfl) (by (intro w hSw; (simp only [Holds] at hSw); go_simp <;> with_reducible rfl)) ?_; simp only [Act.put, pA, pB, pC])
    refine hKT _ ?_
    clear KT hKT
    refine wpAnyH_ready (rs := [26]) (by kernel_rfl) (by simp) ?_
    refine AllReadyH.cons (o := ?oz52) ?iz52 (fun K hK => ?kz52) AllReadyH.nil
    case iz52 => (simp only [List.getElem?_toArray, List.getElem?_cons_zero, List.getElem?_cons_succ]; rfl)
    go_simp
    change Calls _ _ #[stopV s0, stopV s2] _ _
    refine (fac _).mono ?_
    rintro e w' ⟨rfl, hb⟩
    refine held_more hK HS0.out hlt (Bc.out.trans (hb.mono Bc.out.size)) (fun Bc hSn => ?_)
    clear hb hK
    refine wpAnyH_ready (rs := [29]) (by kernel_rfl) (by simp) ?_
    refine AllReadyH.cons (o := ?oz53) ?iz53 (fun K hK => ?kz53) AllReadyH.nil
    case iz53 => (simp only [List.getElem?_toArray, List.getElem?_cons_zero, List.getElem?_cons_succ]; rfl)
    go_simp
    change Calls _ _ #[stopV s2, stopV s1] _ _
    refine (fcb _).mono ?_
    rintro e w' ⟨rfl, hb⟩
    refine held_more hK HS0.out hlt (Bc.out.trans (hb.mono Bc.out.size)) (fun Bc hSn => ?_)
    clear hb hK
    refine tks [30, 31, 32, 33, 34, 35, 36, 37, 38, 39, 40, 41] 12 rfl (by kernel_rfl) (fun _ _ _ _ h => h) (by assumption) (fun KT hKT => ?_)
    iterate 12 (refine tkT (by (simp only [gA, gB, gC]; rfl)) (by rfl) (by (intro w hSw; (simp only [Holds] at hSw); go_simp <;> with_reducible rfl)) ?_; simp only [Act.put, pA, pB, pC])
    refine hKT _ ?_
    clear KT hKT
    refine wpAnyH_done (by kernel_rfl) ?_ _
    go_wp2
    go_ret
    exact ⟨rfl, HB0.out.trans (Bc.out.mono HB0.out.size)⟩
  ·
    refine tks [4, 5, 6, 7, 8, 9, 10, 11, 12, 13, 14, 15, 16, 17, 18] 15 rfl (by kernel_rfl) (fun _ _ _ _ h => h) (by assumption) (fun KT hKT => ?_)
    iterate 15 (refine tkT (by (simp only [gA, gB, gC]; rfl)) (by rfl) (by (intro w hSw; (simp only [Holds] at hSw); go_simp <;> with_reducible rfl)) ?_; simp only [Act.put, pA, pB, pC])
    refine hKT _ ?_
    clear KT hKT
    refine tks [19, 20, 21, 22, 23, 24, 25] 7 rfl (by kernel_rfl) (fun _ _ _ _ h => h) (by assumption) (fun KT hKT => ?_)
    iterate 7 (refine tkT (by (simp only [gA, gB, gC]; rfl)) (by rfl) (by (intro w hSw; (simp only [Holds] at hSw); go_simp <;> with_reducible rfl)) ?_; simp only [Act.put, pA, pB, pC])
    refine hKT _ ?_
    clear KT hKT
    refine tks [27, 28] 2 rfl (by kernel_rfl) (fun _ _ _ _ h => h) (by assumption) (fun KT hKT => ?_)
    iterate 2 (refine tkT (by (simp only [gA, gB, gC]; rfl)) (by rfl) (by (intro w hSw; (simp only [Holds] at hSw); go_simp <;> with_reducible rfl)) ?_; simp only [Act.put, pA, pB, pC])
    refine hKT _ ?_
    clear KT hKT
    refine wpAnyH_ready (rs := [26]) (by kernel_rfl) (by simp) ?_
    refine AllReadyH.cons (o := ?oz54) ?iz54 (fun K hK => ?kz54) AllReadyH.nil
    case iz54 => (simp only [List.getElem?_toArray, List.getElem?_cons_zero, List.getElem?_cons_succ]; rfl)
    go_simp
    change Calls _ _ #[stopV s0, stopV s2] _ _
    refine (fac _).mono ?_
    rintro e w' ⟨rfl, hb⟩
    refine held_more hK HS0.out hlt (Bc.out.trans (hb.mono Bc.out.size)) (fun Bc hSn => ?_)
    clear hb hK
    refine wpAnyH_ready (rs := [29]) (by kernel_rfl) (by simp) ?_
    refine AllReadyH.cons (o := ?oz55) ?iz55 (fun K hK => ?kz55) AllReadyH.nil
    case iz55 => (simp only [List.getElem?_toArray, List.getElem?_cons_zero, List.getElem?_cons_succ]; rfl)
    go_simp
    change Calls _ _ #[stopV s2, stopV s1] _ _
    refine (fcb _).mono ?_
    rintro e w' ⟨rfl, hb⟩
    refine held_more hK HS0.out hlt (Bc.out.trans (hb.mono Bc.out.size)) (fun Bc hSn => ?_)
    clear hb hK
    refine tks [30, 31, 32, 33, 34, 35, 36, 37, 38, 39, 40, 41] 12 rfl (by kernel_rfl) (fun _ _ _ _ h => h) (by assumption) (fun KT hKT => ?_)
    iterate 12 (refine tkT (by (simp only [gA, gB, gC]; rfl)) (by rfl) (by (intro w hSw; (simp only [Holds] at hSw); go_simp <;> with_reducible rfl)) ?_; simp only [Act.put, pA, pB, pC])
    refine hKT _ ?_
    clear KT hKT
    refine wpAnyH_done (by kernel_rfl) ?_ _
    go_wp2
    go_ret
    exact ⟨rfl, HB0.out.trans (Bc.out.mono HB0.out.size)⟩
  ·
    refine tks [4, 5, 6, 7, 8, 9, 10, 11, 12, 13, 14, 15, 16, 17, 18] 15 rfl (by kernel_rfl) (fun _ _ _ _ h => h) (by assumption) (fun KT hKT => ?_)
    iterate 15 (refine tkT (by (simp only [gA, gB, gC]; rfl)) (by rfl) (by (intro w hSw; (simp only [Holds] at hSw); go_simp <;> with_reducible rfl)) ?_; simp only [Act.put, pA, pB, pC])
    refine hKT _ ?_
    clear KT hKT
    refine tks [19, 20, 21, 22, 23, 24, 25] 7 rfl (by kernel_rfl) (fun _ _ _ _ h => h) (by assumption) (fun KT hKT => ?_)
    iterate 7 (refine tkT (by (simp only [gA, gB, gC]; rfl)) (by rfl) (by (intro w hSw; (simp only [Holds] at hSw); go_simp <;> with_reducible rfl)) ?_; simp only [Act.put, pA, pB, pC])
    refine hKT _ ?_
    clear KT hKT
    refine tks [27, 28] 2 rfl (by kernel_rfl) (fun _ _ _ _ h => h) (by assumption) (fun KT hKT => ?_)
    iterate 2 (refine tkT (by (simp only [gA, gB, gC]; rfl)) (by rfl) (by (intro w hSw; (simp only [Holds] at hSw); go_simp <;> with_reducible rfl)) ?_; simp only [Act.put, pA, pB, pC])
    refine hKT _ ?_
    clear KT hKT
    refine wpAnyH_ready (rs := [26]) (by kernel_rfl) (by simp) ?_
    refine AllReadyH.cons (o := ?oz56) ?iz56 (fun K hK => ?kz56) AllReadyH.nil
    case iz56 => (simp only [List.getElem?_toArray, List.getElem?_cons_zero, List.getElem?_cons_succ]; rfl)
    go_simp
    change Calls _ _ #[stopV s0, stopV s2] _ _
    refine (fac _).mono ?_
    rintro e w' ⟨rfl, hb⟩
    refine held_more hK HS0.out hlt (Bc.out.trans (hb.mono Bc.out.size)) (fun Bc hSn => ?_)
    clear hb hK
    refine wpAnyH_ready (rs := [29]) (by kernel_rfl) (by simp) ?_
    refine AllReadyH.cons (o := ?oz57) ?iz57 (fun K hK => ?kz57) AllReadyH.nil
    case iz57 => (simp only [List.getElem?_toArray, List.getElem?_cons_zero, List.getElem?_cons_succ]; rfl)
    go_simp
    change Calls _ _ #[stopV s2, stopV s1] _ _
    refine (fcb _).mono ?_
    rintro e w' ⟨rfl, hb⟩
    refine held_more hK HS0.out hlt (Bc.out.trans (hb.mono Bc.out.size)) (fun Bc hSn => ?_)
    clear hb hK
    refine tks [30, 31, 32, 33, 34, 35, 36, 37, 38, 39, 40, 41] 12 rfl (by kernel_rfl) (fun _ _ _ _ h => h) (by assumption) (fun KT hKT => ?_)
    iterate 12 (refine tkT (by (simp only [gA, gB, gC]; rfl)) (by rfl) (by (intro w hSw; (simp only [Holds] at hSw); go_simp <;> with_reducible rfl)) ?_; simp only [Act.put, pA, pB, pC])
    refine hKT _ ?_
    clear KT hKT
    refine wpAnyH_done (by kernel_rfl) ?_ _
    go_wp2
    go_ret
    exact ⟨rfl, HB0.out.trans (Bc.out.mono HB0.out.size)⟩

set_option maxRecDepth 100000 in
theorem lifted (os : Os) (started : os.Started) (H : Type) (enc : TypeId × Value → H) :
    ReturnsInHanded {} Try.checked os 4 .any (Rows.planeWaysSpec.pre6 enc Try.prog Try.f4 Rows.planeWaysRow.domain false) (Rows.planeWaysSpec.post enc Try.prog Try.f4 false true false false) := by
  refine returnsInHanded_of_change (C := Try.checked) own started (by kernel_rfl) Try.func4
    (ChangeSpec.witness6 (enc := enc) (C := Try.checked) false ⟨#[], #[.agg #[.int .i64 0, .int .i64 0, .int .i64 0, .int .i64 0, .int .i64 0, .int .i64 0], .agg #[.int .i64 0, .int .i64 0, .int .i64 0, .int .i64 0, .int .i64 0, .int .i64 0], .agg #[.int .i64 0, .int .i64 0, .int .i64 0, .int .i64 0, .int .i64 0, .int .i64 0]], []⟩ 8 (by kernel_rfl) (by kernel_rfl) (by kernel_rfl) (by kernel_rfl)) ?_
  intro W base args ds gs before hval0 hW hcnd _
  have hval : ∀ (j : Nat) t v, Try.f4.params[j]? = some t → args[j]? = some v → Value.okWide Try.prog W .any base t v := hval0
  have hW' := hW
  obtain ⟨p, q, hA0, hV, rfl, hfz, hnd⟩ := hW
  have hA : DataW.TrodAll enc Try.prog W 0 (fun _ => true) true Try.f4.params.toList args.toList ds p := hA0
  rw [Try.params4] at hA hval
  obtain ⟨v0, vs0, d0, ds0, p0, q0, hargs, rfl, rfl, h0, r0⟩ := trodAll_cons hA
  obtain ⟨v1, vs1, d1, ds1, p1, q1, rfl, rfl, rfl, h1, r1⟩ := trodAll_cons r0
  obtain ⟨v2, vs2, d2, ds2, p2, q2, rfl, rfl, rfl, h2, r2⟩ := trodAll_cons r1
  obtain ⟨rfl, rfl, rfl⟩ := trodAll_nil r2
  obtain rfl : args = #[v0, v1, v2] := by cases args; simp_all
  obtain ⟨rfl, rfl⟩ := trodVars_none hV
  have k0 := h0
  have lt0 : ∀ x ∈ p0, x.block < W.heap.size := by obtain ⟨m, hm⟩ := k0; exact DataW.trod_lt m _ _ _ hm
  have k1 := h1
  have lt1 : ∀ x ∈ p1, x.block < W.heap.size := by obtain ⟨m, hm⟩ := k1; exact DataW.trod_lt m _ _ _ hm
  have k2 := h2
  have lt2 : ∀ x ∈ p2, x.block < W.heap.size := by obtain ⟨m, hm⟩ := k2; exact DataW.trod_lt m _ _ _ hm
  obtain ⟨s0, rfl, _⟩ := open_stop (hval 0 23 v0 rfl rfl) h0
  obtain ⟨s1, rfl, _⟩ := open_stop (hval 1 23 v1 rfl rfl) h1
  obtain ⟨s2, rfl, _⟩ := open_stop (hval 2 23 v2 rfl rfl) h2
  clear hA0 hval0
  refine (walk s0 s1 s2 W ).mono fun e W' ⟨he, bel⟩ => ?_
  subst he
  exact ⟨_, rfl, _, _, _, [], _, [], hW', trodAll_mk1 (shut_bool Try.underlying4 _), (trodAll_cons_mk (Below.trod laidOut (by kernel_rfl) (of_decide_eq_true (by kernel_rfl)) k0 bel lt0) (trodAll_cons_mk (Below.trod laidOut (by kernel_rfl) (of_decide_eq_true (by kernel_rfl)) k1 bel lt1) (trodAll_cons_mk (Below.trod laidOut (by kernel_rfl) (of_decide_eq_true (by kernel_rfl)) k2 bel lt2) trodAll_mk0))), rfl, bel.frame _, fun h => by cases h⟩

theorem over : Rows.planeWaysRow.holds Try.pinned (OpenSpec.ofChange Rows.planeWaysSpec) :=
  OpenClaim.holds_of_wide 4 Try.f4 rfl rfl rfl rfl rfl rfl rfl ⟨rfl, rfl, rfl, rfl, rfl⟩ rfl rfl rfl rfl rfl (by kernel_rfl) Try.func4 (by show joinedFacts Try.checked.prog _ _ _ _ = true; unfold joinedFacts; rw [ord_may, ord_lifts, ord_make]; kernel_rfl)
    (of_decide_eq_true (by kernel_rfl)) (by unfold Func.isWrapper; first | (rw [if_pos (by decide +kernel)]; kernel_rfl) | (rw [if_neg (by decide +kernel)]; exact ⟨rfl, rfl⟩))
    (fun os started H enc _ => lifted os started H enc)

theorem proved : Rows.PlaneWaysSaid := over
#print axioms proved
end Go.Proofs.Ytpgbbnmflnhlbaa.planeWays
