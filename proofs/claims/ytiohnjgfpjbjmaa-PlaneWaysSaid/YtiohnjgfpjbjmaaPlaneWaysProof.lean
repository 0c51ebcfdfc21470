/- PlaneWays holds for all stops; there is no further condition. -/
import Derived.Test.YtiohnjgfpjbjmaaRows
import Derived.Test.YtiohnjgfpjbjmaaPArgs
namespace Go.Proofs.Ytiohnjgfpjbjmaa.planeWays
open Go.ChangeShapes Go.WideShapes Go.ChangeAt Go.RowKit

set_option maxRecDepth 1000000 in
set_option maxHeartbeats 4000000 in
theorem walk (s0 : Stp) (s1 : Stp) (s2 : Stp) (w : World) :
    Calls Try.prog 4 #[stopV s0, stopV s1, stopV s2] w fun e w' => e = .returned (.bool true) ∧ Below w.heap.size w w' := by
  unfold stopV
  go_enter Try.func4, Try.ntmps4
  go_wp2_with fail
  change Calls _ _ _ (((w.alloc (boxS s0)).alloc (boxS s1)).alloc (boxS s2)) _
  have HB0 := Lib.hid ((((Below.refl _ w).alloc (Nat.le_refl _) (boxS s0)).alloc (by simp) (boxS s1)).alloc (by simp; omega) (boxS s2))
  have HS0 := Lib.hid (holdsP3 w s0 s1 s2)
  have hlt0 := Lib.hid (show Lows (((w.alloc (boxS s0)).alloc (boxS s1)).alloc (boxS s2)).heap.size _ from lowsP3 (a := s0) (b := s1) (c := s2) (N := w.heap.size) (by simp))
  generalize ((w.alloc (boxS s0)).alloc (boxS s1)).alloc (boxS s2) = W at *
  refine (pawake_any _).mono ?_
  rintro e w1 ⟨rfl, hb⟩
  have HW1 := Lib.hid hb
  have hc := Holds.below hb HS0.out hlt0.out
  clear hb
  simp only [cellsP, List.cons_append, List.nil_append, Holds] at hc
  obtain ⟨c0, c1, c2, c3, c4, c5, c6, c7, c8, c9, c10, c11, c12, c13, c14, c15, c16, c17, _⟩ := hc
  by_cases h0 : s0.x < 0
  · have d0 := decide_eq_true h0
    clear h0
    go_wp2
    go_ret
    exact ⟨rfl, HB0.out.trans (HW1.out.mono HB0.out.size)⟩
  have d0 := decide_eq_false h0
  by_cases h1 : 10000 < s0.x
  · have d1 := decide_eq_true h1
    clear h0 h1
    go_wp2
    go_ret
    exact ⟨rfl, HB0.out.trans (HW1.out.mono HB0.out.size)⟩
  have d1 := decide_eq_false h1
  by_cases h2 : s0.y < 0
  · have d2 := decide_eq_true h2
    clear h0 h1 h2
    go_wp2
    go_ret
    exact ⟨rfl, HB0.out.trans (HW1.out.mono HB0.out.size)⟩
  have d2 := decide_eq_false h2
  by_cases h3 : 10000 < s0.y
  · have d3 := decide_eq_true h3
    clear h0 h1 h2 h3
    go_wp2
    go_ret
    exact ⟨rfl, HB0.out.trans (HW1.out.mono HB0.out.size)⟩
  have d3 := decide_eq_false h3
  by_cases h4 : s1.x < 0
  · have d4 := decide_eq_true h4
    clear h0 h1 h2 h3 h4
    go_wp2
    go_ret
    exact ⟨rfl, HB0.out.trans (HW1.out.mono HB0.out.size)⟩
  have d4 := decide_eq_false h4
  by_cases h5 : 10000 < s1.x
  · have d5 := decide_eq_true h5
    clear h0 h1 h2 h3 h4 h5
    go_wp2
    go_ret
    exact ⟨rfl, HB0.out.trans (HW1.out.mono HB0.out.size)⟩
  have d5 := decide_eq_false h5
  by_cases h6 : s1.y < 0
  · have d6 := decide_eq_true h6
    clear h0 h1 h2 h3 h4 h5 h6
    go_wp2
    go_ret
    exact ⟨rfl, HB0.out.trans (HW1.out.mono HB0.out.size)⟩
  have d6 := decide_eq_false h6
  by_cases h7 : 10000 < s1.y
  · have d7 := decide_eq_true h7
    clear h0 h1 h2 h3 h4 h5 h6 h7
    go_wp2
    go_ret
    exact ⟨rfl, HB0.out.trans (HW1.out.mono HB0.out.size)⟩
  have d7 := decide_eq_false h7
  by_cases h8 : s2.x < 0
  · have d8 := decide_eq_true h8
    clear h0 h1 h2 h3 h4 h5 h6 h7 h8
    go_wp2
    go_ret
    exact ⟨rfl, HB0.out.trans (HW1.out.mono HB0.out.size)⟩
  have d8 := decide_eq_false h8
  by_cases h9 : 10000 < s2.x
  · have d9 := decide_eq_true h9
    clear h0 h1 h2 h3 h4 h5 h6 h7 h8 h9
    go_wp2
    go_ret
    exact ⟨rfl, HB0.out.trans (HW1.out.mono HB0.out.size)⟩
  have d9 := decide_eq_false h9
  by_cases h10 : s2.y < 0
  · have d10 := decide_eq_true h10
    clear h0 h1 h2 h3 h4 h5 h6 h7 h8 h9 h10
    go_wp2
    go_ret
    exact ⟨rfl, HB0.out.trans (HW1.out.mono HB0.out.size)⟩
  have d10 := decide_eq_false h10
  by_cases h11 : 10000 < s2.y
  · have d11 := decide_eq_true h11
    clear h0 h1 h2 h3 h4 h5 h6 h7 h8 h9 h10 h11
    go_wp2
    go_ret
    exact ⟨rfl, HB0.out.trans (HW1.out.mono HB0.out.size)⟩
  have d11 := decide_eq_false h11
  have HX := Lib.hid (show (0 ≤ s0.x ∧ s0.x ≤ 10000) ∧ (0 ≤ s0.y ∧ s0.y ≤ 10000) ∧ (0 ≤ s1.x ∧ s1.x ≤ 10000) ∧ (0 ≤ s1.y ∧ s1.y ≤ 10000) by omega)
  clear h0 h1 h2 h3 h4 h5 h6 h7 h8 h9 h10 h11
  go_wp2_with fail
  change Calls _ _ #[stopV s0, stopV s1] _ _
  refine (far_any s0 s1 _).mono ?_
  rintro e w2 ⟨rfl, hb⟩
  clear d0 d1 d2 d3 d4 d5 d6 d7 d8 d9 d10 d11
  have HW2 := Lib.hid (HW1.out.trans (hb.mono HW1.out.size))
  clear hb c0 c1 c2 c3 c4 c5 c6 c7 c8 c9 c10 c11 c12 c13 c14 c15 c16 c17
  have fba : ∀ w, Calls Try.prog 15 #[stopV s1, stopV s0] w fun e w' => e = .returned (.int .i64 (farF s0 s1)) ∧ Below w.heap.size w w' := fun w => by rw [farF_comm s0 s1]; exact far_any s1 s0 w
  have fac := far_any s0 s2
  have fcb := far_any s2 s1
  have hby := farF_by s0 s1 s2
  have hz := farF_zero s0 s1
  have hs := farF_eq (a := s0) (b := s1) (c := s0) (d := s0) rfl rfl
  rw [farF_self] at hs
  have b0 := farF_bd s0 s1
  have b1 := farF_bd s0 s2
  have b2 := farF_bd s2 s1
  generalize farF s0 s1 = d at *
  generalize farF s0 s2 = p at *
  generalize farF s2 s1 = q at *
  have hs1 : IntKind.i64.wrap (p + q) = p + q := IntWalk.i64_in _ (by omega)
  have q1 : decide (d ≤ p + q) = true := by simpa using hby
  have q2 : decide (0 ≤ d) = true := by simpa using b0.1
  have q3 : decide (d ≤ 14143) = true := by simpa using b0.2
  have key : ((s0.x == s1.x) = false ∧ (d == 0) = false) ∨ ((s0.x == s1.x) = true ∧ (s0.y == s1.y) = false ∧ (d == 0) = false) ∨ ((s0.x == s1.x) = true ∧ (s0.y == s1.y) = true ∧ (d == 0) = true) := by
    obtain ⟨h1, h2, h3, h4⟩ := HX.out
    rw [cl_in _ h1.1 h1.2, cl_in _ h2.1 h2.2, cl_in _ h3.1 h3.2, cl_in _ h4.1 h4.2] at hz
    simp only [beq_iff_eq, beq_eq_false_iff_ne, ne_eq]
    by_cases e1 : s0.x = s1.x
    · by_cases e2 : s0.y = s1.y
      · exact .inr (.inr ⟨e1, e2, hs e1.symm e2.symm⟩)
      · exact .inr (.inl ⟨e1, e2, fun e => e2 (hz e).2⟩)
    · exact .inl ⟨e1, fun e => e1 (hz e).1⟩
  clear hby hz hs b0 b1 b2
  go_wp2_with fail
  have Bc := Lib.hid HW2.out.drew
  have hlt := hlt0
  refine wp_region_held_drew (S := Holds (cellsP w.heap.size s0 ++ cellsP (w.heap.size + 1) s1 ++ cellsP (w.heap.size + 2) s2)) (by kernel_rfl) (Holds.below Bc.out HS0.out hlt.out) (fun hSn => ?_)
  simp only [cellsP, List.cons_append, List.nil_append] at *
  refine wpAnyH_take (i := 0) (oi := ?oz1) (v := ?vz1) ?iz1 (by kernel_rfl) (by kernel_rfl) (by kernel_rfl) ?qz1 (Or.inl ⟨?gz1, ?hz1⟩) (by assumption) ?rz1
  case iz1 => (simp only [List.getElem?_toArray, List.getElem?_cons_zero]; rfl)
  case qz1 => exact fun _ _ _ h => h
  case gz1 => rfl
  case hz1 => (intro w hSw; (simp only [Holds] at hSw); go_simp <;> with_reducible rfl)
  simp only [Act.put, List.setIfInBounds_toArray, List.set_cons_zero, List.set_cons_succ]
  refine wpAnyH_take (i := 1) (oi := ?oz2) (v := ?vz2) ?iz2 (by kernel_rfl) (by kernel_rfl) (by kernel_rfl) ?qz2 (Or.inl ⟨?gz2, ?hz2⟩) (by assumption) ?rz2
  case iz2 => (simp only [List.getElem?_toArray, List.getElem?_cons_zero, List.getElem?_cons_succ]; rfl)
  case qz2 => exact fun _ _ _ h => h
  case gz2 => rfl
  case hz2 => (intro w hSw; (simp only [Holds] at hSw); go_simp <;> with_reducible rfl)
  simp only [Act.put, List.setIfInBounds_toArray, List.set_cons_zero, List.set_cons_succ]
  refine wpAnyH_take (i := 2) (oi := ?oz3) (v := ?vz3) ?iz3 (by kernel_rfl) (by kernel_rfl) (by kernel_rfl) ?qz3 (Or.inl ⟨?gz3, ?hz3⟩) (by assumption) ?rz3
  case iz3 => (simp only [List.getElem?_toArray, List.getElem?_cons_zero, List.getElem?_cons_succ]; rfl)
  case qz3 => exact fun _ _ _ h => h
  case gz3 => rfl
  case hz3 => (intro w hSw; (simp only [Holds] at hSw); go_simp <;> with_reducible rfl)
  simp only [Act.put, List.setIfInBounds_toArray, List.set_cons_zero, List.set_cons_succ]
  refine wpAnyH_ready (rs := [3]) (by kernel_rfl) (by simp) ?_
  refine AllReadyH.cons (o := ?oz4) ?iz4 (fun K hK => ?kz4) AllReadyH.nil
  case iz4 => (simp only [List.getElem?_toArray, List.getElem?_cons_zero, List.getElem?_cons_succ]; rfl)
  go_simp
  change Calls _ _ #[stopV s1, stopV s0] _ _
  refine (fba _).mono ?_
  rintro e w' ⟨rfl, hb⟩
  refine held_more hK HS0.out hlt (Bc.out.trans (hb.mono Bc.out.size)) (fun Bc hSn => ?_)
  clear hb hK
  rcases key with ⟨k1, k2⟩ | ⟨k1, k2, k3⟩ | ⟨k1, k2, k3⟩
  ·
    refine wpAnyH_take (i := 4) (oi := ?oz5) (v := ?vz5) ?iz5 (by kernel_rfl) (by kernel_rfl) (by kernel_rfl) ?qz5 (Or.inl ⟨?gz5, ?hz5⟩) (by assumption) ?rz5
    case iz5 => (simp only [List.getElem?_toArray, List.getElem?_cons_zero, List.getElem?_cons_succ]; rfl)
    case qz5 => exact fun _ _ _ h => h
    case gz5 => rfl
    case hz5 => (intro w hSw; (simp only [Holds] at hSw); go_simp <;> with_reducible rfl)
    simp only [Act.put, List.setIfInBounds_toArray, List.set_cons_zero, List.set_cons_succ]
    refine wpAnyH_take (i := 5) (oi := ?oz6) (v := ?vz6) ?iz6 (by kernel_rfl) (by kernel_rfl) (by kernel_rfl) ?qz6 (Or.inl ⟨?gz6, ?hz6⟩) (by assumption) ?rz6
    case iz6 => (simp only [List.getElem?_toArray, List.getElem?_cons_zero, List.getElem?_cons_succ]; rfl)
    case qz6 => exact fun _ _ _ h => h
    case gz6 => rfl
    case hz6 => (intro w hSw; (simp only [Holds] at hSw); go_simp <;> with_reducible rfl)
    simp only [Act.put, List.setIfInBounds_toArray, List.set_cons_zero, List.set_cons_succ]
    refine wpAnyH_take (i := 6) (oi := ?oz7) (v := ?vz7) ?iz7 (by kernel_rfl) (by kernel_rfl) (by kernel_rfl) ?qz7 (Or.inl ⟨?gz7, ?hz7⟩) (by assumption) ?rz7
    case iz7 => (simp only [List.getElem?_toArray, List.getElem?_cons_zero, List.getElem?_cons_succ]; rfl)
    case qz7 => exact fun _ _ _ h => h
    case gz7 => rfl
    case hz7 => (intro w hSw; (simp only [Holds] at hSw); go_simp <;> with_reducible rfl)
    simp only [Act.put, List.setIfInBounds_toArray, List.set_cons_zero, List.set_cons_succ]
    refine wpAnyH_take (i := 7) (oi := ?oz8) (v := ?vz8) ?iz8 (by kernel_rfl) (by kernel_rfl) (by kernel_rfl) ?qz8 (Or.inl ⟨?gz8, ?hz8⟩) (by assumption) ?rz8
    case iz8 => (simp only [List.getElem?_toArray, List.getElem?_cons_zero, List.getElem?_cons_succ]; rfl)
    case qz8 => exact fun _ _ _ h => h
    case gz8 => rfl
    case hz8 => (intro w hSw; (simp only [Holds] at hSw); go_simp <;> with_reducible rfl)
    simp only [Act.put, List.setIfInBounds_toArray, List.set_cons_zero, List.set_cons_succ]
    refine wpAnyH_take (i := 8) (oi := ?oz9) (v := ?vz9) ?iz9 (by kernel_rfl) (by kernel_rfl) (by kernel_rfl) ?qz9 (Or.inl ⟨?gz9, ?hz9⟩) (by assumption) ?rz9
    case iz9 => (simp only [List.getElem?_toArray, List.getElem?_cons_zero, List.getElem?_cons_succ]; rfl)
    case qz9 => exact fun _ _ _ h => h
    case gz9 => rfl
    case hz9 => (intro w hSw; (simp only [Holds] at hSw); go_simp <;> with_reducible rfl)
    simp only [Act.put, List.setIfInBounds_toArray, List.set_cons_zero, List.set_cons_succ]
    refine wpAnyH_take (i := 9) (oi := ?oz10) (v := ?vz10) ?iz10 (by kernel_rfl) (by kernel_rfl) (by kernel_rfl) ?qz10 (Or.inl ⟨?gz10, ?hz10⟩) (by assumption) ?rz10
    case iz10 => (simp only [List.getElem?_toArray, List.getElem?_cons_zero, List.getElem?_cons_succ]; rfl)
    case qz10 => exact fun _ _ _ h => h
    case gz10 => rfl
    case hz10 => (intro w hSw; (simp only [Holds] at hSw); go_simp <;> with_reducible rfl)
    simp only [Act.put, List.setIfInBounds_toArray, List.set_cons_zero, List.set_cons_succ]
    refine wpAnyH_take (i := 10) (oi := ?oz11) (v := ?vz11) ?iz11 (by kernel_rfl) (by kernel_rfl) (by kernel_rfl) ?qz11 (Or.inl ⟨?gz11, ?hz11⟩) (by assumption) ?rz11
    case iz11 => (simp only [List.getElem?_toArray, List.getElem?_cons_zero, List.getElem?_cons_succ]; rfl)
    case qz11 => exact fun _ _ _ h => h
    case gz11 => rfl
    case hz11 => (intro w hSw; (simp only [Holds] at hSw); go_simp <;> with_reducible rfl)
    simp only [Act.put, List.setIfInBounds_toArray, List.set_cons_zero, List.set_cons_succ]
    refine wpAnyH_take (i := 11) (oi := ?oz12) (v := ?vz12) ?iz12 (by kernel_rfl) (by kernel_rfl) (by kernel_rfl) ?qz12 (Or.inl ⟨?gz12, ?hz12⟩) (by assumption) ?rz12
    case iz12 => (simp only [List.getElem?_toArray, List.getElem?_cons_zero, List.getElem?_cons_succ]; rfl)
    case qz12 => exact fun _ _ _ h => h
    case gz12 => rfl
    case hz12 => (intro w hSw; (simp only [Holds] at hSw); go_simp <;> with_reducible rfl)
    simp only [Act.put, List.setIfInBounds_toArray, List.set_cons_zero, List.set_cons_succ]
    refine wpAnyH_take (i := 12) (oi := ?oz13) (v := ?vz13) ?iz13 (by kernel_rfl) (by kernel_rfl) (by kernel_rfl) ?qz13 (Or.inl ⟨?gz13, ?hz13⟩) (by assumption) ?rz13
    case iz13 => (simp only [List.getElem?_toArray, List.getElem?_cons_zero, List.getElem?_cons_succ]; rfl)
    case qz13 => exact fun _ _ _ h => h
    case gz13 => rfl
    case hz13 => (intro w hSw; (simp only [Holds] at hSw); go_simp <;> with_reducible rfl)
    simp only [Act.put, List.setIfInBounds_toArray, List.set_cons_zero, List.set_cons_succ]
    refine wpAnyH_take (i := 13) (oi := ?oz14) (v := ?vz14) ?iz14 (by kernel_rfl) (by kernel_rfl) (by kernel_rfl) ?qz14 (Or.inl ⟨?gz14, ?hz14⟩) (by assumption) ?rz14
    case iz14 => (simp only [List.getElem?_toArray, List.getElem?_cons_zero, List.getElem?_cons_succ]; rfl)
    case qz14 => exact fun _ _ _ h => h
    case gz14 => rfl
    case hz14 => (intro w hSw; (simp only [Holds] at hSw); go_simp <;> with_reducible rfl)
    simp only [Act.put, List.setIfInBounds_toArray, List.set_cons_zero, List.set_cons_succ]
    refine wpAnyH_take (i := 14) (oi := ?oz15) (v := undef) ?iz15 (by kernel_rfl) (by kernel_rfl) (by kernel_rfl) ?qz15 (Or.inr ⟨?gz15, rfl⟩) (by assumption) ?rz15
    case iz15 => (simp only [List.getElem?_toArray, List.getElem?_cons_zero, List.getElem?_cons_succ]; rfl)
    case qz15 => exact fun _ _ _ h => h
    case gz15 => rfl
    simp only [Act.put, List.setIfInBounds_toArray, List.set_cons_zero, List.set_cons_succ]
    refine wpAnyH_take (i := 15) (oi := ?oz16) (v := undef) ?iz16 (by kernel_rfl) (by kernel_rfl) (by kernel_rfl) ?qz16 (Or.inr ⟨?gz16, rfl⟩) (by assumption) ?rz16
    case iz16 => (simp only [List.getElem?_toArray, List.getElem?_cons_zero, List.getElem?_cons_succ]; rfl)
    case qz16 => exact fun _ _ _ h => h
    case gz16 => rfl
    simp only [Act.put, List.setIfInBounds_toArray, List.set_cons_zero, List.set_cons_succ]
    refine wpAnyH_take (i := 16) (oi := ?oz17) (v := undef) ?iz17 (by kernel_rfl) (by kernel_rfl) (by kernel_rfl) ?qz17 (Or.inr ⟨?gz17, rfl⟩) (by assumption) ?rz17
    case iz17 => (simp only [List.getElem?_toArray, List.getElem?_cons_zero, List.getElem?_cons_succ]; rfl)
    case qz17 => exact fun _ _ _ h => h
    case gz17 => rfl
    simp only [Act.put, List.setIfInBounds_toArray, List.set_cons_zero, List.set_cons_succ]
    refine wpAnyH_take (i := 17) (oi := ?oz18) (v := undef) ?iz18 (by kernel_rfl) (by kernel_rfl) (by kernel_rfl) ?qz18 (Or.inr ⟨?gz18, rfl⟩) (by assumption) ?rz18
    case iz18 => (simp only [List.getElem?_toArray, List.getElem?_cons_zero, List.getElem?_cons_succ]; rfl)
    case qz18 => exact fun _ _ _ h => h
    case gz18 => rfl
    simp only [Act.put, List.setIfInBounds_toArray, List.set_cons_zero, List.set_cons_succ]
    refine wpAnyH_take (i := 18) (oi := ?oz19) (v := undef) ?iz19 (by kernel_rfl) (by kernel_rfl) (by kernel_rfl) ?qz19 (Or.inr ⟨?gz19, rfl⟩) (by assumption) ?rz19
    case iz19 => (simp only [List.getElem?_toArray, List.getElem?_cons_zero, List.getElem?_cons_succ]; rfl)
    case qz19 => exact fun _ _ _ h => h
    case gz19 => rfl
    simp only [Act.put, List.setIfInBounds_toArray, List.set_cons_zero, List.set_cons_succ]
    refine wpAnyH_take (i := 19) (oi := ?oz20) (v := ?vz20) ?iz20 (by kernel_rfl) (by kernel_rfl) (by kernel_rfl) ?qz20 (Or.inl ⟨?gz20, ?hz20⟩) (by assumption) ?rz20
    case iz20 => (simp only [List.getElem?_toArray, List.getElem?_cons_zero, List.getElem?_cons_succ]; rfl)
    case qz20 => exact fun _ _ _ h => h
    case gz20 => rfl
    case hz20 => (intro w hSw; (simp only [Holds] at hSw); go_simp <;> with_reducible rfl)
    simp only [Act.put, List.setIfInBounds_toArray, List.set_cons_zero, List.set_cons_succ]
    refine wpAnyH_take (i := 20) (oi := ?oz21) (v := ?vz21) ?iz21 (by kernel_rfl) (by kernel_rfl) (by kernel_rfl) ?qz21 (Or.inl ⟨?gz21, ?hz21⟩) (by assumption) ?rz21
    case iz21 => (simp only [List.getElem?_toArray, List.getElem?_cons_zero, List.getElem?_cons_succ]; rfl)
    case qz21 => exact fun _ _ _ h => h
    case gz21 => rfl
    case hz21 => (intro w hSw; (simp only [Holds] at hSw); go_simp <;> with_reducible rfl)
    simp only [Act.put, List.setIfInBounds_toArray, List.set_cons_zero, List.set_cons_succ]
    refine wpAnyH_take (i := 21) (oi := ?oz22) (v := ?vz22) ?iz22 (by kernel_rfl) (by kernel_rfl) (by kernel_rfl) ?qz22 (Or.inl ⟨?gz22, ?hz22⟩) (by assumption) ?rz22
    case iz22 => (simp only [List.getElem?_toArray, List.getElem?_cons_zero, List.getElem?_cons_succ]; rfl)
    case qz22 => exact fun _ _ _ h => h
    case gz22 => rfl
    case hz22 => (intro w hSw; (simp only [Holds] at hSw); go_simp <;> with_reducible rfl)
    simp only [Act.put, List.setIfInBounds_toArray, List.set_cons_zero, List.set_cons_succ]
    refine wpAnyH_take (i := 22) (oi := ?oz23) (v := ?vz23) ?iz23 (by kernel_rfl) (by kernel_rfl) (by kernel_rfl) ?qz23 (Or.inl ⟨?gz23, ?hz23⟩) (by assumption) ?rz23
    case iz23 => (simp only [List.getElem?_toArray, List.getElem?_cons_zero, List.getElem?_cons_succ]; rfl)
    case qz23 => exact fun _ _ _ h => h
    case gz23 => rfl
    case hz23 => (intro w hSw; (simp only [Holds] at hSw); go_simp <;> with_reducible rfl)
    simp only [Act.put, List.setIfInBounds_toArray, List.set_cons_zero, List.set_cons_succ]
    refine wpAnyH_take (i := 23) (oi := ?oz24) (v := ?vz24) ?iz24 (by kernel_rfl) (by kernel_rfl) (by kernel_rfl) ?qz24 (Or.inl ⟨?gz24, ?hz24⟩) (by assumption) ?rz24
    case iz24 => (simp only [List.getElem?_toArray, List.getElem?_cons_zero, List.getElem?_cons_succ]; rfl)
    case qz24 => exact fun _ _ _ h => h
    case gz24 => rfl
    case hz24 => (intro w hSw; (simp only [Holds] at hSw); go_simp <;> with_reducible rfl)
    simp only [Act.put, List.setIfInBounds_toArray, List.set_cons_zero, List.set_cons_succ]
    refine wpAnyH_take (i := 24) (oi := ?oz25) (v := ?vz25) ?iz25 (by kernel_rfl) (by kernel_rfl) (by kernel_rfl) ?qz25 (Or.inl ⟨?gz25, ?hz25⟩) (by assumption) ?rz25
    case iz25 => (simp only [List.getElem?_toArray, List.getElem?_cons_zero, List.getElem?_cons_succ]; rfl)
    case qz25 => exact fun _ _ _ h => h
    case gz25 => rfl
    case hz25 => (intro w hSw; (simp only [Holds] at hSw); go_simp <;> with_reducible rfl)
    simp only [Act.put, List.setIfInBounds_toArray, List.set_cons_zero, List.set_cons_succ]
    refine wpAnyH_take (i := 25) (oi := ?oz26) (v := ?vz26) ?iz26 (by kernel_rfl) (by kernel_rfl) (by kernel_rfl) ?qz26 (Or.inl ⟨?gz26, ?hz26⟩) (by assumption) ?rz26
    case iz26 => (simp only [List.getElem?_toArray, List.getElem?_cons_zero, List.getElem?_cons_succ]; rfl)
    case qz26 => exact fun _ _ _ h => h
    case gz26 => rfl
    case hz26 => (intro w hSw; (simp only [Holds] at hSw); go_simp <;> with_reducible rfl)
    simp only [Act.put, List.setIfInBounds_toArray, List.set_cons_zero, List.set_cons_succ]
    refine wpAnyH_take (i := 27) (oi := ?oz27) (v := ?vz27) ?iz27 (by kernel_rfl) (by kernel_rfl) (by kernel_rfl) ?qz27 (Or.inl ⟨?gz27, ?hz27⟩) (by assumption) ?rz27
    case iz27 => (simp only [List.getElem?_toArray, List.getElem?_cons_zero, List.getElem?_cons_succ]; rfl)
    case qz27 => exact fun _ _ _ h => h
    case gz27 => rfl
    case hz27 => (intro w hSw; (simp only [Holds] at hSw); go_simp <;> with_reducible rfl)
    simp only [Act.put, List.setIfInBounds_toArray, List.set_cons_zero, List.set_cons_succ]
    refine wpAnyH_take (i := 28) (oi := ?oz28) (v := ?vz28) ?iz28 (by kernel_rfl) (by kernel_rfl) (by kernel_rfl) ?qz28 (Or.inl ⟨?gz28, ?hz28⟩) (by assumption) ?rz28
    case iz28 => (simp only [List.getElem?_toArray, List.getElem?_cons_zero, List.getElem?_cons_succ]; rfl)
    case qz28 => exact fun _ _ _ h => h
    case gz28 => rfl
    case hz28 => (intro w hSw; (simp only [Holds] at hSw); go_simp <;> with_reducible rfl)
    simp only [Act.put, List.setIfInBounds_toArray, List.set_cons_zero, List.set_cons_succ]
    refine wpAnyH_ready (rs := [26]) (by kernel_rfl) (by simp) ?_
    refine AllReadyH.cons (o := ?oz29) ?iz29 (fun K hK => ?kz29) AllReadyH.nil
    case iz29 => (simp only [List.getElem?_toArray, List.getElem?_cons_zero, List.getElem?_cons_succ]; rfl)
    go_simp
    change Calls _ _ #[stopV s0, stopV s2] _ _
    refine (fac _).mono ?_
    rintro e w' ⟨rfl, hb⟩
    refine held_more hK HS0.out hlt (Bc.out.trans (hb.mono Bc.out.size)) (fun Bc hSn => ?_)
    clear hb hK
    refine wpAnyH_ready (rs := [29]) (by kernel_rfl) (by simp) ?_
    refine AllReadyH.cons (o := ?oz30) ?iz30 (fun K hK => ?kz30) AllReadyH.nil
    case iz30 => (simp only [List.getElem?_toArray, List.getElem?_cons_zero, List.getElem?_cons_succ]; rfl)
    go_simp
    change Calls _ _ #[stopV s2, stopV s1] _ _
    refine (fcb _).mono ?_
    rintro e w' ⟨rfl, hb⟩
    refine held_more hK HS0.out hlt (Bc.out.trans (hb.mono Bc.out.size)) (fun Bc hSn => ?_)
    clear hb hK
    refine wpAnyH_take (i := 30) (oi := ?oz31) (v := ?vz31) ?iz31 (by kernel_rfl) (by kernel_rfl) (by kernel_rfl) ?qz31 (Or.inl ⟨?gz31, ?hz31⟩) (by assumption) ?rz31
    case iz31 => (simp only [List.getElem?_toArray, List.getElem?_cons_zero, List.getElem?_cons_succ]; rfl)
    case qz31 => exact fun _ _ _ h => h
    case gz31 => rfl
    case hz31 => (intro w hSw; (simp only [Holds] at hSw); go_simp <;> with_reducible rfl)
    simp only [Act.put, List.setIfInBounds_toArray, List.set_cons_zero, List.set_cons_succ]
    refine wpAnyH_take (i := 31) (oi := ?oz32) (v := ?vz32) ?iz32 (by kernel_rfl) (by kernel_rfl) (by kernel_rfl) ?qz32 (Or.inl ⟨?gz32, ?hz32⟩) (by assumption) ?rz32
    case iz32 => (simp only [List.getElem?_toArray, List.getElem?_cons_zero, List.getElem?_cons_succ]; rfl)
    case qz32 => exact fun _ _ _ h => h
    case gz32 => rfl
    case hz32 => (intro w hSw; (simp only [Holds] at hSw); go_simp <;> with_reducible rfl)
    simp only [Act.put, List.setIfInBounds_toArray, List.set_cons_zero, List.set_cons_succ]
    refine wpAnyH_take (i := 32) (oi := ?oz33) (v := ?vz33) ?iz33 (by kernel_rfl) (by kernel_rfl) (by kernel_rfl) ?qz33 (Or.inl ⟨?gz33, ?hz33⟩) (by assumption) ?rz33
    case iz33 => (simp only [List.getElem?_toArray, List.getElem?_cons_zero, List.getElem?_cons_succ]; rfl)
    case qz33 => exact fun _ _ _ h => h
    case gz33 => rfl
    case hz33 => (intro w hSw; (simp only [Holds] at hSw); go_simp <;> with_reducible rfl)
    simp only [Act.put, List.setIfInBounds_toArray, List.set_cons_zero, List.set_cons_succ]
    refine wpAnyH_take (i := 33) (oi := ?oz34) (v := ?vz34) ?iz34 (by kernel_rfl) (by kernel_rfl) (by kernel_rfl) ?qz34 (Or.inl ⟨?gz34, ?hz34⟩) (by assumption) ?rz34
    case iz34 => (simp only [List.getElem?_toArray, List.getElem?_cons_zero, List.getElem?_cons_succ]; rfl)
    case qz34 => exact fun _ _ _ h => h
    case gz34 => rfl
    case hz34 => (intro w hSw; (simp only [Holds] at hSw); go_simp <;> with_reducible rfl)
    simp only [Act.put, List.setIfInBounds_toArray, List.set_cons_zero, List.set_cons_succ]
    refine wpAnyH_take (i := 34) (oi := ?oz35) (v := ?vz35) ?iz35 (by kernel_rfl) (by kernel_rfl) (by kernel_rfl) ?qz35 (Or.inl ⟨?gz35, ?hz35⟩) (by assumption) ?rz35
    case iz35 => (simp only [List.getElem?_toArray, List.getElem?_cons_zero, List.getElem?_cons_succ]; rfl)
    case qz35 => exact fun _ _ _ h => h
    case gz35 => rfl
    case hz35 => (intro w hSw; (simp only [Holds] at hSw); go_simp <;> with_reducible rfl)
    simp only [Act.put, List.setIfInBounds_toArray, List.set_cons_zero, List.set_cons_succ]
    refine wpAnyH_take (i := 35) (oi := ?oz36) (v := ?vz36) ?iz36 (by kernel_rfl) (by kernel_rfl) (by kernel_rfl) ?qz36 (Or.inl ⟨?gz36, ?hz36⟩) (by assumption) ?rz36
    case iz36 => (simp only [List.getElem?_toArray, List.getElem?_cons_zero, List.getElem?_cons_succ]; rfl)
    case qz36 => exact fun _ _ _ h => h
    case gz36 => rfl
    case hz36 => (intro w hSw; (simp only [Holds] at hSw); go_simp <;> with_reducible rfl)
    simp only [Act.put, List.setIfInBounds_toArray, List.set_cons_zero, List.set_cons_succ]
    refine wpAnyH_take (i := 36) (oi := ?oz37) (v := ?vz37) ?iz37 (by kernel_rfl) (by kernel_rfl) (by kernel_rfl) ?qz37 (Or.inl ⟨?gz37, ?hz37⟩) (by assumption) ?rz37
    case iz37 => (simp only [List.getElem?_toArray, List.getElem?_cons_zero, List.getElem?_cons_succ]; rfl)
    case qz37 => exact fun _ _ _ h => h
    case gz37 => rfl
    case hz37 => (intro w hSw; (simp only [Holds] at hSw); go_simp <;> with_reducible rfl)
    simp only [Act.put, List.setIfInBounds_toArray, List.set_cons_zero, List.set_cons_succ]
    refine wpAnyH_take (i := 37) (oi := ?oz38) (v := ?vz38) ?iz38 (by kernel_rfl) (by kernel_rfl) (by kernel_rfl) ?qz38 (Or.inl ⟨?gz38, ?hz38⟩) (by assumption) ?rz38
    case iz38 => (simp only [List.getElem?_toArray, List.getElem?_cons_zero, List.getElem?_cons_succ]; rfl)
    case qz38 => exact fun _ _ _ h => h
    case gz38 => rfl
    case hz38 => (intro w hSw; (simp only [Holds] at hSw); go_simp <;> with_reducible rfl)
    simp only [Act.put, List.setIfInBounds_toArray, List.set_cons_zero, List.set_cons_succ]
    refine wpAnyH_take (i := 38) (oi := ?oz39) (v := ?vz39) ?iz39 (by kernel_rfl) (by kernel_rfl) (by kernel_rfl) ?qz39 (Or.inl ⟨?gz39, ?hz39⟩) (by assumption) ?rz39
    case iz39 => (simp only [List.getElem?_toArray, List.getElem?_cons_zero, List.getElem?_cons_succ]; rfl)
    case qz39 => exact fun _ _ _ h => h
    case gz39 => rfl
    case hz39 => (intro w hSw; (simp only [Holds] at hSw); go_simp <;> with_reducible rfl)
    simp only [Act.put, List.setIfInBounds_toArray, List.set_cons_zero, List.set_cons_succ]
    refine wpAnyH_take (i := 39) (oi := ?oz40) (v := ?vz40) ?iz40 (by kernel_rfl) (by kernel_rfl) (by kernel_rfl) ?qz40 (Or.inl ⟨?gz40, ?hz40⟩) (by assumption) ?rz40
    case iz40 => (simp only [List.getElem?_toArray, List.getElem?_cons_zero, List.getElem?_cons_succ]; rfl)
    case qz40 => exact fun _ _ _ h => h
    case gz40 => rfl
    case hz40 => (intro w hSw; (simp only [Holds] at hSw); go_simp <;> with_reducible rfl)
    simp only [Act.put, List.setIfInBounds_toArray, List.set_cons_zero, List.set_cons_succ]
    refine wpAnyH_take (i := 40) (oi := ?oz41) (v := ?vz41) ?iz41 (by kernel_rfl) (by kernel_rfl) (by kernel_rfl) ?qz41 (Or.inl ⟨?gz41, ?hz41⟩) (by assumption) ?rz41
    case iz41 => (simp only [List.getElem?_toArray, List.getElem?_cons_zero, List.getElem?_cons_succ]; rfl)
    case qz41 => exact fun _ _ _ h => h
    case gz41 => rfl
    case hz41 => (intro w hSw; (simp only [Holds] at hSw); go_simp <;> with_reducible rfl)
    simp only [Act.put, List.setIfInBounds_toArray, List.set_cons_zero, List.set_cons_succ]
    refine wpAnyH_take (i := 41) (oi := ?oz42) (v := ?vz42) ?iz42 (by kernel_rfl) (by kernel_rfl) (by kernel_rfl) ?qz42 (Or.inl ⟨?gz42, ?hz42⟩) (by assumption) ?rz42
    case iz42 => (simp only [List.getElem?_toArray, List.getElem?_cons_zero, List.getElem?_cons_succ]; rfl)
    case qz42 => exact fun _ _ _ h => h
    case gz42 => rfl
    case hz42 => (intro w hSw; (simp only [Holds] at hSw); go_simp <;> with_reducible rfl)
    simp only [Act.put, List.setIfInBounds_toArray, List.set_cons_zero, List.set_cons_succ]
    refine wpAnyH_done (by kernel_rfl) ?_ _
    go_wp2
    go_ret
    exact ⟨rfl, HB0.out.trans (Bc.out.mono HB0.out.size)⟩
  ·
    refine wpAnyH_take (i := 4) (oi := ?oz43) (v := ?vz43) ?iz43 (by kernel_rfl) (by kernel_rfl) (by kernel_rfl) ?qz43 (Or.inl ⟨?gz43, ?hz43⟩) (by assumption) ?rz43
    case iz43 => (simp only [List.getElem?_toArray, List.getElem?_cons_zero, List.getElem?_cons_succ]; rfl)
    case qz43 => exact fun _ _ _ h => h
    case gz43 => rfl
    case hz43 => (intro w hSw; (simp only [Holds] at hSw); go_simp <;> with_reducible rfl)
    simp only [Act.put, List.setIfInBounds_toArray, List.set_cons_zero, List.set_cons_succ]
    refine wpAnyH_take (i := 5) (oi := ?oz44) (v := ?vz44) ?iz44 (by kernel_rfl) (by kernel_rfl) (by kernel_rfl) ?qz44 (Or.inl ⟨?gz44, ?hz44⟩) (by assumption) ?rz44
    case iz44 => (simp only [List.getElem?_toArray, List.getElem?_cons_zero, List.getElem?_cons_succ]; rfl)
    case qz44 => exact fun _ _ _ h => h
    case gz44 => rfl
    case hz44 => (intro w hSw; (simp only [Holds] at hSw); go_simp <;> with_reducible rfl)
    simp only [Act.put, List.setIfInBounds_toArray, List.set_cons_zero, List.set_cons_succ]
    refine wpAnyH_take (i := 6) (oi := ?oz45) (v := ?vz45) ?iz45 (by kernel_rfl) (by kernel_rfl) (by kernel_rfl) ?qz45 (Or.inl ⟨?gz45, ?hz45⟩) (by assumption) ?rz45
    case iz45 => (simp only [List.getElem?_toArray, List.getElem?_cons_zero, List.getElem?_cons_succ]; rfl)
    case qz45 => exact fun _ _ _ h => h
    case gz45 => rfl
    case hz45 => (intro w hSw; (simp only [Holds] at hSw); go_simp <;> with_reducible rfl)
    simp only [Act.put, List.setIfInBounds_toArray, List.set_cons_zero, List.set_cons_succ]
    refine wpAnyH_take (i := 7) (oi := ?oz46) (v := ?vz46) ?iz46 (by kernel_rfl) (by kernel_rfl) (by kernel_rfl) ?qz46 (Or.inl ⟨?gz46, ?hz46⟩) (by assumption) ?rz46
    case iz46 => (simp only [List.getElem?_toArray, List.getElem?_cons_zero, List.getElem?_cons_succ]; rfl)
    case qz46 => exact fun _ _ _ h => h
    case gz46 => rfl
    case hz46 => (intro w hSw; (simp only [Holds] at hSw); go_simp <;> with_reducible rfl)
    simp only [Act.put, List.setIfInBounds_toArray, List.set_cons_zero, List.set_cons_succ]
    refine wpAnyH_take (i := 8) (oi := ?oz47) (v := ?vz47) ?iz47 (by kernel_rfl) (by kernel_rfl) (by kernel_rfl) ?qz47 (Or.inl ⟨?gz47, ?hz47⟩) (by assumption) ?rz47
    case iz47 => (simp only [List.getElem?_toArray, List.getElem?_cons_zero, List.getElem?_cons_succ]; rfl)
    case qz47 => exact fun _ _ _ h => h
    case gz47 => rfl
    case hz47 => (intro w hSw; (simp only [Holds] at hSw); go_simp <;> with_reducible rfl)
    simp only [Act.put, List.setIfInBounds_toArray, List.set_cons_zero, List.set_cons_succ]
    refine wpAnyH_take (i := 9) (oi := ?oz48) (v := ?vz48) ?iz48 (by kernel_rfl) (by kernel_rfl) (by kernel_rfl) ?qz48 (Or.inl ⟨?gz48, ?hz48⟩) (by assumption) ?rz48
    case iz48 => (simp only [List.getElem?_toArray, List.getElem?_cons_zero, List.getElem?_cons_succ]; rfl)
    case qz48 => exact fun _ _ _ h => h
    case gz48 => rfl
    case hz48 => (intro w hSw; (simp only [Holds] at hSw); go_simp <;> with_reducible rfl)
    simp only [Act.put, List.setIfInBounds_toArray, List.set_cons_zero, List.set_cons_succ]
    refine wpAnyH_take (i := 10) (oi := ?oz49) (v := ?vz49) ?iz49 (by kernel_rfl) (by kernel_rfl) (by kernel_rfl) ?qz49 (Or.inl ⟨?gz49, ?hz49⟩) (by assumption) ?rz49
    case iz49 => (simp only [List.getElem?_toArray, List.getElem?_cons_zero, List.getElem?_cons_succ]; rfl)
    case qz49 => exact fun _ _ _ h => h
    case gz49 => rfl
    case hz49 => (intro w hSw; (simp only [Holds] at hSw); go_simp <;> with_reducible rfl)
    simp only [Act.put, List.setIfInBounds_toArray, List.set_cons_zero, List.set_cons_succ]
    refine wpAnyH_take (i := 11) (oi := ?oz50) (v := ?vz50) ?iz50 (by kernel_rfl) (by kernel_rfl) (by kernel_rfl) ?qz50 (Or.inl ⟨?gz50, ?hz50⟩) (by assumption) ?rz50
    case iz50 => (simp only [List.getElem?_toArray, List.getElem?_cons_zero, List.getElem?_cons_succ]; rfl)
    case qz50 => exact fun _ _ _ h => h
    case gz50 => rfl
    case hz50 => (intro w hSw; (simp only [Holds] at hSw); go_simp <;> with_reducible rfl)
    simp only [Act.put, List.setIfInBounds_toArray, List.set_cons_zero, List.set_cons_succ]
    refine wpAnyH_take (i := 12) (oi := ?oz51) (v := ?vz51) ?iz51 (by kernel_rfl) (by kernel_rfl) (by kernel_rfl) ?qz51 (Or.inl ⟨?gz51, ?hz51⟩) (by assumption) ?rz51
    case iz51 => (simp only [List.getElem?_toArray, List.getElem?_cons_zero, List.getElem?_cons_succ]; rfl)
    case qz51 => exact fun _ _ _ h => h
    case gz51 => rfl
    case hz51 => (intro w hSw; (simp only [Holds] at hSw); go_simp <;> with_reducible rfl)
    simp only [Act.put, List.setIfInBounds_toArray, List.set_cons_zero, List.set_cons_succ]
    refine wpAnyH_take (i := 13) (oi := ?oz52) (v := ?vz52) ?iz52 (by kernel_rfl) (by kernel_rfl) (by kernel_rfl) ?qz52 (Or.inl ⟨?gz52, ?hz52⟩) (by assumption) ?rz52
    case iz52 => (simp only [List.getElem?_toArray, List.getElem?_cons_zero, List.getElem?_cons_succ]; rfl)
    case qz52 => exact fun _ _ _ h => h
    case gz52 => rfl
    case hz52 => (intro w hSw; (simp only [Holds] at hSw); go_simp <;> with_reducible rfl)
    simp only [Act.put, List.setIfInBounds_toArray, List.set_cons_zero, List.set_cons_succ]
    refine wpAnyH_take (i := 14) (oi := ?oz53) (v := ?vz53) ?iz53 (by kernel_rfl) (by kernel_rfl) (by kernel_rfl) ?qz53 (Or.inl ⟨?gz53, ?hz53⟩) (by assumption) ?rz53
    case iz53 => (simp only [List.getElem?_toArray, List.getElem?_cons_zero, List.getElem?_cons_succ]; rfl)
    case qz53 => exact fun _ _ _ h => h
    case gz53 => rfl
    case hz53 => (intro w hSw; (simp only [Holds] at hSw); go_simp <;> with_reducible rfl)
    simp only [Act.put, List.setIfInBounds_toArray, List.set_cons_zero, List.set_cons_succ]
    refine wpAnyH_take (i := 15) (oi := ?oz54) (v := ?vz54) ?iz54 (by kernel_rfl) (by kernel_rfl) (by kernel_rfl) ?qz54 (Or.inl ⟨?gz54, ?hz54⟩) (by assumption) ?rz54
    case iz54 => (simp only [List.getElem?_toArray, List.getElem?_cons_zero, List.getElem?_cons_succ]; rfl)
    case qz54 => exact fun _ _ _ h => h
    case gz54 => rfl
    case hz54 => (intro w hSw; (simp only [Holds] at hSw); go_simp <;> with_reducible rfl)
    simp only [Act.put, List.setIfInBounds_toArray, List.set_cons_zero, List.set_cons_succ]
    refine wpAnyH_take (i := 16) (oi := ?oz55) (v := ?vz55) ?iz55 (by kernel_rfl) (by kernel_rfl) (by kernel_rfl) ?qz55 (Or.inl ⟨?gz55, ?hz55⟩) (by assumption) ?rz55
    case iz55 => (simp only [List.getElem?_toArray, List.getElem?_cons_zero, List.getElem?_cons_succ]; rfl)
    case qz55 => exact fun _ _ _ h => h
    case gz55 => rfl
    case hz55 => (intro w hSw; (simp only [Holds] at hSw); go_simp <;> with_reducible rfl)
    simp only [Act.put, List.setIfInBounds_toArray, List.set_cons_zero, List.set_cons_succ]
    refine wpAnyH_take (i := 17) (oi := ?oz56) (v := ?vz56) ?iz56 (by kernel_rfl) (by kernel_rfl) (by kernel_rfl) ?qz56 (Or.inl ⟨?gz56, ?hz56⟩) (by assumption) ?rz56
    case iz56 => (simp only [List.getElem?_toArray, List.getElem?_cons_zero, List.getElem?_cons_succ]; rfl)
    case qz56 => exact fun _ _ _ h => h
    case gz56 => rfl
    case hz56 => (intro w hSw; (simp only [Holds] at hSw); go_simp <;> with_reducible rfl)
    simp only [Act.put, List.setIfInBounds_toArray, List.set_cons_zero, List.set_cons_succ]
    refine wpAnyH_take (i := 18) (oi := ?oz57) (v := ?vz57) ?iz57 (by kernel_rfl) (by kernel_rfl) (by kernel_rfl) ?qz57 (Or.inl ⟨?gz57, ?hz57⟩) (by assumption) ?rz57
    case iz57 => (simp only [List.getElem?_toArray, List.getElem?_cons_zero, List.getElem?_cons_succ]; rfl)
    case qz57 => exact fun _ _ _ h => h
    case gz57 => rfl
    case hz57 => (intro w hSw; (simp only [Holds] at hSw); go_simp <;> with_reducible rfl)
    simp only [Act.put, List.setIfInBounds_toArray, List.set_cons_zero, List.set_cons_succ]
    refine wpAnyH_take (i := 19) (oi := ?oz58) (v := ?vz58) ?iz58 (by kernel_rfl) (by kernel_rfl) (by kernel_rfl) ?qz58 (Or.inl ⟨?gz58, ?hz58⟩) (by assumption) ?rz58
    case iz58 => (simp only [List.getElem?_toArray, List.getElem?_cons_zero, List.getElem?_cons_succ]; rfl)
    case qz58 => exact fun _ _ _ h => h
    case gz58 => rfl
    case hz58 => (intro w hSw; (simp only [Holds] at hSw); go_simp <;> with_reducible rfl)
    simp only [Act.put, List.setIfInBounds_toArray, List.set_cons_zero, List.set_cons_succ]
    refine wpAnyH_take (i := 20) (oi := ?oz59) (v := ?vz59) ?iz59 (by kernel_rfl) (by kernel_rfl) (by kernel_rfl) ?qz59 (Or.inl ⟨?gz59, ?hz59⟩) (by assumption) ?rz59
    case iz59 => (simp only [List.getElem?_toArray, List.getElem?_cons_zero, List.getElem?_cons_succ]; rfl)
    case qz59 => exact fun _ _ _ h => h
    case gz59 => rfl
    case hz59 => (intro w hSw; (simp only [Holds] at hSw); go_simp <;> with_reducible rfl)
    simp only [Act.put, List.setIfInBounds_toArray, List.set_cons_zero, List.set_cons_succ]
    refine wpAnyH_take (i := 21) (oi := ?oz60) (v := ?vz60) ?iz60 (by kernel_rfl) (by kernel_rfl) (by kernel_rfl) ?qz60 (Or.inl ⟨?gz60, ?hz60⟩) (by assumption) ?rz60
    case iz60 => (simp only [List.getElem?_toArray, List.getElem?_cons_zero, List.getElem?_cons_succ]; rfl)
    case qz60 => exact fun _ _ _ h => h
    case gz60 => rfl
    case hz60 => (intro w hSw; (simp only [Holds] at hSw); go_simp <;> with_reducible rfl)
    simp only [Act.put, List.setIfInBounds_toArray, List.set_cons_zero, List.set_cons_succ]
    refine wpAnyH_take (i := 22) (oi := ?oz61) (v := ?vz61) ?iz61 (by kernel_rfl) (by kernel_rfl) (by kernel_rfl) ?qz61 (Or.inl ⟨?gz61, ?hz61⟩) (by assumption) ?rz61
    case iz61 => (simp only [List.getElem?_toArray, List.getElem?_cons_zero, List.getElem?_cons_succ]; rfl)
    case qz61 => exact fun _ _ _ h => h
    case gz61 => rfl
    case hz61 => (intro w hSw; (simp only [Holds] at hSw); go_simp <;> with_reducible rfl)
    simp only [Act.put, List.setIfInBounds_toArray, List.set_cons_zero, List.set_cons_succ]
    refine wpAnyH_take (i := 23) (oi := ?oz62) (v := ?vz62) ?iz62 (by kernel_rfl) (by kernel_rfl) (by kernel_rfl) ?qz62 (Or.inl ⟨?gz62, ?hz62⟩) (by assumption) ?rz62
    case iz62 => (simp only [List.getElem?_toArray, List.getElem?_cons_zero, List.getElem?_cons_succ]; rfl)
    case qz62 => exact fun _ _ _ h => h
    case gz62 => rfl
    case hz62 => (intro w hSw; (simp only [Holds] at hSw); go_simp <;> with_reducible rfl)
    simp only [Act.put, List.setIfInBounds_toArray, List.set_cons_zero, List.set_cons_succ]
    refine wpAnyH_take (i := 24) (oi := ?oz63) (v := ?vz63) ?iz63 (by kernel_rfl) (by kernel_rfl) (by kernel_rfl) ?qz63 (Or.inl ⟨?gz63, ?hz63⟩) (by assumption) ?rz63
    case iz63 => (simp only [List.getElem?_toArray, List.getElem?_cons_zero, List.getElem?_cons_succ]; rfl)
    case qz63 => exact fun _ _ _ h => h
    case gz63 => rfl
    case hz63 => (intro w hSw; (simp only [Holds] at hSw); go_simp <;> with_reducible rfl)
    simp only [Act.put, List.setIfInBounds_toArray, List.set_cons_zero, List.set_cons_succ]
    refine wpAnyH_take (i := 25) (oi := ?oz64) (v := ?vz64) ?iz64 (by kernel_rfl) (by kernel_rfl) (by kernel_rfl) ?qz64 (Or.inl ⟨?gz64, ?hz64⟩) (by assumption) ?rz64
    case iz64 => (simp only [List.getElem?_toArray, List.getElem?_cons_zero, List.getElem?_cons_succ]; rfl)
    case qz64 => exact fun _ _ _ h => h
    case gz64 => rfl
    case hz64 => (intro w hSw; (simp only [Holds] at hSw); go_simp <;> with_reducible rfl)
    simp only [Act.put, List.setIfInBounds_toArray, List.set_cons_zero, List.set_cons_succ]
    refine wpAnyH_take (i := 27) (oi := ?oz65) (v := ?vz65) ?iz65 (by kernel_rfl) (by kernel_rfl) (by kernel_rfl) ?qz65 (Or.inl ⟨?gz65, ?hz65⟩) (by assumption) ?rz65
    case iz65 => (simp only [List.getElem?_toArray, List.getElem?_cons_zero, List.getElem?_cons_succ]; rfl)
    case qz65 => exact fun _ _ _ h => h
    case gz65 => rfl
    case hz65 => (intro w hSw; (simp only [Holds] at hSw); go_simp <;> with_reducible rfl)
    simp only [Act.put, List.setIfInBounds_toArray, List.set_cons_zero, List.set_cons_succ]
    refine wpAnyH_take (i := 28) (oi := ?oz66) (v := ?vz66) ?iz66 (by kernel_rfl) (by kernel_rfl) (by kernel_rfl) ?qz66 (Or.inl ⟨?gz66, ?hz66⟩) (by assumption) ?rz66
    case iz66 => (simp only [List.getElem?_toArray, List.getElem?_cons_zero, List.getElem?_cons_succ]; rfl)
    case qz66 => exact fun _ _ _ h => h
    case gz66 => rfl
    case hz66 => (intro w hSw; (simp only [Holds] at hSw); go_simp <;> with_reducible rfl)
    simp only [Act.put, List.setIfInBounds_toArray, List.set_cons_zero, List.set_cons_succ]
    refine wpAnyH_ready (rs := [26]) (by kernel_rfl) (by simp) ?_
    refine AllReadyH.cons (o := ?oz67) ?iz67 (fun K hK => ?kz67) AllReadyH.nil
    case iz67 => (simp only [List.getElem?_toArray, List.getElem?_cons_zero, List.getElem?_cons_succ]; rfl)
    go_simp
    change Calls _ _ #[stopV s0, stopV s2] _ _
    refine (fac _).mono ?_
    rintro e w' ⟨rfl, hb⟩
    refine held_more hK HS0.out hlt (Bc.out.trans (hb.mono Bc.out.size)) (fun Bc hSn => ?_)
    clear hb hK
    refine wpAnyH_ready (rs := [29]) (by kernel_rfl) (by simp) ?_
    refine AllReadyH.cons (o := ?oz68) ?iz68 (fun K hK => ?kz68) AllReadyH.nil
    case iz68 => (simp only [List.getElem?_toArray, List.getElem?_cons_zero, List.getElem?_cons_succ]; rfl)
    go_simp
    change Calls _ _ #[stopV s2, stopV s1] _ _
    refine (fcb _).mono ?_
    rintro e w' ⟨rfl, hb⟩
    refine held_more hK HS0.out hlt (Bc.out.trans (hb.mono Bc.out.size)) (fun Bc hSn => ?_)
    clear hb hK
    refine wpAnyH_take (i := 30) (oi := ?oz69) (v := ?vz69) ?iz69 (by kernel_rfl) (by kernel_rfl) (by kernel_rfl) ?qz69 (Or.inl ⟨?gz69, ?hz69⟩) (by assumption) ?rz69
    case iz69 => (simp only [List.getElem?_toArray, List.getElem?_cons_zero, List.getElem?_cons_succ]; rfl)
    case qz69 => exact fun _ _ _ h => h
    case gz69 => rfl
    case hz69 => (intro w hSw; (simp only [Holds] at hSw); go_simp <;> with_reducible rfl)
    simp only [Act.put, List.setIfInBounds_toArray, List.set_cons_zero, List.set_cons_succ]
    refine wpAnyH_take (i := 31) (oi := ?oz70) (v := ?vz70) ?iz70 (by kernel_rfl) (by kernel_rfl) (by kernel_rfl) ?qz70 (Or.inl ⟨?gz70, ?hz70⟩) (by assumption) ?rz70
    case iz70 => (simp only [List.getElem?_toArray, List.getElem?_cons_zero, List.getElem?_cons_succ]; rfl)
    case qz70 => exact fun _ _ _ h => h
    case gz70 => rfl
    case hz70 => (intro w hSw; (simp only [Holds] at hSw); go_simp <;> with_reducible rfl)
    simp only [Act.put, List.setIfInBounds_toArray, List.set_cons_zero, List.set_cons_succ]
    refine wpAnyH_take (i := 32) (oi := ?oz71) (v := ?vz71) ?iz71 (by kernel_rfl) (by kernel_rfl) (by kernel_rfl) ?qz71 (Or.inl ⟨?gz71, ?hz71⟩) (by assumption) ?rz71
    case iz71 => (simp only [List.getElem?_toArray, List.getElem?_cons_zero, List.getElem?_cons_succ]; rfl)
    case qz71 => exact fun _ _ _ h => h
    case gz71 => rfl
    case hz71 => (intro w hSw; (simp only [Holds] at hSw); go_simp <;> with_reducible rfl)
    simp only [Act.put, List.setIfInBounds_toArray, List.set_cons_zero, List.set_cons_succ]
    refine wpAnyH_take (i := 33) (oi := ?oz72) (v := ?vz72) ?iz72 (by kernel_rfl) (by kernel_rfl) (by kernel_rfl) ?qz72 (Or.inl ⟨?gz72, ?hz72⟩) (by assumption) ?rz72
    case iz72 => (simp only [List.getElem?_toArray, List.getElem?_cons_zero, List.getElem?_cons_succ]; rfl)
    case qz72 => exact fun _ _ _ h => h
    case gz72 => rfl
    case hz72 => (intro w hSw; (simp only [Holds] at hSw); go_simp <;> with_reducible rfl)
    simp only [Act.put, List.setIfInBounds_toArray, List.set_cons_zero, List.set_cons_succ]
    refine wpAnyH_take (i := 34) (oi := ?oz73) (v := ?vz73) ?iz73 (by kernel_rfl) (by kernel_rfl) (by kernel_rfl) ?qz73 (Or.inl ⟨?gz73, ?hz73⟩) (by assumption) ?rz73
    case iz73 => (simp only [List.getElem?_toArray, List.getElem?_cons_zero, List.getElem?_cons_succ]; rfl)
    case qz73 => exact fun _ _ _ h => h
    case gz73 => rfl
    case hz73 => (intro w hSw; (simp only [Holds] at hSw); go_simp <;> with_reducible rfl)
    simp only [Act.put, List.setIfInBounds_toArray, List.set_cons_zero, List.set_cons_succ]
    refine wpAnyH_take (i := 35) (oi := ?oz74) (v := ?vz74) ?iz74 (by kernel_rfl) (by kernel_rfl) (by kernel_rfl) ?qz74 (Or.inl ⟨?gz74, ?hz74⟩) (by assumption) ?rz74
    case iz74 => (simp only [List.getElem?_toArray, List.getElem?_cons_zero, List.getElem?_cons_succ]; rfl)
    case qz74 => exact fun _ _ _ h => h
    case gz74 => rfl
    case hz74 => (intro w hSw; (simp only [Holds] at hSw); go_simp <;> with_reducible rfl)
    simp only [Act.put, List.setIfInBounds_toArray, List.set_cons_zero, List.set_cons_succ]
    refine wpAnyH_take (i := 36) (oi := ?oz75) (v := ?vz75) ?iz75 (by kernel_rfl) (by kernel_rfl) (by kernel_rfl) ?qz75 (Or.inl ⟨?gz75, ?hz75⟩) (by assumption) ?rz75
    case iz75 => (simp only [List.getElem?_toArray, List.getElem?_cons_zero, List.getElem?_cons_succ]; rfl)
    case qz75 => exact fun _ _ _ h => h
    case gz75 => rfl
    case hz75 => (intro w hSw; (simp only [Holds] at hSw); go_simp <;> with_reducible rfl)
    simp only [Act.put, List.setIfInBounds_toArray, List.set_cons_zero, List.set_cons_succ]
    refine wpAnyH_take (i := 37) (oi := ?oz76) (v := ?vz76) ?iz76 (by kernel_rfl) (by kernel_rfl) (by kernel_rfl) ?qz76 (Or.inl ⟨?gz76, ?hz76⟩) (by assumption) ?rz76
    case iz76 => (simp only [List.getElem?_toArray, List.getElem?_cons_zero, List.getElem?_cons_succ]; rfl)
    case qz76 => exact fun _ _ _ h => h
    case gz76 => rfl
    case hz76 => (intro w hSw; (simp only [Holds] at hSw); go_simp <;> with_reducible rfl)
    simp only [Act.put, List.setIfInBounds_toArray, List.set_cons_zero, List.set_cons_succ]
    refine wpAnyH_take (i := 38) (oi := ?oz77) (v := ?vz77) ?iz77 (by kernel_rfl) (by kernel_rfl) (by kernel_rfl) ?qz77 (Or.inl ⟨?gz77, ?hz77⟩) (by assumption) ?rz77
    case iz77 => (simp only [List.getElem?_toArray, List.getElem?_cons_zero, List.getElem?_cons_succ]; rfl)
    case qz77 => exact fun _ _ _ h => h
    case gz77 => rfl
    case hz77 => (intro w hSw; (simp only [Holds] at hSw); go_simp <;> with_reducible rfl)
    simp only [Act.put, List.setIfInBounds_toArray, List.set_cons_zero, List.set_cons_succ]
    refine wpAnyH_take (i := 39) (oi := ?oz78) (v := ?vz78) ?iz78 (by kernel_rfl) (by kernel_rfl) (by kernel_rfl) ?qz78 (Or.inl ⟨?gz78, ?hz78⟩) (by assumption) ?rz78
    case iz78 => (simp only [List.getElem?_toArray, List.getElem?_cons_zero, List.getElem?_cons_succ]; rfl)
    case qz78 => exact fun _ _ _ h => h
    case gz78 => rfl
    case hz78 => (intro w hSw; (simp only [Holds] at hSw); go_simp <;> with_reducible rfl)
    simp only [Act.put, List.setIfInBounds_toArray, List.set_cons_zero, List.set_cons_succ]
    refine wpAnyH_take (i := 40) (oi := ?oz79) (v := ?vz79) ?iz79 (by kernel_rfl) (by kernel_rfl) (by kernel_rfl) ?qz79 (Or.inl ⟨?gz79, ?hz79⟩) (by assumption) ?rz79
    case iz79 => (simp only [List.getElem?_toArray, List.getElem?_cons_zero, List.getElem?_cons_succ]; rfl)
    case qz79 => exact fun _ _ _ h => h
    case gz79 => rfl
    case hz79 => (intro w hSw; (simp only [Holds] at hSw); go_simp <;> with_reducible rfl)
    simp only [Act.put, List.setIfInBounds_toArray, List.set_cons_zero, List.set_cons_succ]
    refine wpAnyH_take (i := 41) (oi := ?oz80) (v := ?vz80) ?iz80 (by kernel_rfl) (by kernel_rfl) (by kernel_rfl) ?qz80 (Or.inl ⟨?gz80, ?hz80⟩) (by assumption) ?rz80
    case iz80 => (simp only [List.getElem?_toArray, List.getElem?_cons_zero, List.getElem?_cons_succ]; rfl)
    case qz80 => exact fun _ _ _ h => h
    case gz80 => rfl
    case hz80 => (intro w hSw; (simp only [Holds] at hSw); go_simp <;> with_reducible rfl)
    simp only [Act.put, List.setIfInBounds_toArray, List.set_cons_zero, List.set_cons_succ]
    refine wpAnyH_done (by kernel_rfl) ?_ _
    go_wp2
    go_ret
    exact ⟨rfl, HB0.out.trans (Bc.out.mono HB0.out.size)⟩
  ·
    refine wpAnyH_take (i := 4) (oi := ?oz81) (v := ?vz81) ?iz81 (by kernel_rfl) (by kernel_rfl) (by kernel_rfl) ?qz81 (Or.inl ⟨?gz81, ?hz81⟩) (by assumption) ?rz81
    case iz81 => (simp only [List.getElem?_toArray, List.getElem?_cons_zero, List.getElem?_cons_succ]; rfl)
    case qz81 => exact fun _ _ _ h => h
    case gz81 => rfl
    case hz81 => (intro w hSw; (simp only [Holds] at hSw); go_simp <;> with_reducible rfl)
    simp only [Act.put, List.setIfInBounds_toArray, List.set_cons_zero, List.set_cons_succ]
    refine wpAnyH_take (i := 5) (oi := ?oz82) (v := ?vz82) ?iz82 (by kernel_rfl) (by kernel_rfl) (by kernel_rfl) ?qz82 (Or.inl ⟨?gz82, ?hz82⟩) (by assumption) ?rz82
    case iz82 => (simp only [List.getElem?_toArray, List.getElem?_cons_zero, List.getElem?_cons_succ]; rfl)
    case qz82 => exact fun _ _ _ h => h
    case gz82 => rfl
    case hz82 => (intro w hSw; (simp only [Holds] at hSw); go_simp <;> with_reducible rfl)
    simp only [Act.put, List.setIfInBounds_toArray, List.set_cons_zero, List.set_cons_succ]
    refine wpAnyH_take (i := 6) (oi := ?oz83) (v := ?vz83) ?iz83 (by kernel_rfl) (by kernel_rfl) (by kernel_rfl) ?qz83 (Or.inl ⟨?gz83, ?hz83⟩) (by assumption) ?rz83
    case iz83 => (simp only [List.getElem?_toArray, List.getElem?_cons_zero, List.getElem?_cons_succ]; rfl)
    case qz83 => exact fun _ _ _ h => h
    case gz83 => rfl
    case hz83 => (intro w hSw; (simp only [Holds] at hSw); go_simp <;> with_reducible rfl)
    simp only [Act.put, List.setIfInBounds_toArray, List.set_cons_zero, List.set_cons_succ]
    refine wpAnyH_take (i := 7) (oi := ?oz84) (v := ?vz84) ?iz84 (by kernel_rfl) (by kernel_rfl) (by kernel_rfl) ?qz84 (Or.inl ⟨?gz84, ?hz84⟩) (by assumption) ?rz84
    case iz84 => (simp only [List.getElem?_toArray, List.getElem?_cons_zero, List.getElem?_cons_succ]; rfl)
    case qz84 => exact fun _ _ _ h => h
    case gz84 => rfl
    case hz84 => (intro w hSw; (simp only [Holds] at hSw); go_simp <;> with_reducible rfl)
    simp only [Act.put, List.setIfInBounds_toArray, List.set_cons_zero, List.set_cons_succ]
    refine wpAnyH_take (i := 8) (oi := ?oz85) (v := ?vz85) ?iz85 (by kernel_rfl) (by kernel_rfl) (by kernel_rfl) ?qz85 (Or.inl ⟨?gz85, ?hz85⟩) (by assumption) ?rz85
    case iz85 => (simp only [List.getElem?_toArray, List.getElem?_cons_zero, List.getElem?_cons_succ]; rfl)
    case qz85 => exact fun _ _ _ h => h
    case gz85 => rfl
    case hz85 => (intro w hSw; (simp only [Holds] at hSw); go_simp <;> with_reducible rfl)
    simp only [Act.put, List.setIfInBounds_toArray, List.set_cons_zero, List.set_cons_succ]
    refine wpAnyH_take (i := 9) (oi := ?oz86) (v := ?vz86) ?iz86 (by kernel_rfl) (by kernel_rfl) (by kernel_rfl) ?qz86 (Or.inl ⟨?gz86, ?hz86⟩) (by assumption) ?rz86
    case iz86 => (simp only [List.getElem?_toArray, List.getElem?_cons_zero, List.getElem?_cons_succ]; rfl)
    case qz86 => exact fun _ _ _ h => h
    case gz86 => rfl
    case hz86 => (intro w hSw; (simp only [Holds] at hSw); go_simp <;> with_reducible rfl)
    simp only [Act.put, List.setIfInBounds_toArray, List.set_cons_zero, List.set_cons_succ]
    refine wpAnyH_take (i := 10) (oi := ?oz87) (v := ?vz87) ?iz87 (by kernel_rfl) (by kernel_rfl) (by kernel_rfl) ?qz87 (Or.inl ⟨?gz87, ?hz87⟩) (by assumption) ?rz87
    case iz87 => (simp only [List.getElem?_toArray, List.getElem?_cons_zero, List.getElem?_cons_succ]; rfl)
    case qz87 => exact fun _ _ _ h => h
    case gz87 => rfl
    case hz87 => (intro w hSw; (simp only [Holds] at hSw); go_simp <;> with_reducible rfl)
    simp only [Act.put, List.setIfInBounds_toArray, List.set_cons_zero, List.set_cons_succ]
    refine wpAnyH_take (i := 11) (oi := ?oz88) (v := ?vz88) ?iz88 (by kernel_rfl) (by kernel_rfl) (by kernel_rfl) ?qz88 (Or.inl ⟨?gz88, ?hz88⟩) (by assumption) ?rz88
    case iz88 => (simp only [List.getElem?_toArray, List.getElem?_cons_zero, List.getElem?_cons_succ]; rfl)
    case qz88 => exact fun _ _ _ h => h
    case gz88 => rfl
    case hz88 => (intro w hSw; (simp only [Holds] at hSw); go_simp <;> with_reducible rfl)
    simp only [Act.put, List.setIfInBounds_toArray, List.set_cons_zero, List.set_cons_succ]
    refine wpAnyH_take (i := 12) (oi := ?oz89) (v := ?vz89) ?iz89 (by kernel_rfl) (by kernel_rfl) (by kernel_rfl) ?qz89 (Or.inl ⟨?gz89, ?hz89⟩) (by assumption) ?rz89
    case iz89 => (simp only [List.getElem?_toArray, List.getElem?_cons_zero, List.getElem?_cons_succ]; rfl)
    case qz89 => exact fun _ _ _ h => h
    case gz89 => rfl
    case hz89 => (intro w hSw; (simp only [Holds] at hSw); go_simp <;> with_reducible rfl)
    simp only [Act.put, List.setIfInBounds_toArray, List.set_cons_zero, List.set_cons_succ]
    refine wpAnyH_take (i := 13) (oi := ?oz90) (v := ?vz90) ?iz90 (by kernel_rfl) (by kernel_rfl) (by kernel_rfl) ?qz90 (Or.inl ⟨?gz90, ?hz90⟩) (by assumption) ?rz90
    case iz90 => (simp only [List.getElem?_toArray, List.getElem?_cons_zero, List.getElem?_cons_succ]; rfl)
    case qz90 => exact fun _ _ _ h => h
    case gz90 => rfl
    case hz90 => (intro w hSw; (simp only [Holds] at hSw); go_simp <;> with_reducible rfl)
    simp only [Act.put, List.setIfInBounds_toArray, List.set_cons_zero, List.set_cons_succ]
    refine wpAnyH_take (i := 14) (oi := ?oz91) (v := ?vz91) ?iz91 (by kernel_rfl) (by kernel_rfl) (by kernel_rfl) ?qz91 (Or.inl ⟨?gz91, ?hz91⟩) (by assumption) ?rz91
    case iz91 => (simp only [List.getElem?_toArray, List.getElem?_cons_zero, List.getElem?_cons_succ]; rfl)
    case qz91 => exact fun _ _ _ h => h
    case gz91 => rfl
    case hz91 => (intro w hSw; (simp only [Holds] at hSw); go_simp <;> with_reducible rfl)
    simp only [Act.put, List.setIfInBounds_toArray, List.set_cons_zero, List.set_cons_succ]
    refine wpAnyH_take (i := 15) (oi := ?oz92) (v := ?vz92) ?iz92 (by kernel_rfl) (by kernel_rfl) (by kernel_rfl) ?qz92 (Or.inl ⟨?gz92, ?hz92⟩) (by assumption) ?rz92
    case iz92 => (simp only [List.getElem?_toArray, List.getElem?_cons_zero, List.getElem?_cons_succ]; rfl)
    case qz92 => exact fun _ _ _ h => h
    case gz92 => rfl
    case hz92 => (intro w hSw; (simp only [Holds] at hSw); go_simp <;> with_reducible rfl)
    simp only [Act.put, List.setIfInBounds_toArray, List.set_cons_zero, List.set_cons_succ]
    refine wpAnyH_take (i := 16) (oi := ?oz93) (v := ?vz93) ?iz93 (by kernel_rfl) (by kernel_rfl) (by kernel_rfl) ?qz93 (Or.inl ⟨?gz93, ?hz93⟩) (by assumption) ?rz93
    case iz93 => (simp only [List.getElem?_toArray, List.getElem?_cons_zero, List.getElem?_cons_succ]; rfl)
    case qz93 => exact fun _ _ _ h => h
    case gz93 => rfl
    case hz93 => (intro w hSw; (simp only [Holds] at hSw); go_simp <;> with_reducible rfl)
    simp only [Act.put, List.setIfInBounds_toArray, List.set_cons_zero, List.set_cons_succ]
    refine wpAnyH_take (i := 17) (oi := ?oz94) (v := ?vz94) ?iz94 (by kernel_rfl) (by kernel_rfl) (by kernel_rfl) ?qz94 (Or.inl ⟨?gz94, ?hz94⟩) (by assumption) ?rz94
    case iz94 => (simp only [List.getElem?_toArray, List.getElem?_cons_zero, List.getElem?_cons_succ]; rfl)
    case qz94 => exact fun _ _ _ h => h
    case gz94 => rfl
    case hz94 => (intro w hSw; (simp only [Holds] at hSw); go_simp <;> with_reducible rfl)
    simp only [Act.put, List.setIfInBounds_toArray, List.set_cons_zero, List.set_cons_succ]
    refine wpAnyH_take (i := 18) (oi := ?oz95) (v := ?vz95) ?iz95 (by kernel_rfl) (by kernel_rfl) (by kernel_rfl) ?qz95 (Or.inl ⟨?gz95, ?hz95⟩) (by assumption) ?rz95
    case iz95 => (simp only [List.getElem?_toArray, List.getElem?_cons_zero, List.getElem?_cons_succ]; rfl)
    case qz95 => exact fun _ _ _ h => h
    case gz95 => rfl
    case hz95 => (intro w hSw; (simp only [Holds] at hSw); go_simp <;> with_reducible rfl)
    simp only [Act.put, List.setIfInBounds_toArray, List.set_cons_zero, List.set_cons_succ]
    refine wpAnyH_take (i := 19) (oi := ?oz96) (v := ?vz96) ?iz96 (by kernel_rfl) (by kernel_rfl) (by kernel_rfl) ?qz96 (Or.inl ⟨?gz96, ?hz96⟩) (by assumption) ?rz96
    case iz96 => (simp only [List.getElem?_toArray, List.getElem?_cons_zero, List.getElem?_cons_succ]; rfl)
    case qz96 => exact fun _ _ _ h => h
    case gz96 => rfl
    case hz96 => (intro w hSw; (simp only [Holds] at hSw); go_simp <;> with_reducible rfl)
    simp only [Act.put, List.setIfInBounds_toArray, List.set_cons_zero, List.set_cons_succ]
    refine wpAnyH_take (i := 20) (oi := ?oz97) (v := ?vz97) ?iz97 (by kernel_rfl) (by kernel_rfl) (by kernel_rfl) ?qz97 (Or.inl ⟨?gz97, ?hz97⟩) (by assumption) ?rz97
    case iz97 => (simp only [List.getElem?_toArray, List.getElem?_cons_zero, List.getElem?_cons_succ]; rfl)
    case qz97 => exact fun _ _ _ h => h
    case gz97 => rfl
    case hz97 => (intro w hSw; (simp only [Holds] at hSw); go_simp <;> with_reducible rfl)
    simp only [Act.put, List.setIfInBounds_toArray, List.set_cons_zero, List.set_cons_succ]
    refine wpAnyH_take (i := 21) (oi := ?oz98) (v := ?vz98) ?iz98 (by kernel_rfl) (by kernel_rfl) (by kernel_rfl) ?qz98 (Or.inl ⟨?gz98, ?hz98⟩) (by assumption) ?rz98
    case iz98 => (simp only [List.getElem?_toArray, List.getElem?_cons_zero, List.getElem?_cons_succ]; rfl)
    case qz98 => exact fun _ _ _ h => h
    case gz98 => rfl
    case hz98 => (intro w hSw; (simp only [Holds] at hSw); go_simp <;> with_reducible rfl)
    simp only [Act.put, List.setIfInBounds_toArray, List.set_cons_zero, List.set_cons_succ]
    refine wpAnyH_take (i := 22) (oi := ?oz99) (v := ?vz99) ?iz99 (by kernel_rfl) (by kernel_rfl) (by kernel_rfl) ?qz99 (Or.inl ⟨?gz99, ?hz99⟩) (by assumption) ?rz99
    case iz99 => (simp only [List.getElem?_toArray, List.getElem?_cons_zero, List.getElem?_cons_succ]; rfl)
    case qz99 => exact fun _ _ _ h => h
    case gz99 => rfl
    case hz99 => (intro w hSw; (simp only [Holds] at hSw); go_simp <;> with_reducible rfl)
    simp only [Act.put, List.setIfInBounds_toArray, List.set_cons_zero, List.set_cons_succ]
    refine wpAnyH_take (i := 23) (oi := ?oz100) (v := ?vz100) ?iz100 (by kernel_rfl) (by kernel_rfl) (by kernel_rfl) ?qz100 (Or.inl ⟨?gz100, ?hz100⟩) (by assumption) ?rz100
    case iz100 => (simp only [List.getElem?_toArray, List.getElem?_cons_zero, List.getElem?_cons_succ]; rfl)
    case qz100 => exact fun _ _ _ h => h
    case gz100 => rfl
    case hz100 => (intro w hSw; (simp only [Holds] at hSw); go_simp <;> with_reducible rfl)
    simp only [Act.put, List.setIfInBounds_toArray, List.set_cons_zero, List.set_cons_succ]
    refine wpAnyH_take (i := 24) (oi := ?oz101) (v := ?vz101) ?iz101 (by kernel_rfl) (by kernel_rfl) (by kernel_rfl) ?qz101 (Or.inl ⟨?gz101, ?hz101⟩) (by assumption) ?rz101
    case iz101 => (simp only [List.getElem?_toArray, List.getElem?_cons_zero, List.getElem?_cons_succ]; rfl)
    case qz101 => exact fun _ _ _ h => h
    case gz101 => rfl
    case hz101 => (intro w hSw; (simp only [Holds] at hSw); go_simp <;> with_reducible rfl)
    simp only [Act.put, List.setIfInBounds_toArray, List.set_cons_zero, List.set_cons_succ]
    refine wpAnyH_take (i := 25) (oi := ?oz102) (v := ?vz102) ?iz102 (by kernel_rfl) (by kernel_rfl) (by kernel_rfl) ?qz102 (Or.inl ⟨?gz102, ?hz102⟩) (by assumption) ?rz102
    case iz102 => (simp only [List.getElem?_toArray, List.getElem?_cons_zero, List.getElem?_cons_succ]; rfl)
    case qz102 => exact fun _ _ _ h => h
    case gz102 => rfl
    case hz102 => (intro w hSw; (simp only [Holds] at hSw); go_simp <;> with_reducible rfl)
    simp only [Act.put, List.setIfInBounds_toArray, List.set_cons_zero, List.set_cons_succ]
    refine wpAnyH_take (i := 27) (oi := ?oz103) (v := ?vz103) ?iz103 (by kernel_rfl) (by kernel_rfl) (by kernel_rfl) ?qz103 (Or.inl ⟨?gz103, ?hz103⟩) (by assumption) ?rz103
    case iz103 => (simp only [List.getElem?_toArray, List.getElem?_cons_zero, List.getElem?_cons_succ]; rfl)
    case qz103 => exact fun _ _ _ h => h
    case gz103 => rfl
    case hz103 => (intro w hSw; (simp only [Holds] at hSw); go_simp <;> with_reducible rfl)
    simp only [Act.put, List.setIfInBounds_toArray, List.set_cons_zero, List.set_cons_succ]
    refine wpAnyH_take (i := 28) (oi := ?oz104) (v := ?vz104) ?iz104 (by kernel_rfl) (by kernel_rfl) (by kernel_rfl) ?qz104 (Or.inl ⟨?gz104, ?hz104⟩) (by assumption) ?rz104
    case iz104 => (simp only [List.getElem?_toArray, List.getElem?_cons_zero, List.getElem?_cons_succ]; rfl)
    case qz104 => exact fun _ _ _ h => h
    case gz104 => rfl
    case hz104 => (intro w hSw; (simp only [Holds] at hSw); go_simp <;> with_reducible rfl)
    simp only [Act.put, List.setIfInBounds_toArray, List.set_cons_zero, List.set_cons_succ]
    refine wpAnyH_ready (rs := [26]) (by kernel_rfl) (by simp) ?_
    refine AllReadyH.cons (o := ?oz105) ?iz105 (fun K hK => ?kz105) AllReadyH.nil
    case iz105 => (simp only [List.getElem?_toArray, List.getElem?_cons_zero, List.getElem?_cons_succ]; rfl)
    go_simp
    change Calls _ _ #[stopV s0, stopV s2] _ _
    refine (fac _).mono ?_
    rintro e w' ⟨rfl, hb⟩
    refine held_more hK HS0.out hlt (Bc.out.trans (hb.mono Bc.out.size)) (fun Bc hSn => ?_)
    clear hb hK
    refine wpAnyH_ready (rs := [29]) (by kernel_rfl) (by simp) ?_
    refine AllReadyH.cons (o := ?oz106) ?iz106 (fun K hK => ?kz106) AllReadyH.nil
    case iz106 => (simp only [List.getElem?_toArray, List.getElem?_cons_zero, List.getElem?_cons_succ]; rfl)
    go_simp
    change Calls _ _ #[stopV s2, stopV s1] _ _
    refine (fcb _).mono ?_
    rintro e w' ⟨rfl, hb⟩
    refine held_more hK HS0.out hlt (Bc.out.trans (hb.mono Bc.out.size)) (fun Bc hSn => ?_)
    clear hb hK
    refine wpAnyH_take (i := 30) (oi := ?oz107) (v := ?vz107) ?iz107 (by kernel_rfl) (by kernel_rfl) (by kernel_rfl) ?qz107 (Or.inl ⟨?gz107, ?hz107⟩) (by assumption) ?rz107
    case iz107 => (simp only [List.getElem?_toArray, List.getElem?_cons_zero, List.getElem?_cons_succ]; rfl)
    case qz107 => exact fun _ _ _ h => h
    case gz107 => rfl
    case hz107 => (intro w hSw; (simp only [Holds] at hSw); go_simp <;> with_reducible rfl)
    simp only [Act.put, List.setIfInBounds_toArray, List.set_cons_zero, List.set_cons_succ]
    refine wpAnyH_take (i := 31) (oi := ?oz108) (v := ?vz108) ?iz108 (by kernel_rfl) (by kernel_rfl) (by kernel_rfl) ?qz108 (Or.inl ⟨?gz108, ?hz108⟩) (by assumption) ?rz108
    case iz108 => (simp only [List.getElem?_toArray, List.getElem?_cons_zero, List.getElem?_cons_succ]; rfl)
    case qz108 => exact fun _ _ _ h => h
    case gz108 => rfl
    case hz108 => (intro w hSw; (simp only [Holds] at hSw); go_simp <;> with_reducible rfl)
    simp only [Act.put, List.setIfInBounds_toArray, List.set_cons_zero, List.set_cons_succ]
    refine wpAnyH_take (i := 32) (oi := ?oz109) (v := ?vz109) ?iz109 (by kernel_rfl) (by kernel_rfl) (by kernel_rfl) ?qz109 (Or.inl ⟨?gz109, ?hz109⟩) (by assumption) ?rz109
    case iz109 => (simp only [List.getElem?_toArray, List.getElem?_cons_zero, List.getElem?_cons_succ]; rfl)
    case qz109 => exact fun _ _ _ h => h
    case gz109 => rfl
    case hz109 => (intro w hSw; (simp only [Holds] at hSw); go_simp <;> with_reducible rfl)
    simp only [Act.put, List.setIfInBounds_toArray, List.set_cons_zero, List.set_cons_succ]
    refine wpAnyH_take (i := 33) (oi := ?oz110) (v := ?vz110) ?iz110 (by kernel_rfl) (by kernel_rfl) (by kernel_rfl) ?qz110 (Or.inl ⟨?gz110, ?hz110⟩) (by assumption) ?rz110
    case iz110 => (simp only [List.getElem?_toArray, List.getElem?_cons_zero, List.getElem?_cons_succ]; rfl)
    case qz110 => exact fun _ _ _ h => h
    case gz110 => rfl
    case hz110 => (intro w hSw; (simp only [Holds] at hSw); go_simp <;> with_reducible rfl)
    simp only [Act.put, List.setIfInBounds_toArray, List.set_cons_zero, List.set_cons_succ]
    refine wpAnyH_take (i := 34) (oi := ?oz111) (v := ?vz111) ?iz111 (by kernel_rfl) (by kernel_rfl) (by kernel_rfl) ?qz111 (Or.inl ⟨?gz111, ?hz111⟩) (by assumption) ?rz111
    case iz111 => (simp only [List.getElem?_toArray, List.getElem?_cons_zero, List.getElem?_cons_succ]; rfl)
    case qz111 => exact fun _ _ _ h => h
    case gz111 => rfl
    case hz111 => (intro w hSw; (simp only [Holds] at hSw); go_simp <;> with_reducible rfl)
    simp only [Act.put, List.setIfInBounds_toArray, List.set_cons_zero, List.set_cons_succ]
    refine wpAnyH_take (i := 35) (oi := ?oz112) (v := ?vz112) ?iz112 (by kernel_rfl) (by kernel_rfl) (by kernel_rfl) ?qz112 (Or.inl ⟨?gz112, ?hz112⟩) (by assumption) ?rz112
    case iz112 => (simp only [List.getElem?_toArray, List.getElem?_cons_zero, List.getElem?_cons_succ]; rfl)
    case qz112 => exact fun _ _ _ h => h
    case gz112 => rfl
    case hz112 => (intro w hSw; (simp only [Holds] at hSw); go_simp <;> with_reducible rfl)
    simp only [Act.put, List.setIfInBounds_toArray, List.set_cons_zero, List.set_cons_succ]
    refine wpAnyH_take (i := 36) (oi := ?oz113) (v := ?vz113) ?iz113 (by kernel_rfl) (by kernel_rfl) (by kernel_rfl) ?qz113 (Or.inl ⟨?gz113, ?hz113⟩) (by assumption) ?rz113
    case iz113 => (simp only [List.getElem?_toArray, List.getElem?_cons_zero, List.getElem?_cons_succ]; rfl)
    case qz113 => exact fun _ _ _ h => h
    case gz113 => rfl
    case hz113 => (intro w hSw; (simp only [Holds] at hSw); go_simp <;> with_reducible rfl)
    simp only [Act.put, List.setIfInBounds_toArray, List.set_cons_zero, List.set_cons_succ]
    refine wpAnyH_take (i := 37) (oi := ?oz114) (v := ?vz114) ?iz114 (by kernel_rfl) (by kernel_rfl) (by kernel_rfl) ?qz114 (Or.inl ⟨?gz114, ?hz114⟩) (by assumption) ?rz114
    case iz114 => (simp only [List.getElem?_toArray, List.getElem?_cons_zero, List.getElem?_cons_succ]; rfl)
    case qz114 => exact fun _ _ _ h => h
    case gz114 => rfl
    case hz114 => (intro w hSw; (simp only [Holds] at hSw); go_simp <;> with_reducible rfl)
    simp only [Act.put, List.setIfInBounds_toArray, List.set_cons_zero, List.set_cons_succ]
    refine wpAnyH_take (i := 38) (oi := ?oz115) (v := ?vz115) ?iz115 (by kernel_rfl) (by kernel_rfl) (by kernel_rfl) ?qz115 (Or.inl ⟨?gz115, ?hz115⟩) (by assumption) ?rz115
    case iz115 => (simp only [List.getElem?_toArray, List.getElem?_cons_zero, List.getElem?_cons_succ]; rfl)
    case qz115 => exact fun _ _ _ h => h
    case gz115 => rfl
    case hz115 => (intro w hSw; (simp only [Holds] at hSw); go_simp <;> with_reducible rfl)
    simp only [Act.put, List.setIfInBounds_toArray, List.set_cons_zero, List.set_cons_succ]
    refine wpAnyH_take (i := 39) (oi := ?oz116) (v := ?vz116) ?iz116 (by kernel_rfl) (by kernel_rfl) (by kernel_rfl) ?qz116 (Or.inl ⟨?gz116, ?hz116⟩) (by assumption) ?rz116
    case iz116 => (simp only [List.getElem?_toArray, List.getElem?_cons_zero, List.getElem?_cons_succ]; rfl)
    case qz116 => exact fun _ _ _ h => h
    case gz116 => rfl
    case hz116 => (intro w hSw; (simp only [Holds] at hSw); go_simp <;> with_reducible rfl)
    simp only [Act.put, List.setIfInBounds_toArray, List.set_cons_zero, List.set_cons_succ]
    refine wpAnyH_take (i := 40) (oi := ?oz117) (v := ?vz117) ?iz117 (by kernel_rfl) (by kernel_rfl) (by kernel_rfl) ?qz117 (Or.inl ⟨?gz117, ?hz117⟩) (by assumption) ?rz117
    case iz117 => (simp only [List.getElem?_toArray, List.getElem?_cons_zero, List.getElem?_cons_succ]; rfl)
    case qz117 => exact fun _ _ _ h => h
    case gz117 => rfl
    case hz117 => (intro w hSw; (simp only [Holds] at hSw); go_simp <;> with_reducible rfl)
    simp only [Act.put, List.setIfInBounds_toArray, List.set_cons_zero, List.set_cons_succ]
    refine wpAnyH_take (i := 41) (oi := ?oz118) (v := ?vz118) ?iz118 (by kernel_rfl) (by kernel_rfl) (by kernel_rfl) ?qz118 (Or.inl ⟨?gz118, ?hz118⟩) (by assumption) ?rz118
    case iz118 => (simp only [List.getElem?_toArray, List.getElem?_cons_zero, List.getElem?_cons_succ]; rfl)
    case qz118 => exact fun _ _ _ h => h
    case gz118 => rfl
    case hz118 => (intro w hSw; (simp only [Holds] at hSw); go_simp <;> with_reducible rfl)
    simp only [Act.put, List.setIfInBounds_toArray, List.set_cons_zero, List.set_cons_succ]
    refine wpAnyH_done (by kernel_rfl) ?_ _
    go_wp2
    go_ret
    exact ⟨rfl, HB0.out.trans (Bc.out.mono HB0.out.size)⟩

set_option maxRecDepth 100000 in
theorem lifted (os : Os) (started : os.Started) (H : Type) (enc : TypeId × Value → H) :
    ReturnsInHanded {} Try.checked os 4 .any (Rows.planeWaysSpec.pre6 enc Try.prog Try.f4 Rows.planeWaysRow.domain false) (Rows.planeWaysSpec.post enc Try.prog Try.f4 false true false false) := by
  refine returnsInHanded_of_change (C := Try.checked) own started (by kernel_rfl) Try.func4
    (ChangeSpec.witness6 (enc := enc) (C := Try.checked) false ⟨#[], #[.agg #[.int .i64 0, .int .i64 0, .int .i64 0, .int .i64 0, .int .i64 0, .int .i64 0], .agg #[.int .i64 0, .int .i64 0, .int .i64 0, .int .i64 0, .int .i64 0, .int .i64 0], .agg #[.int .i64 0, .int .i64 0, .int .i64 0, .int .i64 0, .int .i64 0, .int .i64 0]], []⟩ 8 (by kernel_rfl) (by kernel_rfl) (by kernel_rfl) (by kernel_rfl)) ?_
  intro W base args ds gs before hval0 hW hcnd _
  have hval : ∀ (j : Nat) t v, Try.f4.params[j]? = some t → args[j]? = some v → Value.okWide Try.prog W .any base t v := hval0
  have hW' := hW
  obtain ⟨p, q, hA0, hV, rfl, hfz, hnd⟩ := hW
  have hA : DataW.TrodAll enc Try.prog W 0 (fun _ => true) true Try.f4.params.toList args.toList ds p := hA0
  rw [Try.params4] at hA hval
  obtain ⟨v0, vs0, d0, ds0, p0, q0, hargs, rfl, rfl, h0, r0⟩ := trodAll_cons hA
  obtain ⟨v1, vs1, d1, ds1, p1, q1, rfl, rfl, rfl, h1, r1⟩ := trodAll_cons r0
  obtain ⟨v2, vs2, d2, ds2, p2, q2, rfl, rfl, rfl, h2, r2⟩ := trodAll_cons r1
  obtain ⟨rfl, rfl, rfl⟩ := trodAll_nil r2
  obtain rfl : args = #[v0, v1, v2] := by cases args; simp_all
  obtain ⟨rfl, rfl⟩ := trodVars_none hV
  have k0 := h0
  have lt0 : ∀ x ∈ p0, x.block < W.heap.size := by obtain ⟨m, hm⟩ := k0; exact DataW.trod_lt m _ _ _ hm
  have k1 := h1
  have lt1 : ∀ x ∈ p1, x.block < W.heap.size := by obtain ⟨m, hm⟩ := k1; exact DataW.trod_lt m _ _ _ hm
  have k2 := h2
  have lt2 : ∀ x ∈ p2, x.block < W.heap.size := by obtain ⟨m, hm⟩ := k2; exact DataW.trod_lt m _ _ _ hm
  obtain ⟨s0, rfl, _⟩ := open_stop (hval 0 23 v0 rfl rfl) h0
  obtain ⟨s1, rfl, _⟩ := open_stop (hval 1 23 v1 rfl rfl) h1
  obtain ⟨s2, rfl, _⟩ := open_stop (hval 2 23 v2 rfl rfl) h2
  clear hA0 hval0
  refine (walk s0 s1 s2 W ).mono fun e W' ⟨he, bel⟩ => ?_
  subst he
  exact ⟨_, rfl, _, _, _, [], _, [], hW', trodAll_mk1 (shut_bool Try.underlying4 _), (trodAll_cons_mk (Below.trod laidOut (by kernel_rfl) (of_decide_eq_true (by kernel_rfl)) k0 bel lt0) (trodAll_cons_mk (Below.trod laidOut (by kernel_rfl) (of_decide_eq_true (by kernel_rfl)) k1 bel lt1) (trodAll_cons_mk (Below.trod laidOut (by kernel_rfl) (of_decide_eq_true (by kernel_rfl)) k2 bel lt2) trodAll_mk0))), rfl, bel.frame _, fun h => by cases h⟩

theorem over : Rows.planeWaysRow.holds Try.pinned (OpenSpec.ofChange Rows.planeWaysSpec) :=
  OpenClaim.holds_of_wide 4 Try.f4 rfl rfl rfl rfl rfl rfl rfl ⟨rfl, rfl, rfl, rfl, rfl⟩ rfl rfl rfl rfl rfl (by kernel_rfl) Try.func4 (by kernel_rfl)
    (of_decide_eq_true (by kernel_rfl)) (by unfold Func.isWrapper; first | (rw [if_pos (by decide +kernel)]; kernel_rfl) | (rw [if_neg (by decide +kernel)]; exact ⟨rfl, rfl⟩))
    (fun os started H enc _ => lifted os started H enc)

theorem proved : Rows.PlaneWaysSaid := over
#print axioms proved
end Go.Proofs.Ytiohnjgfpjbjmaa.planeWays
