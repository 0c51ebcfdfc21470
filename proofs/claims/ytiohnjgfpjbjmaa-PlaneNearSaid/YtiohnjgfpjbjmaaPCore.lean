/- What coord, place, Far and the document's bound and Far answer. -/
import Derived.Test.YtiohnjgfpjbjmaaIRMay
import Derived.Test.YtiohnjgfpjbjmaaIOwn
import Derived.Test.YtiohnjgfpjbjmaaNRoot
import Derived.Test.YtiohnjgfpjbjmaaPFloat
import Derived.Test.YtiohnjgfpjbjmaaPMath
import Derived.WalkLawsBesides
namespace Go.Proofs.Ytiohnjgfpjbjmaa
open Go.ChangeShapes Go.WideShapes Go.ChangeAt Go.RowKit

theorem ret_float {a b : Int} (h : a = b) : Ending.returned (.float .f64 (floatOfInt .f64 a)) = .returned (.float .f64 (floatOfInt .f64 b)) := by rw [h]
theorem coord_any (n : Int) (w : World) : Calls Try.prog 34 #[.int .i64 n] w fun e w' => e = .returned (.float .f64 (floatOfInt .f64 (cl n))) ∧ w' = w := by
  go_enter Try.func34, Try.ntmps34
  go_wp2
  all_goals
    go_ret
    refine ⟨ret_float ?_, rfl⟩
    unfold cl
    (try split at *) <;> omega
theorem bound_any (n : Int) (w : World) : Calls Try.prog 24 #[.int .i64 n] w fun e w' => e = .returned (.int .i64 (cl n)) ∧ w' = w := by
  have key : (decide (n < 0) = true ∧ cl n = 0) ∨ (decide (n < 0) = false ∧ decide (10000 < n) = true ∧ cl n = 10000) ∨ (decide (n < 0) = false ∧ decide (10000 < n) = false ∧ cl n = n) := by
    unfold cl
    simp only [decide_eq_true_eq, decide_eq_false_iff_not]; omega
  rcases key with ⟨d1, d3⟩ | ⟨d1, d2, d3⟩ | ⟨d1, d2, d3⟩
  all_goals
    rw [d3]
    clear d3
    go_enter Try.func24, Try.ntmps24
    go_wp2
    go_ret
    exact ⟨rfl, rfl⟩
/-- A stop in its box. -/
def boxS (t : Stp) : Obj := .cells #[.int .i64 t.x, .int .i64 t.y, .int .i64 t.d, .int .i64 t.r, .int .i64 t.u, .int .i64 t.s] 23
def cellsP (N : Nat) (t : Stp) : List (Addr × Value) := [(⟨N, 0, none⟩, .int .i64 t.x), (⟨N, 1, none⟩, .int .i64 t.y), (⟨N, 2, none⟩, .int .i64 t.d), (⟨N, 3, none⟩, .int .i64 t.r), (⟨N, 4, none⟩, .int .i64 t.u), (⟨N, 5, none⟩, .int .i64 t.s)]
theorem holds_boxS (w : World) (t : Stp) : Holds (cellsP w.heap.size t) (w.alloc (boxS t)) := by
  have h : ∀ i, (w.alloc (boxS t)).cell? ⟨w.heap.size, i, none⟩ = (rowV t)[i]? := fun i => by
    unfold boxS; rw [cell_of_row _ _ _ _ _ _ (heap_alloc_new w _)]; simp [rowV]
  exact ⟨h 0, h 1, h 2, h 3, h 4, h 5, trivial⟩
theorem lows_P {M N : Nat} {t : Stp} (h : N < M) : Lows M (cellsP N t) := ⟨h, h, h, h, h, h, trivial⟩
set_option maxRecDepth 1000000 in
set_option maxHeartbeats 1000000 in
theorem place_any (t : Stp) (w : World) : Calls Try.prog 22 #[stopV t] w fun e w' => e = .returned (.complex .f64 (floatOfInt .f64 (cl t.x)) (floatOfInt .f64 (cl t.y))) ∧ Below w.heap.size w w' := by
  unfold stopV
  go_enter Try.func22, Try.ntmps22
  go_wp2_with fail
  change Code.wp _ _ _ _ (w.alloc (boxS t))
  have HS0 := Lib.hid (show Holds (cellsP w.heap.size t) (w.alloc (boxS t)).drew from holds_boxS w t)
  have hlt := Lib.hid (show Lows (w.alloc (boxS t)).drew.heap.size (cellsP w.heap.size t) from lows_P (by simp [World.drew]))
  have HB1 := Lib.hid (((Below.refl _ w).alloc (Nat.le_refl _) (boxS t)).drew)
  generalize w.alloc (boxS t) = W at *
  have hNW : w.heap.size ≤ W.drew.heap.size := HB1.out.size
  refine wp_region_held_drew (S := Holds (cellsP w.heap.size t)) (by kernel_rfl) HS0.out (fun hSn => ?_)
  have Bc := Lib.hid (Below.refl W.drew.heap.size W.drew)
  unfold cellsP at *
  refine wpAnyH_take (i := 0) (oi := ?oz1) (v := ?vz1) ?iz1 (by kernel_rfl) (by kernel_rfl) (by kernel_rfl) ?qz1 (Or.inl ⟨?gz1, ?hz1⟩) (by assumption) ?rz1
  case iz1 => (simp only [List.getElem?_toArray, List.getElem?_cons_zero]; rfl)
  case qz1 => exact fun _ _ _ h => h
  case gz1 => rfl
  case hz1 => (intro w hSw; (simp only [Holds] at hSw); go_simp <;> with_reducible rfl)
  simp only [Act.put, List.setIfInBounds_toArray, List.set_cons_zero, List.set_cons_succ]
  refine wpAnyH_take (i := 1) (oi := ?oz2) (v := ?vz2) ?iz2 (by kernel_rfl) (by kernel_rfl) (by kernel_rfl) ?qz2 (Or.inl ⟨?gz2, ?hz2⟩) (by assumption) ?rz2
  case iz2 => (simp only [List.getElem?_toArray, List.getElem?_cons_zero, List.getElem?_cons_succ]; rfl)
  case qz2 => exact fun _ _ _ h => h
  case gz2 => rfl
  case hz2 => (intro w hSw; (simp only [Holds] at hSw); go_simp <;> with_reducible rfl)
  simp only [Act.put, List.setIfInBounds_toArray, List.set_cons_zero, List.set_cons_succ]
  refine wpAnyH_take (i := 3) (oi := ?oz3) (v := ?vz3) ?iz3 (by kernel_rfl) (by kernel_rfl) (by kernel_rfl) ?qz3 (Or.inl ⟨?gz3, ?hz3⟩) (by assumption) ?rz3
  case iz3 => (simp only [List.getElem?_toArray, List.getElem?_cons_zero, List.getElem?_cons_succ]; rfl)
  case qz3 => exact fun _ _ _ h => h
  case gz3 => rfl
  case hz3 => (intro w hSw; (simp only [Holds] at hSw); go_simp <;> with_reducible rfl)
  simp only [Act.put, List.setIfInBounds_toArray, List.set_cons_zero, List.set_cons_succ]
  refine wpAnyH_take (i := 4) (oi := ?oz4) (v := ?vz4) ?iz4 (by kernel_rfl) (by kernel_rfl) (by kernel_rfl) ?qz4 (Or.inl ⟨?gz4, ?hz4⟩) (by assumption) ?rz4
  case iz4 => (simp only [List.getElem?_toArray, List.getElem?_cons_zero, List.getElem?_cons_succ]; rfl)
  case qz4 => exact fun _ _ _ h => h
  case gz4 => rfl
  case hz4 => (intro w hSw; (simp only [Holds] at hSw); go_simp <;> with_reducible rfl)
  simp only [Act.put, List.setIfInBounds_toArray, List.set_cons_zero, List.set_cons_succ]
  refine wpAnyH_ready (rs := [2]) (by kernel_rfl) (by simp) ?_
  refine AllReadyH.cons (o := ?oz5) ?iz5 (fun K hK => ?kz5) AllReadyH.nil
  case iz5 => (simp only [List.getElem?_toArray, List.getElem?_cons_zero, List.getElem?_cons_succ]; rfl)
  go_simp
  refine (coord_any _ _).mono ?_
  rintro e w' ⟨rfl, rfl⟩
  refine held_more hK HS0.out hlt Bc.out (fun Bc hSn => ?_)
  refine wpAnyH_ready (rs := [5]) (by kernel_rfl) (by simp) ?_
  refine AllReadyH.cons (o := ?oz6) ?iz6 (fun K hK => ?kz6) AllReadyH.nil
  case iz6 => (simp only [List.getElem?_toArray, List.getElem?_cons_zero, List.getElem?_cons_succ]; rfl)
  go_simp
  refine (coord_any _ _).mono ?_
  rintro e w' ⟨rfl, rfl⟩
  refine held_more hK HS0.out hlt Bc.out (fun Bc hSn => ?_)
  refine wpAnyH_take (i := 6) (oi := ?oz7) (v := ?vz7) ?iz7 (by kernel_rfl) (by kernel_rfl) (by kernel_rfl) ?qz7 (Or.inl ⟨?gz7, ?hz7⟩) (by assumption) ?rz7
  case iz7 => (simp only [List.getElem?_toArray, List.getElem?_cons_zero, List.getElem?_cons_succ]; rfl)
  case qz7 => exact fun _ _ _ h => h
  case gz7 => rfl
  case hz7 => (intro w hSw; (simp only [Holds] at hSw); go_simp <;> with_reducible rfl)
  simp only [Act.put, List.setIfInBounds_toArray, List.set_cons_zero, List.set_cons_succ]
  refine wpAnyH_take (i := 7) (oi := ?oz8) (v := ?vz8) ?iz8 (by kernel_rfl) (by kernel_rfl) (by kernel_rfl) ?qz8 (Or.inl ⟨?gz8, ?hz8⟩) (by assumption) ?rz8
  case iz8 => (simp only [List.getElem?_toArray, List.getElem?_cons_zero, List.getElem?_cons_succ]; rfl)
  case qz8 => exact fun _ _ _ h => h
  case gz8 => rfl
  case hz8 => (intro w hSw; (simp only [Holds] at hSw); go_simp <;> with_reducible rfl)
  simp only [Act.put, List.setIfInBounds_toArray, List.set_cons_zero, List.set_cons_succ]
  refine wpAnyH_done (by kernel_rfl) ?_ _
  go_wp2
  go_ret
  exact ⟨rfl, HB1.out.trans (Bc.out.mono hNW)⟩
set_option maxRecDepth 1000000 in
set_option maxHeartbeats 1000000 in
theorem far_any (a b : Stp) (w : World) : Calls Try.prog 15 #[stopV a, stopV b] w fun e w' => e = .returned (.int .i64 (farF a b)) ∧ Below w.heap.size w w' := by
  have hax := cl_bd a.x
  have hay := cl_bd a.y
  have hbx := cl_bd b.x
  have hby := cl_bd b.y
  have hsub : ∀ w, (binOp .sub 43 (.complex .f64 (floatOfInt .f64 (cl b.x)) (floatOfInt .f64 (cl b.y))) (.complex .f64 (floatOfInt .f64 (cl a.x)) (floatOfInt .f64 (cl a.y)))).run Try.prog w = .ok (.complex .f64 (floatOfInt .f64 (cl b.x - cl a.x)) (floatOfInt .f64 (cl b.y - cl a.y))) w :=
    fun w => run_complex_sum w .sub (.inr rfl) _ _ _ _ _ _ _ _ (sub_places _ _ _ _ hbx hby hax hay)
  have hF := Lib.hid (show farF a b = farD (cl b.x - cl a.x) (cl b.y - cl a.y) from rfl)
  have d1 : -10000 ≤ cl b.x - cl a.x ∧ cl b.x - cl a.x ≤ 10000 := by omega
  have d2 : -10000 ≤ cl b.y - cl a.y ∧ cl b.y - cl a.y ≤ 10000 := by omega
  unfold stopV
  go_enter Try.func15, Try.ntmps15
  go_wp2_with fail
  change Code.wp _ _ _ _ ((w.alloc (boxS a)).alloc (boxS b))
  have HB1 := Lib.hid ((((Below.refl _ w).alloc (Nat.le_refl _) (boxS a)).alloc (by simp) (boxS b)).drew)
  have HS0 := Lib.hid (show Holds (cellsP w.heap.size a ++ cellsP (w.heap.size + 1) b) ((w.alloc (boxS a)).alloc (boxS b)).drew from Holds.app.2
    ⟨Holds.below (M := (w.alloc (boxS a)).heap.size) ((Below.refl _ (w.alloc (boxS a))).alloc (Nat.le_refl _) (boxS b)) (holds_boxS w a) (lows_P (by simp)), by have := holds_boxS (w.alloc (boxS a)) b; rw [show (w.alloc (boxS a)).heap.size = w.heap.size + 1 by simp] at this; exact this⟩)
  have hlt := Lib.hid (show Lows ((w.alloc (boxS a)).alloc (boxS b)).drew.heap.size (cellsP w.heap.size a ++ cellsP (w.heap.size + 1) b) from Lows.app (lows_P (by simp [World.drew]; omega)) (lows_P (by simp [World.drew])))
  generalize (w.alloc (boxS a)).alloc (boxS b) = W at *
  have hNW : w.heap.size ≤ W.drew.heap.size := HB1.out.size
  refine wp_region_held_drew (S := Holds (cellsP w.heap.size a ++ cellsP (w.heap.size + 1) b)) (by kernel_rfl) HS0.out (fun hSn => ?_)
  have Bc := Lib.hid (Below.refl W.drew.heap.size W.drew)
  simp only [cellsP, List.cons_append, List.nil_append] at *
  refine wpAnyH_take (i := 0) (oi := ?oz9) (v := ?vz9) ?iz9 (by kernel_rfl) (by kernel_rfl) (by kernel_rfl) ?qz9 (Or.inl ⟨?gz9, ?hz9⟩) (by assumption) ?rz9
  case iz9 => (simp only [List.getElem?_toArray, List.getElem?_cons_zero]; rfl)
  case qz9 => exact fun _ _ _ h => h
  case gz9 => rfl
  case hz9 => (intro w hSw; (simp only [Holds] at hSw); go_simp <;> with_reducible rfl)
  simp only [Act.put, List.setIfInBounds_toArray, List.set_cons_zero, List.set_cons_succ]
  refine wpAnyH_take (i := 2) (oi := ?oz10) (v := ?vz10) ?iz10 (by kernel_rfl) (by kernel_rfl) (by kernel_rfl) ?qz10 (Or.inl ⟨?gz10, ?hz10⟩) (by assumption) ?rz10
  case iz10 => (simp only [List.getElem?_toArray, List.getElem?_cons_zero, List.getElem?_cons_succ]; rfl)
  case qz10 => exact fun _ _ _ h => h
  case gz10 => rfl
  case hz10 => (intro w hSw; (simp only [Holds] at hSw); go_simp <;> with_reducible rfl)
  simp only [Act.put, List.setIfInBounds_toArray, List.set_cons_zero, List.set_cons_succ]
  refine wpAnyH_ready (rs := [1]) (by kernel_rfl) (by simp) ?_
  refine AllReadyH.cons (o := ?oz11) ?iz11 (fun K hK => ?kz11) AllReadyH.nil
  case iz11 => (simp only [List.getElem?_toArray, List.getElem?_cons_zero, List.getElem?_cons_succ]; rfl)
  go_simp
  change Calls _ _ #[stopV b] _ _
  refine (place_any b _).mono ?_
  rintro e w' ⟨rfl, hb⟩
  refine held_more hK HS0.out hlt (Bc.out.trans (hb.mono Bc.out.size)) (fun Bc hSn => ?_)
  clear hb hK
  refine wpAnyH_ready (rs := [3]) (by kernel_rfl) (by simp) ?_
  refine AllReadyH.cons (o := ?oz12) ?iz12 (fun K hK => ?kz12) AllReadyH.nil
  case iz12 => (simp only [List.getElem?_toArray, List.getElem?_cons_zero, List.getElem?_cons_succ]; rfl)
  go_simp
  change Calls _ _ #[stopV a] _ _
  refine (place_any a _).mono ?_
  rintro e w' ⟨rfl, hb⟩
  refine held_more hK HS0.out hlt (Bc.out.trans (hb.mono Bc.out.size)) (fun Bc hSn => ?_)
  clear hb hK
  refine wpAnyH_take (i := 4) (oi := ?oz13) (v := ?vz13) ?iz13 (by kernel_rfl) (by kernel_rfl) (by kernel_rfl) ?qz13 (Or.inl ⟨?gz13, ?hz13⟩) (by assumption) ?rz13
  case iz13 => (simp only [List.getElem?_toArray, List.getElem?_cons_zero, List.getElem?_cons_succ]; rfl)
  case qz13 => exact fun _ _ _ h => h
  case gz13 => rfl
  case hz13 => (intro w hSw; (simp only [Holds] at hSw); go_simp <;> with_reducible rfl)
  simp only [Act.put, List.setIfInBounds_toArray, List.set_cons_zero, List.set_cons_succ]
  refine wpAnyH_take (i := 5) (oi := ?oz14) (v := ?vz14) ?iz14 (by kernel_rfl) (by kernel_rfl) (by kernel_rfl) ?qz14 (Or.inl ⟨?gz14, ?hz14⟩) (by assumption) ?rz14
  case iz14 => (simp only [List.getElem?_toArray, List.getElem?_cons_zero, List.getElem?_cons_succ]; rfl)
  case qz14 => exact fun _ _ _ h => h
  case gz14 => rfl
  case hz14 => (intro w hSw; (simp only [Holds] at hSw); go_simp <;> with_reducible rfl)
  simp only [Act.put, List.setIfInBounds_toArray, List.set_cons_zero, List.set_cons_succ]
  refine wpAnyH_done (by kernel_rfl) ?_ _
  clear hsub hax hay hbx hby
  generalize cl b.x - cl a.x = dx at *
  generalize cl b.y - cl a.y = dy at *
  have hcx : ∀ w, (convert 45 3 (.float .f64 (floatOfInt .f64 dx))).run Try.prog w = .ok (.int .i64 dx) w := fun w => run_convert_float_int w _ _ _ _ _ _ (by rw [Try.underlying45]; rfl) Try.underlying3 (back_float _ (by omega))
  have hcy : ∀ w, (convert 45 3 (.float .f64 (floatOfInt .f64 dy))).run Try.prog w = .ok (.int .i64 dy) w := fun w => run_convert_float_int w _ _ _ _ _ _ (by rw [Try.underlying45]; rfl) Try.underlying3 (back_float _ (by omega))
  obtain ⟨s1, s2⟩ := sq_bd dx d1.1 d1.2
  obtain ⟨s3, s4⟩ := sq_bd dy d2.1 d2.2
  have s5 : dx * dx + dy * dy ≤ 200000000 := by omega
  have s6 : 0 ≤ dx * dx + dy * dy := by omega
  go_wp2_with fail
  refine (root_any _ _ (by omega)).mono ?_
  rintro e w' ⟨rfl, rfl⟩
  go_wp2
  go_ret
  exact ⟨ret_int hF.out.symm, HB1.out.trans (Bc.out.mono hNW)⟩
set_option maxRecDepth 1000000 in
set_option maxHeartbeats 1000000 in
theorem rfar_any (a b : Stp) (w : World) : Calls Try.prog 16 #[stopV a, stopV b] w fun e w' => e = .returned (.int .i64 (farF a b)) ∧ Below w.heap.size w w' := by
  have hax := cl_bd a.x
  have hay := cl_bd a.y
  have hbx := cl_bd b.x
  have hby := cl_bd b.y
  have hF := Lib.hid (show farF a b = rootOf ((cl a.x - cl b.x) * (cl a.x - cl b.x) + (cl a.y - cl b.y) * (cl a.y - cl b.y)) from farF_comm a b)
  have d1 : -10000 ≤ cl a.x - cl b.x ∧ cl a.x - cl b.x ≤ 10000 := by omega
  have d2 : -10000 ≤ cl a.y - cl b.y ∧ cl a.y - cl b.y ≤ 10000 := by omega
  have w1 : IntKind.i64.wrap (cl a.x - cl b.x) = cl a.x - cl b.x := IntWalk.i64_in _ (by omega)
  have w2 : IntKind.i64.wrap (cl a.y - cl b.y) = cl a.y - cl b.y := IntWalk.i64_in _ (by omega)
  obtain ⟨s1, s2⟩ := sq_bd (cl a.x - cl b.x) d1.1 d1.2
  obtain ⟨s3, s4⟩ := sq_bd (cl a.y - cl b.y) d2.1 d2.2
  unfold stopV
  go_enter Try.func16, Try.ntmps16
  go_wp2_with fail
  change Code.wp _ _ _ _ ((w.alloc (boxS a)).alloc (boxS b))
  have HB1 := Lib.hid ((((Below.refl _ w).alloc (Nat.le_refl _) (boxS a)).alloc (by simp) (boxS b)).drew)
  have HS0 := Lib.hid (show Holds (cellsP w.heap.size a ++ cellsP (w.heap.size + 1) b) ((w.alloc (boxS a)).alloc (boxS b)).drew from Holds.app.2
    ⟨Holds.below (M := (w.alloc (boxS a)).heap.size) ((Below.refl _ (w.alloc (boxS a))).alloc (Nat.le_refl _) (boxS b)) (holds_boxS w a) (lows_P (by simp)), by have := holds_boxS (w.alloc (boxS a)) b; rw [show (w.alloc (boxS a)).heap.size = w.heap.size + 1 by simp] at this; exact this⟩)
  have hlt := Lib.hid (show Lows ((w.alloc (boxS a)).alloc (boxS b)).drew.heap.size (cellsP w.heap.size a ++ cellsP (w.heap.size + 1) b) from Lows.app (lows_P (by simp [World.drew]; omega)) (lows_P (by simp [World.drew])))
  generalize (w.alloc (boxS a)).alloc (boxS b) = W at *
  have hNW : w.heap.size ≤ W.drew.heap.size := HB1.out.size
  refine wp_region_held_drew (S := Holds (cellsP w.heap.size a ++ cellsP (w.heap.size + 1) b)) (by kernel_rfl) HS0.out (fun hSn => ?_)
  have Bc := Lib.hid (Below.refl W.drew.heap.size W.drew)
  simp only [cellsP, List.cons_append, List.nil_append] at *
  refine wpAnyH_take (i := 0) (oi := ?oz15) (v := ?vz15) ?iz15 (by kernel_rfl) (by kernel_rfl) (by kernel_rfl) ?qz15 (Or.inl ⟨?gz15, ?hz15⟩) (by assumption) ?rz15
  case iz15 => (simp only [List.getElem?_toArray, List.getElem?_cons_zero]; rfl)
  case qz15 => exact fun _ _ _ h => h
  case gz15 => rfl
  case hz15 => (intro w hSw; (simp only [Holds] at hSw); go_simp <;> with_reducible rfl)
  simp only [Act.put, List.setIfInBounds_toArray, List.set_cons_zero, List.set_cons_succ]
  refine wpAnyH_take (i := 1) (oi := ?oz16) (v := ?vz16) ?iz16 (by kernel_rfl) (by kernel_rfl) (by kernel_rfl) ?qz16 (Or.inl ⟨?gz16, ?hz16⟩) (by assumption) ?rz16
  case iz16 => (simp only [List.getElem?_toArray, List.getElem?_cons_zero, List.getElem?_cons_succ]; rfl)
  case qz16 => exact fun _ _ _ h => h
  case gz16 => rfl
  case hz16 => (intro w hSw; (simp only [Holds] at hSw); go_simp <;> with_reducible rfl)
  simp only [Act.put, List.setIfInBounds_toArray, List.set_cons_zero, List.set_cons_succ]
  refine wpAnyH_take (i := 3) (oi := ?oz17) (v := ?vz17) ?iz17 (by kernel_rfl) (by kernel_rfl) (by kernel_rfl) ?qz17 (Or.inl ⟨?gz17, ?hz17⟩) (by assumption) ?rz17
  case iz17 => (simp only [List.getElem?_toArray, List.getElem?_cons_zero, List.getElem?_cons_succ]; rfl)
  case qz17 => exact fun _ _ _ h => h
  case gz17 => rfl
  case hz17 => (intro w hSw; (simp only [Holds] at hSw); go_simp <;> with_reducible rfl)
  simp only [Act.put, List.setIfInBounds_toArray, List.set_cons_zero, List.set_cons_succ]
  refine wpAnyH_take (i := 4) (oi := ?oz18) (v := ?vz18) ?iz18 (by kernel_rfl) (by kernel_rfl) (by kernel_rfl) ?qz18 (Or.inl ⟨?gz18, ?hz18⟩) (by assumption) ?rz18
  case iz18 => (simp only [List.getElem?_toArray, List.getElem?_cons_zero, List.getElem?_cons_succ]; rfl)
  case qz18 => exact fun _ _ _ h => h
  case gz18 => rfl
  case hz18 => (intro w hSw; (simp only [Holds] at hSw); go_simp <;> with_reducible rfl)
  simp only [Act.put, List.setIfInBounds_toArray, List.set_cons_zero, List.set_cons_succ]
  refine wpAnyH_ready (rs := [2]) (by kernel_rfl) (by simp) ?_
  refine AllReadyH.cons (o := ?oz19) ?iz19 (fun K hK => ?kz19) AllReadyH.nil
  case iz19 => (simp only [List.getElem?_toArray, List.getElem?_cons_zero, List.getElem?_cons_succ]; rfl)
  go_simp
  refine (bound_any _ _).mono ?_
  rintro e w' ⟨rfl, rfl⟩
  refine held_more hK HS0.out hlt Bc.out (fun Bc hSn => ?_)
  refine wpAnyH_ready (rs := [5]) (by kernel_rfl) (by simp) ?_
  refine AllReadyH.cons (o := ?oz20) ?iz20 (fun K hK => ?kz20) AllReadyH.nil
  case iz20 => (simp only [List.getElem?_toArray, List.getElem?_cons_zero, List.getElem?_cons_succ]; rfl)
  go_simp
  refine (bound_any _ _).mono ?_
  rintro e w' ⟨rfl, rfl⟩
  refine held_more hK HS0.out hlt Bc.out (fun Bc hSn => ?_)
  clear hK
  refine wpAnyH_take (i := 6) (oi := ?oz21) (v := ?vz21) ?iz21 (by kernel_rfl) (by kernel_rfl) (by kernel_rfl) ?qz21 (Or.inl ⟨?gz21, ?hz21⟩) (by assumption) ?rz21
  case iz21 => (simp only [List.getElem?_toArray, List.getElem?_cons_zero, List.getElem?_cons_succ]; rfl)
  case qz21 => exact fun _ _ _ h => h
  case gz21 => rfl
  case hz21 => (intro w hSw; (simp only [Holds] at hSw); go_simp <;> with_reducible rfl)
  simp only [Act.put, List.setIfInBounds_toArray, List.set_cons_zero, List.set_cons_succ]
  refine wpAnyH_take (i := 7) (oi := ?oz22) (v := ?vz22) ?iz22 (by kernel_rfl) (by kernel_rfl) (by kernel_rfl) ?qz22 (Or.inl ⟨?gz22, ?hz22⟩) (by assumption) ?rz22
  case iz22 => (simp only [List.getElem?_toArray, List.getElem?_cons_zero, List.getElem?_cons_succ]; rfl)
  case qz22 => exact fun _ _ _ h => h
  case gz22 => rfl
  case hz22 => (intro w hSw; (simp only [Holds] at hSw); go_simp <;> with_reducible rfl)
  simp only [Act.put, List.setIfInBounds_toArray, List.set_cons_zero, List.set_cons_succ]
  refine wpAnyH_done (by kernel_rfl) ?_ _
  go_wp2_with fail
  have Bd := Lib.hid Bc.out.drew
  clear hSn Bc
  refine wp_region_held_drew (S := Holds [(⟨w.heap.size, 0, none⟩, .int .i64 a.x), (⟨w.heap.size, 1, none⟩, .int .i64 a.y), (⟨w.heap.size, 2, none⟩, .int .i64 a.d), (⟨w.heap.size, 3, none⟩, .int .i64 a.r), (⟨w.heap.size, 4, none⟩, .int .i64 a.u), (⟨w.heap.size, 5, none⟩, .int .i64 a.s),
    (⟨w.heap.size + 1, 0, none⟩, .int .i64 b.x), (⟨w.heap.size + 1, 1, none⟩, .int .i64 b.y), (⟨w.heap.size + 1, 2, none⟩, .int .i64 b.d), (⟨w.heap.size + 1, 3, none⟩, .int .i64 b.r), (⟨w.heap.size + 1, 4, none⟩, .int .i64 b.u), (⟨w.heap.size + 1, 5, none⟩, .int .i64 b.s)]) (by kernel_rfl) (Holds.below Bd.out HS0.out hlt.out) (fun hSn => ?_)
  have Bc := Bd
  clear Bd
  refine wpAnyH_take (i := 0) (oi := ?oz23) (v := ?vz23) ?iz23 (by kernel_rfl) (by kernel_rfl) (by kernel_rfl) ?qz23 (Or.inl ⟨?gz23, ?hz23⟩) (by assumption) ?rz23
  case iz23 => (simp only [List.getElem?_toArray, List.getElem?_cons_zero]; rfl)
  case qz23 => exact fun _ _ _ h => h
  case gz23 => rfl
  case hz23 => (intro w hSw; (simp only [Holds] at hSw); go_simp <;> with_reducible rfl)
  simp only [Act.put, List.setIfInBounds_toArray, List.set_cons_zero, List.set_cons_succ]
  refine wpAnyH_take (i := 1) (oi := ?oz24) (v := ?vz24) ?iz24 (by kernel_rfl) (by kernel_rfl) (by kernel_rfl) ?qz24 (Or.inl ⟨?gz24, ?hz24⟩) (by assumption) ?rz24
  case iz24 => (simp only [List.getElem?_toArray, List.getElem?_cons_zero, List.getElem?_cons_succ]; rfl)
  case qz24 => exact fun _ _ _ h => h
  case gz24 => rfl
  case hz24 => (intro w hSw; (simp only [Holds] at hSw); go_simp <;> with_reducible rfl)
  simp only [Act.put, List.setIfInBounds_toArray, List.set_cons_zero, List.set_cons_succ]
  refine wpAnyH_take (i := 3) (oi := ?oz25) (v := ?vz25) ?iz25 (by kernel_rfl) (by kernel_rfl) (by kernel_rfl) ?qz25 (Or.inl ⟨?gz25, ?hz25⟩) (by assumption) ?rz25
  case iz25 => (simp only [List.getElem?_toArray, List.getElem?_cons_zero, List.getElem?_cons_succ]; rfl)
  case qz25 => exact fun _ _ _ h => h
  case gz25 => rfl
  case hz25 => (intro w hSw; (simp only [Holds] at hSw); go_simp <;> with_reducible rfl)
  simp only [Act.put, List.setIfInBounds_toArray, List.set_cons_zero, List.set_cons_succ]
  refine wpAnyH_take (i := 4) (oi := ?oz26) (v := ?vz26) ?iz26 (by kernel_rfl) (by kernel_rfl) (by kernel_rfl) ?qz26 (Or.inl ⟨?gz26, ?hz26⟩) (by assumption) ?rz26
  case iz26 => (simp only [List.getElem?_toArray, List.getElem?_cons_zero, List.getElem?_cons_succ]; rfl)
  case qz26 => exact fun _ _ _ h => h
  case gz26 => rfl
  case hz26 => (intro w hSw; (simp only [Holds] at hSw); go_simp <;> with_reducible rfl)
  simp only [Act.put, List.setIfInBounds_toArray, List.set_cons_zero, List.set_cons_succ]
  refine wpAnyH_ready (rs := [2]) (by kernel_rfl) (by simp) ?_
  refine AllReadyH.cons (o := ?oz27) ?iz27 (fun K hK => ?kz27) AllReadyH.nil
  case iz27 => (simp only [List.getElem?_toArray, List.getElem?_cons_zero, List.getElem?_cons_succ]; rfl)
  go_simp
  refine (bound_any _ _).mono ?_
  rintro e w' ⟨rfl, rfl⟩
  refine held_more hK HS0.out hlt Bc.out (fun Bc hSn => ?_)
  refine wpAnyH_ready (rs := [5]) (by kernel_rfl) (by simp) ?_
  refine AllReadyH.cons (o := ?oz28) ?iz28 (fun K hK => ?kz28) AllReadyH.nil
  case iz28 => (simp only [List.getElem?_toArray, List.getElem?_cons_zero, List.getElem?_cons_succ]; rfl)
  go_simp
  refine (bound_any _ _).mono ?_
  rintro e w' ⟨rfl, rfl⟩
  refine held_more hK HS0.out hlt Bc.out (fun Bc hSn => ?_)
  clear hK
  refine wpAnyH_take (i := 6) (oi := ?oz29) (v := ?vz29) ?iz29 (by kernel_rfl) (by kernel_rfl) (by kernel_rfl) ?qz29 (Or.inl ⟨?gz29, ?hz29⟩) (by assumption) ?rz29
  case iz29 => (simp only [List.getElem?_toArray, List.getElem?_cons_zero, List.getElem?_cons_succ]; rfl)
  case qz29 => exact fun _ _ _ h => h
  case gz29 => rfl
  case hz29 => (intro w hSw; (simp only [Holds] at hSw); go_simp <;> with_reducible rfl)
  simp only [Act.put, List.setIfInBounds_toArray, List.set_cons_zero, List.set_cons_succ]
  refine wpAnyH_take (i := 7) (oi := ?oz30) (v := ?vz30) ?iz30 (by kernel_rfl) (by kernel_rfl) (by kernel_rfl) ?qz30 (Or.inl ⟨?gz30, ?hz30⟩) (by assumption) ?rz30
  case iz30 => (simp only [List.getElem?_toArray, List.getElem?_cons_zero, List.getElem?_cons_succ]; rfl)
  case qz30 => exact fun _ _ _ h => h
  case gz30 => rfl
  case hz30 => (intro w hSw; (simp only [Holds] at hSw); go_simp <;> with_reducible rfl)
  simp only [Act.put, List.setIfInBounds_toArray, List.set_cons_zero, List.set_cons_succ]
  refine wpAnyH_done (by kernel_rfl) ?_ _
  clear hax hay hbx hby
  generalize cl a.x - cl b.x = dx at *
  generalize cl a.y - cl b.y = dy at *
  have s5 : dx * dx + dy * dy ≤ 200000000 := by omega
  have s6 : 0 ≤ dx * dx + dy * dy := by omega
  go_wp2_with fail
  refine (rroot_any _ _).mono ?_
  rintro e w' ⟨rfl, rfl⟩
  go_wp2
  go_ret
  exact ⟨ret_int hF.out.symm, HB1.out.trans (Bc.out.mono hNW)⟩
theorem eg1 : farF ⟨0, 0, 0, 0, 0, 0⟩ ⟨3, 4, 0, 0, 0, 0⟩ = 5 := rootOf_eq 25 5 (by decide) (by decide) ⟨by decide, by decide, by decide⟩
theorem eg2 : farF ⟨0, 0, 0, 0, 0, 0⟩ ⟨1, 1, 0, 0, 0, 0⟩ = 2 := rootOf_eq 2 2 (by decide) (by decide) ⟨by decide, by decide, by decide⟩
set_option maxRecDepth 1000000 in
theorem pawake_any (w : World) : Calls Try.prog 8 #[] w fun e w' => e = .returned (.bool true) ∧ Below w.heap.size w w' := by
  go_enter Try.func8, Try.ntmps8
  go_wp2_with fail
  change Calls _ _ #[stopV ⟨0, 0, 0, 0, 0, 0⟩, stopV ⟨3, 4, 0, 0, 0, 0⟩] _ _
  refine (far_any _ _ _).mono ?_
  rw [eg1]
  rintro e w1 ⟨rfl, hb⟩
  have HB := Lib.hid hb
  clear hb
  go_wp2_with fail
  change Calls _ _ #[stopV ⟨0, 0, 0, 0, 0, 0⟩, stopV ⟨1, 1, 0, 0, 0, 0⟩] _ _
  refine (far_any _ _ _).mono ?_
  rw [eg2]
  rintro e w2 ⟨rfl, hb⟩
  have HB2 := Lib.hid (HB.out.trans (hb.mono HB.out.size))
  clear hb
  go_wp2
  go_ret
  exact ⟨rfl, HB2.out⟩
end Go.Proofs.Ytiohnjgfpjbjmaa
