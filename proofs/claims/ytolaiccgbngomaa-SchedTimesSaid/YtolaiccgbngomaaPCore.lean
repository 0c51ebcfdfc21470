/- What coord, place, Far and the document's bound and Far answer. -/
import Derived.Test.YtolaiccgbngomaaIRMay
import Derived.Test.YtolaiccgbngomaaIOwn
import Derived.Test.YtolaiccgbngomaaNRoot
import Derived.Test.YtolaiccgbngomaaPFloat
import Derived.Test.YtolaiccgbngomaaPMath
import Derived.WalkLawsBesides
namespace Go.Proofs.Ytolaiccgbngomaa
open Go.ChangeShapes Go.WideShapes Go.ChangeAt Go.RowKit

theorem ret_float {a b : Int} (h : a = b) : Ending.returned (.float .f64 (floatOfInt .f64 a)) = .returned (.float .f64 (floatOfInt .f64 b)) := by rw [h]
theorem coord_any (n : Int) (w : World) : Calls Try.prog 47 #[.int .i64 n] w fun e w' => e = .returned (.float .f64 (floatOfInt .f64 (cl n))) ∧ w' = w := by
  go_enter Try.func47, Try.ntmps47
  go_wp2
  all_goals
    go_ret
    refine ⟨ret_float ?_, rfl⟩
    unfold cl
    (try split at *) <;> omega
theorem bound_any (n : Int) (w : World) : Calls Try.prog 45 #[.int .i64 n] w fun e w' => e = .returned (.int .i64 (cl n)) ∧ w' = w := by
  have key : (decide (n < 0) = true ∧ cl n = 0) ∨ (decide (n < 0) = false ∧ decide (10000 < n) = true ∧ cl n = 10000) ∨ (decide (n < 0) = false ∧ decide (10000 < n) = false ∧ cl n = n) := by
    unfold cl
    simp only [decide_eq_true_eq, decide_eq_false_iff_not]; omega
  rcases key with ⟨d1, d3⟩ | ⟨d1, d2, d3⟩ | ⟨d1, d2, d3⟩
  all_goals
    rw [d3]
    clear d3
    go_enter Try.func45, Try.ntmps45
    go_wp2
    go_ret
    exact ⟨rfl, rfl⟩
/-- A stop in its box. -/
def boxS (t : Stp) : Obj := .cells #[.int .i64 t.x, .int .i64 t.y, .int .i64 t.d, .int .i64 t.r, .int .i64 t.u, .int .i64 t.s] 38
def cellsP (N : Nat) (t : Stp) : List (Addr × Value) := [(⟨N, 0, none⟩, .int .i64 t.x), (⟨N, 1, none⟩, .int .i64 t.y), (⟨N, 2, none⟩, .int .i64 t.d), (⟨N, 3, none⟩, .int .i64 t.r), (⟨N, 4, none⟩, .int .i64 t.u), (⟨N, 5, none⟩, .int .i64 t.s)]
theorem holds_boxS (w : World) (t : Stp) : Holds (cellsP w.heap.size t) (w.alloc (boxS t)) := by
  have h : ∀ i, (w.alloc (boxS t)).cell? ⟨w.heap.size, i, none⟩ = (rowV t)[i]? := fun i => by
    unfold boxS; rw [cell_of_row _ _ _ _ _ _ (heap_alloc_new w _)]; simp [rowV]
  exact ⟨h 0, h 1, h 2, h 3, h 4, h 5, trivial⟩
theorem lows_P {M N : Nat} {t : Stp} (h : N < M) : Lows M (cellsP N t) := ⟨h, h, h, h, h, h, trivial⟩
set_option maxRecDepth 1000000 in
set_option maxHeartbeats 1000000 in
theorem place_any (t : Stp) (w : World) : Calls Try.prog 33 #[stopV t] w fun e w' => e = .returned (.complex .f64 (floatOfInt .f64 (cl t.x)) (floatOfInt .f64 (cl t.y))) ∧ Below w.heap.size w w' := by
  unfold stopV
  go_enter Try.func33, Try.ntmps33
  go_wp2_with fail
  change Code.wp _ _ _ _ (w.alloc (boxS t))
  have HS0 := Lib.hid (show Holds (cellsP w.heap.size t) (w.alloc (boxS t)).drew from holds_boxS w t)
  have hlt := Lib.hid (show Lows (w.alloc (boxS t)).drew.heap.size (cellsP w.heap.size t) from lows_P (by simp [World.drew]))
  have HB1 := Lib.hid (((Below.refl _ w).alloc (Nat.le_refl _) (boxS t)).drew)
  generalize w.alloc (boxS t) = W at *
  have hNW : w.heap.size ≤ W.drew.heap.size := HB1.out.size
  refine wp_region_held_drew (S := Holds (cellsP w.heap.size t)) (by kernel_rfl) HS0.out (fun hSn => ?_)
  have Bc := Lib.hid (Below.refl W.drew.heap.size W.drew)
  unfold cellsP at *
  refine wpAnyH_take (i := 0) (oi := ?oz328) (v := ?vz328) ?iz328 (by kernel_rfl) (by kernel_rfl) (by kernel_rfl) ?qz328 (Or.inl ⟨?gz328, ?hz328⟩) (by assumption) ?rz328
  case iz328 => (simp only [List.getElem?_toArray, List.getElem?_cons_zero]; rfl)
  case qz328 => exact fun _ _ _ h => h
  case gz328 => rfl
  case hz328 => (intro w hSw; (simp only [Holds] at hSw); go_simp <;> with_reducible rfl)
  simp only [Act.put, List.setIfInBounds_toArray, List.set_cons_zero, List.set_cons_succ]
  refine wpAnyH_take (i := 1) (oi := ?oz329) (v := ?vz329) ?iz329 (by kernel_rfl) (by kernel_rfl) (by kernel_rfl) ?qz329 (Or.inl ⟨?gz329, ?hz329⟩) (by assumption) ?rz329
  case iz329 => (simp only [List.getElem?_toArray, List.getElem?_cons_zero, List.getElem?_cons_succ]; rfl)
  case qz329 => exact fun _ _ _ h => h
  case gz329 => rfl
  case hz329 => (intro w hSw; (simp only [Holds] at hSw); go_simp <;> with_reducible rfl)
  simp only [Act.put, List.setIfInBounds_toArray, List.set_cons_zero, List.set_cons_succ]
  refine wpAnyH_take (i := 3) (oi := ?oz330) (v := ?vz330) ?iz330 (by kernel_rfl) (by kernel_rfl) (by kernel_rfl) ?qz330 (Or.inl ⟨?gz330, ?hz330⟩) (by assumption) ?rz330
  case iz330 => (simp only [List.getElem?_toArray, List.getElem?_cons_zero, List.getElem?_cons_succ]; rfl)
  case qz330 => exact fun _ _ _ h => h
  case gz330 => rfl
  case hz330 => (intro w hSw; (simp only [Holds] at hSw); go_simp <;> with_reducible rfl)
  simp only [Act.put, List.setIfInBounds_toArray, List.set_cons_zero, List.set_cons_succ]
  refine wpAnyH_take (i := 4) (oi := ?oz331) (v := ?vz331) ?iz331 (by kernel_rfl) (by kernel_rfl) (by kernel_rfl) ?qz331 (Or.inl ⟨?gz331, ?hz331⟩) (by assumption) ?rz331
  case iz331 => (simp only [List.getElem?_toArray, List.getElem?_cons_zero, List.getElem?_cons_succ]; rfl)
  case qz331 => exact fun _ _ _ h => h
  case gz331 => rfl
  case hz331 => (intro w hSw; (simp only [Holds] at hSw); go_simp <;> with_reducible rfl)
  simp only [Act.put, List.setIfInBounds_toArray, List.set_cons_zero, List.set_cons_succ]
  refine wpAnyH_ready (rs := [2]) (by kernel_rfl) (by simp) ?_
  refine AllReadyH.cons (o := ?oz332) ?iz332 (fun K hK => ?kz332) AllReadyH.nil
  case iz332 => (simp only [List.getElem?_toArray, List.getElem?_cons_zero, List.getElem?_cons_succ]; rfl)
  go_simp
  refine (coord_any _ _).mono ?_
  rintro e w' ⟨rfl, rfl⟩
  refine held_more hK HS0.out hlt Bc.out (fun Bc hSn => ?_)
  refine wpAnyH_ready (rs := [5]) (by kernel_rfl) (by simp) ?_
  refine AllReadyH.cons (o := ?oz333) ?iz333 (fun K hK => ?kz333) AllReadyH.nil
  case iz333 => (simp only [List.getElem?_toArray, List.getElem?_cons_zero, List.getElem?_cons_succ]; rfl)
  go_simp
  refine (coord_any _ _).mono ?_
  rintro e w' ⟨rfl, rfl⟩
  refine held_more hK HS0.out hlt Bc.out (fun Bc hSn => ?_)
  refine wpAnyH_take (i := 6) (oi := ?oz334) (v := ?vz334) ?iz334 (by kernel_rfl) (by kernel_rfl) (by kernel_rfl) ?qz334 (Or.inl ⟨?gz334, ?hz334⟩) (by assumption) ?rz334
  case iz334 => (simp only [List.getElem?_toArray, List.getElem?_cons_zero, List.getElem?_cons_succ]; rfl)
  case qz334 => exact fun _ _ _ h => h
  case gz334 => rfl
  case hz334 => (intro w hSw; (simp only [Holds] at hSw); go_simp <;> with_reducible rfl)
  simp only [Act.put, List.setIfInBounds_toArray, List.set_cons_zero, List.set_cons_succ]
  refine wpAnyH_take (i := 7) (oi := ?oz335) (v := ?vz335) ?iz335 (by kernel_rfl) (by kernel_rfl) (by kernel_rfl) ?qz335 (Or.inl ⟨?gz335, ?hz335⟩) (by assumption) ?rz335
  case iz335 => (simp only [List.getElem?_toArray, List.getElem?_cons_zero, List.getElem?_cons_succ]; rfl)
  case qz335 => exact fun _ _ _ h => h
  case gz335 => rfl
  case hz335 => (intro w hSw; (simp only [Holds] at hSw); go_simp <;> with_reducible rfl)
  simp only [Act.put, List.setIfInBounds_toArray, List.set_cons_zero, List.set_cons_succ]
  refine wpAnyH_done (by kernel_rfl) ?_ _
  go_wp2
  go_ret
  exact ⟨rfl, HB1.out.trans (Bc.out.mono hNW)⟩
set_option maxRecDepth 1000000 in
set_option maxHeartbeats 1000000 in
theorem far_any (a b : Stp) (w : World) : Calls Try.prog 19 #[stopV a, stopV b] w fun e w' => e = .returned (.int .i64 (farF a b)) ∧ Below w.heap.size w w' := by
  have hax := cl_bd a.x
  have hay := cl_bd a.y
  have hbx := cl_bd b.x
  have hby := cl_bd b.y
  have hsub : ∀ w, (binOp .sub 63 (.complex .f64 (floatOfInt .f64 (cl b.x)) (floatOfInt .f64 (cl b.y))) (.complex .f64 (floatOfInt .f64 (cl a.x)) (floatOfInt .f64 (cl a.y)))).run Try.prog w = .ok (.complex .f64 (floatOfInt .f64 (cl b.x - cl a.x)) (floatOfInt .f64 (cl b.y - cl a.y))) w :=
    fun w => run_complex_sum w .sub (.inr rfl) _ _ _ _ _ _ _ _ (sub_places _ _ _ _ hbx hby hax hay)
  have hF := Lib.hid (show farF a b = farD (cl b.x - cl a.x) (cl b.y - cl a.y) from rfl)
  have d1 : -10000 ≤ cl b.x - cl a.x ∧ cl b.x - cl a.x ≤ 10000 := by omega
  have d2 : -10000 ≤ cl b.y - cl a.y ∧ cl b.y - cl a.y ≤ 10000 := by omega
  unfold stopV
  go_enter Try.func19, Try.ntmps19
  go_wp2_with fail
  change Code.wp _ _ _ _ ((w.alloc (boxS a)).alloc (boxS b))
  have HB1 := Lib.hid ((((Below.refl _ w).alloc (Nat.le_refl _) (boxS a)).alloc (by simp) (boxS b)).drew)
  have HS0 := Lib.hid (show Holds (cellsP w.heap.size a ++ cellsP (w.heap.size + 1) b) ((w.alloc (boxS a)).alloc (boxS b)).drew from Holds.app.2
    ⟨Holds.below (M := (w.alloc (boxS a)).heap.size) ((Below.refl _ (w.alloc (boxS a))).alloc (Nat.le_refl _) (boxS b)) (holds_boxS w a) (lows_P (by simp)), by have := holds_boxS (w.alloc (boxS a)) b; rw [show (w.alloc (boxS a)).heap.size = w.heap.size + 1 by simp] at this; exact this⟩)
  have hlt := Lib.hid (show Lows ((w.alloc (boxS a)).alloc (boxS b)).drew.heap.size (cellsP w.heap.size a ++ cellsP (w.heap.size + 1) b) from Lows.app (lows_P (by simp [World.drew]; omega)) (lows_P (by simp [World.drew])))
  generalize (w.alloc (boxS a)).alloc (boxS b) = W at *
  have hNW : w.heap.size ≤ W.drew.heap.size := HB1.out.size
  refine wp_region_held_drew (S := Holds (cellsP w.heap.size a ++ cellsP (w.heap.size + 1) b)) (by kernel_rfl) HS0.out (fun hSn => ?_)
  have Bc := Lib.hid (Below.refl W.drew.heap.size W.drew)
  simp only [cellsP, List.cons_append, List.nil_append] at *
  refine wpAnyH_take (i := 0) (oi := ?oz336) (v := ?vz336) ?iz336 (by kernel_rfl) (by kernel_rfl) (by kernel_rfl) ?qz336 (Or.inl ⟨?gz336, ?hz336⟩) (by assumption) ?rz336
  case iz336 => (simp only [List.getElem?_toArray, List.getElem?_cons_zero]; rfl)
  case qz336 => exact fun _ _ _ h => h
  case gz336 => rfl
  case hz336 => (intro w hSw; (simp only [Holds] at hSw); go_simp <;> with_reducible rfl)
  simp only [Act.put, List.setIfInBounds_toArray, List.set_cons_zero, List.set_cons_succ]
  refine wpAnyH_take (i := 2) (oi := ?oz337) (v := ?vz337) ?iz337 (by kernel_rfl) (by kernel_rfl) (by kernel_rfl) ?qz337 (Or.inl ⟨?gz337, ?hz337⟩) (by assumption) ?rz337
  case iz337 => (simp only [List.getElem?_toArray, List.getElem?_cons_zero, List.getElem?_cons_succ]; rfl)
  case qz337 => exact fun _ _ _ h => h
  case gz337 => rfl
  case hz337 => (intro w hSw; (simp only [Holds] at hSw); go_simp <;> with_reducible rfl)
  simp only [Act.put, List.setIfInBounds_toArray, List.set_cons_zero, List.set_cons_succ]
  refine wpAnyH_ready (rs := [1]) (by kernel_rfl) (by simp) ?_
  refine AllReadyH.cons (o := ?oz338) ?iz338 (fun K hK => ?kz338) AllReadyH.nil
  case iz338 => (simp only [List.getElem?_toArray, List.getElem?_cons_zero, List.getElem?_cons_succ]; rfl)
  go_simp
  change Calls _ _ #[stopV b] _ _
  refine (place_any b _).mono ?_
  rintro e w' ⟨rfl, hb⟩
  refine held_more hK HS0.out hlt (Bc.out.trans (hb.mono Bc.out.size)) (fun Bc hSn => ?_)
  clear hb hK
  refine wpAnyH_ready (rs := [3]) (by kernel_rfl) (by simp) ?_
  refine AllReadyH.cons (o := ?oz339) ?iz339 (fun K hK => ?kz339) AllReadyH.nil
  case iz339 => (simp only [List.getElem?_toArray, List.getElem?_cons_zero, List.getElem?_cons_succ]; rfl)
  go_simp
  change Calls _ _ #[stopV a] _ _
  refine (place_any a _).mono ?_
  rintro e w' ⟨rfl, hb⟩
  refine held_more hK HS0.out hlt (Bc.out.trans (hb.mono Bc.out.size)) (fun Bc hSn => ?_)
  clear hb hK
  refine wpAnyH_take (i := 4) (oi := ?oz340) (v := ?vz340) ?iz340 (by kernel_rfl) (by kernel_rfl) (by kernel_rfl) ?qz340 (Or.inl ⟨?gz340, ?hz340⟩) (by assumption) ?rz340
  case iz340 => (simp only [List.getElem?_toArray, List.getElem?_cons_zero, List.getElem?_cons_succ]; rfl)
  case qz340 => exact fun _ _ _ h => h
  case gz340 => rfl
  case hz340 => (intro w hSw; (simp only [Holds] at hSw); go_simp <;> with_reducible rfl)
  simp only [Act.put, List.setIfInBounds_toArray, List.set_cons_zero, List.set_cons_succ]
  refine wpAnyH_take (i := 5) (oi := ?oz341) (v := ?vz341) ?iz341 (by kernel_rfl) (by kernel_rfl) (by kernel_rfl) ?qz341 (Or.inl ⟨?gz341, ?hz341⟩) (by assumption) ?rz341
  case iz341 => (simp only [List.getElem?_toArray, List.getElem?_cons_zero, List.getElem?_cons_succ]; rfl)
  case qz341 => exact fun _ _ _ h => h
  case gz341 => rfl
  case hz341 => (intro w hSw; (simp only [Holds] at hSw); go_simp <;> with_reducible rfl)
  simp only [Act.put, List.setIfInBounds_toArray, List.set_cons_zero, List.set_cons_succ]
  refine wpAnyH_done (by kernel_rfl) ?_ _
  clear hsub hax hay hbx hby
  generalize cl b.x - cl a.x = dx at *
  generalize cl b.y - cl a.y = dy at *
  have hcx : ∀ w, (convert 65 3 (.float .f64 (floatOfInt .f64 dx))).run Try.prog w = .ok (.int .i64 dx) w := fun w => run_convert_float_int w _ _ _ _ _ _ (by rw [Try.underlying65]; rfl) Try.underlying3 (back_float _ (by omega))
  have hcy : ∀ w, (convert 65 3 (.float .f64 (floatOfInt .f64 dy))).run Try.prog w = .ok (.int .i64 dy) w := fun w => run_convert_float_int w _ _ _ _ _ _ (by rw [Try.underlying65]; rfl) Try.underlying3 (back_float _ (by omega))
  obtain ⟨s1, s2⟩ := sq_bd dx d1.1 d1.2
  obtain ⟨s3, s4⟩ := sq_bd dy d2.1 d2.2
  have s5 : dx * dx + dy * dy ≤ 200000000 := by omega
  have s6 : 0 ≤ dx * dx + dy * dy := by omega
  go_wp2_with fail
  refine (root_any _ _ (by omega)).mono ?_
  rintro e w' ⟨rfl, rfl⟩
  go_wp2
  go_ret
  exact ⟨ret_int hF.out.symm, HB1.out.trans (Bc.out.mono hNW)⟩
set_option maxRecDepth 1000000 in
set_option maxHeartbeats 1000000 in
theorem rfar_any (a b : Stp) (w : World) : Calls Try.prog 25 #[stopV a, stopV b] w fun e w' => e = .returned (.int .i64 (farF a b)) ∧ Below w.heap.size w w' := by
  have hax := cl_bd a.x
  have hay := cl_bd a.y
  have hbx := cl_bd b.x
  have hby := cl_bd b.y
  have hF := Lib.hid (show farF a b = rootOf ((cl a.x - cl b.x) * (cl a.x - cl b.x) + (cl a.y - cl b.y) * (cl a.y - cl b.y)) from farF_comm a b)
  have d1 : -10000 ≤ cl a.x - cl b.x ∧ cl a.x - cl b.x ≤ 10000 := by omega
  have d2 : -10000 ≤ cl a.y - cl b.y ∧ cl a.y - cl b.y ≤ 10000 := by omega
  have w1 : IntKind.i64.wrap (cl a.x - cl b.x) = cl a.x - cl b.x := IntWalk.i64_in _ (by omega)
  have w2 : IntKind.i64.wrap (cl a.y - cl b.y) = cl a.y - cl b.y := IntWalk.i64_in _ (by omega)
  obtain ⟨s1, s2⟩ := sq_bd (cl a.x - cl b.x) d1.1 d1.2
  obtain ⟨s3, s4⟩ := sq_bd (cl a.y - cl b.y) d2.1 d2.2
  unfold stopV
  go_enter Try.func25, Try.ntmps25
  go_wp2_with fail
  change Code.wp _ _ _ _ ((w.alloc (boxS a)).alloc (boxS b))
  have HB1 := Lib.hid ((((Below.refl _ w).alloc (Nat.le_refl _) (boxS a)).alloc (by simp) (boxS b)).drew)
  have HS0 := Lib.hid (show Holds (cellsP w.heap.size a ++ cellsP (w.heap.size + 1) b) ((w.alloc (boxS a)).alloc (boxS b)).drew from Holds.app.2
    ⟨Holds.below (M := (w.alloc (boxS a)).heap.size) ((Below.refl _ (w.alloc (boxS a))).alloc (Nat.le_refl _) (boxS b)) (holds_boxS w a) (lows_P (by simp)), by have := holds_boxS (w.alloc (boxS a)) b; rw [show (w.alloc (boxS a)).heap.size = w.heap.size + 1 by simp] at this; exact this⟩)
  have hlt := Lib.hid (show Lows ((w.alloc (boxS a)).alloc (boxS b)).drew.heap.size (cellsP w.heap.size a ++ cellsP (w.heap.size + 1) b) from Lows.app (lows_P (by simp [World.drew]; omega)) (lows_P (by simp [World.drew])))
  generalize (w.alloc (boxS a)).alloc (boxS b) = W at *
  have hNW : w.heap.size ≤ W.drew.heap.size := HB1.out.size
  refine wp_region_held_drew (S := Holds (cellsP w.heap.size a ++ cellsP (w.heap.size + 1) b)) (by kernel_rfl) HS0.out (fun hSn => ?_)
  have Bc := Lib.hid (Below.refl W.drew.heap.size W.drew)
  simp only [cellsP, List.cons_append, List.nil_append] at *
  refine wpAnyH_take (i := 0) (oi := ?oz342) (v := ?vz342) ?iz342 (by kernel_rfl) (by kernel_rfl) (by kernel_rfl) ?qz342 (Or.inl ⟨?gz342, ?hz342⟩) (by assumption) ?rz342
  case iz342 => (simp only [List.getElem?_toArray, List.getElem?_cons_zero]; rfl)
  case qz342 => exact fun _ _ _ h => h
  case gz342 => rfl
  case hz342 => (intro w hSw; (simp only [Holds] at hSw); go_simp <;> with_reducible rfl)
  simp only [Act.put, List.setIfInBounds_toArray, List.set_cons_zero, List.set_cons_succ]
  refine wpAnyH_take (i := 1) (oi := ?oz343) (v := ?vz343) ?iz343 (by kernel_rfl) (by kernel_rfl) (by kernel_rfl) ?qz343 (Or.inl ⟨?gz343, ?hz343⟩) (by assumption) ?rz343
  case iz343 => (simp only [List.getElem?_toArray, List.getElem?_cons_zero, List.getElem?_cons_succ]; rfl)
  case qz343 => exact fun _ _ _ h => h
  case gz343 => rfl
  case hz343 => (intro w hSw; (simp only [Holds] at hSw); go_simp <;> with_reducible rfl)
  simp only [Act.put, List.setIfInBounds_toArray, List.set_cons_zero, List.set_cons_succ]
  refine wpAnyH_take (i := 3) (oi := ?oz344) (v := ?vz344) ?iz344 (by kernel_rfl) (by kernel_rfl) (by kernel_rfl) ?qz344 (Or.inl ⟨?gz344, ?hz344⟩) (by assumption) ?rz344
  case iz344 => (simp only [List.getElem?_toArray, List.getElem?_cons_zero, List.getElem?_cons_succ]; rfl)
  case qz344 => exact fun _ _ _ h => h
  case gz344 => rfl
  case hz344 => (intro w hSw; (simp only [Holds] at hSw); go_simp <;> with_reducible rfl)
  simp only [Act.put, List.setIfInBounds_toArray, List.set_cons_zero, List.set_cons_succ]
  refine wpAnyH_take (i := 4) (oi := ?oz345) (v := ?vz345) ?iz345 (by kernel_rfl) (by kernel_rfl) (by kernel_rfl) ?qz345 (Or.inl ⟨?gz345, ?hz345⟩) (by assumption) ?rz345
  case iz345 => (simp only [List.getElem?_toArray, List.getElem?_cons_zero, List.getElem?_cons_succ]; rfl)
  case qz345 => exact fun _ _ _ h => h
  case gz345 => rfl
  case hz345 => (intro w hSw; (simp only [Holds] at hSw); go_simp <;> with_reducible rfl)
  simp only [Act.put, List.setIfInBounds_toArray, List.set_cons_zero, List.set_cons_succ]
  refine wpAnyH_ready (rs := [2]) (by kernel_rfl) (by simp) ?_
  refine AllReadyH.cons (o := ?oz346) ?iz346 (fun K hK => ?kz346) AllReadyH.nil
  case iz346 => (simp only [List.getElem?_toArray, List.getElem?_cons_zero, List.getElem?_cons_succ]; rfl)
  go_simp
  refine (bound_any _ _).mono ?_
  rintro e w' ⟨rfl, rfl⟩
  refine held_more hK HS0.out hlt Bc.out (fun Bc hSn => ?_)
  refine wpAnyH_ready (rs := [5]) (by kernel_rfl) (by simp) ?_
  refine AllReadyH.cons (o := ?oz347) ?iz347 (fun K hK => ?kz347) AllReadyH.nil
  case iz347 => (simp only [List.getElem?_toArray, List.getElem?_cons_zero, List.getElem?_cons_succ]; rfl)
  go_simp
  refine (bound_any _ _).mono ?_
  rintro e w' ⟨rfl, rfl⟩
  refine held_more hK HS0.out hlt Bc.out (fun Bc hSn => ?_)
  clear hK
  refine wpAnyH_take (i := 6) (oi := ?oz348) (v := ?vz348) ?iz348 (by kernel_rfl) (by kernel_rfl) (by kernel_rfl) ?qz348 (Or.inl ⟨?gz348, ?hz348⟩) (by assumption) ?rz348
  case iz348 => (simp only [List.getElem?_toArray, List.getElem?_cons_zero, List.getElem?_cons_succ]; rfl)
  case qz348 => exact fun _ _ _ h => h
  case gz348 => rfl
  case hz348 => (intro w hSw; (simp only [Holds] at hSw); go_simp <;> with_reducible rfl)
  simp only [Act.put, List.setIfInBounds_toArray, List.set_cons_zero, List.set_cons_succ]
  refine wpAnyH_take (i := 7) (oi := ?oz349) (v := ?vz349) ?iz349 (by kernel_rfl) (by kernel_rfl) (by kernel_rfl) ?qz349 (Or.inl ⟨?gz349, ?hz349⟩) (by assumption) ?rz349
  case iz349 => (simp only [List.getElem?_toArray, List.getElem?_cons_zero, List.getElem?_cons_succ]; rfl)
  case qz349 => exact fun _ _ _ h => h
  case gz349 => rfl
  case hz349 => (intro w hSw; (simp only [Holds] at hSw); go_simp <;> with_reducible rfl)
  simp only [Act.put, List.setIfInBounds_toArray, List.set_cons_zero, List.set_cons_succ]
  refine wpAnyH_done (by kernel_rfl) ?_ _
  go_wp2_with fail
  have Bd := Lib.hid Bc.out.drew
  clear hSn Bc
  refine wp_region_held_drew (S := Holds [(⟨w.heap.size, 0, none⟩, .int .i64 a.x), (⟨w.heap.size, 1, none⟩, .int .i64 a.y), (⟨w.heap.size, 2, none⟩, .int .i64 a.d), (⟨w.heap.size, 3, none⟩, .int .i64 a.r), (⟨w.heap.size, 4, none⟩, .int .i64 a.u), (⟨w.heap.size, 5, none⟩, .int .i64 a.s),
    (⟨w.heap.size + 1, 0, none⟩, .int .i64 b.x), (⟨w.heap.size + 1, 1, none⟩, .int .i64 b.y), (⟨w.heap.size + 1, 2, none⟩, .int .i64 b.d), (⟨w.heap.size + 1, 3, none⟩, .int .i64 b.r), (⟨w.heap.size + 1, 4, none⟩, .int .i64 b.u), (⟨w.heap.size + 1, 5, none⟩, .int .i64 b.s)]) (by kernel_rfl) (Holds.below Bd.out HS0.out hlt.out) (fun hSn => ?_)
  have Bc := Bd
  clear Bd
  refine wpAnyH_take (i := 0) (oi := ?oz350) (v := ?vz350) ?iz350 (by kernel_rfl) (by kernel_rfl) (by kernel_rfl) ?qz350 (Or.inl ⟨?gz350, ?hz350⟩) (by assumption) ?rz350
  case iz350 => (simp only [List.getElem?_toArray, List.getElem?_cons_zero]; rfl)
  case qz350 => exact fun _ _ _ h => h
  case gz350 => rfl
  case hz350 => (intro w hSw; (simp only [Holds] at hSw); go_simp <;> with_reducible rfl)
  simp only [Act.put, List.setIfInBounds_toArray, List.set_cons_zero, List.set_cons_succ]
  refine wpAnyH_take (i := 1) (oi := ?oz351) (v := ?vz351) ?iz351 (by kernel_rfl) (by kernel_rfl) (by kernel_rfl) ?qz351 (Or.inl ⟨?gz351, ?hz351⟩) (by assumption) ?rz351
  case iz351 => (simp only [List.getElem?_toArray, List.getElem?_cons_zero, List.getElem?_cons_succ]; rfl)
  case qz351 => exact fun _ _ _ h => h
  case gz351 => rfl
  case hz351 => (intro w hSw; (simp only [Holds] at hSw); go_simp <;> with_reducible rfl)
  simp only [Act.put, List.setIfInBounds_toArray, List.set_cons_zero, List.set_cons_succ]
  refine wpAnyH_take (i := 3) (oi := ?oz352) (v := ?vz352) ?iz352 (by kernel_rfl) (by kernel_rfl) (by kernel_rfl) ?qz352 (Or.inl ⟨?gz352, ?hz352⟩) (by assumption) ?rz352
  case iz352 => (simp only [List.getElem?_toArray, List.getElem?_cons_zero, List.getElem?_cons_succ]; rfl)
  case qz352 => exact fun _ _ _ h => h
  case gz352 => rfl
  case hz352 => (intro w hSw; (simp only [Holds] at hSw); go_simp <;> with_reducible rfl)
  simp only [Act.put, List.setIfInBounds_toArray, List.set_cons_zero, List.set_cons_succ]
  refine wpAnyH_take (i := 4) (oi := ?oz353) (v := ?vz353) ?iz353 (by kernel_rfl) (by kernel_rfl) (by kernel_rfl) ?qz353 (Or.inl ⟨?gz353, ?hz353⟩) (by assumption) ?rz353
  case iz353 => (simp only [List.getElem?_toArray, List.getElem?_cons_zero, List.getElem?_cons_succ]; rfl)
  case qz353 => exact fun _ _ _ h => h
  case gz353 => rfl
  case hz353 => (intro w hSw; (simp only [Holds] at hSw); go_simp <;> with_reducible rfl)
  simp only [Act.put, List.setIfInBounds_toArray, List.set_cons_zero, List.set_cons_succ]
  refine wpAnyH_ready (rs := [2]) (by kernel_rfl) (by simp) ?_
  refine AllReadyH.cons (o := ?oz354) ?iz354 (fun K hK => ?kz354) AllReadyH.nil
  case iz354 => (simp only [List.getElem?_toArray, List.getElem?_cons_zero, List.getElem?_cons_succ]; rfl)
  go_simp
  refine (bound_any _ _).mono ?_
  rintro e w' ⟨rfl, rfl⟩
  refine held_more hK HS0.out hlt Bc.out (fun Bc hSn => ?_)
  refine wpAnyH_ready (rs := [5]) (by kernel_rfl) (by simp) ?_
  refine AllReadyH.cons (o := ?oz355) ?iz355 (fun K hK => ?kz355) AllReadyH.nil
  case iz355 => (simp only [List.getElem?_toArray, List.getElem?_cons_zero, List.getElem?_cons_succ]; rfl)
  go_simp
  refine (bound_any _ _).mono ?_
  rintro e w' ⟨rfl, rfl⟩
  refine held_more hK HS0.out hlt Bc.out (fun Bc hSn => ?_)
  clear hK
  refine wpAnyH_take (i := 6) (oi := ?oz356) (v := ?vz356) ?iz356 (by kernel_rfl) (by kernel_rfl) (by kernel_rfl) ?qz356 (Or.inl ⟨?gz356, ?hz356⟩) (by assumption) ?rz356
  case iz356 => (simp only [List.getElem?_toArray, List.getElem?_cons_zero, List.getElem?_cons_succ]; rfl)
  case qz356 => exact fun _ _ _ h => h
  case gz356 => rfl
  case hz356 => (intro w hSw; (simp only [Holds] at hSw); go_simp <;> with_reducible rfl)
  simp only [Act.put, List.setIfInBounds_toArray, List.set_cons_zero, List.set_cons_succ]
  refine wpAnyH_take (i := 7) (oi := ?oz357) (v := ?vz357) ?iz357 (by kernel_rfl) (by kernel_rfl) (by kernel_rfl) ?qz357 (Or.inl ⟨?gz357, ?hz357⟩) (by assumption) ?rz357
  case iz357 => (simp only [List.getElem?_toArray, List.getElem?_cons_zero, List.getElem?_cons_succ]; rfl)
  case qz357 => exact fun _ _ _ h => h
  case gz357 => rfl
  case hz357 => (intro w hSw; (simp only [Holds] at hSw); go_simp <;> with_reducible rfl)
  simp only [Act.put, List.setIfInBounds_toArray, List.set_cons_zero, List.set_cons_succ]
  refine wpAnyH_done (by kernel_rfl) ?_ _
  clear hax hay hbx hby
  generalize cl a.x - cl b.x = dx at *
  generalize cl a.y - cl b.y = dy at *
  have s5 : dx * dx + dy * dy ≤ 200000000 := by omega
  have s6 : 0 ≤ dx * dx + dy * dy := by omega
  go_wp2_with fail
  refine (rroot_any _ _).mono ?_
  rintro e w' ⟨rfl, rfl⟩
  go_wp2
  go_ret
  exact ⟨ret_int hF.out.symm, HB1.out.trans (Bc.out.mono hNW)⟩
theorem eg1 : farF ⟨0, 0, 0, 0, 0, 0⟩ ⟨3, 4, 0, 0, 0, 0⟩ = 5 := rootOf_eq 25 5 (by decide) (by decide) ⟨by decide, by decide, by decide⟩
theorem eg2 : farF ⟨0, 0, 0, 0, 0, 0⟩ ⟨1, 1, 0, 0, 0, 0⟩ = 2 := rootOf_eq 2 2 (by decide) (by decide) ⟨by decide, by decide, by decide⟩
end Go.Proofs.Ytolaiccgbngomaa
