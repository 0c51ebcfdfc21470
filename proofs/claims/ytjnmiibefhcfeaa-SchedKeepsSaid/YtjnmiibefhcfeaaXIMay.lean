/- What inst.May answers. -/
import Derived.Test.YtjnmiibefhcfeaaXIMem
namespace Go.Proofs.Ytjnmiibefhcfeaa
open Go.ChangeShapes Go.WideShapes Go.ChangeAt Go.RowKit

/-- The instance in its box. -/
def boxI (I : Ins) (v : Value) : Obj := .cells #[.int .i64 I.p, .int .i64 I.c, .int .i64 I.r, v] 24
def cellsI (N : Nat) (I : Ins) (v : Value) : List (Addr × Value) := [(⟨N, 0, none⟩, .int .i64 I.p), (⟨N, 1, none⟩, .int .i64 I.c), (⟨N, 2, none⟩, .int .i64 I.r), (⟨N, 3, none⟩, v)]
def cellsS (b o : Nat) (t : Stp) : List (Addr × Value) := [(⟨b, o, none⟩, .int .i64 t.x), (⟨b, o + 1, none⟩, .int .i64 t.y), (⟨b, o + 2, none⟩, .int .i64 t.d), (⟨b, o + 3, none⟩, .int .i64 t.r), (⟨b, o + 4, none⟩, .int .i64 t.u), (⟨b, o + 5, none⟩, .int .i64 t.s)]
def cellsA (N : Nat) (I : Ins) (v : Value) (b o : Nat) (t : Stp) : List (Addr × Value) := [(⟨N, 0, none⟩, .int .i64 I.p), (⟨N, 1, none⟩, .int .i64 I.c), (⟨N, 2, none⟩, .int .i64 I.r), (⟨N, 3, none⟩, v), (⟨b, o, none⟩, .int .i64 t.x), (⟨b, o + 1, none⟩, .int .i64 t.y), (⟨b, o + 2, none⟩, .int .i64 t.d), (⟨b, o + 3, none⟩, .int .i64 t.r), (⟨b, o + 4, none⟩, .int .i64 t.u), (⟨b, o + 5, none⟩, .int .i64 t.s)]
theorem Holds.app {w : World} : ∀ {a b : List (Addr × Value)}, Holds (a ++ b) w ↔ Holds a w ∧ Holds b w
  | [], b => by simp [Holds]
  | x :: a, b => by simp [Holds, Holds.app, and_assoc]
theorem Lows.app {M : Nat} : ∀ {a b : List (Addr × Value)}, Lows M a → Lows M b → Lows M (a ++ b)
  | [], _, _, h => h
  | _ :: _, _, h, k => ⟨h.1, Lows.app h.2 k⟩
theorem lows_S {M b o : Nat} {t : Stp} (h : b < M) : Lows M (cellsS b o t) := ⟨h, h, h, h, h, h, trivial⟩
theorem At.holds {w : World} {b o : Nat} {t : Stp} (h : At w b o t) : Holds (cellsS b o t) w := by
  obtain ⟨h0, h1, h2, h3, h4, h5⟩ := h
  exact ⟨h0, h1, h2, h3, h4, h5, trivial⟩
theorem holds_box (w : World) (I : Ins) (v : Value) : Holds (cellsI w.heap.size I v) (w.alloc (boxI I v)) := by
  have h : ∀ i, (w.alloc (boxI I v)).cell? ⟨w.heap.size, i, none⟩ = [Value.int .i64 I.p, .int .i64 I.c, .int .i64 I.r, v][i]? := fun i => by
    unfold boxI; rw [cell_of_row _ _ _ _ _ _ (heap_alloc_new w _)]; simp
  exact ⟨h 0, h 1, h 2, h 3, trivial⟩
theorem eql_len (n : Nat) (p : Int) : ((n : Int) == 2 * p + 1) = lenOk p n := by unfold lenOk; rw [Bool.eq_iff_iff]; simp
set_option maxRecDepth 1000000 in
set_option maxHeartbeats 4000000 in
theorem may_any {w : World} {v : Value} {I : Ins} (h : SRow w v I.l) :
    Calls Try.prog 11 #[insV I v] w fun e w' => e = .returned (.bool (mayB I)) ∧ Below w.heap.size w w' := by
  have H := Lib.hid h
  obtain ⟨ad, cap, rfl, hm, hc, hcm⟩ := h.form
  have HSM := Lib.hid (show mayB I = (inb 0 16 I.p && (inb 1 8 I.c && (inb 1 1000 I.r && (lenOk I.p I.l.length && (stopsOk I.l && (yardOk (nth I.l 0) && demOk ((I.l.drop 1).take I.p.toNat) (I.l.drop (1 + I.p.toNat)))))))) from rfl)
  unfold insV
  go_enter Try.func11, Try.ntmps11
  go_wp2_with fail
  change Code.wp _ _ _ _ (w.alloc (boxI I (.slice ad I.l.length cap)))
  have HS0 := Lib.hid (show Holds (cellsI w.heap.size I (.slice ad I.l.length cap)) (w.alloc (boxI I (.slice ad I.l.length cap))).drew from holds_box w I _)
  have hlt := Lib.hid (show Lows (w.alloc (boxI I (.slice ad I.l.length cap))).drew.heap.size (cellsI w.heap.size I (.slice ad I.l.length cap)) from ⟨by simp [World.drew], by simp [World.drew], by simp [World.drew], by simp [World.drew], trivial⟩)
  have HB1 := Lib.hid (((Below.refl _ w).alloc (Nat.le_refl _) (boxI I (.slice ad I.l.length cap))).drew)
  have H1 := Lib.hid (H.out.below HB1.out)
  generalize w.alloc (boxI I (.slice ad I.l.length cap)) = W at *
  have hNW : w.heap.size ≤ W.drew.heap.size := HB1.out.size
  clear h hm
  refine wp_region_held_drew (S := Holds (cellsI w.heap.size I (.slice ad I.l.length cap))) (by kernel_rfl) HS0.out (fun hSn => ?_)
  have Bc := Lib.hid (Below.refl W.drew.heap.size W.drew)
  unfold cellsI at *
  refine wpAnyH_take (i := 0) (oi := ?oz49) (v := ?vz49) ?iz49 (by kernel_rfl) (by kernel_rfl) (by kernel_rfl) ?qz49 (Or.inl ⟨?gz49, ?hz49⟩) (by assumption) ?rz49
  case iz49 => (simp only [List.getElem?_toArray, List.getElem?_cons_zero]; rfl)
  case qz49 => exact fun _ _ _ h => h
  case gz49 => rfl
  case hz49 => (intro w hSw; (simp only [Holds] at hSw); go_simp <;> with_reducible rfl)
  simp only [Act.put, List.setIfInBounds_toArray, List.set_cons_zero, List.set_cons_succ]
  refine wpAnyH_take (i := 1) (oi := ?oz50) (v := ?vz50) ?iz50 (by kernel_rfl) (by kernel_rfl) (by kernel_rfl) ?qz50 (Or.inl ⟨?gz50, ?hz50⟩) (by assumption) ?rz50
  case iz50 => (simp only [List.getElem?_toArray, List.getElem?_cons_zero, List.getElem?_cons_succ]; rfl)
  case qz50 => exact fun _ _ _ h => h
  case gz50 => rfl
  case hz50 => (intro w hSw; (simp only [Holds] at hSw); go_simp <;> with_reducible rfl)
  simp only [Act.put, List.setIfInBounds_toArray, List.set_cons_zero, List.set_cons_succ]
  refine wpAnyH_ready (rs := [2]) (by kernel_rfl) (by simp) ?_
  refine AllReadyH.cons (o := ?oz51) ?iz51 (fun K hK => ?kz51) AllReadyH.nil
  case iz51 => (simp only [List.getElem?_toArray, List.getElem?_cons_zero, List.getElem?_cons_succ]; rfl)
  go_simp
  refine held_more hK HS0.out hlt (Bc.out.alloc Bc.out.size _) (fun Bc hSn => ?_)
  refine wpAnyH_ready (rs := [3]) (by kernel_rfl) (by simp) ?_
  refine AllReadyH.cons (o := ?oz52) ?iz52 (fun K hK => ?kz52) AllReadyH.nil
  case iz52 => (simp only [List.getElem?_toArray, List.getElem?_cons_zero, List.getElem?_cons_succ]; rfl)
  go_simp
  refine (within1 _ 0 16 I.p (by go_simp)).mono ?_
  rintro e w' ⟨rfl, rfl⟩
  refine held_more hK HS0.out hlt Bc.out (fun Bc hSn => ?_)
  cases hb1 : inb 0 16 I.p
  · have HD := Lib.hid (show mayB I = false by rw [HSM.out, hb1]; rfl)
    refine wpAnyH_take (i := 4) (oi := ?oz53) (v := ?vz53) ?iz53 (by kernel_rfl) (by kernel_rfl) (by kernel_rfl) ?qz53 (Or.inl ⟨?gz53, ?hz53⟩) (by assumption) ?rz53
    case iz53 => (simp only [List.getElem?_toArray, List.getElem?_cons_zero, List.getElem?_cons_succ]; rfl)
    case qz53 => exact fun _ _ _ h => h
    case gz53 => rfl
    case hz53 => (intro w hSw; (simp only [Holds] at hSw); go_simp <;> with_reducible rfl)
    simp only [Act.put, List.setIfInBounds_toArray, List.set_cons_zero, List.set_cons_succ]
    refine wpAnyH_take (i := 5) (oi := ?oz54) (v := undef) ?iz54 (by kernel_rfl) (by kernel_rfl) (by kernel_rfl) ?qz54 (Or.inr ⟨?gz54, rfl⟩) (by assumption) ?rz54
    case iz54 => (simp only [List.getElem?_toArray, List.getElem?_cons_zero, List.getElem?_cons_succ]; rfl)
    case qz54 => exact fun _ _ _ h => h
    case gz54 => rfl
    simp only [Act.put, List.setIfInBounds_toArray, List.set_cons_zero, List.set_cons_succ]
    refine wpAnyH_take (i := 6) (oi := ?oz55) (v := undef) ?iz55 (by kernel_rfl) (by kernel_rfl) (by kernel_rfl) ?qz55 (Or.inr ⟨?gz55, rfl⟩) (by assumption) ?rz55
    case iz55 => (simp only [List.getElem?_toArray, List.getElem?_cons_zero, List.getElem?_cons_succ]; rfl)
    case qz55 => exact fun _ _ _ h => h
    case gz55 => rfl
    simp only [Act.put, List.setIfInBounds_toArray, List.set_cons_zero, List.set_cons_succ]
    refine wpAnyH_take (i := 7) (oi := ?oz56) (v := undef) ?iz56 (by kernel_rfl) (by kernel_rfl) (by kernel_rfl) ?qz56 (Or.inr ⟨?gz56, rfl⟩) (by assumption) ?rz56
    case iz56 => (simp only [List.getElem?_toArray, List.getElem?_cons_zero, List.getElem?_cons_succ]; rfl)
    case qz56 => exact fun _ _ _ h => h
    case gz56 => rfl
    simp only [Act.put, List.setIfInBounds_toArray, List.set_cons_zero, List.set_cons_succ]
    refine wpAnyH_take (i := 8) (oi := ?oz57) (v := undef) ?iz57 (by kernel_rfl) (by kernel_rfl) (by kernel_rfl) ?qz57 (Or.inr ⟨?gz57, rfl⟩) (by assumption) ?rz57
    case iz57 => (simp only [List.getElem?_toArray, List.getElem?_cons_zero, List.getElem?_cons_succ]; rfl)
    case qz57 => exact fun _ _ _ h => h
    case gz57 => rfl
    simp only [Act.put, List.setIfInBounds_toArray, List.set_cons_zero, List.set_cons_succ]
    refine wpAnyH_take (i := 9) (oi := ?oz58) (v := ?vz58) ?iz58 (by kernel_rfl) (by kernel_rfl) (by kernel_rfl) ?qz58 (Or.inl ⟨?gz58, ?hz58⟩) (by assumption) ?rz58
    case iz58 => (simp only [List.getElem?_toArray, List.getElem?_cons_zero, List.getElem?_cons_succ]; rfl)
    case qz58 => exact fun _ _ _ h => h
    case gz58 => rfl
    case hz58 => (intro w hSw; (simp only [Holds] at hSw); go_simp <;> with_reducible rfl)
    simp only [Act.put, List.setIfInBounds_toArray, List.set_cons_zero, List.set_cons_succ]
    refine wpAnyH_take (i := 10) (oi := ?oz59) (v := ?vz59) ?iz59 (by kernel_rfl) (by kernel_rfl) (by kernel_rfl) ?qz59 (Or.inl ⟨?gz59, ?hz59⟩) (by assumption) ?rz59
    case iz59 => (simp only [List.getElem?_toArray, List.getElem?_cons_zero, List.getElem?_cons_succ]; rfl)
    case qz59 => exact fun _ _ _ h => h
    case gz59 => rfl
    case hz59 => (intro w hSw; (simp only [Holds] at hSw); go_simp <;> with_reducible rfl)
    simp only [Act.put, List.setIfInBounds_toArray, List.set_cons_zero, List.set_cons_succ]
    refine wpAnyH_take (i := 11) (oi := ?oz60) (v := undef) ?iz60 (by kernel_rfl) (by kernel_rfl) (by kernel_rfl) ?qz60 (Or.inr ⟨?gz60, rfl⟩) (by assumption) ?rz60
    case iz60 => (simp only [List.getElem?_toArray, List.getElem?_cons_zero, List.getElem?_cons_succ]; rfl)
    case qz60 => exact fun _ _ _ h => h
    case gz60 => rfl
    simp only [Act.put, List.setIfInBounds_toArray, List.set_cons_zero, List.set_cons_succ]
    refine wpAnyH_take (i := 12) (oi := ?oz61) (v := undef) ?iz61 (by kernel_rfl) (by kernel_rfl) (by kernel_rfl) ?qz61 (Or.inr ⟨?gz61, rfl⟩) (by assumption) ?rz61
    case iz61 => (simp only [List.getElem?_toArray, List.getElem?_cons_zero, List.getElem?_cons_succ]; rfl)
    case qz61 => exact fun _ _ _ h => h
    case gz61 => rfl
    simp only [Act.put, List.setIfInBounds_toArray, List.set_cons_zero, List.set_cons_succ]
    refine wpAnyH_take (i := 13) (oi := ?oz62) (v := undef) ?iz62 (by kernel_rfl) (by kernel_rfl) (by kernel_rfl) ?qz62 (Or.inr ⟨?gz62, rfl⟩) (by assumption) ?rz62
    case iz62 => (simp only [List.getElem?_toArray, List.getElem?_cons_zero, List.getElem?_cons_succ]; rfl)
    case qz62 => exact fun _ _ _ h => h
    case gz62 => rfl
    simp only [Act.put, List.setIfInBounds_toArray, List.set_cons_zero, List.set_cons_succ]
    refine wpAnyH_take (i := 14) (oi := ?oz63) (v := undef) ?iz63 (by kernel_rfl) (by kernel_rfl) (by kernel_rfl) ?qz63 (Or.inr ⟨?gz63, rfl⟩) (by assumption) ?rz63
    case iz63 => (simp only [List.getElem?_toArray, List.getElem?_cons_zero, List.getElem?_cons_succ]; rfl)
    case qz63 => exact fun _ _ _ h => h
    case gz63 => rfl
    simp only [Act.put, List.setIfInBounds_toArray, List.set_cons_zero, List.set_cons_succ]
    refine wpAnyH_take (i := 15) (oi := ?oz64) (v := ?vz64) ?iz64 (by kernel_rfl) (by kernel_rfl) (by kernel_rfl) ?qz64 (Or.inl ⟨?gz64, ?hz64⟩) (by assumption) ?rz64
    case iz64 => (simp only [List.getElem?_toArray, List.getElem?_cons_zero, List.getElem?_cons_succ]; rfl)
    case qz64 => exact fun _ _ _ h => h
    case gz64 => rfl
    case hz64 => (intro w hSw; (simp only [Holds] at hSw); go_simp <;> with_reducible rfl)
    simp only [Act.put, List.setIfInBounds_toArray, List.set_cons_zero, List.set_cons_succ]
    refine wpAnyH_take (i := 16) (oi := ?oz65) (v := ?vz65) ?iz65 (by kernel_rfl) (by kernel_rfl) (by kernel_rfl) ?qz65 (Or.inl ⟨?gz65, ?hz65⟩) (by assumption) ?rz65
    case iz65 => (simp only [List.getElem?_toArray, List.getElem?_cons_zero, List.getElem?_cons_succ]; rfl)
    case qz65 => exact fun _ _ _ h => h
    case gz65 => rfl
    case hz65 => (intro w hSw; (simp only [Holds] at hSw); go_simp <;> with_reducible rfl)
    simp only [Act.put, List.setIfInBounds_toArray, List.set_cons_zero, List.set_cons_succ]
    refine wpAnyH_take (i := 17) (oi := ?oz66) (v := undef) ?iz66 (by kernel_rfl) (by kernel_rfl) (by kernel_rfl) ?qz66 (Or.inr ⟨?gz66, rfl⟩) (by assumption) ?rz66
    case iz66 => (simp only [List.getElem?_toArray, List.getElem?_cons_zero, List.getElem?_cons_succ]; rfl)
    case qz66 => exact fun _ _ _ h => h
    case gz66 => rfl
    simp only [Act.put, List.setIfInBounds_toArray, List.set_cons_zero, List.set_cons_succ]
    refine wpAnyH_take (i := 18) (oi := ?oz67) (v := undef) ?iz67 (by kernel_rfl) (by kernel_rfl) (by kernel_rfl) ?qz67 (Or.inr ⟨?gz67, rfl⟩) (by assumption) ?rz67
    case iz67 => (simp only [List.getElem?_toArray, List.getElem?_cons_zero, List.getElem?_cons_succ]; rfl)
    case qz67 => exact fun _ _ _ h => h
    case gz67 => rfl
    simp only [Act.put, List.setIfInBounds_toArray, List.set_cons_zero, List.set_cons_succ]
    refine wpAnyH_take (i := 19) (oi := ?oz68) (v := undef) ?iz68 (by kernel_rfl) (by kernel_rfl) (by kernel_rfl) ?qz68 (Or.inr ⟨?gz68, rfl⟩) (by assumption) ?rz68
    case iz68 => (simp only [List.getElem?_toArray, List.getElem?_cons_zero, List.getElem?_cons_succ]; rfl)
    case qz68 => exact fun _ _ _ h => h
    case gz68 => rfl
    simp only [Act.put, List.setIfInBounds_toArray, List.set_cons_zero, List.set_cons_succ]
    refine wpAnyH_take (i := 20) (oi := ?oz69) (v := undef) ?iz69 (by kernel_rfl) (by kernel_rfl) (by kernel_rfl) ?qz69 (Or.inr ⟨?gz69, rfl⟩) (by assumption) ?rz69
    case iz69 => (simp only [List.getElem?_toArray, List.getElem?_cons_zero, List.getElem?_cons_succ]; rfl)
    case qz69 => exact fun _ _ _ h => h
    case gz69 => rfl
    simp only [Act.put, List.setIfInBounds_toArray, List.set_cons_zero, List.set_cons_succ]
    refine wpAnyH_take (i := 21) (oi := ?oz70) (v := undef) ?iz70 (by kernel_rfl) (by kernel_rfl) (by kernel_rfl) ?qz70 (Or.inr ⟨?gz70, rfl⟩) (by assumption) ?rz70
    case iz70 => (simp only [List.getElem?_toArray, List.getElem?_cons_zero, List.getElem?_cons_succ]; rfl)
    case qz70 => exact fun _ _ _ h => h
    case gz70 => rfl
    simp only [Act.put, List.setIfInBounds_toArray, List.set_cons_zero, List.set_cons_succ]
    refine wpAnyH_take (i := 22) (oi := ?oz71) (v := undef) ?iz71 (by kernel_rfl) (by kernel_rfl) (by kernel_rfl) ?qz71 (Or.inr ⟨?gz71, rfl⟩) (by assumption) ?rz71
    case iz71 => (simp only [List.getElem?_toArray, List.getElem?_cons_zero, List.getElem?_cons_succ]; rfl)
    case qz71 => exact fun _ _ _ h => h
    case gz71 => rfl
    simp only [Act.put, List.setIfInBounds_toArray, List.set_cons_zero, List.set_cons_succ]
    refine wpAnyH_take (i := 23) (oi := ?oz72) (v := undef) ?iz72 (by kernel_rfl) (by kernel_rfl) (by kernel_rfl) ?qz72 (Or.inr ⟨?gz72, rfl⟩) (by assumption) ?rz72
    case iz72 => (simp only [List.getElem?_toArray, List.getElem?_cons_zero, List.getElem?_cons_succ]; rfl)
    case qz72 => exact fun _ _ _ h => h
    case gz72 => rfl
    simp only [Act.put, List.setIfInBounds_toArray, List.set_cons_zero, List.set_cons_succ]
    refine wpAnyH_take (i := 24) (oi := ?oz73) (v := undef) ?iz73 (by kernel_rfl) (by kernel_rfl) (by kernel_rfl) ?qz73 (Or.inr ⟨?gz73, rfl⟩) (by assumption) ?rz73
    case iz73 => (simp only [List.getElem?_toArray, List.getElem?_cons_zero, List.getElem?_cons_succ]; rfl)
    case qz73 => exact fun _ _ _ h => h
    case gz73 => rfl
    simp only [Act.put, List.setIfInBounds_toArray, List.set_cons_zero, List.set_cons_succ]
    refine wpAnyH_take (i := 25) (oi := ?oz74) (v := ?vz74) ?iz74 (by kernel_rfl) (by kernel_rfl) (by kernel_rfl) ?qz74 (Or.inl ⟨?gz74, ?hz74⟩) (by assumption) ?rz74
    case iz74 => (simp only [List.getElem?_toArray, List.getElem?_cons_zero, List.getElem?_cons_succ]; rfl)
    case qz74 => exact fun _ _ _ h => h
    case gz74 => rfl
    case hz74 => (intro w hSw; (simp only [Holds] at hSw); go_simp <;> with_reducible rfl)
    simp only [Act.put, List.setIfInBounds_toArray, List.set_cons_zero, List.set_cons_succ]
    refine wpAnyH_take (i := 26) (oi := ?oz75) (v := ?vz75) ?iz75 (by kernel_rfl) (by kernel_rfl) (by kernel_rfl) ?qz75 (Or.inl ⟨?gz75, ?hz75⟩) (by assumption) ?rz75
    case iz75 => (simp only [List.getElem?_toArray, List.getElem?_cons_zero, List.getElem?_cons_succ]; rfl)
    case qz75 => exact fun _ _ _ h => h
    case gz75 => rfl
    case hz75 => (intro w hSw; (simp only [Holds] at hSw); go_simp <;> with_reducible rfl)
    simp only [Act.put, List.setIfInBounds_toArray, List.set_cons_zero, List.set_cons_succ]
    refine wpAnyH_take (i := 27) (oi := ?oz76) (v := undef) ?iz76 (by kernel_rfl) (by kernel_rfl) (by kernel_rfl) ?qz76 (Or.inr ⟨?gz76, rfl⟩) (by assumption) ?rz76
    case iz76 => (simp only [List.getElem?_toArray, List.getElem?_cons_zero, List.getElem?_cons_succ]; rfl)
    case qz76 => exact fun _ _ _ h => h
    case gz76 => rfl
    simp only [Act.put, List.setIfInBounds_toArray, List.set_cons_zero, List.set_cons_succ]
    refine wpAnyH_take (i := 28) (oi := ?oz77) (v := undef) ?iz77 (by kernel_rfl) (by kernel_rfl) (by kernel_rfl) ?qz77 (Or.inr ⟨?gz77, rfl⟩) (by assumption) ?rz77
    case iz77 => (simp only [List.getElem?_toArray, List.getElem?_cons_zero, List.getElem?_cons_succ]; rfl)
    case qz77 => exact fun _ _ _ h => h
    case gz77 => rfl
    simp only [Act.put, List.setIfInBounds_toArray, List.set_cons_zero, List.set_cons_succ]
    refine wpAnyH_take (i := 29) (oi := ?oz78) (v := undef) ?iz78 (by kernel_rfl) (by kernel_rfl) (by kernel_rfl) ?qz78 (Or.inr ⟨?gz78, rfl⟩) (by assumption) ?rz78
    case iz78 => (simp only [List.getElem?_toArray, List.getElem?_cons_zero, List.getElem?_cons_succ]; rfl)
    case qz78 => exact fun _ _ _ h => h
    case gz78 => rfl
    simp only [Act.put, List.setIfInBounds_toArray, List.set_cons_zero, List.set_cons_succ]
    refine wpAnyH_take (i := 30) (oi := ?oz79) (v := ?vz79) ?iz79 (by kernel_rfl) (by kernel_rfl) (by kernel_rfl) ?qz79 (Or.inl ⟨?gz79, ?hz79⟩) (by assumption) ?rz79
    case iz79 => (simp only [List.getElem?_toArray, List.getElem?_cons_zero, List.getElem?_cons_succ]; rfl)
    case qz79 => exact fun _ _ _ h => h
    case gz79 => rfl
    case hz79 => (intro w hSw; (simp only [Holds] at hSw); go_simp <;> with_reducible rfl)
    simp only [Act.put, List.setIfInBounds_toArray, List.set_cons_zero, List.set_cons_succ]
    refine wpAnyH_take (i := 31) (oi := ?oz80) (v := ?vz80) ?iz80 (by kernel_rfl) (by kernel_rfl) (by kernel_rfl) ?qz80 (Or.inl ⟨?gz80, ?hz80⟩) (by assumption) ?rz80
    case iz80 => (simp only [List.getElem?_toArray, List.getElem?_cons_zero, List.getElem?_cons_succ]; rfl)
    case qz80 => exact fun _ _ _ h => h
    case gz80 => rfl
    case hz80 => (intro w hSw; (simp only [Holds] at hSw); go_simp <;> with_reducible rfl)
    simp only [Act.put, List.setIfInBounds_toArray, List.set_cons_zero, List.set_cons_succ]
    refine wpAnyH_take (i := 32) (oi := ?oz81) (v := undef) ?iz81 (by kernel_rfl) (by kernel_rfl) (by kernel_rfl) ?qz81 (Or.inr ⟨?gz81, rfl⟩) (by assumption) ?rz81
    case iz81 => (simp only [List.getElem?_toArray, List.getElem?_cons_zero, List.getElem?_cons_succ]; rfl)
    case qz81 => exact fun _ _ _ h => h
    case gz81 => rfl
    simp only [Act.put, List.setIfInBounds_toArray, List.set_cons_zero, List.set_cons_succ]
    refine wpAnyH_take (i := 33) (oi := ?oz82) (v := undef) ?iz82 (by kernel_rfl) (by kernel_rfl) (by kernel_rfl) ?qz82 (Or.inr ⟨?gz82, rfl⟩) (by assumption) ?rz82
    case iz82 => (simp only [List.getElem?_toArray, List.getElem?_cons_zero, List.getElem?_cons_succ]; rfl)
    case qz82 => exact fun _ _ _ h => h
    case gz82 => rfl
    simp only [Act.put, List.setIfInBounds_toArray, List.set_cons_zero, List.set_cons_succ]
    refine wpAnyH_take (i := 34) (oi := ?oz83) (v := undef) ?iz83 (by kernel_rfl) (by kernel_rfl) (by kernel_rfl) ?qz83 (Or.inr ⟨?gz83, rfl⟩) (by assumption) ?rz83
    case iz83 => (simp only [List.getElem?_toArray, List.getElem?_cons_zero, List.getElem?_cons_succ]; rfl)
    case qz83 => exact fun _ _ _ h => h
    case gz83 => rfl
    simp only [Act.put, List.setIfInBounds_toArray, List.set_cons_zero, List.set_cons_succ]
    refine wpAnyH_take (i := 35) (oi := ?oz84) (v := undef) ?iz84 (by kernel_rfl) (by kernel_rfl) (by kernel_rfl) ?qz84 (Or.inr ⟨?gz84, rfl⟩) (by assumption) ?rz84
    case iz84 => (simp only [List.getElem?_toArray, List.getElem?_cons_zero, List.getElem?_cons_succ]; rfl)
    case qz84 => exact fun _ _ _ h => h
    case gz84 => rfl
    simp only [Act.put, List.setIfInBounds_toArray, List.set_cons_zero, List.set_cons_succ]
    refine wpAnyH_take (i := 36) (oi := ?oz85) (v := undef) ?iz85 (by kernel_rfl) (by kernel_rfl) (by kernel_rfl) ?qz85 (Or.inr ⟨?gz85, rfl⟩) (by assumption) ?rz85
    case iz85 => (simp only [List.getElem?_toArray, List.getElem?_cons_zero, List.getElem?_cons_succ]; rfl)
    case qz85 => exact fun _ _ _ h => h
    case gz85 => rfl
    simp only [Act.put, List.setIfInBounds_toArray, List.set_cons_zero, List.set_cons_succ]
    refine wpAnyH_take (i := 37) (oi := ?oz86) (v := ?vz86) ?iz86 (by kernel_rfl) (by kernel_rfl) (by kernel_rfl) ?qz86 (Or.inl ⟨?gz86, ?hz86⟩) (by assumption) ?rz86
    case iz86 => (simp only [List.getElem?_toArray, List.getElem?_cons_zero, List.getElem?_cons_succ]; rfl)
    case qz86 => exact fun _ _ _ h => h
    case gz86 => rfl
    case hz86 => (intro w hSw; (simp only [Holds] at hSw); go_simp <;> with_reducible rfl)
    simp only [Act.put, List.setIfInBounds_toArray, List.set_cons_zero, List.set_cons_succ]
    refine wpAnyH_take (i := 38) (oi := ?oz87) (v := ?vz87) ?iz87 (by kernel_rfl) (by kernel_rfl) (by kernel_rfl) ?qz87 (Or.inl ⟨?gz87, ?hz87⟩) (by assumption) ?rz87
    case iz87 => (simp only [List.getElem?_toArray, List.getElem?_cons_zero, List.getElem?_cons_succ]; rfl)
    case qz87 => exact fun _ _ _ h => h
    case gz87 => rfl
    case hz87 => (intro w hSw; (simp only [Holds] at hSw); go_simp <;> with_reducible rfl)
    simp only [Act.put, List.setIfInBounds_toArray, List.set_cons_zero, List.set_cons_succ]
    refine wpAnyH_take (i := 39) (oi := ?oz88) (v := undef) ?iz88 (by kernel_rfl) (by kernel_rfl) (by kernel_rfl) ?qz88 (Or.inr ⟨?gz88, rfl⟩) (by assumption) ?rz88
    case iz88 => (simp only [List.getElem?_toArray, List.getElem?_cons_zero, List.getElem?_cons_succ]; rfl)
    case qz88 => exact fun _ _ _ h => h
    case gz88 => rfl
    simp only [Act.put, List.setIfInBounds_toArray, List.set_cons_zero, List.set_cons_succ]
    refine wpAnyH_take (i := 40) (oi := ?oz89) (v := undef) ?iz89 (by kernel_rfl) (by kernel_rfl) (by kernel_rfl) ?qz89 (Or.inr ⟨?gz89, rfl⟩) (by assumption) ?rz89
    case iz89 => (simp only [List.getElem?_toArray, List.getElem?_cons_zero, List.getElem?_cons_succ]; rfl)
    case qz89 => exact fun _ _ _ h => h
    case gz89 => rfl
    simp only [Act.put, List.setIfInBounds_toArray, List.set_cons_zero, List.set_cons_succ]
    refine wpAnyH_take (i := 41) (oi := ?oz90) (v := undef) ?iz90 (by kernel_rfl) (by kernel_rfl) (by kernel_rfl) ?qz90 (Or.inr ⟨?gz90, rfl⟩) (by assumption) ?rz90
    case iz90 => (simp only [List.getElem?_toArray, List.getElem?_cons_zero, List.getElem?_cons_succ]; rfl)
    case qz90 => exact fun _ _ _ h => h
    case gz90 => rfl
    simp only [Act.put, List.setIfInBounds_toArray, List.set_cons_zero, List.set_cons_succ]
    refine wpAnyH_take (i := 42) (oi := ?oz91) (v := undef) ?iz91 (by kernel_rfl) (by kernel_rfl) (by kernel_rfl) ?qz91 (Or.inr ⟨?gz91, rfl⟩) (by assumption) ?rz91
    case iz91 => (simp only [List.getElem?_toArray, List.getElem?_cons_zero, List.getElem?_cons_succ]; rfl)
    case qz91 => exact fun _ _ _ h => h
    case gz91 => rfl
    simp only [Act.put, List.setIfInBounds_toArray, List.set_cons_zero, List.set_cons_succ]
    refine wpAnyH_take (i := 43) (oi := ?oz92) (v := undef) ?iz92 (by kernel_rfl) (by kernel_rfl) (by kernel_rfl) ?qz92 (Or.inr ⟨?gz92, rfl⟩) (by assumption) ?rz92
    case iz92 => (simp only [List.getElem?_toArray, List.getElem?_cons_zero, List.getElem?_cons_succ]; rfl)
    case qz92 => exact fun _ _ _ h => h
    case gz92 => rfl
    simp only [Act.put, List.setIfInBounds_toArray, List.set_cons_zero, List.set_cons_succ]
    refine wpAnyH_take (i := 44) (oi := ?oz93) (v := undef) ?iz93 (by kernel_rfl) (by kernel_rfl) (by kernel_rfl) ?qz93 (Or.inr ⟨?gz93, rfl⟩) (by assumption) ?rz93
    case iz93 => (simp only [List.getElem?_toArray, List.getElem?_cons_zero, List.getElem?_cons_succ]; rfl)
    case qz93 => exact fun _ _ _ h => h
    case gz93 => rfl
    simp only [Act.put, List.setIfInBounds_toArray, List.set_cons_zero, List.set_cons_succ]
    refine wpAnyH_take (i := 45) (oi := ?oz94) (v := undef) ?iz94 (by kernel_rfl) (by kernel_rfl) (by kernel_rfl) ?qz94 (Or.inr ⟨?gz94, rfl⟩) (by assumption) ?rz94
    case iz94 => (simp only [List.getElem?_toArray, List.getElem?_cons_zero, List.getElem?_cons_succ]; rfl)
    case qz94 => exact fun _ _ _ h => h
    case gz94 => rfl
    simp only [Act.put, List.setIfInBounds_toArray, List.set_cons_zero, List.set_cons_succ]
    refine wpAnyH_take (i := 46) (oi := ?oz95) (v := undef) ?iz95 (by kernel_rfl) (by kernel_rfl) (by kernel_rfl) ?qz95 (Or.inr ⟨?gz95, rfl⟩) (by assumption) ?rz95
    case iz95 => (simp only [List.getElem?_toArray, List.getElem?_cons_zero, List.getElem?_cons_succ]; rfl)
    case qz95 => exact fun _ _ _ h => h
    case gz95 => rfl
    simp only [Act.put, List.setIfInBounds_toArray, List.set_cons_zero, List.set_cons_succ]
    refine wpAnyH_take (i := 47) (oi := ?oz96) (v := undef) ?iz96 (by kernel_rfl) (by kernel_rfl) (by kernel_rfl) ?qz96 (Or.inr ⟨?gz96, rfl⟩) (by assumption) ?rz96
    case iz96 => (simp only [List.getElem?_toArray, List.getElem?_cons_zero, List.getElem?_cons_succ]; rfl)
    case qz96 => exact fun _ _ _ h => h
    case gz96 => rfl
    simp only [Act.put, List.setIfInBounds_toArray, List.set_cons_zero, List.set_cons_succ]
    refine wpAnyH_take (i := 48) (oi := ?oz97) (v := undef) ?iz97 (by kernel_rfl) (by kernel_rfl) (by kernel_rfl) ?qz97 (Or.inr ⟨?gz97, rfl⟩) (by assumption) ?rz97
    case iz97 => (simp only [List.getElem?_toArray, List.getElem?_cons_zero, List.getElem?_cons_succ]; rfl)
    case qz97 => exact fun _ _ _ h => h
    case gz97 => rfl
    simp only [Act.put, List.setIfInBounds_toArray, List.set_cons_zero, List.set_cons_succ]
    refine wpAnyH_take (i := 49) (oi := ?oz98) (v := undef) ?iz98 (by kernel_rfl) (by kernel_rfl) (by kernel_rfl) ?qz98 (Or.inr ⟨?gz98, rfl⟩) (by assumption) ?rz98
    case iz98 => (simp only [List.getElem?_toArray, List.getElem?_cons_zero, List.getElem?_cons_succ]; rfl)
    case qz98 => exact fun _ _ _ h => h
    case gz98 => rfl
    simp only [Act.put, List.setIfInBounds_toArray, List.set_cons_zero, List.set_cons_succ]
    refine wpAnyH_take (i := 50) (oi := ?oz99) (v := undef) ?iz99 (by kernel_rfl) (by kernel_rfl) (by kernel_rfl) ?qz99 (Or.inr ⟨?gz99, rfl⟩) (by assumption) ?rz99
    case iz99 => (simp only [List.getElem?_toArray, List.getElem?_cons_zero, List.getElem?_cons_succ]; rfl)
    case qz99 => exact fun _ _ _ h => h
    case gz99 => rfl
    simp only [Act.put, List.setIfInBounds_toArray, List.set_cons_zero, List.set_cons_succ]
    refine wpAnyH_take (i := 51) (oi := ?oz100) (v := undef) ?iz100 (by kernel_rfl) (by kernel_rfl) (by kernel_rfl) ?qz100 (Or.inr ⟨?gz100, rfl⟩) (by assumption) ?rz100
    case iz100 => (simp only [List.getElem?_toArray, List.getElem?_cons_zero, List.getElem?_cons_succ]; rfl)
    case qz100 => exact fun _ _ _ h => h
    case gz100 => rfl
    simp only [Act.put, List.setIfInBounds_toArray, List.set_cons_zero, List.set_cons_succ]
    refine wpAnyH_take (i := 52) (oi := ?oz101) (v := ?vz101) ?iz101 (by kernel_rfl) (by kernel_rfl) (by kernel_rfl) ?qz101 (Or.inl ⟨?gz101, ?hz101⟩) (by assumption) ?rz101
    case iz101 => (simp only [List.getElem?_toArray, List.getElem?_cons_zero, List.getElem?_cons_succ]; rfl)
    case qz101 => exact fun _ _ _ h => h
    case gz101 => rfl
    case hz101 => (intro w hSw; (simp only [Holds] at hSw); go_simp <;> with_reducible rfl)
    simp only [Act.put, List.setIfInBounds_toArray, List.set_cons_zero, List.set_cons_succ]
    refine wpAnyH_take (i := 53) (oi := ?oz102) (v := ?vz102) ?iz102 (by kernel_rfl) (by kernel_rfl) (by kernel_rfl) ?qz102 (Or.inl ⟨?gz102, ?hz102⟩) (by assumption) ?rz102
    case iz102 => (simp only [List.getElem?_toArray, List.getElem?_cons_zero, List.getElem?_cons_succ]; rfl)
    case qz102 => exact fun _ _ _ h => h
    case gz102 => rfl
    case hz102 => (intro w hSw; (simp only [Holds] at hSw); go_simp <;> with_reducible rfl)
    simp only [Act.put, List.setIfInBounds_toArray, List.set_cons_zero, List.set_cons_succ]
    refine wpAnyH_done (by kernel_rfl) ?_ _
    go_wp2
    go_ret
    exact ⟨ret_bool HD.out.symm, HB1.out.trans (Bc.out.mono hNW)⟩
  have hp := (inb_iff _ _ _).1 hb1
  have e1 : IntKind.i64.wrap (1 + I.p) = 1 + I.p := IntWalk.i64_in _ (by omega)
  have e2 : IntKind.i64.wrap (2 * I.p) = 2 * I.p := IntWalk.i64_in _ (by omega)
  have e3 : IntKind.i64.wrap (2 * I.p + 1) = 2 * I.p + 1 := IntWalk.i64_in _ (by omega)
  refine wpAnyH_take (i := 4) (oi := ?oz103) (v := ?vz103) ?iz103 (by kernel_rfl) (by kernel_rfl) (by kernel_rfl) ?qz103 (Or.inl ⟨?gz103, ?hz103⟩) (by assumption) ?rz103
  case iz103 => (simp only [List.getElem?_toArray, List.getElem?_cons_zero, List.getElem?_cons_succ]; rfl)
  case qz103 => exact fun _ _ _ h => h
  case gz103 => rfl
  case hz103 => (intro w hSw; (simp only [Holds] at hSw); go_simp <;> with_reducible rfl)
  simp only [Act.put, List.setIfInBounds_toArray, List.set_cons_zero, List.set_cons_succ]
  refine wpAnyH_take (i := 5) (oi := ?oz104) (v := ?vz104) ?iz104 (by kernel_rfl) (by kernel_rfl) (by kernel_rfl) ?qz104 (Or.inl ⟨?gz104, ?hz104⟩) (by assumption) ?rz104
  case iz104 => (simp only [List.getElem?_toArray, List.getElem?_cons_zero, List.getElem?_cons_succ]; rfl)
  case qz104 => exact fun _ _ _ h => h
  case gz104 => rfl
  case hz104 => (intro w hSw; (simp only [Holds] at hSw); go_simp <;> with_reducible rfl)
  simp only [Act.put, List.setIfInBounds_toArray, List.set_cons_zero, List.set_cons_succ]
  refine wpAnyH_take (i := 6) (oi := ?oz105) (v := ?vz105) ?iz105 (by kernel_rfl) (by kernel_rfl) (by kernel_rfl) ?qz105 (Or.inl ⟨?gz105, ?hz105⟩) (by assumption) ?rz105
  case iz105 => (simp only [List.getElem?_toArray, List.getElem?_cons_zero, List.getElem?_cons_succ]; rfl)
  case qz105 => exact fun _ _ _ h => h
  case gz105 => rfl
  case hz105 => (intro w hSw; (simp only [Holds] at hSw); go_simp <;> with_reducible rfl)
  simp only [Act.put, List.setIfInBounds_toArray, List.set_cons_zero, List.set_cons_succ]
  refine wpAnyH_ready (rs := [7]) (by kernel_rfl) (by simp) ?_
  refine AllReadyH.cons (o := ?oz106) ?iz106 (fun K hK => ?kz106) AllReadyH.nil
  case iz106 => (simp only [List.getElem?_toArray, List.getElem?_cons_zero, List.getElem?_cons_succ]; rfl)
  go_simp
  refine held_more hK HS0.out hlt (Bc.out.alloc Bc.out.size _) (fun Bc hSn => ?_)
  refine wpAnyH_ready (rs := [8]) (by kernel_rfl) (by simp) ?_
  refine AllReadyH.cons (o := ?oz107) ?iz107 (fun K hK => ?kz107) AllReadyH.nil
  case iz107 => (simp only [List.getElem?_toArray, List.getElem?_cons_zero, List.getElem?_cons_succ]; rfl)
  go_simp
  refine (within1 _ 1 8 I.c (by go_simp)).mono ?_
  rintro e w' ⟨rfl, rfl⟩
  refine held_more hK HS0.out hlt Bc.out (fun Bc hSn => ?_)
  cases hb2 : inb 1 8 I.c
  · have HD := Lib.hid (show mayB I = false by rw [HSM.out, hb1, hb2]; rfl)
    refine wpAnyH_take (i := 9) (oi := ?oz108) (v := ?vz108) ?iz108 (by kernel_rfl) (by kernel_rfl) (by kernel_rfl) ?qz108 (Or.inl ⟨?gz108, ?hz108⟩) (by assumption) ?rz108
    case iz108 => (simp only [List.getElem?_toArray, List.getElem?_cons_zero, List.getElem?_cons_succ]; rfl)
    case qz108 => exact fun _ _ _ h => h
    case gz108 => rfl
    case hz108 => (intro w hSw; (simp only [Holds] at hSw); go_simp <;> with_reducible rfl)
    simp only [Act.put, List.setIfInBounds_toArray, List.set_cons_zero, List.set_cons_succ]
    refine wpAnyH_take (i := 10) (oi := ?oz109) (v := ?vz109) ?iz109 (by kernel_rfl) (by kernel_rfl) (by kernel_rfl) ?qz109 (Or.inl ⟨?gz109, ?hz109⟩) (by assumption) ?rz109
    case iz109 => (simp only [List.getElem?_toArray, List.getElem?_cons_zero, List.getElem?_cons_succ]; rfl)
    case qz109 => exact fun _ _ _ h => h
    case gz109 => rfl
    case hz109 => (intro w hSw; (simp only [Holds] at hSw); go_simp <;> with_reducible rfl)
    simp only [Act.put, List.setIfInBounds_toArray, List.set_cons_zero, List.set_cons_succ]
    refine wpAnyH_take (i := 11) (oi := ?oz110) (v := undef) ?iz110 (by kernel_rfl) (by kernel_rfl) (by kernel_rfl) ?qz110 (Or.inr ⟨?gz110, rfl⟩) (by assumption) ?rz110
    case iz110 => (simp only [List.getElem?_toArray, List.getElem?_cons_zero, List.getElem?_cons_succ]; rfl)
    case qz110 => exact fun _ _ _ h => h
    case gz110 => rfl
    simp only [Act.put, List.setIfInBounds_toArray, List.set_cons_zero, List.set_cons_succ]
    refine wpAnyH_take (i := 12) (oi := ?oz111) (v := undef) ?iz111 (by kernel_rfl) (by kernel_rfl) (by kernel_rfl) ?qz111 (Or.inr ⟨?gz111, rfl⟩) (by assumption) ?rz111
    case iz111 => (simp only [List.getElem?_toArray, List.getElem?_cons_zero, List.getElem?_cons_succ]; rfl)
    case qz111 => exact fun _ _ _ h => h
    case gz111 => rfl
    simp only [Act.put, List.setIfInBounds_toArray, List.set_cons_zero, List.set_cons_succ]
    refine wpAnyH_take (i := 13) (oi := ?oz112) (v := undef) ?iz112 (by kernel_rfl) (by kernel_rfl) (by kernel_rfl) ?qz112 (Or.inr ⟨?gz112, rfl⟩) (by assumption) ?rz112
    case iz112 => (simp only [List.getElem?_toArray, List.getElem?_cons_zero, List.getElem?_cons_succ]; rfl)
    case qz112 => exact fun _ _ _ h => h
    case gz112 => rfl
    simp only [Act.put, List.setIfInBounds_toArray, List.set_cons_zero, List.set_cons_succ]
    refine wpAnyH_take (i := 14) (oi := ?oz113) (v := undef) ?iz113 (by kernel_rfl) (by kernel_rfl) (by kernel_rfl) ?qz113 (Or.inr ⟨?gz113, rfl⟩) (by assumption) ?rz113
    case iz113 => (simp only [List.getElem?_toArray, List.getElem?_cons_zero, List.getElem?_cons_succ]; rfl)
    case qz113 => exact fun _ _ _ h => h
    case gz113 => rfl
    simp only [Act.put, List.setIfInBounds_toArray, List.set_cons_zero, List.set_cons_succ]
    refine wpAnyH_take (i := 15) (oi := ?oz114) (v := ?vz114) ?iz114 (by kernel_rfl) (by kernel_rfl) (by kernel_rfl) ?qz114 (Or.inl ⟨?gz114, ?hz114⟩) (by assumption) ?rz114
    case iz114 => (simp only [List.getElem?_toArray, List.getElem?_cons_zero, List.getElem?_cons_succ]; rfl)
    case qz114 => exact fun _ _ _ h => h
    case gz114 => rfl
    case hz114 => (intro w hSw; (simp only [Holds] at hSw); go_simp <;> with_reducible rfl)
    simp only [Act.put, List.setIfInBounds_toArray, List.set_cons_zero, List.set_cons_succ]
    refine wpAnyH_take (i := 16) (oi := ?oz115) (v := ?vz115) ?iz115 (by kernel_rfl) (by kernel_rfl) (by kernel_rfl) ?qz115 (Or.inl ⟨?gz115, ?hz115⟩) (by assumption) ?rz115
    case iz115 => (simp only [List.getElem?_toArray, List.getElem?_cons_zero, List.getElem?_cons_succ]; rfl)
    case qz115 => exact fun _ _ _ h => h
    case gz115 => rfl
    case hz115 => (intro w hSw; (simp only [Holds] at hSw); go_simp <;> with_reducible rfl)
    simp only [Act.put, List.setIfInBounds_toArray, List.set_cons_zero, List.set_cons_succ]
    refine wpAnyH_take (i := 17) (oi := ?oz116) (v := undef) ?iz116 (by kernel_rfl) (by kernel_rfl) (by kernel_rfl) ?qz116 (Or.inr ⟨?gz116, rfl⟩) (by assumption) ?rz116
    case iz116 => (simp only [List.getElem?_toArray, List.getElem?_cons_zero, List.getElem?_cons_succ]; rfl)
    case qz116 => exact fun _ _ _ h => h
    case gz116 => rfl
    simp only [Act.put, List.setIfInBounds_toArray, List.set_cons_zero, List.set_cons_succ]
    refine wpAnyH_take (i := 18) (oi := ?oz117) (v := undef) ?iz117 (by kernel_rfl) (by kernel_rfl) (by kernel_rfl) ?qz117 (Or.inr ⟨?gz117, rfl⟩) (by assumption) ?rz117
    case iz117 => (simp only [List.getElem?_toArray, List.getElem?_cons_zero, List.getElem?_cons_succ]; rfl)
    case qz117 => exact fun _ _ _ h => h
    case gz117 => rfl
    simp only [Act.put, List.setIfInBounds_toArray, List.set_cons_zero, List.set_cons_succ]
    refine wpAnyH_take (i := 19) (oi := ?oz118) (v := undef) ?iz118 (by kernel_rfl) (by kernel_rfl) (by kernel_rfl) ?qz118 (Or.inr ⟨?gz118, rfl⟩) (by assumption) ?rz118
    case iz118 => (simp only [List.getElem?_toArray, List.getElem?_cons_zero, List.getElem?_cons_succ]; rfl)
    case qz118 => exact fun _ _ _ h => h
    case gz118 => rfl
    simp only [Act.put, List.setIfInBounds_toArray, List.set_cons_zero, List.set_cons_succ]
    refine wpAnyH_take (i := 20) (oi := ?oz119) (v := undef) ?iz119 (by kernel_rfl) (by kernel_rfl) (by kernel_rfl) ?qz119 (Or.inr ⟨?gz119, rfl⟩) (by assumption) ?rz119
    case iz119 => (simp only [List.getElem?_toArray, List.getElem?_cons_zero, List.getElem?_cons_succ]; rfl)
    case qz119 => exact fun _ _ _ h => h
    case gz119 => rfl
    simp only [Act.put, List.setIfInBounds_toArray, List.set_cons_zero, List.set_cons_succ]
    refine wpAnyH_take (i := 21) (oi := ?oz120) (v := undef) ?iz120 (by kernel_rfl) (by kernel_rfl) (by kernel_rfl) ?qz120 (Or.inr ⟨?gz120, rfl⟩) (by assumption) ?rz120
    case iz120 => (simp only [List.getElem?_toArray, List.getElem?_cons_zero, List.getElem?_cons_succ]; rfl)
    case qz120 => exact fun _ _ _ h => h
    case gz120 => rfl
    simp only [Act.put, List.setIfInBounds_toArray, List.set_cons_zero, List.set_cons_succ]
    refine wpAnyH_take (i := 22) (oi := ?oz121) (v := undef) ?iz121 (by kernel_rfl) (by kernel_rfl) (by kernel_rfl) ?qz121 (Or.inr ⟨?gz121, rfl⟩) (by assumption) ?rz121
    case iz121 => (simp only [List.getElem?_toArray, List.getElem?_cons_zero, List.getElem?_cons_succ]; rfl)
    case qz121 => exact fun _ _ _ h => h
    case gz121 => rfl
    simp only [Act.put, List.setIfInBounds_toArray, List.set_cons_zero, List.set_cons_succ]
    refine wpAnyH_take (i := 23) (oi := ?oz122) (v := undef) ?iz122 (by kernel_rfl) (by kernel_rfl) (by kernel_rfl) ?qz122 (Or.inr ⟨?gz122, rfl⟩) (by assumption) ?rz122
    case iz122 => (simp only [List.getElem?_toArray, List.getElem?_cons_zero, List.getElem?_cons_succ]; rfl)
    case qz122 => exact fun _ _ _ h => h
    case gz122 => rfl
    simp only [Act.put, List.setIfInBounds_toArray, List.set_cons_zero, List.set_cons_succ]
    refine wpAnyH_take (i := 24) (oi := ?oz123) (v := undef) ?iz123 (by kernel_rfl) (by kernel_rfl) (by kernel_rfl) ?qz123 (Or.inr ⟨?gz123, rfl⟩) (by assumption) ?rz123
    case iz123 => (simp only [List.getElem?_toArray, List.getElem?_cons_zero, List.getElem?_cons_succ]; rfl)
    case qz123 => exact fun _ _ _ h => h
    case gz123 => rfl
    simp only [Act.put, List.setIfInBounds_toArray, List.set_cons_zero, List.set_cons_succ]
    refine wpAnyH_take (i := 25) (oi := ?oz124) (v := ?vz124) ?iz124 (by kernel_rfl) (by kernel_rfl) (by kernel_rfl) ?qz124 (Or.inl ⟨?gz124, ?hz124⟩) (by assumption) ?rz124
    case iz124 => (simp only [List.getElem?_toArray, List.getElem?_cons_zero, List.getElem?_cons_succ]; rfl)
    case qz124 => exact fun _ _ _ h => h
    case gz124 => rfl
    case hz124 => (intro w hSw; (simp only [Holds] at hSw); go_simp <;> with_reducible rfl)
    simp only [Act.put, List.setIfInBounds_toArray, List.set_cons_zero, List.set_cons_succ]
    refine wpAnyH_take (i := 26) (oi := ?oz125) (v := ?vz125) ?iz125 (by kernel_rfl) (by kernel_rfl) (by kernel_rfl) ?qz125 (Or.inl ⟨?gz125, ?hz125⟩) (by assumption) ?rz125
    case iz125 => (simp only [List.getElem?_toArray, List.getElem?_cons_zero, List.getElem?_cons_succ]; rfl)
    case qz125 => exact fun _ _ _ h => h
    case gz125 => rfl
    case hz125 => (intro w hSw; (simp only [Holds] at hSw); go_simp <;> with_reducible rfl)
    simp only [Act.put, List.setIfInBounds_toArray, List.set_cons_zero, List.set_cons_succ]
    refine wpAnyH_take (i := 27) (oi := ?oz126) (v := undef) ?iz126 (by kernel_rfl) (by kernel_rfl) (by kernel_rfl) ?qz126 (Or.inr ⟨?gz126, rfl⟩) (by assumption) ?rz126
    case iz126 => (simp only [List.getElem?_toArray, List.getElem?_cons_zero, List.getElem?_cons_succ]; rfl)
    case qz126 => exact fun _ _ _ h => h
    case gz126 => rfl
    simp only [Act.put, List.setIfInBounds_toArray, List.set_cons_zero, List.set_cons_succ]
    refine wpAnyH_take (i := 28) (oi := ?oz127) (v := undef) ?iz127 (by kernel_rfl) (by kernel_rfl) (by kernel_rfl) ?qz127 (Or.inr ⟨?gz127, rfl⟩) (by assumption) ?rz127
    case iz127 => (simp only [List.getElem?_toArray, List.getElem?_cons_zero, List.getElem?_cons_succ]; rfl)
    case qz127 => exact fun _ _ _ h => h
    case gz127 => rfl
    simp only [Act.put, List.setIfInBounds_toArray, List.set_cons_zero, List.set_cons_succ]
    refine wpAnyH_take (i := 29) (oi := ?oz128) (v := undef) ?iz128 (by kernel_rfl) (by kernel_rfl) (by kernel_rfl) ?qz128 (Or.inr ⟨?gz128, rfl⟩) (by assumption) ?rz128
    case iz128 => (simp only [List.getElem?_toArray, List.getElem?_cons_zero, List.getElem?_cons_succ]; rfl)
    case qz128 => exact fun _ _ _ h => h
    case gz128 => rfl
    simp only [Act.put, List.setIfInBounds_toArray, List.set_cons_zero, List.set_cons_succ]
    refine wpAnyH_take (i := 30) (oi := ?oz129) (v := ?vz129) ?iz129 (by kernel_rfl) (by kernel_rfl) (by kernel_rfl) ?qz129 (Or.inl ⟨?gz129, ?hz129⟩) (by assumption) ?rz129
    case iz129 => (simp only [List.getElem?_toArray, List.getElem?_cons_zero, List.getElem?_cons_succ]; rfl)
    case qz129 => exact fun _ _ _ h => h
    case gz129 => rfl
    case hz129 => (intro w hSw; (simp only [Holds] at hSw); go_simp <;> with_reducible rfl)
    simp only [Act.put, List.setIfInBounds_toArray, List.set_cons_zero, List.set_cons_succ]
    refine wpAnyH_take (i := 31) (oi := ?oz130) (v := ?vz130) ?iz130 (by kernel_rfl) (by kernel_rfl) (by kernel_rfl) ?qz130 (Or.inl ⟨?gz130, ?hz130⟩) (by assumption) ?rz130
    case iz130 => (simp only [List.getElem?_toArray, List.getElem?_cons_zero, List.getElem?_cons_succ]; rfl)
    case qz130 => exact fun _ _ _ h => h
    case gz130 => rfl
    case hz130 => (intro w hSw; (simp only [Holds] at hSw); go_simp <;> with_reducible rfl)
    simp only [Act.put, List.setIfInBounds_toArray, List.set_cons_zero, List.set_cons_succ]
    refine wpAnyH_take (i := 32) (oi := ?oz131) (v := undef) ?iz131 (by kernel_rfl) (by kernel_rfl) (by kernel_rfl) ?qz131 (Or.inr ⟨?gz131, rfl⟩) (by assumption) ?rz131
    case iz131 => (simp only [List.getElem?_toArray, List.getElem?_cons_zero, List.getElem?_cons_succ]; rfl)
    case qz131 => exact fun _ _ _ h => h
    case gz131 => rfl
    simp only [Act.put, List.setIfInBounds_toArray, List.set_cons_zero, List.set_cons_succ]
    refine wpAnyH_take (i := 33) (oi := ?oz132) (v := undef) ?iz132 (by kernel_rfl) (by kernel_rfl) (by kernel_rfl) ?qz132 (Or.inr ⟨?gz132, rfl⟩) (by assumption) ?rz132
    case iz132 => (simp only [List.getElem?_toArray, List.getElem?_cons_zero, List.getElem?_cons_succ]; rfl)
    case qz132 => exact fun _ _ _ h => h
    case gz132 => rfl
    simp only [Act.put, List.setIfInBounds_toArray, List.set_cons_zero, List.set_cons_succ]
    refine wpAnyH_take (i := 34) (oi := ?oz133) (v := undef) ?iz133 (by kernel_rfl) (by kernel_rfl) (by kernel_rfl) ?qz133 (Or.inr ⟨?gz133, rfl⟩) (by assumption) ?rz133
    case iz133 => (simp only [List.getElem?_toArray, List.getElem?_cons_zero, List.getElem?_cons_succ]; rfl)
    case qz133 => exact fun _ _ _ h => h
    case gz133 => rfl
    simp only [Act.put, List.setIfInBounds_toArray, List.set_cons_zero, List.set_cons_succ]
    refine wpAnyH_take (i := 35) (oi := ?oz134) (v := undef) ?iz134 (by kernel_rfl) (by kernel_rfl) (by kernel_rfl) ?qz134 (Or.inr ⟨?gz134, rfl⟩) (by assumption) ?rz134
    case iz134 => (simp only [List.getElem?_toArray, List.getElem?_cons_zero, List.getElem?_cons_succ]; rfl)
    case qz134 => exact fun _ _ _ h => h
    case gz134 => rfl
    simp only [Act.put, List.setIfInBounds_toArray, List.set_cons_zero, List.set_cons_succ]
    refine wpAnyH_take (i := 36) (oi := ?oz135) (v := undef) ?iz135 (by kernel_rfl) (by kernel_rfl) (by kernel_rfl) ?qz135 (Or.inr ⟨?gz135, rfl⟩) (by assumption) ?rz135
    case iz135 => (simp only [List.getElem?_toArray, List.getElem?_cons_zero, List.getElem?_cons_succ]; rfl)
    case qz135 => exact fun _ _ _ h => h
    case gz135 => rfl
    simp only [Act.put, List.setIfInBounds_toArray, List.set_cons_zero, List.set_cons_succ]
    refine wpAnyH_take (i := 37) (oi := ?oz136) (v := ?vz136) ?iz136 (by kernel_rfl) (by kernel_rfl) (by kernel_rfl) ?qz136 (Or.inl ⟨?gz136, ?hz136⟩) (by assumption) ?rz136
    case iz136 => (simp only [List.getElem?_toArray, List.getElem?_cons_zero, List.getElem?_cons_succ]; rfl)
    case qz136 => exact fun _ _ _ h => h
    case gz136 => rfl
    case hz136 => (intro w hSw; (simp only [Holds] at hSw); go_simp <;> with_reducible rfl)
    simp only [Act.put, List.setIfInBounds_toArray, List.set_cons_zero, List.set_cons_succ]
    refine wpAnyH_take (i := 38) (oi := ?oz137) (v := ?vz137) ?iz137 (by kernel_rfl) (by kernel_rfl) (by kernel_rfl) ?qz137 (Or.inl ⟨?gz137, ?hz137⟩) (by assumption) ?rz137
    case iz137 => (simp only [List.getElem?_toArray, List.getElem?_cons_zero, List.getElem?_cons_succ]; rfl)
    case qz137 => exact fun _ _ _ h => h
    case gz137 => rfl
    case hz137 => (intro w hSw; (simp only [Holds] at hSw); go_simp <;> with_reducible rfl)
    simp only [Act.put, List.setIfInBounds_toArray, List.set_cons_zero, List.set_cons_succ]
    refine wpAnyH_take (i := 39) (oi := ?oz138) (v := undef) ?iz138 (by kernel_rfl) (by kernel_rfl) (by kernel_rfl) ?qz138 (Or.inr ⟨?gz138, rfl⟩) (by assumption) ?rz138
    case iz138 => (simp only [List.getElem?_toArray, List.getElem?_cons_zero, List.getElem?_cons_succ]; rfl)
    case qz138 => exact fun _ _ _ h => h
    case gz138 => rfl
    simp only [Act.put, List.setIfInBounds_toArray, List.set_cons_zero, List.set_cons_succ]
    refine wpAnyH_take (i := 40) (oi := ?oz139) (v := undef) ?iz139 (by kernel_rfl) (by kernel_rfl) (by kernel_rfl) ?qz139 (Or.inr ⟨?gz139, rfl⟩) (by assumption) ?rz139
    case iz139 => (simp only [List.getElem?_toArray, List.getElem?_cons_zero, List.getElem?_cons_succ]; rfl)
    case qz139 => exact fun _ _ _ h => h
    case gz139 => rfl
    simp only [Act.put, List.setIfInBounds_toArray, List.set_cons_zero, List.set_cons_succ]
    refine wpAnyH_take (i := 41) (oi := ?oz140) (v := undef) ?iz140 (by kernel_rfl) (by kernel_rfl) (by kernel_rfl) ?qz140 (Or.inr ⟨?gz140, rfl⟩) (by assumption) ?rz140
    case iz140 => (simp only [List.getElem?_toArray, List.getElem?_cons_zero, List.getElem?_cons_succ]; rfl)
    case qz140 => exact fun _ _ _ h => h
    case gz140 => rfl
    simp only [Act.put, List.setIfInBounds_toArray, List.set_cons_zero, List.set_cons_succ]
    refine wpAnyH_take (i := 42) (oi := ?oz141) (v := undef) ?iz141 (by kernel_rfl) (by kernel_rfl) (by kernel_rfl) ?qz141 (Or.inr ⟨?gz141, rfl⟩) (by assumption) ?rz141
    case iz141 => (simp only [List.getElem?_toArray, List.getElem?_cons_zero, List.getElem?_cons_succ]; rfl)
    case qz141 => exact fun _ _ _ h => h
    case gz141 => rfl
    simp only [Act.put, List.setIfInBounds_toArray, List.set_cons_zero, List.set_cons_succ]
    refine wpAnyH_take (i := 43) (oi := ?oz142) (v := undef) ?iz142 (by kernel_rfl) (by kernel_rfl) (by kernel_rfl) ?qz142 (Or.inr ⟨?gz142, rfl⟩) (by assumption) ?rz142
    case iz142 => (simp only [List.getElem?_toArray, List.getElem?_cons_zero, List.getElem?_cons_succ]; rfl)
    case qz142 => exact fun _ _ _ h => h
    case gz142 => rfl
    simp only [Act.put, List.setIfInBounds_toArray, List.set_cons_zero, List.set_cons_succ]
    refine wpAnyH_take (i := 44) (oi := ?oz143) (v := undef) ?iz143 (by kernel_rfl) (by kernel_rfl) (by kernel_rfl) ?qz143 (Or.inr ⟨?gz143, rfl⟩) (by assumption) ?rz143
    case iz143 => (simp only [List.getElem?_toArray, List.getElem?_cons_zero, List.getElem?_cons_succ]; rfl)
    case qz143 => exact fun _ _ _ h => h
    case gz143 => rfl
    simp only [Act.put, List.setIfInBounds_toArray, List.set_cons_zero, List.set_cons_succ]
    refine wpAnyH_take (i := 45) (oi := ?oz144) (v := undef) ?iz144 (by kernel_rfl) (by kernel_rfl) (by kernel_rfl) ?qz144 (Or.inr ⟨?gz144, rfl⟩) (by assumption) ?rz144
    case iz144 => (simp only [List.getElem?_toArray, List.getElem?_cons_zero, List.getElem?_cons_succ]; rfl)
    case qz144 => exact fun _ _ _ h => h
    case gz144 => rfl
    simp only [Act.put, List.setIfInBounds_toArray, List.set_cons_zero, List.set_cons_succ]
    refine wpAnyH_take (i := 46) (oi := ?oz145) (v := undef) ?iz145 (by kernel_rfl) (by kernel_rfl) (by kernel_rfl) ?qz145 (Or.inr ⟨?gz145, rfl⟩) (by assumption) ?rz145
    case iz145 => (simp only [List.getElem?_toArray, List.getElem?_cons_zero, List.getElem?_cons_succ]; rfl)
    case qz145 => exact fun _ _ _ h => h
    case gz145 => rfl
    simp only [Act.put, List.setIfInBounds_toArray, List.set_cons_zero, List.set_cons_succ]
    refine wpAnyH_take (i := 47) (oi := ?oz146) (v := undef) ?iz146 (by kernel_rfl) (by kernel_rfl) (by kernel_rfl) ?qz146 (Or.inr ⟨?gz146, rfl⟩) (by assumption) ?rz146
    case iz146 => (simp only [List.getElem?_toArray, List.getElem?_cons_zero, List.getElem?_cons_succ]; rfl)
    case qz146 => exact fun _ _ _ h => h
    case gz146 => rfl
    simp only [Act.put, List.setIfInBounds_toArray, List.set_cons_zero, List.set_cons_succ]
    refine wpAnyH_take (i := 48) (oi := ?oz147) (v := undef) ?iz147 (by kernel_rfl) (by kernel_rfl) (by kernel_rfl) ?qz147 (Or.inr ⟨?gz147, rfl⟩) (by assumption) ?rz147
    case iz147 => (simp only [List.getElem?_toArray, List.getElem?_cons_zero, List.getElem?_cons_succ]; rfl)
    case qz147 => exact fun _ _ _ h => h
    case gz147 => rfl
    simp only [Act.put, List.setIfInBounds_toArray, List.set_cons_zero, List.set_cons_succ]
    refine wpAnyH_take (i := 49) (oi := ?oz148) (v := undef) ?iz148 (by kernel_rfl) (by kernel_rfl) (by kernel_rfl) ?qz148 (Or.inr ⟨?gz148, rfl⟩) (by assumption) ?rz148
    case iz148 => (simp only [List.getElem?_toArray, List.getElem?_cons_zero, List.getElem?_cons_succ]; rfl)
    case qz148 => exact fun _ _ _ h => h
    case gz148 => rfl
    simp only [Act.put, List.setIfInBounds_toArray, List.set_cons_zero, List.set_cons_succ]
    refine wpAnyH_take (i := 50) (oi := ?oz149) (v := undef) ?iz149 (by kernel_rfl) (by kernel_rfl) (by kernel_rfl) ?qz149 (Or.inr ⟨?gz149, rfl⟩) (by assumption) ?rz149
    case iz149 => (simp only [List.getElem?_toArray, List.getElem?_cons_zero, List.getElem?_cons_succ]; rfl)
    case qz149 => exact fun _ _ _ h => h
    case gz149 => rfl
    simp only [Act.put, List.setIfInBounds_toArray, List.set_cons_zero, List.set_cons_succ]
    refine wpAnyH_take (i := 51) (oi := ?oz150) (v := undef) ?iz150 (by kernel_rfl) (by kernel_rfl) (by kernel_rfl) ?qz150 (Or.inr ⟨?gz150, rfl⟩) (by assumption) ?rz150
    case iz150 => (simp only [List.getElem?_toArray, List.getElem?_cons_zero, List.getElem?_cons_succ]; rfl)
    case qz150 => exact fun _ _ _ h => h
    case gz150 => rfl
    simp only [Act.put, List.setIfInBounds_toArray, List.set_cons_zero, List.set_cons_succ]
    refine wpAnyH_take (i := 52) (oi := ?oz151) (v := ?vz151) ?iz151 (by kernel_rfl) (by kernel_rfl) (by kernel_rfl) ?qz151 (Or.inl ⟨?gz151, ?hz151⟩) (by assumption) ?rz151
    case iz151 => (simp only [List.getElem?_toArray, List.getElem?_cons_zero, List.getElem?_cons_succ]; rfl)
    case qz151 => exact fun _ _ _ h => h
    case gz151 => rfl
    case hz151 => (intro w hSw; (simp only [Holds] at hSw); go_simp <;> with_reducible rfl)
    simp only [Act.put, List.setIfInBounds_toArray, List.set_cons_zero, List.set_cons_succ]
    refine wpAnyH_take (i := 53) (oi := ?oz152) (v := ?vz152) ?iz152 (by kernel_rfl) (by kernel_rfl) (by kernel_rfl) ?qz152 (Or.inl ⟨?gz152, ?hz152⟩) (by assumption) ?rz152
    case iz152 => (simp only [List.getElem?_toArray, List.getElem?_cons_zero, List.getElem?_cons_succ]; rfl)
    case qz152 => exact fun _ _ _ h => h
    case gz152 => rfl
    case hz152 => (intro w hSw; (simp only [Holds] at hSw); go_simp <;> with_reducible rfl)
    simp only [Act.put, List.setIfInBounds_toArray, List.set_cons_zero, List.set_cons_succ]
    refine wpAnyH_done (by kernel_rfl) ?_ _
    go_wp2
    go_ret
    exact ⟨ret_bool HD.out.symm, HB1.out.trans (Bc.out.mono hNW)⟩
  refine wpAnyH_take (i := 9) (oi := ?oz153) (v := ?vz153) ?iz153 (by kernel_rfl) (by kernel_rfl) (by kernel_rfl) ?qz153 (Or.inl ⟨?gz153, ?hz153⟩) (by assumption) ?rz153
  case iz153 => (simp only [List.getElem?_toArray, List.getElem?_cons_zero, List.getElem?_cons_succ]; rfl)
  case qz153 => exact fun _ _ _ h => h
  case gz153 => rfl
  case hz153 => (intro w hSw; (simp only [Holds] at hSw); go_simp <;> with_reducible rfl)
  simp only [Act.put, List.setIfInBounds_toArray, List.set_cons_zero, List.set_cons_succ]
  refine wpAnyH_take (i := 10) (oi := ?oz154) (v := ?vz154) ?iz154 (by kernel_rfl) (by kernel_rfl) (by kernel_rfl) ?qz154 (Or.inl ⟨?gz154, ?hz154⟩) (by assumption) ?rz154
  case iz154 => (simp only [List.getElem?_toArray, List.getElem?_cons_zero, List.getElem?_cons_succ]; rfl)
  case qz154 => exact fun _ _ _ h => h
  case gz154 => rfl
  case hz154 => (intro w hSw; (simp only [Holds] at hSw); go_simp <;> with_reducible rfl)
  simp only [Act.put, List.setIfInBounds_toArray, List.set_cons_zero, List.set_cons_succ]
  refine wpAnyH_take (i := 11) (oi := ?oz155) (v := ?vz155) ?iz155 (by kernel_rfl) (by kernel_rfl) (by kernel_rfl) ?qz155 (Or.inl ⟨?gz155, ?hz155⟩) (by assumption) ?rz155
  case iz155 => (simp only [List.getElem?_toArray, List.getElem?_cons_zero, List.getElem?_cons_succ]; rfl)
  case qz155 => exact fun _ _ _ h => h
  case gz155 => rfl
  case hz155 => (intro w hSw; (simp only [Holds] at hSw); go_simp <;> with_reducible rfl)
  simp only [Act.put, List.setIfInBounds_toArray, List.set_cons_zero, List.set_cons_succ]
  refine wpAnyH_take (i := 12) (oi := ?oz156) (v := ?vz156) ?iz156 (by kernel_rfl) (by kernel_rfl) (by kernel_rfl) ?qz156 (Or.inl ⟨?gz156, ?hz156⟩) (by assumption) ?rz156
  case iz156 => (simp only [List.getElem?_toArray, List.getElem?_cons_zero, List.getElem?_cons_succ]; rfl)
  case qz156 => exact fun _ _ _ h => h
  case gz156 => rfl
  case hz156 => (intro w hSw; (simp only [Holds] at hSw); go_simp <;> with_reducible rfl)
  simp only [Act.put, List.setIfInBounds_toArray, List.set_cons_zero, List.set_cons_succ]
  refine wpAnyH_ready (rs := [13]) (by kernel_rfl) (by simp) ?_
  refine AllReadyH.cons (o := ?oz157) ?iz157 (fun K hK => ?kz157) AllReadyH.nil
  case iz157 => (simp only [List.getElem?_toArray, List.getElem?_cons_zero, List.getElem?_cons_succ]; rfl)
  go_simp
  refine held_more hK HS0.out hlt (Bc.out.alloc Bc.out.size _) (fun Bc hSn => ?_)
  refine wpAnyH_ready (rs := [14]) (by kernel_rfl) (by simp) ?_
  refine AllReadyH.cons (o := ?oz158) ?iz158 (fun K hK => ?kz158) AllReadyH.nil
  case iz158 => (simp only [List.getElem?_toArray, List.getElem?_cons_zero, List.getElem?_cons_succ]; rfl)
  go_simp
  refine (within1 _ 1 1000 I.r (by go_simp)).mono ?_
  rintro e w' ⟨rfl, rfl⟩
  refine held_more hK HS0.out hlt Bc.out (fun Bc hSn => ?_)
  cases hb3 : inb 1 1000 I.r
  · have HD := Lib.hid (show mayB I = false by rw [HSM.out, hb1, hb2, hb3]; rfl)
    refine wpAnyH_take (i := 15) (oi := ?oz159) (v := ?vz159) ?iz159 (by kernel_rfl) (by kernel_rfl) (by kernel_rfl) ?qz159 (Or.inl ⟨?gz159, ?hz159⟩) (by assumption) ?rz159
    case iz159 => (simp only [List.getElem?_toArray, List.getElem?_cons_zero, List.getElem?_cons_succ]; rfl)
    case qz159 => exact fun _ _ _ h => h
    case gz159 => rfl
    case hz159 => (intro w hSw; (simp only [Holds] at hSw); go_simp <;> with_reducible rfl)
    simp only [Act.put, List.setIfInBounds_toArray, List.set_cons_zero, List.set_cons_succ]
    refine wpAnyH_take (i := 16) (oi := ?oz160) (v := ?vz160) ?iz160 (by kernel_rfl) (by kernel_rfl) (by kernel_rfl) ?qz160 (Or.inl ⟨?gz160, ?hz160⟩) (by assumption) ?rz160
    case iz160 => (simp only [List.getElem?_toArray, List.getElem?_cons_zero, List.getElem?_cons_succ]; rfl)
    case qz160 => exact fun _ _ _ h => h
    case gz160 => rfl
    case hz160 => (intro w hSw; (simp only [Holds] at hSw); go_simp <;> with_reducible rfl)
    simp only [Act.put, List.setIfInBounds_toArray, List.set_cons_zero, List.set_cons_succ]
    refine wpAnyH_take (i := 17) (oi := ?oz161) (v := undef) ?iz161 (by kernel_rfl) (by kernel_rfl) (by kernel_rfl) ?qz161 (Or.inr ⟨?gz161, rfl⟩) (by assumption) ?rz161
    case iz161 => (simp only [List.getElem?_toArray, List.getElem?_cons_zero, List.getElem?_cons_succ]; rfl)
    case qz161 => exact fun _ _ _ h => h
    case gz161 => rfl
    simp only [Act.put, List.setIfInBounds_toArray, List.set_cons_zero, List.set_cons_succ]
    refine wpAnyH_take (i := 18) (oi := ?oz162) (v := undef) ?iz162 (by kernel_rfl) (by kernel_rfl) (by kernel_rfl) ?qz162 (Or.inr ⟨?gz162, rfl⟩) (by assumption) ?rz162
    case iz162 => (simp only [List.getElem?_toArray, List.getElem?_cons_zero, List.getElem?_cons_succ]; rfl)
    case qz162 => exact fun _ _ _ h => h
    case gz162 => rfl
    simp only [Act.put, List.setIfInBounds_toArray, List.set_cons_zero, List.set_cons_succ]
    refine wpAnyH_take (i := 19) (oi := ?oz163) (v := undef) ?iz163 (by kernel_rfl) (by kernel_rfl) (by kernel_rfl) ?qz163 (Or.inr ⟨?gz163, rfl⟩) (by assumption) ?rz163
    case iz163 => (simp only [List.getElem?_toArray, List.getElem?_cons_zero, List.getElem?_cons_succ]; rfl)
    case qz163 => exact fun _ _ _ h => h
    case gz163 => rfl
    simp only [Act.put, List.setIfInBounds_toArray, List.set_cons_zero, List.set_cons_succ]
    refine wpAnyH_take (i := 20) (oi := ?oz164) (v := undef) ?iz164 (by kernel_rfl) (by kernel_rfl) (by kernel_rfl) ?qz164 (Or.inr ⟨?gz164, rfl⟩) (by assumption) ?rz164
    case iz164 => (simp only [List.getElem?_toArray, List.getElem?_cons_zero, List.getElem?_cons_succ]; rfl)
    case qz164 => exact fun _ _ _ h => h
    case gz164 => rfl
    simp only [Act.put, List.setIfInBounds_toArray, List.set_cons_zero, List.set_cons_succ]
    refine wpAnyH_take (i := 21) (oi := ?oz165) (v := undef) ?iz165 (by kernel_rfl) (by kernel_rfl) (by kernel_rfl) ?qz165 (Or.inr ⟨?gz165, rfl⟩) (by assumption) ?rz165
    case iz165 => (simp only [List.getElem?_toArray, List.getElem?_cons_zero, List.getElem?_cons_succ]; rfl)
    case qz165 => exact fun _ _ _ h => h
    case gz165 => rfl
    simp only [Act.put, List.setIfInBounds_toArray, List.set_cons_zero, List.set_cons_succ]
    refine wpAnyH_take (i := 22) (oi := ?oz166) (v := undef) ?iz166 (by kernel_rfl) (by kernel_rfl) (by kernel_rfl) ?qz166 (Or.inr ⟨?gz166, rfl⟩) (by assumption) ?rz166
    case iz166 => (simp only [List.getElem?_toArray, List.getElem?_cons_zero, List.getElem?_cons_succ]; rfl)
    case qz166 => exact fun _ _ _ h => h
    case gz166 => rfl
    simp only [Act.put, List.setIfInBounds_toArray, List.set_cons_zero, List.set_cons_succ]
    refine wpAnyH_take (i := 23) (oi := ?oz167) (v := undef) ?iz167 (by kernel_rfl) (by kernel_rfl) (by kernel_rfl) ?qz167 (Or.inr ⟨?gz167, rfl⟩) (by assumption) ?rz167
    case iz167 => (simp only [List.getElem?_toArray, List.getElem?_cons_zero, List.getElem?_cons_succ]; rfl)
    case qz167 => exact fun _ _ _ h => h
    case gz167 => rfl
    simp only [Act.put, List.setIfInBounds_toArray, List.set_cons_zero, List.set_cons_succ]
    refine wpAnyH_take (i := 24) (oi := ?oz168) (v := undef) ?iz168 (by kernel_rfl) (by kernel_rfl) (by kernel_rfl) ?qz168 (Or.inr ⟨?gz168, rfl⟩) (by assumption) ?rz168
    case iz168 => (simp only [List.getElem?_toArray, List.getElem?_cons_zero, List.getElem?_cons_succ]; rfl)
    case qz168 => exact fun _ _ _ h => h
    case gz168 => rfl
    simp only [Act.put, List.setIfInBounds_toArray, List.set_cons_zero, List.set_cons_succ]
    refine wpAnyH_take (i := 25) (oi := ?oz169) (v := ?vz169) ?iz169 (by kernel_rfl) (by kernel_rfl) (by kernel_rfl) ?qz169 (Or.inl ⟨?gz169, ?hz169⟩) (by assumption) ?rz169
    case iz169 => (simp only [List.getElem?_toArray, List.getElem?_cons_zero, List.getElem?_cons_succ]; rfl)
    case qz169 => exact fun _ _ _ h => h
    case gz169 => rfl
    case hz169 => (intro w hSw; (simp only [Holds] at hSw); go_simp <;> with_reducible rfl)
    simp only [Act.put, List.setIfInBounds_toArray, List.set_cons_zero, List.set_cons_succ]
    refine wpAnyH_take (i := 26) (oi := ?oz170) (v := ?vz170) ?iz170 (by kernel_rfl) (by kernel_rfl) (by kernel_rfl) ?qz170 (Or.inl ⟨?gz170, ?hz170⟩) (by assumption) ?rz170
    case iz170 => (simp only [List.getElem?_toArray, List.getElem?_cons_zero, List.getElem?_cons_succ]; rfl)
    case qz170 => exact fun _ _ _ h => h
    case gz170 => rfl
    case hz170 => (intro w hSw; (simp only [Holds] at hSw); go_simp <;> with_reducible rfl)
    simp only [Act.put, List.setIfInBounds_toArray, List.set_cons_zero, List.set_cons_succ]
    refine wpAnyH_take (i := 27) (oi := ?oz171) (v := undef) ?iz171 (by kernel_rfl) (by kernel_rfl) (by kernel_rfl) ?qz171 (Or.inr ⟨?gz171, rfl⟩) (by assumption) ?rz171
    case iz171 => (simp only [List.getElem?_toArray, List.getElem?_cons_zero, List.getElem?_cons_succ]; rfl)
    case qz171 => exact fun _ _ _ h => h
    case gz171 => rfl
    simp only [Act.put, List.setIfInBounds_toArray, List.set_cons_zero, List.set_cons_succ]
    refine wpAnyH_take (i := 28) (oi := ?oz172) (v := undef) ?iz172 (by kernel_rfl) (by kernel_rfl) (by kernel_rfl) ?qz172 (Or.inr ⟨?gz172, rfl⟩) (by assumption) ?rz172
    case iz172 => (simp only [List.getElem?_toArray, List.getElem?_cons_zero, List.getElem?_cons_succ]; rfl)
    case qz172 => exact fun _ _ _ h => h
    case gz172 => rfl
    simp only [Act.put, List.setIfInBounds_toArray, List.set_cons_zero, List.set_cons_succ]
    refine wpAnyH_take (i := 29) (oi := ?oz173) (v := undef) ?iz173 (by kernel_rfl) (by kernel_rfl) (by kernel_rfl) ?qz173 (Or.inr ⟨?gz173, rfl⟩) (by assumption) ?rz173
    case iz173 => (simp only [List.getElem?_toArray, List.getElem?_cons_zero, List.getElem?_cons_succ]; rfl)
    case qz173 => exact fun _ _ _ h => h
    case gz173 => rfl
    simp only [Act.put, List.setIfInBounds_toArray, List.set_cons_zero, List.set_cons_succ]
    refine wpAnyH_take (i := 30) (oi := ?oz174) (v := ?vz174) ?iz174 (by kernel_rfl) (by kernel_rfl) (by kernel_rfl) ?qz174 (Or.inl ⟨?gz174, ?hz174⟩) (by assumption) ?rz174
    case iz174 => (simp only [List.getElem?_toArray, List.getElem?_cons_zero, List.getElem?_cons_succ]; rfl)
    case qz174 => exact fun _ _ _ h => h
    case gz174 => rfl
    case hz174 => (intro w hSw; (simp only [Holds] at hSw); go_simp <;> with_reducible rfl)
    simp only [Act.put, List.setIfInBounds_toArray, List.set_cons_zero, List.set_cons_succ]
    refine wpAnyH_take (i := 31) (oi := ?oz175) (v := ?vz175) ?iz175 (by kernel_rfl) (by kernel_rfl) (by kernel_rfl) ?qz175 (Or.inl ⟨?gz175, ?hz175⟩) (by assumption) ?rz175
    case iz175 => (simp only [List.getElem?_toArray, List.getElem?_cons_zero, List.getElem?_cons_succ]; rfl)
    case qz175 => exact fun _ _ _ h => h
    case gz175 => rfl
    case hz175 => (intro w hSw; (simp only [Holds] at hSw); go_simp <;> with_reducible rfl)
    simp only [Act.put, List.setIfInBounds_toArray, List.set_cons_zero, List.set_cons_succ]
    refine wpAnyH_take (i := 32) (oi := ?oz176) (v := undef) ?iz176 (by kernel_rfl) (by kernel_rfl) (by kernel_rfl) ?qz176 (Or.inr ⟨?gz176, rfl⟩) (by assumption) ?rz176
    case iz176 => (simp only [List.getElem?_toArray, List.getElem?_cons_zero, List.getElem?_cons_succ]; rfl)
    case qz176 => exact fun _ _ _ h => h
    case gz176 => rfl
    simp only [Act.put, List.setIfInBounds_toArray, List.set_cons_zero, List.set_cons_succ]
    refine wpAnyH_take (i := 33) (oi := ?oz177) (v := undef) ?iz177 (by kernel_rfl) (by kernel_rfl) (by kernel_rfl) ?qz177 (Or.inr ⟨?gz177, rfl⟩) (by assumption) ?rz177
    case iz177 => (simp only [List.getElem?_toArray, List.getElem?_cons_zero, List.getElem?_cons_succ]; rfl)
    case qz177 => exact fun _ _ _ h => h
    case gz177 => rfl
    simp only [Act.put, List.setIfInBounds_toArray, List.set_cons_zero, List.set_cons_succ]
    refine wpAnyH_take (i := 34) (oi := ?oz178) (v := undef) ?iz178 (by kernel_rfl) (by kernel_rfl) (by kernel_rfl) ?qz178 (Or.inr ⟨?gz178, rfl⟩) (by assumption) ?rz178
    case iz178 => (simp only [List.getElem?_toArray, List.getElem?_cons_zero, List.getElem?_cons_succ]; rfl)
    case qz178 => exact fun _ _ _ h => h
    case gz178 => rfl
    simp only [Act.put, List.setIfInBounds_toArray, List.set_cons_zero, List.set_cons_succ]
    refine wpAnyH_take (i := 35) (oi := ?oz179) (v := undef) ?iz179 (by kernel_rfl) (by kernel_rfl) (by kernel_rfl) ?qz179 (Or.inr ⟨?gz179, rfl⟩) (by assumption) ?rz179
    case iz179 => (simp only [List.getElem?_toArray, List.getElem?_cons_zero, List.getElem?_cons_succ]; rfl)
    case qz179 => exact fun _ _ _ h => h
    case gz179 => rfl
    simp only [Act.put, List.setIfInBounds_toArray, List.set_cons_zero, List.set_cons_succ]
    refine wpAnyH_take (i := 36) (oi := ?oz180) (v := undef) ?iz180 (by kernel_rfl) (by kernel_rfl) (by kernel_rfl) ?qz180 (Or.inr ⟨?gz180, rfl⟩) (by assumption) ?rz180
    case iz180 => (simp only [List.getElem?_toArray, List.getElem?_cons_zero, List.getElem?_cons_succ]; rfl)
    case qz180 => exact fun _ _ _ h => h
    case gz180 => rfl
    simp only [Act.put, List.setIfInBounds_toArray, List.set_cons_zero, List.set_cons_succ]
    refine wpAnyH_take (i := 37) (oi := ?oz181) (v := ?vz181) ?iz181 (by kernel_rfl) (by kernel_rfl) (by kernel_rfl) ?qz181 (Or.inl ⟨?gz181, ?hz181⟩) (by assumption) ?rz181
    case iz181 => (simp only [List.getElem?_toArray, List.getElem?_cons_zero, List.getElem?_cons_succ]; rfl)
    case qz181 => exact fun _ _ _ h => h
    case gz181 => rfl
    case hz181 => (intro w hSw; (simp only [Holds] at hSw); go_simp <;> with_reducible rfl)
    simp only [Act.put, List.setIfInBounds_toArray, List.set_cons_zero, List.set_cons_succ]
    refine wpAnyH_take (i := 38) (oi := ?oz182) (v := ?vz182) ?iz182 (by kernel_rfl) (by kernel_rfl) (by kernel_rfl) ?qz182 (Or.inl ⟨?gz182, ?hz182⟩) (by assumption) ?rz182
    case iz182 => (simp only [List.getElem?_toArray, List.getElem?_cons_zero, List.getElem?_cons_succ]; rfl)
    case qz182 => exact fun _ _ _ h => h
    case gz182 => rfl
    case hz182 => (intro w hSw; (simp only [Holds] at hSw); go_simp <;> with_reducible rfl)
    simp only [Act.put, List.setIfInBounds_toArray, List.set_cons_zero, List.set_cons_succ]
    refine wpAnyH_take (i := 39) (oi := ?oz183) (v := undef) ?iz183 (by kernel_rfl) (by kernel_rfl) (by kernel_rfl) ?qz183 (Or.inr ⟨?gz183, rfl⟩) (by assumption) ?rz183
    case iz183 => (simp only [List.getElem?_toArray, List.getElem?_cons_zero, List.getElem?_cons_succ]; rfl)
    case qz183 => exact fun _ _ _ h => h
    case gz183 => rfl
    simp only [Act.put, List.setIfInBounds_toArray, List.set_cons_zero, List.set_cons_succ]
    refine wpAnyH_take (i := 40) (oi := ?oz184) (v := undef) ?iz184 (by kernel_rfl) (by kernel_rfl) (by kernel_rfl) ?qz184 (Or.inr ⟨?gz184, rfl⟩) (by assumption) ?rz184
    case iz184 => (simp only [List.getElem?_toArray, List.getElem?_cons_zero, List.getElem?_cons_succ]; rfl)
    case qz184 => exact fun _ _ _ h => h
    case gz184 => rfl
    simp only [Act.put, List.setIfInBounds_toArray, List.set_cons_zero, List.set_cons_succ]
    refine wpAnyH_take (i := 41) (oi := ?oz185) (v := undef) ?iz185 (by kernel_rfl) (by kernel_rfl) (by kernel_rfl) ?qz185 (Or.inr ⟨?gz185, rfl⟩) (by assumption) ?rz185
    case iz185 => (simp only [List.getElem?_toArray, List.getElem?_cons_zero, List.getElem?_cons_succ]; rfl)
    case qz185 => exact fun _ _ _ h => h
    case gz185 => rfl
    simp only [Act.put, List.setIfInBounds_toArray, List.set_cons_zero, List.set_cons_succ]
    refine wpAnyH_take (i := 42) (oi := ?oz186) (v := undef) ?iz186 (by kernel_rfl) (by kernel_rfl) (by kernel_rfl) ?qz186 (Or.inr ⟨?gz186, rfl⟩) (by assumption) ?rz186
    case iz186 => (simp only [List.getElem?_toArray, List.getElem?_cons_zero, List.getElem?_cons_succ]; rfl)
    case qz186 => exact fun _ _ _ h => h
    case gz186 => rfl
    simp only [Act.put, List.setIfInBounds_toArray, List.set_cons_zero, List.set_cons_succ]
    refine wpAnyH_take (i := 43) (oi := ?oz187) (v := undef) ?iz187 (by kernel_rfl) (by kernel_rfl) (by kernel_rfl) ?qz187 (Or.inr ⟨?gz187, rfl⟩) (by assumption) ?rz187
    case iz187 => (simp only [List.getElem?_toArray, List.getElem?_cons_zero, List.getElem?_cons_succ]; rfl)
    case qz187 => exact fun _ _ _ h => h
    case gz187 => rfl
    simp only [Act.put, List.setIfInBounds_toArray, List.set_cons_zero, List.set_cons_succ]
    refine wpAnyH_take (i := 44) (oi := ?oz188) (v := undef) ?iz188 (by kernel_rfl) (by kernel_rfl) (by kernel_rfl) ?qz188 (Or.inr ⟨?gz188, rfl⟩) (by assumption) ?rz188
    case iz188 => (simp only [List.getElem?_toArray, List.getElem?_cons_zero, List.getElem?_cons_succ]; rfl)
    case qz188 => exact fun _ _ _ h => h
    case gz188 => rfl
    simp only [Act.put, List.setIfInBounds_toArray, List.set_cons_zero, List.set_cons_succ]
    refine wpAnyH_take (i := 45) (oi := ?oz189) (v := undef) ?iz189 (by kernel_rfl) (by kernel_rfl) (by kernel_rfl) ?qz189 (Or.inr ⟨?gz189, rfl⟩) (by assumption) ?rz189
    case iz189 => (simp only [List.getElem?_toArray, List.getElem?_cons_zero, List.getElem?_cons_succ]; rfl)
    case qz189 => exact fun _ _ _ h => h
    case gz189 => rfl
    simp only [Act.put, List.setIfInBounds_toArray, List.set_cons_zero, List.set_cons_succ]
    refine wpAnyH_take (i := 46) (oi := ?oz190) (v := undef) ?iz190 (by kernel_rfl) (by kernel_rfl) (by kernel_rfl) ?qz190 (Or.inr ⟨?gz190, rfl⟩) (by assumption) ?rz190
    case iz190 => (simp only [List.getElem?_toArray, List.getElem?_cons_zero, List.getElem?_cons_succ]; rfl)
    case qz190 => exact fun _ _ _ h => h
    case gz190 => rfl
    simp only [Act.put, List.setIfInBounds_toArray, List.set_cons_zero, List.set_cons_succ]
    refine wpAnyH_take (i := 47) (oi := ?oz191) (v := undef) ?iz191 (by kernel_rfl) (by kernel_rfl) (by kernel_rfl) ?qz191 (Or.inr ⟨?gz191, rfl⟩) (by assumption) ?rz191
    case iz191 => (simp only [List.getElem?_toArray, List.getElem?_cons_zero, List.getElem?_cons_succ]; rfl)
    case qz191 => exact fun _ _ _ h => h
    case gz191 => rfl
    simp only [Act.put, List.setIfInBounds_toArray, List.set_cons_zero, List.set_cons_succ]
    refine wpAnyH_take (i := 48) (oi := ?oz192) (v := undef) ?iz192 (by kernel_rfl) (by kernel_rfl) (by kernel_rfl) ?qz192 (Or.inr ⟨?gz192, rfl⟩) (by assumption) ?rz192
    case iz192 => (simp only [List.getElem?_toArray, List.getElem?_cons_zero, List.getElem?_cons_succ]; rfl)
    case qz192 => exact fun _ _ _ h => h
    case gz192 => rfl
    simp only [Act.put, List.setIfInBounds_toArray, List.set_cons_zero, List.set_cons_succ]
    refine wpAnyH_take (i := 49) (oi := ?oz193) (v := undef) ?iz193 (by kernel_rfl) (by kernel_rfl) (by kernel_rfl) ?qz193 (Or.inr ⟨?gz193, rfl⟩) (by assumption) ?rz193
    case iz193 => (simp only [List.getElem?_toArray, List.getElem?_cons_zero, List.getElem?_cons_succ]; rfl)
    case qz193 => exact fun _ _ _ h => h
    case gz193 => rfl
    simp only [Act.put, List.setIfInBounds_toArray, List.set_cons_zero, List.set_cons_succ]
    refine wpAnyH_take (i := 50) (oi := ?oz194) (v := undef) ?iz194 (by kernel_rfl) (by kernel_rfl) (by kernel_rfl) ?qz194 (Or.inr ⟨?gz194, rfl⟩) (by assumption) ?rz194
    case iz194 => (simp only [List.getElem?_toArray, List.getElem?_cons_zero, List.getElem?_cons_succ]; rfl)
    case qz194 => exact fun _ _ _ h => h
    case gz194 => rfl
    simp only [Act.put, List.setIfInBounds_toArray, List.set_cons_zero, List.set_cons_succ]
    refine wpAnyH_take (i := 51) (oi := ?oz195) (v := undef) ?iz195 (by kernel_rfl) (by kernel_rfl) (by kernel_rfl) ?qz195 (Or.inr ⟨?gz195, rfl⟩) (by assumption) ?rz195
    case iz195 => (simp only [List.getElem?_toArray, List.getElem?_cons_zero, List.getElem?_cons_succ]; rfl)
    case qz195 => exact fun _ _ _ h => h
    case gz195 => rfl
    simp only [Act.put, List.setIfInBounds_toArray, List.set_cons_zero, List.set_cons_succ]
    refine wpAnyH_take (i := 52) (oi := ?oz196) (v := ?vz196) ?iz196 (by kernel_rfl) (by kernel_rfl) (by kernel_rfl) ?qz196 (Or.inl ⟨?gz196, ?hz196⟩) (by assumption) ?rz196
    case iz196 => (simp only [List.getElem?_toArray, List.getElem?_cons_zero, List.getElem?_cons_succ]; rfl)
    case qz196 => exact fun _ _ _ h => h
    case gz196 => rfl
    case hz196 => (intro w hSw; (simp only [Holds] at hSw); go_simp <;> with_reducible rfl)
    simp only [Act.put, List.setIfInBounds_toArray, List.set_cons_zero, List.set_cons_succ]
    refine wpAnyH_take (i := 53) (oi := ?oz197) (v := ?vz197) ?iz197 (by kernel_rfl) (by kernel_rfl) (by kernel_rfl) ?qz197 (Or.inl ⟨?gz197, ?hz197⟩) (by assumption) ?rz197
    case iz197 => (simp only [List.getElem?_toArray, List.getElem?_cons_zero, List.getElem?_cons_succ]; rfl)
    case qz197 => exact fun _ _ _ h => h
    case gz197 => rfl
    case hz197 => (intro w hSw; (simp only [Holds] at hSw); go_simp <;> with_reducible rfl)
    simp only [Act.put, List.setIfInBounds_toArray, List.set_cons_zero, List.set_cons_succ]
    refine wpAnyH_done (by kernel_rfl) ?_ _
    go_wp2
    go_ret
    exact ⟨ret_bool HD.out.symm, HB1.out.trans (Bc.out.mono hNW)⟩
  have e4 := eql_len I.l.length I.p
  refine wpAnyH_take (i := 15) (oi := ?oz198) (v := ?vz198) ?iz198 (by kernel_rfl) (by kernel_rfl) (by kernel_rfl) ?qz198 (Or.inl ⟨?gz198, ?hz198⟩) (by assumption) ?rz198
  case iz198 => (simp only [List.getElem?_toArray, List.getElem?_cons_zero, List.getElem?_cons_succ]; rfl)
  case qz198 => exact fun _ _ _ h => h
  case gz198 => rfl
  case hz198 => (intro w hSw; (simp only [Holds] at hSw); go_simp <;> with_reducible rfl)
  simp only [Act.put, List.setIfInBounds_toArray, List.set_cons_zero, List.set_cons_succ]
  refine wpAnyH_take (i := 16) (oi := ?oz199) (v := ?vz199) ?iz199 (by kernel_rfl) (by kernel_rfl) (by kernel_rfl) ?qz199 (Or.inl ⟨?gz199, ?hz199⟩) (by assumption) ?rz199
  case iz199 => (simp only [List.getElem?_toArray, List.getElem?_cons_zero, List.getElem?_cons_succ]; rfl)
  case qz199 => exact fun _ _ _ h => h
  case gz199 => rfl
  case hz199 => (intro w hSw; (simp only [Holds] at hSw); go_simp <;> with_reducible rfl)
  simp only [Act.put, List.setIfInBounds_toArray, List.set_cons_zero, List.set_cons_succ]
  refine wpAnyH_take (i := 17) (oi := ?oz200) (v := ?vz200) ?iz200 (by kernel_rfl) (by kernel_rfl) (by kernel_rfl) ?qz200 (Or.inl ⟨?gz200, ?hz200⟩) (by assumption) ?rz200
  case iz200 => (simp only [List.getElem?_toArray, List.getElem?_cons_zero, List.getElem?_cons_succ]; rfl)
  case qz200 => exact fun _ _ _ h => h
  case gz200 => rfl
  case hz200 => (intro w hSw; (simp only [Holds] at hSw); go_simp <;> with_reducible rfl)
  simp only [Act.put, List.setIfInBounds_toArray, List.set_cons_zero, List.set_cons_succ]
  refine wpAnyH_take (i := 18) (oi := ?oz201) (v := ?vz201) ?iz201 (by kernel_rfl) (by kernel_rfl) (by kernel_rfl) ?qz201 (Or.inl ⟨?gz201, ?hz201⟩) (by assumption) ?rz201
  case iz201 => (simp only [List.getElem?_toArray, List.getElem?_cons_zero, List.getElem?_cons_succ]; rfl)
  case qz201 => exact fun _ _ _ h => h
  case gz201 => rfl
  case hz201 => (intro w hSw; (simp only [Holds] at hSw); go_simp <;> with_reducible rfl)
  simp only [Act.put, List.setIfInBounds_toArray, List.set_cons_zero, List.set_cons_succ]
  refine wpAnyH_take (i := 19) (oi := ?oz202) (v := ?vz202) ?iz202 (by kernel_rfl) (by kernel_rfl) (by kernel_rfl) ?qz202 (Or.inl ⟨?gz202, ?hz202⟩) (by assumption) ?rz202
  case iz202 => (simp only [List.getElem?_toArray, List.getElem?_cons_zero, List.getElem?_cons_succ]; rfl)
  case qz202 => exact fun _ _ _ h => h
  case gz202 => rfl
  case hz202 => (intro w hSw; (simp only [Holds] at hSw); go_simp <;> with_reducible rfl)
  simp only [Act.put, List.setIfInBounds_toArray, List.set_cons_zero, List.set_cons_succ]
  refine wpAnyH_take (i := 20) (oi := ?oz203) (v := ?vz203) ?iz203 (by kernel_rfl) (by kernel_rfl) (by kernel_rfl) ?qz203 (Or.inl ⟨?gz203, ?hz203⟩) (by assumption) ?rz203
  case iz203 => (simp only [List.getElem?_toArray, List.getElem?_cons_zero, List.getElem?_cons_succ]; rfl)
  case qz203 => exact fun _ _ _ h => h
  case gz203 => rfl
  case hz203 => (intro w hSw; (simp only [Holds] at hSw); go_simp <;> with_reducible rfl)
  simp only [Act.put, List.setIfInBounds_toArray, List.set_cons_zero, List.set_cons_succ]
  refine wpAnyH_take (i := 21) (oi := ?oz204) (v := ?vz204) ?iz204 (by kernel_rfl) (by kernel_rfl) (by kernel_rfl) ?qz204 (Or.inl ⟨?gz204, ?hz204⟩) (by assumption) ?rz204
  case iz204 => (simp only [List.getElem?_toArray, List.getElem?_cons_zero, List.getElem?_cons_succ]; rfl)
  case qz204 => exact fun _ _ _ h => h
  case gz204 => rfl
  case hz204 => (intro w hSw; (simp only [Holds] at hSw); go_simp <;> with_reducible rfl)
  simp only [Act.put, List.setIfInBounds_toArray, List.set_cons_zero, List.set_cons_succ]
  refine wpAnyH_take (i := 22) (oi := ?oz205) (v := ?vz205) ?iz205 (by kernel_rfl) (by kernel_rfl) (by kernel_rfl) ?qz205 (Or.inl ⟨?gz205, ?hz205⟩) (by assumption) ?rz205
  case iz205 => (simp only [List.getElem?_toArray, List.getElem?_cons_zero, List.getElem?_cons_succ]; rfl)
  case qz205 => exact fun _ _ _ h => h
  case gz205 => rfl
  case hz205 => (intro w hSw; (simp only [Holds] at hSw); go_simp <;> with_reducible rfl)
  simp only [Act.put, List.setIfInBounds_toArray, List.set_cons_zero, List.set_cons_succ]
  refine wpAnyH_take (i := 23) (oi := ?oz206) (v := ?vz206) ?iz206 (by kernel_rfl) (by kernel_rfl) (by kernel_rfl) ?qz206 (Or.inl ⟨?gz206, ?hz206⟩) (by assumption) ?rz206
  case iz206 => (simp only [List.getElem?_toArray, List.getElem?_cons_zero, List.getElem?_cons_succ]; rfl)
  case qz206 => exact fun _ _ _ h => h
  case gz206 => rfl
  case hz206 => (intro w hSw; (simp only [Holds] at hSw); go_simp <;> with_reducible rfl)
  simp only [Act.put, List.setIfInBounds_toArray, List.set_cons_zero, List.set_cons_succ]
  refine wpAnyH_take (i := 24) (oi := ?oz207) (v := ?vz207) ?iz207 (by kernel_rfl) (by kernel_rfl) (by kernel_rfl) ?qz207 (Or.inl ⟨?gz207, ?hz207⟩) (by assumption) ?rz207
  case iz207 => (simp only [List.getElem?_toArray, List.getElem?_cons_zero, List.getElem?_cons_succ]; rfl)
  case qz207 => exact fun _ _ _ h => h
  case gz207 => rfl
  case hz207 => (intro w hSw; (simp only [Holds] at hSw); go_simp <;> with_reducible rfl)
  simp only [Act.put, List.setIfInBounds_toArray, List.set_cons_zero, List.set_cons_succ]
  clear e4
  cases hb4 : lenOk I.p I.l.length
  · have HD := Lib.hid (show mayB I = false by rw [HSM.out, hb1, hb2, hb3, hb4]; rfl)
    refine wpAnyH_take (i := 25) (oi := ?oz208) (v := ?vz208) ?iz208 (by kernel_rfl) (by kernel_rfl) (by kernel_rfl) ?qz208 (Or.inl ⟨?gz208, ?hz208⟩) (by assumption) ?rz208
    case iz208 => (simp only [List.getElem?_toArray, List.getElem?_cons_zero, List.getElem?_cons_succ]; rfl)
    case qz208 => exact fun _ _ _ h => h
    case gz208 => rfl
    case hz208 => (intro w hSw; (simp only [Holds] at hSw); go_simp <;> with_reducible rfl)
    simp only [Act.put, List.setIfInBounds_toArray, List.set_cons_zero, List.set_cons_succ]
    refine wpAnyH_take (i := 26) (oi := ?oz209) (v := ?vz209) ?iz209 (by kernel_rfl) (by kernel_rfl) (by kernel_rfl) ?qz209 (Or.inl ⟨?gz209, ?hz209⟩) (by assumption) ?rz209
    case iz209 => (simp only [List.getElem?_toArray, List.getElem?_cons_zero, List.getElem?_cons_succ]; rfl)
    case qz209 => exact fun _ _ _ h => h
    case gz209 => rfl
    case hz209 => (intro w hSw; (simp only [Holds] at hSw); go_simp <;> with_reducible rfl)
    simp only [Act.put, List.setIfInBounds_toArray, List.set_cons_zero, List.set_cons_succ]
    refine wpAnyH_take (i := 27) (oi := ?oz210) (v := undef) ?iz210 (by kernel_rfl) (by kernel_rfl) (by kernel_rfl) ?qz210 (Or.inr ⟨?gz210, rfl⟩) (by assumption) ?rz210
    case iz210 => (simp only [List.getElem?_toArray, List.getElem?_cons_zero, List.getElem?_cons_succ]; rfl)
    case qz210 => exact fun _ _ _ h => h
    case gz210 => rfl
    simp only [Act.put, List.setIfInBounds_toArray, List.set_cons_zero, List.set_cons_succ]
    refine wpAnyH_take (i := 28) (oi := ?oz211) (v := undef) ?iz211 (by kernel_rfl) (by kernel_rfl) (by kernel_rfl) ?qz211 (Or.inr ⟨?gz211, rfl⟩) (by assumption) ?rz211
    case iz211 => (simp only [List.getElem?_toArray, List.getElem?_cons_zero, List.getElem?_cons_succ]; rfl)
    case qz211 => exact fun _ _ _ h => h
    case gz211 => rfl
    simp only [Act.put, List.setIfInBounds_toArray, List.set_cons_zero, List.set_cons_succ]
    refine wpAnyH_take (i := 29) (oi := ?oz212) (v := undef) ?iz212 (by kernel_rfl) (by kernel_rfl) (by kernel_rfl) ?qz212 (Or.inr ⟨?gz212, rfl⟩) (by assumption) ?rz212
    case iz212 => (simp only [List.getElem?_toArray, List.getElem?_cons_zero, List.getElem?_cons_succ]; rfl)
    case qz212 => exact fun _ _ _ h => h
    case gz212 => rfl
    simp only [Act.put, List.setIfInBounds_toArray, List.set_cons_zero, List.set_cons_succ]
    refine wpAnyH_take (i := 30) (oi := ?oz213) (v := ?vz213) ?iz213 (by kernel_rfl) (by kernel_rfl) (by kernel_rfl) ?qz213 (Or.inl ⟨?gz213, ?hz213⟩) (by assumption) ?rz213
    case iz213 => (simp only [List.getElem?_toArray, List.getElem?_cons_zero, List.getElem?_cons_succ]; rfl)
    case qz213 => exact fun _ _ _ h => h
    case gz213 => rfl
    case hz213 => (intro w hSw; (simp only [Holds] at hSw); go_simp <;> with_reducible rfl)
    simp only [Act.put, List.setIfInBounds_toArray, List.set_cons_zero, List.set_cons_succ]
    refine wpAnyH_take (i := 31) (oi := ?oz214) (v := ?vz214) ?iz214 (by kernel_rfl) (by kernel_rfl) (by kernel_rfl) ?qz214 (Or.inl ⟨?gz214, ?hz214⟩) (by assumption) ?rz214
    case iz214 => (simp only [List.getElem?_toArray, List.getElem?_cons_zero, List.getElem?_cons_succ]; rfl)
    case qz214 => exact fun _ _ _ h => h
    case gz214 => rfl
    case hz214 => (intro w hSw; (simp only [Holds] at hSw); go_simp <;> with_reducible rfl)
    simp only [Act.put, List.setIfInBounds_toArray, List.set_cons_zero, List.set_cons_succ]
    refine wpAnyH_take (i := 32) (oi := ?oz215) (v := undef) ?iz215 (by kernel_rfl) (by kernel_rfl) (by kernel_rfl) ?qz215 (Or.inr ⟨?gz215, rfl⟩) (by assumption) ?rz215
    case iz215 => (simp only [List.getElem?_toArray, List.getElem?_cons_zero, List.getElem?_cons_succ]; rfl)
    case qz215 => exact fun _ _ _ h => h
    case gz215 => rfl
    simp only [Act.put, List.setIfInBounds_toArray, List.set_cons_zero, List.set_cons_succ]
    refine wpAnyH_take (i := 33) (oi := ?oz216) (v := undef) ?iz216 (by kernel_rfl) (by kernel_rfl) (by kernel_rfl) ?qz216 (Or.inr ⟨?gz216, rfl⟩) (by assumption) ?rz216
    case iz216 => (simp only [List.getElem?_toArray, List.getElem?_cons_zero, List.getElem?_cons_succ]; rfl)
    case qz216 => exact fun _ _ _ h => h
    case gz216 => rfl
    simp only [Act.put, List.setIfInBounds_toArray, List.set_cons_zero, List.set_cons_succ]
    refine wpAnyH_take (i := 34) (oi := ?oz217) (v := undef) ?iz217 (by kernel_rfl) (by kernel_rfl) (by kernel_rfl) ?qz217 (Or.inr ⟨?gz217, rfl⟩) (by assumption) ?rz217
    case iz217 => (simp only [List.getElem?_toArray, List.getElem?_cons_zero, List.getElem?_cons_succ]; rfl)
    case qz217 => exact fun _ _ _ h => h
    case gz217 => rfl
    simp only [Act.put, List.setIfInBounds_toArray, List.set_cons_zero, List.set_cons_succ]
    refine wpAnyH_take (i := 35) (oi := ?oz218) (v := undef) ?iz218 (by kernel_rfl) (by kernel_rfl) (by kernel_rfl) ?qz218 (Or.inr ⟨?gz218, rfl⟩) (by assumption) ?rz218
    case iz218 => (simp only [List.getElem?_toArray, List.getElem?_cons_zero, List.getElem?_cons_succ]; rfl)
    case qz218 => exact fun _ _ _ h => h
    case gz218 => rfl
    simp only [Act.put, List.setIfInBounds_toArray, List.set_cons_zero, List.set_cons_succ]
    refine wpAnyH_take (i := 36) (oi := ?oz219) (v := undef) ?iz219 (by kernel_rfl) (by kernel_rfl) (by kernel_rfl) ?qz219 (Or.inr ⟨?gz219, rfl⟩) (by assumption) ?rz219
    case iz219 => (simp only [List.getElem?_toArray, List.getElem?_cons_zero, List.getElem?_cons_succ]; rfl)
    case qz219 => exact fun _ _ _ h => h
    case gz219 => rfl
    simp only [Act.put, List.setIfInBounds_toArray, List.set_cons_zero, List.set_cons_succ]
    refine wpAnyH_take (i := 37) (oi := ?oz220) (v := ?vz220) ?iz220 (by kernel_rfl) (by kernel_rfl) (by kernel_rfl) ?qz220 (Or.inl ⟨?gz220, ?hz220⟩) (by assumption) ?rz220
    case iz220 => (simp only [List.getElem?_toArray, List.getElem?_cons_zero, List.getElem?_cons_succ]; rfl)
    case qz220 => exact fun _ _ _ h => h
    case gz220 => rfl
    case hz220 => (intro w hSw; (simp only [Holds] at hSw); go_simp <;> with_reducible rfl)
    simp only [Act.put, List.setIfInBounds_toArray, List.set_cons_zero, List.set_cons_succ]
    refine wpAnyH_take (i := 38) (oi := ?oz221) (v := ?vz221) ?iz221 (by kernel_rfl) (by kernel_rfl) (by kernel_rfl) ?qz221 (Or.inl ⟨?gz221, ?hz221⟩) (by assumption) ?rz221
    case iz221 => (simp only [List.getElem?_toArray, List.getElem?_cons_zero, List.getElem?_cons_succ]; rfl)
    case qz221 => exact fun _ _ _ h => h
    case gz221 => rfl
    case hz221 => (intro w hSw; (simp only [Holds] at hSw); go_simp <;> with_reducible rfl)
    simp only [Act.put, List.setIfInBounds_toArray, List.set_cons_zero, List.set_cons_succ]
    refine wpAnyH_take (i := 39) (oi := ?oz222) (v := undef) ?iz222 (by kernel_rfl) (by kernel_rfl) (by kernel_rfl) ?qz222 (Or.inr ⟨?gz222, rfl⟩) (by assumption) ?rz222
    case iz222 => (simp only [List.getElem?_toArray, List.getElem?_cons_zero, List.getElem?_cons_succ]; rfl)
    case qz222 => exact fun _ _ _ h => h
    case gz222 => rfl
    simp only [Act.put, List.setIfInBounds_toArray, List.set_cons_zero, List.set_cons_succ]
    refine wpAnyH_take (i := 40) (oi := ?oz223) (v := undef) ?iz223 (by kernel_rfl) (by kernel_rfl) (by kernel_rfl) ?qz223 (Or.inr ⟨?gz223, rfl⟩) (by assumption) ?rz223
    case iz223 => (simp only [List.getElem?_toArray, List.getElem?_cons_zero, List.getElem?_cons_succ]; rfl)
    case qz223 => exact fun _ _ _ h => h
    case gz223 => rfl
    simp only [Act.put, List.setIfInBounds_toArray, List.set_cons_zero, List.set_cons_succ]
    refine wpAnyH_take (i := 41) (oi := ?oz224) (v := undef) ?iz224 (by kernel_rfl) (by kernel_rfl) (by kernel_rfl) ?qz224 (Or.inr ⟨?gz224, rfl⟩) (by assumption) ?rz224
    case iz224 => (simp only [List.getElem?_toArray, List.getElem?_cons_zero, List.getElem?_cons_succ]; rfl)
    case qz224 => exact fun _ _ _ h => h
    case gz224 => rfl
    simp only [Act.put, List.setIfInBounds_toArray, List.set_cons_zero, List.set_cons_succ]
    refine wpAnyH_take (i := 42) (oi := ?oz225) (v := undef) ?iz225 (by kernel_rfl) (by kernel_rfl) (by kernel_rfl) ?qz225 (Or.inr ⟨?gz225, rfl⟩) (by assumption) ?rz225
    case iz225 => (simp only [List.getElem?_toArray, List.getElem?_cons_zero, List.getElem?_cons_succ]; rfl)
    case qz225 => exact fun _ _ _ h => h
    case gz225 => rfl
    simp only [Act.put, List.setIfInBounds_toArray, List.set_cons_zero, List.set_cons_succ]
    refine wpAnyH_take (i := 43) (oi := ?oz226) (v := undef) ?iz226 (by kernel_rfl) (by kernel_rfl) (by kernel_rfl) ?qz226 (Or.inr ⟨?gz226, rfl⟩) (by assumption) ?rz226
    case iz226 => (simp only [List.getElem?_toArray, List.getElem?_cons_zero, List.getElem?_cons_succ]; rfl)
    case qz226 => exact fun _ _ _ h => h
    case gz226 => rfl
    simp only [Act.put, List.setIfInBounds_toArray, List.set_cons_zero, List.set_cons_succ]
    refine wpAnyH_take (i := 44) (oi := ?oz227) (v := undef) ?iz227 (by kernel_rfl) (by kernel_rfl) (by kernel_rfl) ?qz227 (Or.inr ⟨?gz227, rfl⟩) (by assumption) ?rz227
    case iz227 => (simp only [List.getElem?_toArray, List.getElem?_cons_zero, List.getElem?_cons_succ]; rfl)
    case qz227 => exact fun _ _ _ h => h
    case gz227 => rfl
    simp only [Act.put, List.setIfInBounds_toArray, List.set_cons_zero, List.set_cons_succ]
    refine wpAnyH_take (i := 45) (oi := ?oz228) (v := undef) ?iz228 (by kernel_rfl) (by kernel_rfl) (by kernel_rfl) ?qz228 (Or.inr ⟨?gz228, rfl⟩) (by assumption) ?rz228
    case iz228 => (simp only [List.getElem?_toArray, List.getElem?_cons_zero, List.getElem?_cons_succ]; rfl)
    case qz228 => exact fun _ _ _ h => h
    case gz228 => rfl
    simp only [Act.put, List.setIfInBounds_toArray, List.set_cons_zero, List.set_cons_succ]
    refine wpAnyH_take (i := 46) (oi := ?oz229) (v := undef) ?iz229 (by kernel_rfl) (by kernel_rfl) (by kernel_rfl) ?qz229 (Or.inr ⟨?gz229, rfl⟩) (by assumption) ?rz229
    case iz229 => (simp only [List.getElem?_toArray, List.getElem?_cons_zero, List.getElem?_cons_succ]; rfl)
    case qz229 => exact fun _ _ _ h => h
    case gz229 => rfl
    simp only [Act.put, List.setIfInBounds_toArray, List.set_cons_zero, List.set_cons_succ]
    refine wpAnyH_take (i := 47) (oi := ?oz230) (v := undef) ?iz230 (by kernel_rfl) (by kernel_rfl) (by kernel_rfl) ?qz230 (Or.inr ⟨?gz230, rfl⟩) (by assumption) ?rz230
    case iz230 => (simp only [List.getElem?_toArray, List.getElem?_cons_zero, List.getElem?_cons_succ]; rfl)
    case qz230 => exact fun _ _ _ h => h
    case gz230 => rfl
    simp only [Act.put, List.setIfInBounds_toArray, List.set_cons_zero, List.set_cons_succ]
    refine wpAnyH_take (i := 48) (oi := ?oz231) (v := undef) ?iz231 (by kernel_rfl) (by kernel_rfl) (by kernel_rfl) ?qz231 (Or.inr ⟨?gz231, rfl⟩) (by assumption) ?rz231
    case iz231 => (simp only [List.getElem?_toArray, List.getElem?_cons_zero, List.getElem?_cons_succ]; rfl)
    case qz231 => exact fun _ _ _ h => h
    case gz231 => rfl
    simp only [Act.put, List.setIfInBounds_toArray, List.set_cons_zero, List.set_cons_succ]
    refine wpAnyH_take (i := 49) (oi := ?oz232) (v := undef) ?iz232 (by kernel_rfl) (by kernel_rfl) (by kernel_rfl) ?qz232 (Or.inr ⟨?gz232, rfl⟩) (by assumption) ?rz232
    case iz232 => (simp only [List.getElem?_toArray, List.getElem?_cons_zero, List.getElem?_cons_succ]; rfl)
    case qz232 => exact fun _ _ _ h => h
    case gz232 => rfl
    simp only [Act.put, List.setIfInBounds_toArray, List.set_cons_zero, List.set_cons_succ]
    refine wpAnyH_take (i := 50) (oi := ?oz233) (v := undef) ?iz233 (by kernel_rfl) (by kernel_rfl) (by kernel_rfl) ?qz233 (Or.inr ⟨?gz233, rfl⟩) (by assumption) ?rz233
    case iz233 => (simp only [List.getElem?_toArray, List.getElem?_cons_zero, List.getElem?_cons_succ]; rfl)
    case qz233 => exact fun _ _ _ h => h
    case gz233 => rfl
    simp only [Act.put, List.setIfInBounds_toArray, List.set_cons_zero, List.set_cons_succ]
    refine wpAnyH_take (i := 51) (oi := ?oz234) (v := undef) ?iz234 (by kernel_rfl) (by kernel_rfl) (by kernel_rfl) ?qz234 (Or.inr ⟨?gz234, rfl⟩) (by assumption) ?rz234
    case iz234 => (simp only [List.getElem?_toArray, List.getElem?_cons_zero, List.getElem?_cons_succ]; rfl)
    case qz234 => exact fun _ _ _ h => h
    case gz234 => rfl
    simp only [Act.put, List.setIfInBounds_toArray, List.set_cons_zero, List.set_cons_succ]
    refine wpAnyH_take (i := 52) (oi := ?oz235) (v := ?vz235) ?iz235 (by kernel_rfl) (by kernel_rfl) (by kernel_rfl) ?qz235 (Or.inl ⟨?gz235, ?hz235⟩) (by assumption) ?rz235
    case iz235 => (simp only [List.getElem?_toArray, List.getElem?_cons_zero, List.getElem?_cons_succ]; rfl)
    case qz235 => exact fun _ _ _ h => h
    case gz235 => rfl
    case hz235 => (intro w hSw; (simp only [Holds] at hSw); go_simp <;> with_reducible rfl)
    simp only [Act.put, List.setIfInBounds_toArray, List.set_cons_zero, List.set_cons_succ]
    refine wpAnyH_take (i := 53) (oi := ?oz236) (v := ?vz236) ?iz236 (by kernel_rfl) (by kernel_rfl) (by kernel_rfl) ?qz236 (Or.inl ⟨?gz236, ?hz236⟩) (by assumption) ?rz236
    case iz236 => (simp only [List.getElem?_toArray, List.getElem?_cons_zero, List.getElem?_cons_succ]; rfl)
    case qz236 => exact fun _ _ _ h => h
    case gz236 => rfl
    case hz236 => (intro w hSw; (simp only [Holds] at hSw); go_simp <;> with_reducible rfl)
    simp only [Act.put, List.setIfInBounds_toArray, List.set_cons_zero, List.set_cons_succ]
    refine wpAnyH_done (by kernel_rfl) ?_ _
    go_wp2
    go_ret
    exact ⟨ret_bool HD.out.symm, HB1.out.trans (Bc.out.mono hNW)⟩
  have hl : (I.l.length : Int) = 2 * I.p + 1 := by unfold lenOk at hb4; exact decide_eq_true_iff.1 hb4
  obtain ⟨b, off, rfl, hat, hbl⟩ := srow_at H1.out 0 (by omega)
  have HAT := Lib.hid (show At W.drew b off (nth I.l 0) by simpa using hat)
  clear hat
  refine wpAnyH_take (i := 25) (oi := ?oz237) (v := ?vz237) ?iz237 (by kernel_rfl) (by kernel_rfl) (by kernel_rfl) ?qz237 (Or.inl ⟨?gz237, ?hz237⟩) (by assumption) ?rz237
  case iz237 => (simp only [List.getElem?_toArray, List.getElem?_cons_zero, List.getElem?_cons_succ]; rfl)
  case qz237 => exact fun _ _ _ h => h
  case gz237 => rfl
  case hz237 => (intro w hSw; (simp only [Holds] at hSw); go_simp <;> with_reducible rfl)
  simp only [Act.put, List.setIfInBounds_toArray, List.set_cons_zero, List.set_cons_succ]
  refine wpAnyH_take (i := 26) (oi := ?oz238) (v := ?vz238) ?iz238 (by kernel_rfl) (by kernel_rfl) (by kernel_rfl) ?qz238 (Or.inl ⟨?gz238, ?hz238⟩) (by assumption) ?rz238
  case iz238 => (simp only [List.getElem?_toArray, List.getElem?_cons_zero, List.getElem?_cons_succ]; rfl)
  case qz238 => exact fun _ _ _ h => h
  case gz238 => rfl
  case hz238 => (intro w hSw; (simp only [Holds] at hSw); go_simp <;> with_reducible rfl)
  simp only [Act.put, List.setIfInBounds_toArray, List.set_cons_zero, List.set_cons_succ]
  refine wpAnyH_take (i := 27) (oi := ?oz239) (v := ?vz239) ?iz239 (by kernel_rfl) (by kernel_rfl) (by kernel_rfl) ?qz239 (Or.inl ⟨?gz239, ?hz239⟩) (by assumption) ?rz239
  case iz239 => (simp only [List.getElem?_toArray, List.getElem?_cons_zero, List.getElem?_cons_succ]; rfl)
  case qz239 => exact fun _ _ _ h => h
  case gz239 => rfl
  case hz239 => (intro w hSw; (simp only [Holds] at hSw); go_simp <;> with_reducible rfl)
  simp only [Act.put, List.setIfInBounds_toArray, List.set_cons_zero, List.set_cons_succ]
  refine wpAnyH_take (i := 28) (oi := ?oz240) (v := ?vz240) ?iz240 (by kernel_rfl) (by kernel_rfl) (by kernel_rfl) ?qz240 (Or.inl ⟨?gz240, ?hz240⟩) (by assumption) ?rz240
  case iz240 => (simp only [List.getElem?_toArray, List.getElem?_cons_zero, List.getElem?_cons_succ]; rfl)
  case qz240 => exact fun _ _ _ h => h
  case gz240 => rfl
  case hz240 => (intro w hSw; (simp only [Holds] at hSw); go_simp <;> with_reducible rfl)
  simp only [Act.put, List.setIfInBounds_toArray, List.set_cons_zero, List.set_cons_succ]
  refine wpAnyH_ready (rs := [29]) (by kernel_rfl) (by simp) ?_
  refine AllReadyH.cons (o := ?oz241) ?iz241 (fun K hK => ?kz241) AllReadyH.nil
  case iz241 => (simp only [List.getElem?_toArray, List.getElem?_cons_zero, List.getElem?_cons_succ]; rfl)
  go_simp
  refine (stopsMay_any (H1.out.below Bc.out)).mono ?_
  rintro e w' ⟨rfl, hb⟩
  refine held_more hK HS0.out hlt (Bc.out.trans (hb.mono Bc.out.size)) (fun Bc hSn => ?_)
  clear hb hK
  cases hb5 : stopsOk I.l
  · have HD := Lib.hid (show mayB I = false by rw [HSM.out, hb1, hb2, hb3, hb4, hb5]; rfl)
    refine wpAnyH_take (i := 30) (oi := ?oz242) (v := ?vz242) ?iz242 (by kernel_rfl) (by kernel_rfl) (by kernel_rfl) ?qz242 (Or.inl ⟨?gz242, ?hz242⟩) (by assumption) ?rz242
    case iz242 => (simp only [List.getElem?_toArray, List.getElem?_cons_zero, List.getElem?_cons_succ]; rfl)
    case qz242 => exact fun _ _ _ h => h
    case gz242 => rfl
    case hz242 => (intro w hSw; (simp only [Holds] at hSw); go_simp <;> with_reducible rfl)
    simp only [Act.put, List.setIfInBounds_toArray, List.set_cons_zero, List.set_cons_succ]
    refine wpAnyH_take (i := 31) (oi := ?oz243) (v := ?vz243) ?iz243 (by kernel_rfl) (by kernel_rfl) (by kernel_rfl) ?qz243 (Or.inl ⟨?gz243, ?hz243⟩) (by assumption) ?rz243
    case iz243 => (simp only [List.getElem?_toArray, List.getElem?_cons_zero, List.getElem?_cons_succ]; rfl)
    case qz243 => exact fun _ _ _ h => h
    case gz243 => rfl
    case hz243 => (intro w hSw; (simp only [Holds] at hSw); go_simp <;> with_reducible rfl)
    simp only [Act.put, List.setIfInBounds_toArray, List.set_cons_zero, List.set_cons_succ]
    refine wpAnyH_take (i := 32) (oi := ?oz244) (v := undef) ?iz244 (by kernel_rfl) (by kernel_rfl) (by kernel_rfl) ?qz244 (Or.inr ⟨?gz244, rfl⟩) (by assumption) ?rz244
    case iz244 => (simp only [List.getElem?_toArray, List.getElem?_cons_zero, List.getElem?_cons_succ]; rfl)
    case qz244 => exact fun _ _ _ h => h
    case gz244 => rfl
    simp only [Act.put, List.setIfInBounds_toArray, List.set_cons_zero, List.set_cons_succ]
    refine wpAnyH_take (i := 33) (oi := ?oz245) (v := undef) ?iz245 (by kernel_rfl) (by kernel_rfl) (by kernel_rfl) ?qz245 (Or.inr ⟨?gz245, rfl⟩) (by assumption) ?rz245
    case iz245 => (simp only [List.getElem?_toArray, List.getElem?_cons_zero, List.getElem?_cons_succ]; rfl)
    case qz245 => exact fun _ _ _ h => h
    case gz245 => rfl
    simp only [Act.put, List.setIfInBounds_toArray, List.set_cons_zero, List.set_cons_succ]
    refine wpAnyH_take (i := 34) (oi := ?oz246) (v := undef) ?iz246 (by kernel_rfl) (by kernel_rfl) (by kernel_rfl) ?qz246 (Or.inr ⟨?gz246, rfl⟩) (by assumption) ?rz246
    case iz246 => (simp only [List.getElem?_toArray, List.getElem?_cons_zero, List.getElem?_cons_succ]; rfl)
    case qz246 => exact fun _ _ _ h => h
    case gz246 => rfl
    simp only [Act.put, List.setIfInBounds_toArray, List.set_cons_zero, List.set_cons_succ]
    refine wpAnyH_take (i := 35) (oi := ?oz247) (v := undef) ?iz247 (by kernel_rfl) (by kernel_rfl) (by kernel_rfl) ?qz247 (Or.inr ⟨?gz247, rfl⟩) (by assumption) ?rz247
    case iz247 => (simp only [List.getElem?_toArray, List.getElem?_cons_zero, List.getElem?_cons_succ]; rfl)
    case qz247 => exact fun _ _ _ h => h
    case gz247 => rfl
    simp only [Act.put, List.setIfInBounds_toArray, List.set_cons_zero, List.set_cons_succ]
    refine wpAnyH_take (i := 36) (oi := ?oz248) (v := undef) ?iz248 (by kernel_rfl) (by kernel_rfl) (by kernel_rfl) ?qz248 (Or.inr ⟨?gz248, rfl⟩) (by assumption) ?rz248
    case iz248 => (simp only [List.getElem?_toArray, List.getElem?_cons_zero, List.getElem?_cons_succ]; rfl)
    case qz248 => exact fun _ _ _ h => h
    case gz248 => rfl
    simp only [Act.put, List.setIfInBounds_toArray, List.set_cons_zero, List.set_cons_succ]
    refine wpAnyH_take (i := 37) (oi := ?oz249) (v := ?vz249) ?iz249 (by kernel_rfl) (by kernel_rfl) (by kernel_rfl) ?qz249 (Or.inl ⟨?gz249, ?hz249⟩) (by assumption) ?rz249
    case iz249 => (simp only [List.getElem?_toArray, List.getElem?_cons_zero, List.getElem?_cons_succ]; rfl)
    case qz249 => exact fun _ _ _ h => h
    case gz249 => rfl
    case hz249 => (intro w hSw; (simp only [Holds] at hSw); go_simp <;> with_reducible rfl)
    simp only [Act.put, List.setIfInBounds_toArray, List.set_cons_zero, List.set_cons_succ]
    refine wpAnyH_take (i := 38) (oi := ?oz250) (v := ?vz250) ?iz250 (by kernel_rfl) (by kernel_rfl) (by kernel_rfl) ?qz250 (Or.inl ⟨?gz250, ?hz250⟩) (by assumption) ?rz250
    case iz250 => (simp only [List.getElem?_toArray, List.getElem?_cons_zero, List.getElem?_cons_succ]; rfl)
    case qz250 => exact fun _ _ _ h => h
    case gz250 => rfl
    case hz250 => (intro w hSw; (simp only [Holds] at hSw); go_simp <;> with_reducible rfl)
    simp only [Act.put, List.setIfInBounds_toArray, List.set_cons_zero, List.set_cons_succ]
    refine wpAnyH_take (i := 39) (oi := ?oz251) (v := undef) ?iz251 (by kernel_rfl) (by kernel_rfl) (by kernel_rfl) ?qz251 (Or.inr ⟨?gz251, rfl⟩) (by assumption) ?rz251
    case iz251 => (simp only [List.getElem?_toArray, List.getElem?_cons_zero, List.getElem?_cons_succ]; rfl)
    case qz251 => exact fun _ _ _ h => h
    case gz251 => rfl
    simp only [Act.put, List.setIfInBounds_toArray, List.set_cons_zero, List.set_cons_succ]
    refine wpAnyH_take (i := 40) (oi := ?oz252) (v := undef) ?iz252 (by kernel_rfl) (by kernel_rfl) (by kernel_rfl) ?qz252 (Or.inr ⟨?gz252, rfl⟩) (by assumption) ?rz252
    case iz252 => (simp only [List.getElem?_toArray, List.getElem?_cons_zero, List.getElem?_cons_succ]; rfl)
    case qz252 => exact fun _ _ _ h => h
    case gz252 => rfl
    simp only [Act.put, List.setIfInBounds_toArray, List.set_cons_zero, List.set_cons_succ]
    refine wpAnyH_take (i := 41) (oi := ?oz253) (v := undef) ?iz253 (by kernel_rfl) (by kernel_rfl) (by kernel_rfl) ?qz253 (Or.inr ⟨?gz253, rfl⟩) (by assumption) ?rz253
    case iz253 => (simp only [List.getElem?_toArray, List.getElem?_cons_zero, List.getElem?_cons_succ]; rfl)
    case qz253 => exact fun _ _ _ h => h
    case gz253 => rfl
    simp only [Act.put, List.setIfInBounds_toArray, List.set_cons_zero, List.set_cons_succ]
    refine wpAnyH_take (i := 42) (oi := ?oz254) (v := undef) ?iz254 (by kernel_rfl) (by kernel_rfl) (by kernel_rfl) ?qz254 (Or.inr ⟨?gz254, rfl⟩) (by assumption) ?rz254
    case iz254 => (simp only [List.getElem?_toArray, List.getElem?_cons_zero, List.getElem?_cons_succ]; rfl)
    case qz254 => exact fun _ _ _ h => h
    case gz254 => rfl
    simp only [Act.put, List.setIfInBounds_toArray, List.set_cons_zero, List.set_cons_succ]
    refine wpAnyH_take (i := 43) (oi := ?oz255) (v := undef) ?iz255 (by kernel_rfl) (by kernel_rfl) (by kernel_rfl) ?qz255 (Or.inr ⟨?gz255, rfl⟩) (by assumption) ?rz255
    case iz255 => (simp only [List.getElem?_toArray, List.getElem?_cons_zero, List.getElem?_cons_succ]; rfl)
    case qz255 => exact fun _ _ _ h => h
    case gz255 => rfl
    simp only [Act.put, List.setIfInBounds_toArray, List.set_cons_zero, List.set_cons_succ]
    refine wpAnyH_take (i := 44) (oi := ?oz256) (v := undef) ?iz256 (by kernel_rfl) (by kernel_rfl) (by kernel_rfl) ?qz256 (Or.inr ⟨?gz256, rfl⟩) (by assumption) ?rz256
    case iz256 => (simp only [List.getElem?_toArray, List.getElem?_cons_zero, List.getElem?_cons_succ]; rfl)
    case qz256 => exact fun _ _ _ h => h
    case gz256 => rfl
    simp only [Act.put, List.setIfInBounds_toArray, List.set_cons_zero, List.set_cons_succ]
    refine wpAnyH_take (i := 45) (oi := ?oz257) (v := undef) ?iz257 (by kernel_rfl) (by kernel_rfl) (by kernel_rfl) ?qz257 (Or.inr ⟨?gz257, rfl⟩) (by assumption) ?rz257
    case iz257 => (simp only [List.getElem?_toArray, List.getElem?_cons_zero, List.getElem?_cons_succ]; rfl)
    case qz257 => exact fun _ _ _ h => h
    case gz257 => rfl
    simp only [Act.put, List.setIfInBounds_toArray, List.set_cons_zero, List.set_cons_succ]
    refine wpAnyH_take (i := 46) (oi := ?oz258) (v := undef) ?iz258 (by kernel_rfl) (by kernel_rfl) (by kernel_rfl) ?qz258 (Or.inr ⟨?gz258, rfl⟩) (by assumption) ?rz258
    case iz258 => (simp only [List.getElem?_toArray, List.getElem?_cons_zero, List.getElem?_cons_succ]; rfl)
    case qz258 => exact fun _ _ _ h => h
    case gz258 => rfl
    simp only [Act.put, List.setIfInBounds_toArray, List.set_cons_zero, List.set_cons_succ]
    refine wpAnyH_take (i := 47) (oi := ?oz259) (v := undef) ?iz259 (by kernel_rfl) (by kernel_rfl) (by kernel_rfl) ?qz259 (Or.inr ⟨?gz259, rfl⟩) (by assumption) ?rz259
    case iz259 => (simp only [List.getElem?_toArray, List.getElem?_cons_zero, List.getElem?_cons_succ]; rfl)
    case qz259 => exact fun _ _ _ h => h
    case gz259 => rfl
    simp only [Act.put, List.setIfInBounds_toArray, List.set_cons_zero, List.set_cons_succ]
    refine wpAnyH_take (i := 48) (oi := ?oz260) (v := undef) ?iz260 (by kernel_rfl) (by kernel_rfl) (by kernel_rfl) ?qz260 (Or.inr ⟨?gz260, rfl⟩) (by assumption) ?rz260
    case iz260 => (simp only [List.getElem?_toArray, List.getElem?_cons_zero, List.getElem?_cons_succ]; rfl)
    case qz260 => exact fun _ _ _ h => h
    case gz260 => rfl
    simp only [Act.put, List.setIfInBounds_toArray, List.set_cons_zero, List.set_cons_succ]
    refine wpAnyH_take (i := 49) (oi := ?oz261) (v := undef) ?iz261 (by kernel_rfl) (by kernel_rfl) (by kernel_rfl) ?qz261 (Or.inr ⟨?gz261, rfl⟩) (by assumption) ?rz261
    case iz261 => (simp only [List.getElem?_toArray, List.getElem?_cons_zero, List.getElem?_cons_succ]; rfl)
    case qz261 => exact fun _ _ _ h => h
    case gz261 => rfl
    simp only [Act.put, List.setIfInBounds_toArray, List.set_cons_zero, List.set_cons_succ]
    refine wpAnyH_take (i := 50) (oi := ?oz262) (v := undef) ?iz262 (by kernel_rfl) (by kernel_rfl) (by kernel_rfl) ?qz262 (Or.inr ⟨?gz262, rfl⟩) (by assumption) ?rz262
    case iz262 => (simp only [List.getElem?_toArray, List.getElem?_cons_zero, List.getElem?_cons_succ]; rfl)
    case qz262 => exact fun _ _ _ h => h
    case gz262 => rfl
    simp only [Act.put, List.setIfInBounds_toArray, List.set_cons_zero, List.set_cons_succ]
    refine wpAnyH_take (i := 51) (oi := ?oz263) (v := undef) ?iz263 (by kernel_rfl) (by kernel_rfl) (by kernel_rfl) ?qz263 (Or.inr ⟨?gz263, rfl⟩) (by assumption) ?rz263
    case iz263 => (simp only [List.getElem?_toArray, List.getElem?_cons_zero, List.getElem?_cons_succ]; rfl)
    case qz263 => exact fun _ _ _ h => h
    case gz263 => rfl
    simp only [Act.put, List.setIfInBounds_toArray, List.set_cons_zero, List.set_cons_succ]
    refine wpAnyH_take (i := 52) (oi := ?oz264) (v := ?vz264) ?iz264 (by kernel_rfl) (by kernel_rfl) (by kernel_rfl) ?qz264 (Or.inl ⟨?gz264, ?hz264⟩) (by assumption) ?rz264
    case iz264 => (simp only [List.getElem?_toArray, List.getElem?_cons_zero, List.getElem?_cons_succ]; rfl)
    case qz264 => exact fun _ _ _ h => h
    case gz264 => rfl
    case hz264 => (intro w hSw; (simp only [Holds] at hSw); go_simp <;> with_reducible rfl)
    simp only [Act.put, List.setIfInBounds_toArray, List.set_cons_zero, List.set_cons_succ]
    refine wpAnyH_take (i := 53) (oi := ?oz265) (v := ?vz265) ?iz265 (by kernel_rfl) (by kernel_rfl) (by kernel_rfl) ?qz265 (Or.inl ⟨?gz265, ?hz265⟩) (by assumption) ?rz265
    case iz265 => (simp only [List.getElem?_toArray, List.getElem?_cons_zero, List.getElem?_cons_succ]; rfl)
    case qz265 => exact fun _ _ _ h => h
    case gz265 => rfl
    case hz265 => (intro w hSw; (simp only [Holds] at hSw); go_simp <;> with_reducible rfl)
    simp only [Act.put, List.setIfInBounds_toArray, List.set_cons_zero, List.set_cons_succ]
    refine wpAnyH_done (by kernel_rfl) ?_ _
    go_wp2
    go_ret
    exact ⟨ret_bool HD.out.symm, HB1.out.trans (Bc.out.mono hNW)⟩
  have h0l : (0 : Int) < (I.l.length : Int) := by omega
  have h0n : 0 < I.l.length := by omega
  have i1 : (0 : Int) ≤ 1 + I.p := by omega
  have i2 : (1 : Int) ≤ 1 + I.p := by omega
  have i3 : 1 + I.p ≤ (cap : Int) := by omega
  have i4 : 1 + I.p ≤ (I.l.length : Int) := by omega
  have HL := Lib.hid hl
  clear hl
  have HS1 := Lib.hid (show Holds (cellsA w.heap.size I (.slice (some ⟨b, off, none⟩) I.l.length cap) b off (nth I.l 0)) W.drew from ⟨HS0.out.1, HS0.out.2.1, HS0.out.2.2.1, HS0.out.2.2.2.1, HAT.out.holds⟩)
  have hlt1 := Lib.hid (show Lows W.drew.heap.size (cellsA w.heap.size I (.slice (some ⟨b, off, none⟩) I.l.length cap) b off (nth I.l 0)) from ⟨hlt.out.1, hlt.out.2.1, hlt.out.2.2.1, hlt.out.2.2.2.1, lows_S hbl⟩)
  clear hSn HS0 hlt
  have HS0 := HS1
  have hlt := hlt1
  clear HS1 hlt1
  have hSn := Holds.below Bc.out HS0.out hlt.out
  refine wpAnyH_strong (S' := Holds (cellsA w.heap.size I (.slice (some ⟨b, off, none⟩) I.l.length cap) b off (nth I.l 0))) (fun _ h => ⟨h.1, h.2.1, h.2.2.1, h.2.2.2.1, trivial⟩) _ _ _ _ ?_
  unfold cellsA at *
  refine wpAnyH_take (i := 30) (oi := ?oz266) (v := ?vz266) ?iz266 (by kernel_rfl) (by kernel_rfl) (by kernel_rfl) ?qz266 (Or.inl ⟨?gz266, ?hz266⟩) (by assumption) ?rz266
  case iz266 => (simp only [List.getElem?_toArray, List.getElem?_cons_zero, List.getElem?_cons_succ]; rfl)
  case qz266 => exact fun _ _ _ h => h
  case gz266 => rfl
  case hz266 => (intro w hSw; (simp only [Holds] at hSw); go_simp <;> with_reducible rfl)
  simp only [Act.put, List.setIfInBounds_toArray, List.set_cons_zero, List.set_cons_succ]
  refine wpAnyH_take (i := 31) (oi := ?oz267) (v := ?vz267) ?iz267 (by kernel_rfl) (by kernel_rfl) (by kernel_rfl) ?qz267 (Or.inl ⟨?gz267, ?hz267⟩) (by assumption) ?rz267
  case iz267 => (simp only [List.getElem?_toArray, List.getElem?_cons_zero, List.getElem?_cons_succ]; rfl)
  case qz267 => exact fun _ _ _ h => h
  case gz267 => rfl
  case hz267 => (intro w hSw; (simp only [Holds] at hSw); go_simp <;> with_reducible rfl)
  simp only [Act.put, List.setIfInBounds_toArray, List.set_cons_zero, List.set_cons_succ]
  refine wpAnyH_take (i := 32) (oi := ?oz268) (v := ?vz268) ?iz268 (by kernel_rfl) (by kernel_rfl) (by kernel_rfl) ?qz268 (Or.inl ⟨?gz268, ?hz268⟩) (by assumption) ?rz268
  case iz268 => (simp only [List.getElem?_toArray, List.getElem?_cons_zero, List.getElem?_cons_succ]; rfl)
  case qz268 => exact fun _ _ _ h => h
  case gz268 => rfl
  case hz268 => (intro w hSw; (simp only [Holds] at hSw); go_simp <;> with_reducible rfl)
  simp only [Act.put, List.setIfInBounds_toArray, List.set_cons_zero, List.set_cons_succ]
  refine wpAnyH_take (i := 33) (oi := ?oz269) (v := ?vz269) ?iz269 (by kernel_rfl) (by kernel_rfl) (by kernel_rfl) ?qz269 (Or.inl ⟨?gz269, ?hz269⟩) (by assumption) ?rz269
  case iz269 => (simp only [List.getElem?_toArray, List.getElem?_cons_zero, List.getElem?_cons_succ]; rfl)
  case qz269 => exact fun _ _ _ h => h
  case gz269 => rfl
  case hz269 => (intro w hSw; (simp only [Holds] at hSw); go_simp <;> with_reducible rfl)
  simp only [Act.put, List.setIfInBounds_toArray, List.set_cons_zero, List.set_cons_succ]
  refine wpAnyH_take (i := 34) (oi := ?oz270) (v := ?vz270) ?iz270 (by kernel_rfl) (by kernel_rfl) (by kernel_rfl) ?qz270 (Or.inl ⟨?gz270, ?hz270⟩) (by assumption) ?rz270
  case iz270 => (simp only [List.getElem?_toArray, List.getElem?_cons_zero, List.getElem?_cons_succ]; rfl)
  case qz270 => exact fun _ _ _ h => h
  case gz270 => rfl
  case hz270 => (intro w hSw; (simp only [Holds] at hSw); go_simp <;> with_reducible rfl)
  simp only [Act.put, List.setIfInBounds_toArray, List.set_cons_zero, List.set_cons_succ]
  refine wpAnyH_take (i := 35) (oi := ?oz271) (v := ?vz271) ?iz271 (by kernel_rfl) (by kernel_rfl) (by kernel_rfl) ?qz271 (Or.inl ⟨?gz271, ?hz271⟩) (by assumption) ?rz271
  case iz271 => (simp only [List.getElem?_toArray, List.getElem?_cons_zero, List.getElem?_cons_succ]; rfl)
  case qz271 => exact fun _ _ _ h => h
  case gz271 => rfl
  case hz271 => (intro w hSw; (simp only [Holds] at hSw); go_simp <;> with_reducible rfl)
  simp only [Act.put, List.setIfInBounds_toArray, List.set_cons_zero, List.set_cons_succ]
  refine wpAnyH_ready (rs := [36]) (by kernel_rfl) (by simp) ?_
  refine AllReadyH.cons (o := ?oz272) ?iz272 (fun K hK => ?kz272) AllReadyH.nil
  case iz272 => (simp only [List.getElem?_toArray, List.getElem?_cons_zero, List.getElem?_cons_succ]; rfl)
  go_simp
  refine (yard_any (nth I.l 0) _).mono ?_
  rintro e w' ⟨rfl, hb⟩
  refine held_more hK HS0.out hlt (Bc.out.trans (hb.mono Bc.out.size)) (fun Bc hSn => ?_)
  clear hb hK
  cases hb6 : yardOk (nth I.l 0)
  · have HD := Lib.hid (show mayB I = false by rw [HSM.out, hb1, hb2, hb3, hb4, hb5, hb6]; rfl)
    refine wpAnyH_take (i := 37) (oi := ?oz273) (v := ?vz273) ?iz273 (by kernel_rfl) (by kernel_rfl) (by kernel_rfl) ?qz273 (Or.inl ⟨?gz273, ?hz273⟩) (by assumption) ?rz273
    case iz273 => (simp only [List.getElem?_toArray, List.getElem?_cons_zero, List.getElem?_cons_succ]; rfl)
    case qz273 => exact fun _ _ _ h => h
    case gz273 => rfl
    case hz273 => (intro w hSw; (simp only [Holds] at hSw); go_simp <;> with_reducible rfl)
    simp only [Act.put, List.setIfInBounds_toArray, List.set_cons_zero, List.set_cons_succ]
    refine wpAnyH_take (i := 38) (oi := ?oz274) (v := ?vz274) ?iz274 (by kernel_rfl) (by kernel_rfl) (by kernel_rfl) ?qz274 (Or.inl ⟨?gz274, ?hz274⟩) (by assumption) ?rz274
    case iz274 => (simp only [List.getElem?_toArray, List.getElem?_cons_zero, List.getElem?_cons_succ]; rfl)
    case qz274 => exact fun _ _ _ h => h
    case gz274 => rfl
    case hz274 => (intro w hSw; (simp only [Holds] at hSw); go_simp <;> with_reducible rfl)
    simp only [Act.put, List.setIfInBounds_toArray, List.set_cons_zero, List.set_cons_succ]
    refine wpAnyH_take (i := 39) (oi := ?oz275) (v := undef) ?iz275 (by kernel_rfl) (by kernel_rfl) (by kernel_rfl) ?qz275 (Or.inr ⟨?gz275, rfl⟩) (by assumption) ?rz275
    case iz275 => (simp only [List.getElem?_toArray, List.getElem?_cons_zero, List.getElem?_cons_succ]; rfl)
    case qz275 => exact fun _ _ _ h => h
    case gz275 => rfl
    simp only [Act.put, List.setIfInBounds_toArray, List.set_cons_zero, List.set_cons_succ]
    refine wpAnyH_take (i := 40) (oi := ?oz276) (v := undef) ?iz276 (by kernel_rfl) (by kernel_rfl) (by kernel_rfl) ?qz276 (Or.inr ⟨?gz276, rfl⟩) (by assumption) ?rz276
    case iz276 => (simp only [List.getElem?_toArray, List.getElem?_cons_zero, List.getElem?_cons_succ]; rfl)
    case qz276 => exact fun _ _ _ h => h
    case gz276 => rfl
    simp only [Act.put, List.setIfInBounds_toArray, List.set_cons_zero, List.set_cons_succ]
    refine wpAnyH_take (i := 41) (oi := ?oz277) (v := undef) ?iz277 (by kernel_rfl) (by kernel_rfl) (by kernel_rfl) ?qz277 (Or.inr ⟨?gz277, rfl⟩) (by assumption) ?rz277
    case iz277 => (simp only [List.getElem?_toArray, List.getElem?_cons_zero, List.getElem?_cons_succ]; rfl)
    case qz277 => exact fun _ _ _ h => h
    case gz277 => rfl
    simp only [Act.put, List.setIfInBounds_toArray, List.set_cons_zero, List.set_cons_succ]
    refine wpAnyH_take (i := 42) (oi := ?oz278) (v := undef) ?iz278 (by kernel_rfl) (by kernel_rfl) (by kernel_rfl) ?qz278 (Or.inr ⟨?gz278, rfl⟩) (by assumption) ?rz278
    case iz278 => (simp only [List.getElem?_toArray, List.getElem?_cons_zero, List.getElem?_cons_succ]; rfl)
    case qz278 => exact fun _ _ _ h => h
    case gz278 => rfl
    simp only [Act.put, List.setIfInBounds_toArray, List.set_cons_zero, List.set_cons_succ]
    refine wpAnyH_take (i := 43) (oi := ?oz279) (v := undef) ?iz279 (by kernel_rfl) (by kernel_rfl) (by kernel_rfl) ?qz279 (Or.inr ⟨?gz279, rfl⟩) (by assumption) ?rz279
    case iz279 => (simp only [List.getElem?_toArray, List.getElem?_cons_zero, List.getElem?_cons_succ]; rfl)
    case qz279 => exact fun _ _ _ h => h
    case gz279 => rfl
    simp only [Act.put, List.setIfInBounds_toArray, List.set_cons_zero, List.set_cons_succ]
    refine wpAnyH_take (i := 44) (oi := ?oz280) (v := undef) ?iz280 (by kernel_rfl) (by kernel_rfl) (by kernel_rfl) ?qz280 (Or.inr ⟨?gz280, rfl⟩) (by assumption) ?rz280
    case iz280 => (simp only [List.getElem?_toArray, List.getElem?_cons_zero, List.getElem?_cons_succ]; rfl)
    case qz280 => exact fun _ _ _ h => h
    case gz280 => rfl
    simp only [Act.put, List.setIfInBounds_toArray, List.set_cons_zero, List.set_cons_succ]
    refine wpAnyH_take (i := 45) (oi := ?oz281) (v := undef) ?iz281 (by kernel_rfl) (by kernel_rfl) (by kernel_rfl) ?qz281 (Or.inr ⟨?gz281, rfl⟩) (by assumption) ?rz281
    case iz281 => (simp only [List.getElem?_toArray, List.getElem?_cons_zero, List.getElem?_cons_succ]; rfl)
    case qz281 => exact fun _ _ _ h => h
    case gz281 => rfl
    simp only [Act.put, List.setIfInBounds_toArray, List.set_cons_zero, List.set_cons_succ]
    refine wpAnyH_take (i := 46) (oi := ?oz282) (v := undef) ?iz282 (by kernel_rfl) (by kernel_rfl) (by kernel_rfl) ?qz282 (Or.inr ⟨?gz282, rfl⟩) (by assumption) ?rz282
    case iz282 => (simp only [List.getElem?_toArray, List.getElem?_cons_zero, List.getElem?_cons_succ]; rfl)
    case qz282 => exact fun _ _ _ h => h
    case gz282 => rfl
    simp only [Act.put, List.setIfInBounds_toArray, List.set_cons_zero, List.set_cons_succ]
    refine wpAnyH_take (i := 47) (oi := ?oz283) (v := undef) ?iz283 (by kernel_rfl) (by kernel_rfl) (by kernel_rfl) ?qz283 (Or.inr ⟨?gz283, rfl⟩) (by assumption) ?rz283
    case iz283 => (simp only [List.getElem?_toArray, List.getElem?_cons_zero, List.getElem?_cons_succ]; rfl)
    case qz283 => exact fun _ _ _ h => h
    case gz283 => rfl
    simp only [Act.put, List.setIfInBounds_toArray, List.set_cons_zero, List.set_cons_succ]
    refine wpAnyH_take (i := 48) (oi := ?oz284) (v := undef) ?iz284 (by kernel_rfl) (by kernel_rfl) (by kernel_rfl) ?qz284 (Or.inr ⟨?gz284, rfl⟩) (by assumption) ?rz284
    case iz284 => (simp only [List.getElem?_toArray, List.getElem?_cons_zero, List.getElem?_cons_succ]; rfl)
    case qz284 => exact fun _ _ _ h => h
    case gz284 => rfl
    simp only [Act.put, List.setIfInBounds_toArray, List.set_cons_zero, List.set_cons_succ]
    refine wpAnyH_take (i := 49) (oi := ?oz285) (v := undef) ?iz285 (by kernel_rfl) (by kernel_rfl) (by kernel_rfl) ?qz285 (Or.inr ⟨?gz285, rfl⟩) (by assumption) ?rz285
    case iz285 => (simp only [List.getElem?_toArray, List.getElem?_cons_zero, List.getElem?_cons_succ]; rfl)
    case qz285 => exact fun _ _ _ h => h
    case gz285 => rfl
    simp only [Act.put, List.setIfInBounds_toArray, List.set_cons_zero, List.set_cons_succ]
    refine wpAnyH_take (i := 50) (oi := ?oz286) (v := undef) ?iz286 (by kernel_rfl) (by kernel_rfl) (by kernel_rfl) ?qz286 (Or.inr ⟨?gz286, rfl⟩) (by assumption) ?rz286
    case iz286 => (simp only [List.getElem?_toArray, List.getElem?_cons_zero, List.getElem?_cons_succ]; rfl)
    case qz286 => exact fun _ _ _ h => h
    case gz286 => rfl
    simp only [Act.put, List.setIfInBounds_toArray, List.set_cons_zero, List.set_cons_succ]
    refine wpAnyH_take (i := 51) (oi := ?oz287) (v := undef) ?iz287 (by kernel_rfl) (by kernel_rfl) (by kernel_rfl) ?qz287 (Or.inr ⟨?gz287, rfl⟩) (by assumption) ?rz287
    case iz287 => (simp only [List.getElem?_toArray, List.getElem?_cons_zero, List.getElem?_cons_succ]; rfl)
    case qz287 => exact fun _ _ _ h => h
    case gz287 => rfl
    simp only [Act.put, List.setIfInBounds_toArray, List.set_cons_zero, List.set_cons_succ]
    refine wpAnyH_take (i := 52) (oi := ?oz288) (v := ?vz288) ?iz288 (by kernel_rfl) (by kernel_rfl) (by kernel_rfl) ?qz288 (Or.inl ⟨?gz288, ?hz288⟩) (by assumption) ?rz288
    case iz288 => (simp only [List.getElem?_toArray, List.getElem?_cons_zero, List.getElem?_cons_succ]; rfl)
    case qz288 => exact fun _ _ _ h => h
    case gz288 => rfl
    case hz288 => (intro w hSw; (simp only [Holds] at hSw); go_simp <;> with_reducible rfl)
    simp only [Act.put, List.setIfInBounds_toArray, List.set_cons_zero, List.set_cons_succ]
    refine wpAnyH_take (i := 53) (oi := ?oz289) (v := ?vz289) ?iz289 (by kernel_rfl) (by kernel_rfl) (by kernel_rfl) ?qz289 (Or.inl ⟨?gz289, ?hz289⟩) (by assumption) ?rz289
    case iz289 => (simp only [List.getElem?_toArray, List.getElem?_cons_zero, List.getElem?_cons_succ]; rfl)
    case qz289 => exact fun _ _ _ h => h
    case gz289 => rfl
    case hz289 => (intro w hSw; (simp only [Holds] at hSw); go_simp <;> with_reducible rfl)
    simp only [Act.put, List.setIfInBounds_toArray, List.set_cons_zero, List.set_cons_succ]
    refine wpAnyH_done (by kernel_rfl) ?_ _
    go_wp2
    go_ret
    exact ⟨ret_bool HD.out.symm, HB1.out.trans (Bc.out.mono hNW)⟩
  refine wpAnyH_take (i := 37) (oi := ?oz290) (v := ?vz290) ?iz290 (by kernel_rfl) (by kernel_rfl) (by kernel_rfl) ?qz290 (Or.inl ⟨?gz290, ?hz290⟩) (by assumption) ?rz290
  case iz290 => (simp only [List.getElem?_toArray, List.getElem?_cons_zero, List.getElem?_cons_succ]; rfl)
  case qz290 => exact fun _ _ _ h => h
  case gz290 => rfl
  case hz290 => (intro w hSw; (simp only [Holds] at hSw); go_simp <;> with_reducible rfl)
  simp only [Act.put, List.setIfInBounds_toArray, List.set_cons_zero, List.set_cons_succ]
  refine wpAnyH_take (i := 38) (oi := ?oz291) (v := ?vz291) ?iz291 (by kernel_rfl) (by kernel_rfl) (by kernel_rfl) ?qz291 (Or.inl ⟨?gz291, ?hz291⟩) (by assumption) ?rz291
  case iz291 => (simp only [List.getElem?_toArray, List.getElem?_cons_zero, List.getElem?_cons_succ]; rfl)
  case qz291 => exact fun _ _ _ h => h
  case gz291 => rfl
  case hz291 => (intro w hSw; (simp only [Holds] at hSw); go_simp <;> with_reducible rfl)
  simp only [Act.put, List.setIfInBounds_toArray, List.set_cons_zero, List.set_cons_succ]
  refine wpAnyH_take (i := 39) (oi := ?oz292) (v := ?vz292) ?iz292 (by kernel_rfl) (by kernel_rfl) (by kernel_rfl) ?qz292 (Or.inl ⟨?gz292, ?hz292⟩) (by assumption) ?rz292
  case iz292 => (simp only [List.getElem?_toArray, List.getElem?_cons_zero, List.getElem?_cons_succ]; rfl)
  case qz292 => exact fun _ _ _ h => h
  case gz292 => rfl
  case hz292 => (intro w hSw; (simp only [Holds] at hSw); go_simp <;> with_reducible rfl)
  simp only [Act.put, List.setIfInBounds_toArray, List.set_cons_zero, List.set_cons_succ]
  refine wpAnyH_take (i := 40) (oi := ?oz293) (v := ?vz293) ?iz293 (by kernel_rfl) (by kernel_rfl) (by kernel_rfl) ?qz293 (Or.inl ⟨?gz293, ?hz293⟩) (by assumption) ?rz293
  case iz293 => (simp only [List.getElem?_toArray, List.getElem?_cons_zero, List.getElem?_cons_succ]; rfl)
  case qz293 => exact fun _ _ _ h => h
  case gz293 => rfl
  case hz293 => (intro w hSw; (simp only [Holds] at hSw); go_simp <;> with_reducible rfl)
  simp only [Act.put, List.setIfInBounds_toArray, List.set_cons_zero, List.set_cons_succ]
  refine wpAnyH_take (i := 41) (oi := ?oz294) (v := ?vz294) ?iz294 (by kernel_rfl) (by kernel_rfl) (by kernel_rfl) ?qz294 (Or.inl ⟨?gz294, ?hz294⟩) (by assumption) ?rz294
  case iz294 => (simp only [List.getElem?_toArray, List.getElem?_cons_zero, List.getElem?_cons_succ]; rfl)
  case qz294 => exact fun _ _ _ h => h
  case gz294 => rfl
  case hz294 => (intro w hSw; (simp only [Holds] at hSw); go_simp <;> with_reducible rfl)
  simp only [Act.put, List.setIfInBounds_toArray, List.set_cons_zero, List.set_cons_succ]
  refine wpAnyH_take (i := 42) (oi := ?oz295) (v := ?vz295) ?iz295 (by kernel_rfl) (by kernel_rfl) (by kernel_rfl) ?qz295 (Or.inl ⟨?gz295, ?hz295⟩) (by assumption) ?rz295
  case iz295 => (simp only [List.getElem?_toArray, List.getElem?_cons_zero, List.getElem?_cons_succ]; rfl)
  case qz295 => exact fun _ _ _ h => h
  case gz295 => rfl
  case hz295 => (intro w hSw; (simp only [Holds] at hSw); go_simp <;> with_reducible rfl)
  simp only [Act.put, List.setIfInBounds_toArray, List.set_cons_zero, List.set_cons_succ]
  refine wpAnyH_take (i := 43) (oi := ?oz296) (v := ?vz296) ?iz296 (by kernel_rfl) (by kernel_rfl) (by kernel_rfl) ?qz296 (Or.inl ⟨?gz296, ?hz296⟩) (by assumption) ?rz296
  case iz296 => (simp only [List.getElem?_toArray, List.getElem?_cons_zero, List.getElem?_cons_succ]; rfl)
  case qz296 => exact fun _ _ _ h => h
  case gz296 => rfl
  case hz296 => (intro w hSw; (simp only [Holds] at hSw); go_simp <;> with_reducible rfl)
  simp only [Act.put, List.setIfInBounds_toArray, List.set_cons_zero, List.set_cons_succ]
  refine wpAnyH_take (i := 44) (oi := ?oz297) (v := ?vz297) ?iz297 (by kernel_rfl) (by kernel_rfl) (by kernel_rfl) ?qz297 (Or.inl ⟨?gz297, ?hz297⟩) (by assumption) ?rz297
  case iz297 => (simp only [List.getElem?_toArray, List.getElem?_cons_zero, List.getElem?_cons_succ]; rfl)
  case qz297 => exact fun _ _ _ h => h
  case gz297 => rfl
  case hz297 => (intro w hSw; (simp only [Holds] at hSw); go_simp <;> with_reducible rfl)
  simp only [Act.put, List.setIfInBounds_toArray, List.set_cons_zero, List.set_cons_succ]
  refine wpAnyH_take (i := 45) (oi := ?oz298) (v := ?vz298) ?iz298 (by kernel_rfl) (by kernel_rfl) (by kernel_rfl) ?qz298 (Or.inl ⟨?gz298, ?hz298⟩) (by assumption) ?rz298
  case iz298 => (simp only [List.getElem?_toArray, List.getElem?_cons_zero, List.getElem?_cons_succ]; rfl)
  case qz298 => exact fun _ _ _ h => h
  case gz298 => rfl
  case hz298 => (intro w hSw; (simp only [Holds] at hSw); go_simp <;> with_reducible rfl)
  simp only [Act.put, List.setIfInBounds_toArray, List.set_cons_zero, List.set_cons_succ]
  refine wpAnyH_take (i := 46) (oi := ?oz299) (v := ?vz299) ?iz299 (by kernel_rfl) (by kernel_rfl) (by kernel_rfl) ?qz299 (Or.inl ⟨?gz299, ?hz299⟩) (by assumption) ?rz299
  case iz299 => (simp only [List.getElem?_toArray, List.getElem?_cons_zero, List.getElem?_cons_succ]; rfl)
  case qz299 => exact fun _ _ _ h => h
  case gz299 => rfl
  case hz299 => (intro w hSw; (simp only [Holds] at hSw); go_simp <;> with_reducible rfl)
  simp only [Act.put, List.setIfInBounds_toArray, List.set_cons_zero, List.set_cons_succ]
  refine wpAnyH_take (i := 47) (oi := ?oz300) (v := ?vz300) ?iz300 (by kernel_rfl) (by kernel_rfl) (by kernel_rfl) ?qz300 (Or.inl ⟨?gz300, ?hz300⟩) (by assumption) ?rz300
  case iz300 => (simp only [List.getElem?_toArray, List.getElem?_cons_zero, List.getElem?_cons_succ]; rfl)
  case qz300 => exact fun _ _ _ h => h
  case gz300 => rfl
  case hz300 => (intro w hSw; (simp only [Holds] at hSw); go_simp <;> with_reducible rfl)
  simp only [Act.put, List.setIfInBounds_toArray, List.set_cons_zero, List.set_cons_succ]
  refine wpAnyH_take (i := 48) (oi := ?oz301) (v := ?vz301) ?iz301 (by kernel_rfl) (by kernel_rfl) (by kernel_rfl) ?qz301 (Or.inl ⟨?gz301, ?hz301⟩) (by assumption) ?rz301
  case iz301 => (simp only [List.getElem?_toArray, List.getElem?_cons_zero, List.getElem?_cons_succ]; rfl)
  case qz301 => exact fun _ _ _ h => h
  case gz301 => rfl
  case hz301 => (intro w hSw; (simp only [Holds] at hSw); go_simp <;> with_reducible rfl)
  simp only [Act.put, List.setIfInBounds_toArray, List.set_cons_zero, List.set_cons_succ]
  refine wpAnyH_take (i := 49) (oi := ?oz302) (v := ?vz302) ?iz302 (by kernel_rfl) (by kernel_rfl) (by kernel_rfl) ?qz302 (Or.inl ⟨?gz302, ?hz302⟩) (by assumption) ?rz302
  case iz302 => (simp only [List.getElem?_toArray, List.getElem?_cons_zero, List.getElem?_cons_succ]; rfl)
  case qz302 => exact fun _ _ _ h => h
  case gz302 => rfl
  case hz302 => (intro w hSw; (simp only [Holds] at hSw); go_simp <;> with_reducible rfl)
  simp only [Act.put, List.setIfInBounds_toArray, List.set_cons_zero, List.set_cons_succ]
  refine wpAnyH_take (i := 50) (oi := ?oz303) (v := ?vz303) ?iz303 (by kernel_rfl) (by kernel_rfl) (by kernel_rfl) ?qz303 (Or.inl ⟨?gz303, ?hz303⟩) (by assumption) ?rz303
  case iz303 => (simp only [List.getElem?_toArray, List.getElem?_cons_zero, List.getElem?_cons_succ]; rfl)
  case qz303 => exact fun _ _ _ h => h
  case gz303 => rfl
  case hz303 => (intro w hSw; (simp only [Holds] at hSw); go_simp <;> with_reducible rfl)
  simp only [Act.put, List.setIfInBounds_toArray, List.set_cons_zero, List.set_cons_succ]
  refine wpAnyH_ready (rs := [51]) (by kernel_rfl) (by simp) ?_
  refine AllReadyH.cons (o := ?oz304) ?iz304 (fun K hK => ?kz304) AllReadyH.nil
  case iz304 => (simp only [List.getElem?_toArray, List.getElem?_cons_zero, List.getElem?_cons_succ]; rfl)
  go_simp
  have hk : (1 + I.p).toNat = 1 + I.p.toNat := by omega
  have hk2 : 1 + I.p.toNat - 1 = I.p.toNat := by omega
  have hk3 : 1 + I.p.toNat ≤ I.l.length := by omega
  have HR := Lib.hid (H1.out.below Bc.out)
  refine (demands_any (T := (I.l.drop 1).take I.p.toNat) (B := I.l.drop (1 + I.p.toNat)) ?s1 ?s2 ?s3).mono ?_
  case s1 =>
    have := HR.out.part 1 (1 + I.p.toNat) (by omega) (by omega) _ rfl
    rw [hk2] at this
    rw [hk, hk2]
    exact this
  case s2 =>
    have := HR.out.part (1 + I.p.toNat) I.l.length (by omega) (Nat.le_refl _) _ rfl
    rw [List.take_of_length_le (by simp)] at this
    rw [hk]
    exact this
  case s3 =>
    have := HL.out
    simp
    omega
  rintro e w' ⟨rfl, hb⟩
  refine held_more hK HS0.out hlt (Bc.out.trans (hb.mono Bc.out.size)) (fun Bc hSn => ?_)
  clear hb hK
  have HD := Lib.hid (show mayB I = demOk ((I.l.drop 1).take I.p.toNat) (I.l.drop (1 + I.p.toNat)) by rw [HSM.out, hb1, hb2, hb3, hb4, hb5, hb6]; rfl)
  generalize demOk ((I.l.drop 1).take I.p.toNat) (I.l.drop (1 + I.p.toNat)) = b7 at HD ⊢
  generalize Value.slice (if cap = 1 then some ⟨b, off, none⟩ else some ⟨b, off + 6, none⟩) ((1 + I.p).toNat - 1) (cap - 1) = x1
  generalize Value.slice (if cap = (1 + I.p).toNat then some ⟨b, off, none⟩ else some ⟨b, off + (1 + I.p).toNat * 6, none⟩) (I.l.length - (1 + I.p).toNat) (cap - (1 + I.p).toNat) = x2
  refine wpAnyH_take (i := 52) (oi := ?oz305) (v := ?vz305) ?iz305 (by kernel_rfl) (by kernel_rfl) (by kernel_rfl) ?qz305 (Or.inl ⟨?gz305, ?hz305⟩) (by assumption) ?rz305
  case iz305 => (simp only [List.getElem?_toArray, List.getElem?_cons_zero, List.getElem?_cons_succ]; rfl)
  case qz305 => exact fun _ _ _ h => h
  case gz305 => rfl
  case hz305 => (intro w hSw; (simp only [Holds] at hSw); go_simp <;> with_reducible rfl)
  simp only [Act.put, List.setIfInBounds_toArray, List.set_cons_zero, List.set_cons_succ]
  refine wpAnyH_take (i := 53) (oi := ?oz306) (v := ?vz306) ?iz306 (by kernel_rfl) (by kernel_rfl) (by kernel_rfl) ?qz306 (Or.inl ⟨?gz306, ?hz306⟩) (by assumption) ?rz306
  case iz306 => (simp only [List.getElem?_toArray, List.getElem?_cons_zero, List.getElem?_cons_succ]; rfl)
  case qz306 => exact fun _ _ _ h => h
  case gz306 => rfl
  case hz306 => (intro w hSw; (simp only [Holds] at hSw); go_simp <;> with_reducible rfl)
  simp only [Act.put, List.setIfInBounds_toArray, List.set_cons_zero, List.set_cons_succ]
  refine wpAnyH_done (by kernel_rfl) ?_ _
  go_wp2
  go_ret
  exact ⟨ret_bool HD.out.symm, HB1.out.trans (Bc.out.mono hNW)⟩
end Go.Proofs.Ytjnmiibefhcfeaa
/- The document's May. -/
namespace Go.Proofs.Ytjnmiibefhcfeaa
open Go.ChangeShapes Go.WideShapes Go.ChangeAt Go.RowKit

theorem okAt_no {I : Ins} {i : Nat} (hi : i < I.l.length) (h : ¬ okAt I.p.toNat I.l i) : mayB I = false := by
  cases hm : mayB I with
  | false => rfl
  | true => exact absurd (((may_iff I).1 hm).2.2.2.2 i hi) h
theorem okAt_all {I : Ins} (h1 : inb 0 16 I.p = true) (h2 : inb 1 8 I.c = true) (h3 : inb 1 1000 I.r = true) (h4 : lenOk I.p I.l.length = true) (h : ∀ i, i < I.l.length → okAt I.p.toNat I.l i) : mayB I = true := (may_iff I).2 ⟨h1, h2, h3, h4, h⟩
theorem okAt_next {p : Nat} {l : List Stp} {k : Nat} (h : ∀ i, i < k → okAt p l i) (hk : okAt p l k) : ∀ i, i < k + 1 → okAt p l i := fun i hi => by
  by_cases c : i < k
  · exact h i c
  · obtain rfl : i = k := by omega
    exact hk
theorem may_no {I : Ins} (h : ¬ (inb 0 16 I.p = true ∧ inb 1 8 I.c = true ∧ inb 1 1000 I.r = true ∧ lenOk I.p I.l.length = true)) : mayB I = false := by
  cases hm : mayB I with
  | false => rfl
  | true => have := (may_iff I).1 hm; exact absurd ⟨this.1, this.2.1, this.2.2.1, this.2.2.2.1⟩ h
theorem lenNe (n : Nat) (p : Int) : ((n : Int) != 2 * p + 1) = !lenOk p n := by unfold lenOk; rw [Bool.eq_iff_iff]; simp
end Go.Proofs.Ytjnmiibefhcfeaa
