/- What inst.May answers. -/
import Derived.Test.YtkhlmgkapmofiaaDoorIStops
namespace Go.Proofs.YtkhlmgkapmofiaaDoor
open Go.ChangeShapes Go.WideShapes Go.ChangeAt Go.RowKit

/-- The instance in its box. -/
def boxI (I : Ins) (v : Value) : Obj := .cells #[.int .i64 I.p, .int .i64 I.c, .int .i64 I.r, v] 26
def cellsI (N : Nat) (I : Ins) (v : Value) : List (Addr × Value) := [(⟨N, 0, none⟩, .int .i64 I.p), (⟨N, 1, none⟩, .int .i64 I.c), (⟨N, 2, none⟩, .int .i64 I.r), (⟨N, 3, none⟩, v)]
def cellsS (b o : Nat) (t : Stp) : List (Addr × Value) := [(⟨b, o, none⟩, .int .i64 t.x), (⟨b, o + 1, none⟩, .int .i64 t.y), (⟨b, o + 2, none⟩, .int .i64 t.d), (⟨b, o + 3, none⟩, .int .i64 t.r), (⟨b, o + 4, none⟩, .int .i64 t.u), (⟨b, o + 5, none⟩, .int .i64 t.s)]
def cellsA (N : Nat) (I : Ins) (v : Value) (b o : Nat) (t : Stp) : List (Addr × Value) := [(⟨N, 0, none⟩, .int .i64 I.p), (⟨N, 1, none⟩, .int .i64 I.c), (⟨N, 2, none⟩, .int .i64 I.r), (⟨N, 3, none⟩, v), (⟨b, o, none⟩, .int .i64 t.x), (⟨b, o + 1, none⟩, .int .i64 t.y), (⟨b, o + 2, none⟩, .int .i64 t.d), (⟨b, o + 3, none⟩, .int .i64 t.r), (⟨b, o + 4, none⟩, .int .i64 t.u), (⟨b, o + 5, none⟩, .int .i64 t.s)]
theorem Holds.app {w : World} : ∀ {a b : List (Addr × Value)}, Holds (a ++ b) w ↔ Holds a w ∧ Holds b w
  | [], b => by simp [Holds]
  | x :: a, b => by simp [Holds, Holds.app, and_assoc]
theorem Lows.app {M : Nat} : ∀ {a b : List (Addr × Value)}, Lows M a → Lows M b → Lows M (a ++ b)
  | [], _, _, h => h
  | _ :: _, _, h, k => ⟨h.1, Lows.app h.2 k⟩
theorem lows_S {M b o : Nat} {t : Stp} (h : b < M) : Lows M (cellsS b o t) := ⟨h, h, h, h, h, h, trivial⟩
theorem At.holds {w : World} {b o : Nat} {t : Stp} (h : At w b o t) : Holds (cellsS b o t) w := by
  obtain ⟨h0, h1, h2, h3, h4, h5⟩ := h
  exact ⟨h0, h1, h2, h3, h4, h5, trivial⟩
theorem holds_box (w : World) (I : Ins) (v : Value) : Holds (cellsI w.heap.size I v) (w.alloc (boxI I v)) := by
  have h : ∀ i, (w.alloc (boxI I v)).cell? ⟨w.heap.size, i, none⟩ = [Value.int .i64 I.p, .int .i64 I.c, .int .i64 I.r, v][i]? := fun i => by
    unfold boxI; rw [cell_of_row _ _ _ _ _ _ (heap_alloc_new w _)]; simp
  exact ⟨h 0, h 1, h 2, h 3, trivial⟩
theorem eql_len (n : Nat) (p : Int) : ((n : Int) == 2 * p + 1) = lenOk p n := by unfold lenOk; rw [Bool.eq_iff_iff]; simp
set_option maxRecDepth 1000000 in
set_option maxHeartbeats 4000000 in
theorem may_any {w : World} {v : Value} {I : Ins} (h : SRow w v I.l) :
    Calls Tryd.prog 15 #[insV I v] w fun e w' => e = .returned (.bool (mayB I)) ∧ Below w.heap.size w w' := by
  have H := Lib.hid h
  obtain ⟨ad, cap, rfl, hm, hc, hcm⟩ := h.form
  have HSM := Lib.hid (show mayB I = (inb 0 16 I.p && (inb 1 8 I.c && (inb 1 1000 I.r && (lenOk I.p I.l.length && (stopsOk I.l && (yardOk (nth I.l 0) && demOk ((I.l.drop 1).take I.p.toNat) (I.l.drop (1 + I.p.toNat)))))))) from rfl)
  unfold insV
  go_enter Tryd.func15, Tryd.ntmps15
  go_wp2_with fail
  change Code.wp _ _ _ _ (w.alloc (boxI I (.slice ad I.l.length cap)))
  have HS0 := Lib.hid (show Holds (cellsI w.heap.size I (.slice ad I.l.length cap)) (w.alloc (boxI I (.slice ad I.l.length cap))).drew from holds_box w I _)
  have hlt := Lib.hid (show Lows (w.alloc (boxI I (.slice ad I.l.length cap))).drew.heap.size (cellsI w.heap.size I (.slice ad I.l.length cap)) from ⟨by simp [World.drew], by simp [World.drew], by simp [World.drew], by simp [World.drew], trivial⟩)
  have HB1 := Lib.hid (((Below.refl _ w).alloc (Nat.le_refl _) (boxI I (.slice ad I.l.length cap))).drew)
  have H1 := Lib.hid (H.out.below HB1.out)
  generalize w.alloc (boxI I (.slice ad I.l.length cap)) = W at *
  have hNW : w.heap.size ≤ W.drew.heap.size := HB1.out.size
  clear h hm
  refine wp_region_held_drew (S := Holds (cellsI w.heap.size I (.slice ad I.l.length cap))) (by kernel_rfl) HS0.out (fun hSn => ?_)
  have Bc := Lib.hid (Below.refl W.drew.heap.size W.drew)
  unfold cellsI at *
  refine wpAnyH_take (i := 0) (oi := ?oz1) (v := ?vz1) ?iz1 (by kernel_rfl) (by kernel_rfl) (by kernel_rfl) ?qz1 (Or.inl ⟨?gz1, ?hz1⟩) (by assumption) ?rz1
  case iz1 => (simp only [List.getElem?_toArray, List.getElem?_cons_zero]; rfl)
  case qz1 => exact fun _ _ _ h => h
  case gz1 => rfl
  case hz1 => (intro w hSw; (simp only [Holds] at hSw); go_simp <;> with_reducible rfl)
  simp only [Act.put, List.setIfInBounds_toArray, List.set_cons_zero, List.set_cons_succ]
  refine wpAnyH_take (i := 1) (oi := ?oz2) (v := ?vz2) ?iz2 (by kernel_rfl) (by kernel_rfl) (by kernel_rfl) ?qz2 (Or.inl ⟨?gz2, ?hz2⟩) (by assumption) ?rz2
  case iz2 => (simp only [List.getElem?_toArray, List.getElem?_cons_zero, List.getElem?_cons_succ]; rfl)
  case qz2 => exact fun _ _ _ h => h
  case gz2 => rfl
  case hz2 => (intro w hSw; (simp only [Holds] at hSw); go_simp <;> with_reducible rfl)
  simp only [Act.put, List.setIfInBounds_toArray, List.set_cons_zero, List.set_cons_succ]
  refine wpAnyH_ready (rs := [2]) (by kernel_rfl) (by simp) ?_
  refine AllReadyH.cons (o := ?oz3) ?iz3 (fun K hK => ?kz3) AllReadyH.nil
  case iz3 => (simp only [List.getElem?_toArray, List.getElem?_cons_zero, List.getElem?_cons_succ]; rfl)
  go_simp
  refine held_more hK HS0.out hlt (Bc.out.alloc Bc.out.size _) (fun Bc hSn => ?_)
  refine wpAnyH_ready (rs := [3]) (by kernel_rfl) (by simp) ?_
  refine AllReadyH.cons (o := ?oz4) ?iz4 (fun K hK => ?kz4) AllReadyH.nil
  case iz4 => (simp only [List.getElem?_toArray, List.getElem?_cons_zero, List.getElem?_cons_succ]; rfl)
  go_simp
  refine (within1 _ 0 16 I.p (by go_simp)).mono ?_
  rintro e w' ⟨rfl, rfl⟩
  refine held_more hK HS0.out hlt Bc.out (fun Bc hSn => ?_)
  cases hb1 : inb 0 16 I.p
  · have HD := Lib.hid (show mayB I = false by rw [HSM.out, hb1]; rfl)
    refine wpAnyH_take (i := 4) (oi := ?oz5) (v := ?vz5) ?iz5 (by kernel_rfl) (by kernel_rfl) (by kernel_rfl) ?qz5 (Or.inl ⟨?gz5, ?hz5⟩) (by assumption) ?rz5
    case iz5 => (simp only [List.getElem?_toArray, List.getElem?_cons_zero, List.getElem?_cons_succ]; rfl)
    case qz5 => exact fun _ _ _ h => h
    case gz5 => rfl
    case hz5 => (intro w hSw; (simp only [Holds] at hSw); go_simp <;> with_reducible rfl)
    simp only [Act.put, List.setIfInBounds_toArray, List.set_cons_zero, List.set_cons_succ]
    refine wpAnyH_take (i := 5) (oi := ?oz6) (v := undef) ?iz6 (by kernel_rfl) (by kernel_rfl) (by kernel_rfl) ?qz6 (Or.inr ⟨?gz6, rfl⟩) (by assumption) ?rz6
    case iz6 => (simp only [List.getElem?_toArray, List.getElem?_cons_zero, List.getElem?_cons_succ]; rfl)
    case qz6 => exact fun _ _ _ h => h
    case gz6 => rfl
    simp only [Act.put, List.setIfInBounds_toArray, List.set_cons_zero, List.set_cons_succ]
    refine wpAnyH_take (i := 6) (oi := ?oz7) (v := undef) ?iz7 (by kernel_rfl) (by kernel_rfl) (by kernel_rfl) ?qz7 (Or.inr ⟨?gz7, rfl⟩) (by assumption) ?rz7
    case iz7 => (simp only [List.getElem?_toArray, List.getElem?_cons_zero, List.getElem?_cons_succ]; rfl)
    case qz7 => exact fun _ _ _ h => h
    case gz7 => rfl
    simp only [Act.put, List.setIfInBounds_toArray, List.set_cons_zero, List.set_cons_succ]
    refine wpAnyH_take (i := 7) (oi := ?oz8) (v := undef) ?iz8 (by kernel_rfl) (by kernel_rfl) (by kernel_rfl) ?qz8 (Or.inr ⟨?gz8, rfl⟩) (by assumption) ?rz8
    case iz8 => (simp only [List.getElem?_toArray, List.getElem?_cons_zero, List.getElem?_cons_succ]; rfl)
    case qz8 => exact fun _ _ _ h => h
    case gz8 => rfl
    simp only [Act.put, List.setIfInBounds_toArray, List.set_cons_zero, List.set_cons_succ]
    refine wpAnyH_take (i := 8) (oi := ?oz9) (v := undef) ?iz9 (by kernel_rfl) (by kernel_rfl) (by kernel_rfl) ?qz9 (Or.inr ⟨?gz9, rfl⟩) (by assumption) ?rz9
    case iz9 => (simp only [List.getElem?_toArray, List.getElem?_cons_zero, List.getElem?_cons_succ]; rfl)
    case qz9 => exact fun _ _ _ h => h
    case gz9 => rfl
    simp only [Act.put, List.setIfInBounds_toArray, List.set_cons_zero, List.set_cons_succ]
    refine wpAnyH_take (i := 9) (oi := ?oz10) (v := ?vz10) ?iz10 (by kernel_rfl) (by kernel_rfl) (by kernel_rfl) ?qz10 (Or.inl ⟨?gz10, ?hz10⟩) (by assumption) ?rz10
    case iz10 => (simp only [List.getElem?_toArray, List.getElem?_cons_zero, List.getElem?_cons_succ]; rfl)
    case qz10 => exact fun _ _ _ h => h
    case gz10 => rfl
    case hz10 => (intro w hSw; (simp only [Holds] at hSw); go_simp <;> with_reducible rfl)
    simp only [Act.put, List.setIfInBounds_toArray, List.set_cons_zero, List.set_cons_succ]
    refine wpAnyH_take (i := 10) (oi := ?oz11) (v := ?vz11) ?iz11 (by kernel_rfl) (by kernel_rfl) (by kernel_rfl) ?qz11 (Or.inl ⟨?gz11, ?hz11⟩) (by assumption) ?rz11
    case iz11 => (simp only [List.getElem?_toArray, List.getElem?_cons_zero, List.getElem?_cons_succ]; rfl)
    case qz11 => exact fun _ _ _ h => h
    case gz11 => rfl
    case hz11 => (intro w hSw; (simp only [Holds] at hSw); go_simp <;> with_reducible rfl)
    simp only [Act.put, List.setIfInBounds_toArray, List.set_cons_zero, List.set_cons_succ]
    refine wpAnyH_take (i := 11) (oi := ?oz12) (v := undef) ?iz12 (by kernel_rfl) (by kernel_rfl) (by kernel_rfl) ?qz12 (Or.inr ⟨?gz12, rfl⟩) (by assumption) ?rz12
    case iz12 => (simp only [List.getElem?_toArray, List.getElem?_cons_zero, List.getElem?_cons_succ]; rfl)
    case qz12 => exact fun _ _ _ h => h
    case gz12 => rfl
    simp only [Act.put, List.setIfInBounds_toArray, List.set_cons_zero, List.set_cons_succ]
    refine wpAnyH_take (i := 12) (oi := ?oz13) (v := undef) ?iz13 (by kernel_rfl) (by kernel_rfl) (by kernel_rfl) ?qz13 (Or.inr ⟨?gz13, rfl⟩) (by assumption) ?rz13
    case iz13 => (simp only [List.getElem?_toArray, List.getElem?_cons_zero, List.getElem?_cons_succ]; rfl)
    case qz13 => exact fun _ _ _ h => h
    case gz13 => rfl
    simp only [Act.put, List.setIfInBounds_toArray, List.set_cons_zero, List.set_cons_succ]
    refine wpAnyH_take (i := 13) (oi := ?oz14) (v := undef) ?iz14 (by kernel_rfl) (by kernel_rfl) (by kernel_rfl) ?qz14 (Or.inr ⟨?gz14, rfl⟩) (by assumption) ?rz14
    case iz14 => (simp only [List.getElem?_toArray, List.getElem?_cons_zero, List.getElem?_cons_succ]; rfl)
    case qz14 => exact fun _ _ _ h => h
    case gz14 => rfl
    simp only [Act.put, List.setIfInBounds_toArray, List.set_cons_zero, List.set_cons_succ]
    refine wpAnyH_take (i := 14) (oi := ?oz15) (v := undef) ?iz15 (by kernel_rfl) (by kernel_rfl) (by kernel_rfl) ?qz15 (Or.inr ⟨?gz15, rfl⟩) (by assumption) ?rz15
    case iz15 => (simp only [List.getElem?_toArray, List.getElem?_cons_zero, List.getElem?_cons_succ]; rfl)
    case qz15 => exact fun _ _ _ h => h
    case gz15 => rfl
    simp only [Act.put, List.setIfInBounds_toArray, List.set_cons_zero, List.set_cons_succ]
    refine wpAnyH_take (i := 15) (oi := ?oz16) (v := ?vz16) ?iz16 (by kernel_rfl) (by kernel_rfl) (by kernel_rfl) ?qz16 (Or.inl ⟨?gz16, ?hz16⟩) (by assumption) ?rz16
    case iz16 => (simp only [List.getElem?_toArray, List.getElem?_cons_zero, List.getElem?_cons_succ]; rfl)
    case qz16 => exact fun _ _ _ h => h
    case gz16 => rfl
    case hz16 => (intro w hSw; (simp only [Holds] at hSw); go_simp <;> with_reducible rfl)
    simp only [Act.put, List.setIfInBounds_toArray, List.set_cons_zero, List.set_cons_succ]
    refine wpAnyH_take (i := 16) (oi := ?oz17) (v := ?vz17) ?iz17 (by kernel_rfl) (by kernel_rfl) (by kernel_rfl) ?qz17 (Or.inl ⟨?gz17, ?hz17⟩) (by assumption) ?rz17
    case iz17 => (simp only [List.getElem?_toArray, List.getElem?_cons_zero, List.getElem?_cons_succ]; rfl)
    case qz17 => exact fun _ _ _ h => h
    case gz17 => rfl
    case hz17 => (intro w hSw; (simp only [Holds] at hSw); go_simp <;> with_reducible rfl)
    simp only [Act.put, List.setIfInBounds_toArray, List.set_cons_zero, List.set_cons_succ]
    refine wpAnyH_take (i := 17) (oi := ?oz18) (v := undef) ?iz18 (by kernel_rfl) (by kernel_rfl) (by kernel_rfl) ?qz18 (Or.inr ⟨?gz18, rfl⟩) (by assumption) ?rz18
    case iz18 => (simp only [List.getElem?_toArray, List.getElem?_cons_zero, List.getElem?_cons_succ]; rfl)
    case qz18 => exact fun _ _ _ h => h
    case gz18 => rfl
    simp only [Act.put, List.setIfInBounds_toArray, List.set_cons_zero, List.set_cons_succ]
    refine wpAnyH_take (i := 18) (oi := ?oz19) (v := undef) ?iz19 (by kernel_rfl) (by kernel_rfl) (by kernel_rfl) ?qz19 (Or.inr ⟨?gz19, rfl⟩) (by assumption) ?rz19
    case iz19 => (simp only [List.getElem?_toArray, List.getElem?_cons_zero, List.getElem?_cons_succ]; rfl)
    case qz19 => exact fun _ _ _ h => h
    case gz19 => rfl
    simp only [Act.put, List.setIfInBounds_toArray, List.set_cons_zero, List.set_cons_succ]
    refine wpAnyH_take (i := 19) (oi := ?oz20) (v := undef) ?iz20 (by kernel_rfl) (by kernel_rfl) (by kernel_rfl) ?qz20 (Or.inr ⟨?gz20, rfl⟩) (by assumption) ?rz20
    case iz20 => (simp only [List.getElem?_toArray, List.getElem?_cons_zero, List.getElem?_cons_succ]; rfl)
    case qz20 => exact fun _ _ _ h => h
    case gz20 => rfl
    simp only [Act.put, List.setIfInBounds_toArray, List.set_cons_zero, List.set_cons_succ]
    refine wpAnyH_take (i := 20) (oi := ?oz21) (v := undef) ?iz21 (by kernel_rfl) (by kernel_rfl) (by kernel_rfl) ?qz21 (Or.inr ⟨?gz21, rfl⟩) (by assumption) ?rz21
    case iz21 => (simp only [List.getElem?_toArray, List.getElem?_cons_zero, List.getElem?_cons_succ]; rfl)
    case qz21 => exact fun _ _ _ h => h
    case gz21 => rfl
    simp only [Act.put, List.setIfInBounds_toArray, List.set_cons_zero, List.set_cons_succ]
    refine wpAnyH_take (i := 21) (oi := ?oz22) (v := undef) ?iz22 (by kernel_rfl) (by kernel_rfl) (by kernel_rfl) ?qz22 (Or.inr ⟨?gz22, rfl⟩) (by assumption) ?rz22
    case iz22 => (simp only [List.getElem?_toArray, List.getElem?_cons_zero, List.getElem?_cons_succ]; rfl)
    case qz22 => exact fun _ _ _ h => h
    case gz22 => rfl
    simp only [Act.put, List.setIfInBounds_toArray, List.set_cons_zero, List.set_cons_succ]
    refine wpAnyH_take (i := 22) (oi := ?oz23) (v := undef) ?iz23 (by kernel_rfl) (by kernel_rfl) (by kernel_rfl) ?qz23 (Or.inr ⟨?gz23, rfl⟩) (by assumption) ?rz23
    case iz23 => (simp only [List.getElem?_toArray, List.getElem?_cons_zero, List.getElem?_cons_succ]; rfl)
    case qz23 => exact fun _ _ _ h => h
    case gz23 => rfl
    simp only [Act.put, List.setIfInBounds_toArray, List.set_cons_zero, List.set_cons_succ]
    refine wpAnyH_take (i := 23) (oi := ?oz24) (v := undef) ?iz24 (by kernel_rfl) (by kernel_rfl) (by kernel_rfl) ?qz24 (Or.inr ⟨?gz24, rfl⟩) (by assumption) ?rz24
    case iz24 => (simp only [List.getElem?_toArray, List.getElem?_cons_zero, List.getElem?_cons_succ]; rfl)
    case qz24 => exact fun _ _ _ h => h
    case gz24 => rfl
    simp only [Act.put, List.setIfInBounds_toArray, List.set_cons_zero, List.set_cons_succ]
    refine wpAnyH_take (i := 24) (oi := ?oz25) (v := undef) ?iz25 (by kernel_rfl) (by kernel_rfl) (by kernel_rfl) ?qz25 (Or.inr ⟨?gz25, rfl⟩) (by assumption) ?rz25
    case iz25 => (simp only [List.getElem?_toArray, List.getElem?_cons_zero, List.getElem?_cons_succ]; rfl)
    case qz25 => exact fun _ _ _ h => h
    case gz25 => rfl
    simp only [Act.put, List.setIfInBounds_toArray, List.set_cons_zero, List.set_cons_succ]
    refine wpAnyH_take (i := 25) (oi := ?oz26) (v := ?vz26) ?iz26 (by kernel_rfl) (by kernel_rfl) (by kernel_rfl) ?qz26 (Or.inl ⟨?gz26, ?hz26⟩) (by assumption) ?rz26
    case iz26 => (simp only [List.getElem?_toArray, List.getElem?_cons_zero, List.getElem?_cons_succ]; rfl)
    case qz26 => exact fun _ _ _ h => h
    case gz26 => rfl
    case hz26 => (intro w hSw; (simp only [Holds] at hSw); go_simp <;> with_reducible rfl)
    simp only [Act.put, List.setIfInBounds_toArray, List.set_cons_zero, List.set_cons_succ]
    refine wpAnyH_take (i := 26) (oi := ?oz27) (v := ?vz27) ?iz27 (by kernel_rfl) (by kernel_rfl) (by kernel_rfl) ?qz27 (Or.inl ⟨?gz27, ?hz27⟩) (by assumption) ?rz27
    case iz27 => (simp only [List.getElem?_toArray, List.getElem?_cons_zero, List.getElem?_cons_succ]; rfl)
    case qz27 => exact fun _ _ _ h => h
    case gz27 => rfl
    case hz27 => (intro w hSw; (simp only [Holds] at hSw); go_simp <;> with_reducible rfl)
    simp only [Act.put, List.setIfInBounds_toArray, List.set_cons_zero, List.set_cons_succ]
    refine wpAnyH_take (i := 27) (oi := ?oz28) (v := undef) ?iz28 (by kernel_rfl) (by kernel_rfl) (by kernel_rfl) ?qz28 (Or.inr ⟨?gz28, rfl⟩) (by assumption) ?rz28
    case iz28 => (simp only [List.getElem?_toArray, List.getElem?_cons_zero, List.getElem?_cons_succ]; rfl)
    case qz28 => exact fun _ _ _ h => h
    case gz28 => rfl
    simp only [Act.put, List.setIfInBounds_toArray, List.set_cons_zero, List.set_cons_succ]
    refine wpAnyH_take (i := 28) (oi := ?oz29) (v := undef) ?iz29 (by kernel_rfl) (by kernel_rfl) (by kernel_rfl) ?qz29 (Or.inr ⟨?gz29, rfl⟩) (by assumption) ?rz29
    case iz29 => (simp only [List.getElem?_toArray, List.getElem?_cons_zero, List.getElem?_cons_succ]; rfl)
    case qz29 => exact fun _ _ _ h => h
    case gz29 => rfl
    simp only [Act.put, List.setIfInBounds_toArray, List.set_cons_zero, List.set_cons_succ]
    refine wpAnyH_take (i := 29) (oi := ?oz30) (v := undef) ?iz30 (by kernel_rfl) (by kernel_rfl) (by kernel_rfl) ?qz30 (Or.inr ⟨?gz30, rfl⟩) (by assumption) ?rz30
    case iz30 => (simp only [List.getElem?_toArray, List.getElem?_cons_zero, List.getElem?_cons_succ]; rfl)
    case qz30 => exact fun _ _ _ h => h
    case gz30 => rfl
    simp only [Act.put, List.setIfInBounds_toArray, List.set_cons_zero, List.set_cons_succ]
    refine wpAnyH_take (i := 30) (oi := ?oz31) (v := ?vz31) ?iz31 (by kernel_rfl) (by kernel_rfl) (by kernel_rfl) ?qz31 (Or.inl ⟨?gz31, ?hz31⟩) (by assumption) ?rz31
    case iz31 => (simp only [List.getElem?_toArray, List.getElem?_cons_zero, List.getElem?_cons_succ]; rfl)
    case qz31 => exact fun _ _ _ h => h
    case gz31 => rfl
    case hz31 => (intro w hSw; (simp only [Holds] at hSw); go_simp <;> with_reducible rfl)
    simp only [Act.put, List.setIfInBounds_toArray, List.set_cons_zero, List.set_cons_succ]
    refine wpAnyH_take (i := 31) (oi := ?oz32) (v := ?vz32) ?iz32 (by kernel_rfl) (by kernel_rfl) (by kernel_rfl) ?qz32 (Or.inl ⟨?gz32, ?hz32⟩) (by assumption) ?rz32
    case iz32 => (simp only [List.getElem?_toArray, List.getElem?_cons_zero, List.getElem?_cons_succ]; rfl)
    case qz32 => exact fun _ _ _ h => h
    case gz32 => rfl
    case hz32 => (intro w hSw; (simp only [Holds] at hSw); go_simp <;> with_reducible rfl)
    simp only [Act.put, List.setIfInBounds_toArray, List.set_cons_zero, List.set_cons_succ]
    refine wpAnyH_take (i := 32) (oi := ?oz33) (v := undef) ?iz33 (by kernel_rfl) (by kernel_rfl) (by kernel_rfl) ?qz33 (Or.inr ⟨?gz33, rfl⟩) (by assumption) ?rz33
    case iz33 => (simp only [List.getElem?_toArray, List.getElem?_cons_zero, List.getElem?_cons_succ]; rfl)
    case qz33 => exact fun _ _ _ h => h
    case gz33 => rfl
    simp only [Act.put, List.setIfInBounds_toArray, List.set_cons_zero, List.set_cons_succ]
    refine wpAnyH_take (i := 33) (oi := ?oz34) (v := undef) ?iz34 (by kernel_rfl) (by kernel_rfl) (by kernel_rfl) ?qz34 (Or.inr ⟨?gz34, rfl⟩) (by assumption) ?rz34
    case iz34 => (simp only [List.getElem?_toArray, List.getElem?_cons_zero, List.getElem?_cons_succ]; rfl)
    case qz34 => exact fun _ _ _ h => h
    case gz34 => rfl
    simp only [Act.put, List.setIfInBounds_toArray, List.set_cons_zero, List.set_cons_succ]
    refine wpAnyH_take (i := 34) (oi := ?oz35) (v := undef) ?iz35 (by kernel_rfl) (by kernel_rfl) (by kernel_rfl) ?qz35 (Or.inr ⟨?gz35, rfl⟩) (by assumption) ?rz35
    case iz35 => (simp only [List.getElem?_toArray, List.getElem?_cons_zero, List.getElem?_cons_succ]; rfl)
    case qz35 => exact fun _ _ _ h => h
    case gz35 => rfl
    simp only [Act.put, List.setIfInBounds_toArray, List.set_cons_zero, List.set_cons_succ]
    refine wpAnyH_take (i := 35) (oi := ?oz36) (v := undef) ?iz36 (by kernel_rfl) (by kernel_rfl) (by kernel_rfl) ?qz36 (Or.inr ⟨?gz36, rfl⟩) (by assumption) ?rz36
    case iz36 => (simp only [List.getElem?_toArray, List.getElem?_cons_zero, List.getElem?_cons_succ]; rfl)
    case qz36 => exact fun _ _ _ h => h
    case gz36 => rfl
    simp only [Act.put, List.setIfInBounds_toArray, List.set_cons_zero, List.set_cons_succ]
    refine wpAnyH_take (i := 36) (oi := ?oz37) (v := undef) ?iz37 (by kernel_rfl) (by kernel_rfl) (by kernel_rfl) ?qz37 (Or.inr ⟨?gz37, rfl⟩) (by assumption) ?rz37
    case iz37 => (simp only [List.getElem?_toArray, List.getElem?_cons_zero, List.getElem?_cons_succ]; rfl)
    case qz37 => exact fun _ _ _ h => h
    case gz37 => rfl
    simp only [Act.put, List.setIfInBounds_toArray, List.set_cons_zero, List.set_cons_succ]
    refine wpAnyH_take (i := 37) (oi := ?oz38) (v := ?vz38) ?iz38 (by kernel_rfl) (by kernel_rfl) (by kernel_rfl) ?qz38 (Or.inl ⟨?gz38, ?hz38⟩) (by assumption) ?rz38
    case iz38 => (simp only [List.getElem?_toArray, List.getElem?_cons_zero, List.getElem?_cons_succ]; rfl)
    case qz38 => exact fun _ _ _ h => h
    case gz38 => rfl
    case hz38 => (intro w hSw; (simp only [Holds] at hSw); go_simp <;> with_reducible rfl)
    simp only [Act.put, List.setIfInBounds_toArray, List.set_cons_zero, List.set_cons_succ]
    refine wpAnyH_take (i := 38) (oi := ?oz39) (v := ?vz39) ?iz39 (by kernel_rfl) (by kernel_rfl) (by kernel_rfl) ?qz39 (Or.inl ⟨?gz39, ?hz39⟩) (by assumption) ?rz39
    case iz39 => (simp only [List.getElem?_toArray, List.getElem?_cons_zero, List.getElem?_cons_succ]; rfl)
    case qz39 => exact fun _ _ _ h => h
    case gz39 => rfl
    case hz39 => (intro w hSw; (simp only [Holds] at hSw); go_simp <;> with_reducible rfl)
    simp only [Act.put, List.setIfInBounds_toArray, List.set_cons_zero, List.set_cons_succ]
    refine wpAnyH_take (i := 39) (oi := ?oz40) (v := undef) ?iz40 (by kernel_rfl) (by kernel_rfl) (by kernel_rfl) ?qz40 (Or.inr ⟨?gz40, rfl⟩) (by assumption) ?rz40
    case iz40 => (simp only [List.getElem?_toArray, List.getElem?_cons_zero, List.getElem?_cons_succ]; rfl)
    case qz40 => exact fun _ _ _ h => h
    case gz40 => rfl
    simp only [Act.put, List.setIfInBounds_toArray, List.set_cons_zero, List.set_cons_succ]
    refine wpAnyH_take (i := 40) (oi := ?oz41) (v := undef) ?iz41 (by kernel_rfl) (by kernel_rfl) (by kernel_rfl) ?qz41 (Or.inr ⟨?gz41, rfl⟩) (by assumption) ?rz41
    case iz41 => (simp only [List.getElem?_toArray, List.getElem?_cons_zero, List.getElem?_cons_succ]; rfl)
    case qz41 => exact fun _ _ _ h => h
    case gz41 => rfl
    simp only [Act.put, List.setIfInBounds_toArray, List.set_cons_zero, List.set_cons_succ]
    refine wpAnyH_take (i := 41) (oi := ?oz42) (v := undef) ?iz42 (by kernel_rfl) (by kernel_rfl) (by kernel_rfl) ?qz42 (Or.inr ⟨?gz42, rfl⟩) (by assumption) ?rz42
    case iz42 => (simp only [List.getElem?_toArray, List.getElem?_cons_zero, List.getElem?_cons_succ]; rfl)
    case qz42 => exact fun _ _ _ h => h
    case gz42 => rfl
    simp only [Act.put, List.setIfInBounds_toArray, List.set_cons_zero, List.set_cons_succ]
    refine wpAnyH_take (i := 42) (oi := ?oz43) (v := undef) ?iz43 (by kernel_rfl) (by kernel_rfl) (by kernel_rfl) ?qz43 (Or.inr ⟨?gz43, rfl⟩) (by assumption) ?rz43
    case iz43 => (simp only [List.getElem?_toArray, List.getElem?_cons_zero, List.getElem?_cons_succ]; rfl)
    case qz43 => exact fun _ _ _ h => h
    case gz43 => rfl
    simp only [Act.put, List.setIfInBounds_toArray, List.set_cons_zero, List.set_cons_succ]
    refine wpAnyH_take (i := 43) (oi := ?oz44) (v := undef) ?iz44 (by kernel_rfl) (by kernel_rfl) (by kernel_rfl) ?qz44 (Or.inr ⟨?gz44, rfl⟩) (by assumption) ?rz44
    case iz44 => (simp only [List.getElem?_toArray, List.getElem?_cons_zero, List.getElem?_cons_succ]; rfl)
    case qz44 => exact fun _ _ _ h => h
    case gz44 => rfl
    simp only [Act.put, List.setIfInBounds_toArray, List.set_cons_zero, List.set_cons_succ]
    refine wpAnyH_take (i := 44) (oi := ?oz45) (v := undef) ?iz45 (by kernel_rfl) (by kernel_rfl) (by kernel_rfl) ?qz45 (Or.inr ⟨?gz45, rfl⟩) (by assumption) ?rz45
    case iz45 => (simp only [List.getElem?_toArray, List.getElem?_cons_zero, List.getElem?_cons_succ]; rfl)
    case qz45 => exact fun _ _ _ h => h
    case gz45 => rfl
    simp only [Act.put, List.setIfInBounds_toArray, List.set_cons_zero, List.set_cons_succ]
    refine wpAnyH_take (i := 45) (oi := ?oz46) (v := undef) ?iz46 (by kernel_rfl) (by kernel_rfl) (by kernel_rfl) ?qz46 (Or.inr ⟨?gz46, rfl⟩) (by assumption) ?rz46
    case iz46 => (simp only [List.getElem?_toArray, List.getElem?_cons_zero, List.getElem?_cons_succ]; rfl)
    case qz46 => exact fun _ _ _ h => h
    case gz46 => rfl
    simp only [Act.put, List.setIfInBounds_toArray, List.set_cons_zero, List.set_cons_succ]
    refine wpAnyH_take (i := 46) (oi := ?oz47) (v := undef) ?iz47 (by kernel_rfl) (by kernel_rfl) (by kernel_rfl) ?qz47 (Or.inr ⟨?gz47, rfl⟩) (by assumption) ?rz47
    case iz47 => (simp only [List.getElem?_toArray, List.getElem?_cons_zero, List.getElem?_cons_succ]; rfl)
    case qz47 => exact fun _ _ _ h => h
    case gz47 => rfl
    simp only [Act.put, List.setIfInBounds_toArray, List.set_cons_zero, List.set_cons_succ]
    refine wpAnyH_take (i := 47) (oi := ?oz48) (v := undef) ?iz48 (by kernel_rfl) (by kernel_rfl) (by kernel_rfl) ?qz48 (Or.inr ⟨?gz48, rfl⟩) (by assumption) ?rz48
    case iz48 => (simp only [List.getElem?_toArray, List.getElem?_cons_zero, List.getElem?_cons_succ]; rfl)
    case qz48 => exact fun _ _ _ h => h
    case gz48 => rfl
    simp only [Act.put, List.setIfInBounds_toArray, List.set_cons_zero, List.set_cons_succ]
    refine wpAnyH_take (i := 48) (oi := ?oz49) (v := undef) ?iz49 (by kernel_rfl) (by kernel_rfl) (by kernel_rfl) ?qz49 (Or.inr ⟨?gz49, rfl⟩) (by assumption) ?rz49
    case iz49 => (simp only [List.getElem?_toArray, List.getElem?_cons_zero, List.getElem?_cons_succ]; rfl)
    case qz49 => exact fun _ _ _ h => h
    case gz49 => rfl
    simp only [Act.put, List.setIfInBounds_toArray, List.set_cons_zero, List.set_cons_succ]
    refine wpAnyH_take (i := 49) (oi := ?oz50) (v := undef) ?iz50 (by kernel_rfl) (by kernel_rfl) (by kernel_rfl) ?qz50 (Or.inr ⟨?gz50, rfl⟩) (by assumption) ?rz50
    case iz50 => (simp only [List.getElem?_toArray, List.getElem?_cons_zero, List.getElem?_cons_succ]; rfl)
    case qz50 => exact fun _ _ _ h => h
    case gz50 => rfl
    simp only [Act.put, List.setIfInBounds_toArray, List.set_cons_zero, List.set_cons_succ]
    refine wpAnyH_take (i := 50) (oi := ?oz51) (v := undef) ?iz51 (by kernel_rfl) (by kernel_rfl) (by kernel_rfl) ?qz51 (Or.inr ⟨?gz51, rfl⟩) (by assumption) ?rz51
    case iz51 => (simp only [List.getElem?_toArray, List.getElem?_cons_zero, List.getElem?_cons_succ]; rfl)
    case qz51 => exact fun _ _ _ h => h
    case gz51 => rfl
    simp only [Act.put, List.setIfInBounds_toArray, List.set_cons_zero, List.set_cons_succ]
    refine wpAnyH_take (i := 51) (oi := ?oz52) (v := undef) ?iz52 (by kernel_rfl) (by kernel_rfl) (by kernel_rfl) ?qz52 (Or.inr ⟨?gz52, rfl⟩) (by assumption) ?rz52
    case iz52 => (simp only [List.getElem?_toArray, List.getElem?_cons_zero, List.getElem?_cons_succ]; rfl)
    case qz52 => exact fun _ _ _ h => h
    case gz52 => rfl
    simp only [Act.put, List.setIfInBounds_toArray, List.set_cons_zero, List.set_cons_succ]
    refine wpAnyH_take (i := 52) (oi := ?oz53) (v := ?vz53) ?iz53 (by kernel_rfl) (by kernel_rfl) (by kernel_rfl) ?qz53 (Or.inl ⟨?gz53, ?hz53⟩) (by assumption) ?rz53
    case iz53 => (simp only [List.getElem?_toArray, List.getElem?_cons_zero, List.getElem?_cons_succ]; rfl)
    case qz53 => exact fun _ _ _ h => h
    case gz53 => rfl
    case hz53 => (intro w hSw; (simp only [Holds] at hSw); go_simp <;> with_reducible rfl)
    simp only [Act.put, List.setIfInBounds_toArray, List.set_cons_zero, List.set_cons_succ]
    refine wpAnyH_take (i := 53) (oi := ?oz54) (v := ?vz54) ?iz54 (by kernel_rfl) (by kernel_rfl) (by kernel_rfl) ?qz54 (Or.inl ⟨?gz54, ?hz54⟩) (by assumption) ?rz54
    case iz54 => (simp only [List.getElem?_toArray, List.getElem?_cons_zero, List.getElem?_cons_succ]; rfl)
    case qz54 => exact fun _ _ _ h => h
    case gz54 => rfl
    case hz54 => (intro w hSw; (simp only [Holds] at hSw); go_simp <;> with_reducible rfl)
    simp only [Act.put, List.setIfInBounds_toArray, List.set_cons_zero, List.set_cons_succ]
    refine wpAnyH_done (by kernel_rfl) ?_ _
    go_wp2
    go_ret
    exact ⟨ret_bool HD.out.symm, HB1.out.trans (Bc.out.mono hNW)⟩
  have hp := (inb_iff _ _ _).1 hb1
  have e1 : IntKind.i64.wrap (1 + I.p) = 1 + I.p := IntWalk.i64_in _ (by omega)
  have e2 : IntKind.i64.wrap (2 * I.p) = 2 * I.p := IntWalk.i64_in _ (by omega)
  have e3 : IntKind.i64.wrap (2 * I.p + 1) = 2 * I.p + 1 := IntWalk.i64_in _ (by omega)
  refine wpAnyH_take (i := 4) (oi := ?oz55) (v := ?vz55) ?iz55 (by kernel_rfl) (by kernel_rfl) (by kernel_rfl) ?qz55 (Or.inl ⟨?gz55, ?hz55⟩) (by assumption) ?rz55
  case iz55 => (simp only [List.getElem?_toArray, List.getElem?_cons_zero, List.getElem?_cons_succ]; rfl)
  case qz55 => exact fun _ _ _ h => h
  case gz55 => rfl
  case hz55 => (intro w hSw; (simp only [Holds] at hSw); go_simp <;> with_reducible rfl)
  simp only [Act.put, List.setIfInBounds_toArray, List.set_cons_zero, List.set_cons_succ]
  refine wpAnyH_take (i := 5) (oi := ?oz56) (v := ?vz56) ?iz56 (by kernel_rfl) (by kernel_rfl) (by kernel_rfl) ?qz56 (Or.inl ⟨?gz56, ?hz56⟩) (by assumption) ?rz56
  case iz56 => (simp only [List.getElem?_toArray, List.getElem?_cons_zero, List.getElem?_cons_succ]; rfl)
  case qz56 => exact fun _ _ _ h => h
  case gz56 => rfl
  case hz56 => (intro w hSw; (simp only [Holds] at hSw); go_simp <;> with_reducible rfl)
  simp only [Act.put, List.setIfInBounds_toArray, List.set_cons_zero, List.set_cons_succ]
  refine wpAnyH_take (i := 6) (oi := ?oz57) (v := ?vz57) ?iz57 (by kernel_rfl) (by kernel_rfl) (by kernel_rfl) ?qz57 (Or.inl ⟨?gz57, ?hz57⟩) (by assumption) ?rz57
  case iz57 => (simp only [List.getElem?_toArray, List.getElem?_cons_zero, List.getElem?_cons_succ]; rfl)
  case qz57 => exact fun _ _ _ h => h
  case gz57 => rfl
  case hz57 => (intro w hSw; (simp only [Holds] at hSw); go_simp <;> with_reducible rfl)
  simp only [Act.put, List.setIfInBounds_toArray, List.set_cons_zero, List.set_cons_succ]
  refine wpAnyH_ready (rs := [7]) (by kernel_rfl) (by simp) ?_
  refine AllReadyH.cons (o := ?oz58) ?iz58 (fun K hK => ?kz58) AllReadyH.nil
  case iz58 => (simp only [List.getElem?_toArray, List.getElem?_cons_zero, List.getElem?_cons_succ]; rfl)
  go_simp
  refine held_more hK HS0.out hlt (Bc.out.alloc Bc.out.size _) (fun Bc hSn => ?_)
  refine wpAnyH_ready (rs := [8]) (by kernel_rfl) (by simp) ?_
  refine AllReadyH.cons (o := ?oz59) ?iz59 (fun K hK => ?kz59) AllReadyH.nil
  case iz59 => (simp only [List.getElem?_toArray, List.getElem?_cons_zero, List.getElem?_cons_succ]; rfl)
  go_simp
  refine (within1 _ 1 8 I.c (by go_simp)).mono ?_
  rintro e w' ⟨rfl, rfl⟩
  refine held_more hK HS0.out hlt Bc.out (fun Bc hSn => ?_)
  cases hb2 : inb 1 8 I.c
  · have HD := Lib.hid (show mayB I = false by rw [HSM.out, hb1, hb2]; rfl)
    refine wpAnyH_take (i := 9) (oi := ?oz60) (v := ?vz60) ?iz60 (by kernel_rfl) (by kernel_rfl) (by kernel_rfl) ?qz60 (Or.inl ⟨?gz60, ?hz60⟩) (by assumption) ?rz60
    case iz60 => (simp only [List.getElem?_toArray, List.getElem?_cons_zero, List.getElem?_cons_succ]; rfl)
    case qz60 => exact fun _ _ _ h => h
    case gz60 => rfl
    case hz60 => (intro w hSw; (simp only [Holds] at hSw); go_simp <;> with_reducible rfl)
    simp only [Act.put, List.setIfInBounds_toArray, List.set_cons_zero, List.set_cons_succ]
    refine wpAnyH_take (i := 10) (oi := ?oz61) (v := ?vz61) ?iz61 (by kernel_rfl) (by kernel_rfl) (by kernel_rfl) ?qz61 (Or.inl ⟨?gz61, ?hz61⟩) (by assumption) ?rz61
    case iz61 => (simp only [List.getElem?_toArray, List.getElem?_cons_zero, List.getElem?_cons_succ]; rfl)
    case qz61 => exact fun _ _ _ h => h
    case gz61 => rfl
    case hz61 => (intro w hSw; (simp only [Holds] at hSw); go_simp <;> with_reducible rfl)
    simp only [Act.put, List.setIfInBounds_toArray, List.set_cons_zero, List.set_cons_succ]
    refine wpAnyH_take (i := 11) (oi := ?oz62) (v := undef) ?iz62 (by kernel_rfl) (by kernel_rfl) (by kernel_rfl) ?qz62 (Or.inr ⟨?gz62, rfl⟩) (by assumption) ?rz62
    case iz62 => (simp only [List.getElem?_toArray, List.getElem?_cons_zero, List.getElem?_cons_succ]; rfl)
    case qz62 => exact fun _ _ _ h => h
    case gz62 => rfl
    simp only [Act.put, List.setIfInBounds_toArray, List.set_cons_zero, List.set_cons_succ]
    refine wpAnyH_take (i := 12) (oi := ?oz63) (v := undef) ?iz63 (by kernel_rfl) (by kernel_rfl) (by kernel_rfl) ?qz63 (Or.inr ⟨?gz63, rfl⟩) (by assumption) ?rz63
    case iz63 => (simp only [List.getElem?_toArray, List.getElem?_cons_zero, List.getElem?_cons_succ]; rfl)
    case qz63 => exact fun _ _ _ h => h
    case gz63 => rfl
    simp only [Act.put, List.setIfInBounds_toArray, List.set_cons_zero, List.set_cons_succ]
    refine wpAnyH_take (i := 13) (oi := ?oz64) (v := undef) ?iz64 (by kernel_rfl) (by kernel_rfl) (by kernel_rfl) ?qz64 (Or.inr ⟨?gz64, rfl⟩) (by assumption) ?rz64
    case iz64 => (simp only [List.getElem?_toArray, List.getElem?_cons_zero, List.getElem?_cons_succ]; rfl)
    case qz64 => exact fun _ _ _ h => h
    case gz64 => rfl
    simp only [Act.put, List.setIfInBounds_toArray, List.set_cons_zero, List.set_cons_succ]
    refine wpAnyH_take (i := 14) (oi := ?oz65) (v := undef) ?iz65 (by kernel_rfl) (by kernel_rfl) (by kernel_rfl) ?qz65 (Or.inr ⟨?gz65, rfl⟩) (by assumption) ?rz65
    case iz65 => (simp only [List.getElem?_toArray, List.getElem?_cons_zero, List.getElem?_cons_succ]; rfl)
    case qz65 => exact fun _ _ _ h => h
    case gz65 => rfl
    simp only [Act.put, List.setIfInBounds_toArray, List.set_cons_zero, List.set_cons_succ]
    refine wpAnyH_take (i := 15) (oi := ?oz66) (v := ?vz66) ?iz66 (by kernel_rfl) (by kernel_rfl) (by kernel_rfl) ?qz66 (Or.inl ⟨?gz66, ?hz66⟩) (by assumption) ?rz66
    case iz66 => (simp only [List.getElem?_toArray, List.getElem?_cons_zero, List.getElem?_cons_succ]; rfl)
    case qz66 => exact fun _ _ _ h => h
    case gz66 => rfl
    case hz66 => (intro w hSw; (simp only [Holds] at hSw); go_simp <;> with_reducible rfl)
    simp only [Act.put, List.setIfInBounds_toArray, List.set_cons_zero, List.set_cons_succ]
    refine wpAnyH_take (i := 16) (oi := ?oz67) (v := ?vz67) ?iz67 (by kernel_rfl) (by kernel_rfl) (by kernel_rfl) ?qz67 (Or.inl ⟨?gz67, ?hz67⟩) (by assumption) ?rz67
    case iz67 => (simp only [List.getElem?_toArray, List.getElem?_cons_zero, List.getElem?_cons_succ]; rfl)
    case qz67 => exact fun _ _ _ h => h
    case gz67 => rfl
    case hz67 => (intro w hSw; (simp only [Holds] at hSw); go_simp <;> with_reducible rfl)
    simp only [Act.put, List.setIfInBounds_toArray, List.set_cons_zero, List.set_cons_succ]
    refine wpAnyH_take (i := 17) (oi := ?oz68) (v := undef) ?iz68 (by kernel_rfl) (by kernel_rfl) (by kernel_rfl) ?qz68 (Or.inr ⟨?gz68, rfl⟩) (by assumption) ?rz68
    case iz68 => (simp only [List.getElem?_toArray, List.getElem?_cons_zero, List.getElem?_cons_succ]; rfl)
    case qz68 => exact fun _ _ _ h => h
    case gz68 => rfl
    simp only [Act.put, List.setIfInBounds_toArray, List.set_cons_zero, List.set_cons_succ]
    refine wpAnyH_take (i := 18) (oi := ?oz69) (v := undef) ?iz69 (by kernel_rfl) (by kernel_rfl) (by kernel_rfl) ?qz69 (Or.inr ⟨?gz69, rfl⟩) (by assumption) ?rz69
    case iz69 => (simp only [List.getElem?_toArray, List.getElem?_cons_zero, List.getElem?_cons_succ]; rfl)
    case qz69 => exact fun _ _ _ h => h
    case gz69 => rfl
    simp only [Act.put, List.setIfInBounds_toArray, List.set_cons_zero, List.set_cons_succ]
    refine wpAnyH_take (i := 19) (oi := ?oz70) (v := undef) ?iz70 (by kernel_rfl) (by kernel_rfl) (by kernel_rfl) ?qz70 (Or.inr ⟨?gz70, rfl⟩) (by assumption) ?rz70
    case iz70 => (simp only [List.getElem?_toArray, List.getElem?_cons_zero, List.getElem?_cons_succ]; rfl)
    case qz70 => exact fun _ _ _ h => h
    case gz70 => rfl
    simp only [Act.put, List.setIfInBounds_toArray, List.set_cons_zero, List.set_cons_succ]
    refine wpAnyH_take (i := 20) (oi := ?oz71) (v := undef) ?iz71 (by kernel_rfl) (by kernel_rfl) (by kernel_rfl) ?qz71 (Or.inr ⟨?gz71, rfl⟩) (by assumption) ?rz71
    case iz71 => (simp only [List.getElem?_toArray, List.getElem?_cons_zero, List.getElem?_cons_succ]; rfl)
    case qz71 => exact fun _ _ _ h => h
    case gz71 => rfl
    simp only [Act.put, List.setIfInBounds_toArray, List.set_cons_zero, List.set_cons_succ]
    refine wpAnyH_take (i := 21) (oi := ?oz72) (v := undef) ?iz72 (by kernel_rfl) (by kernel_rfl) (by kernel_rfl) ?qz72 (Or.inr ⟨?gz72, rfl⟩) (by assumption) ?rz72
    case iz72 => (simp only [List.getElem?_toArray, List.getElem?_cons_zero, List.getElem?_cons_succ]; rfl)
    case qz72 => exact fun _ _ _ h => h
    case gz72 => rfl
    simp only [Act.put, List.setIfInBounds_toArray, List.set_cons_zero, List.set_cons_succ]
    refine wpAnyH_take (i := 22) (oi := ?oz73) (v := undef) ?iz73 (by kernel_rfl) (by kernel_rfl) (by kernel_rfl) ?qz73 (Or.inr ⟨?gz73, rfl⟩) (by assumption) ?rz73
    case iz73 => (simp only [List.getElem?_toArray, List.getElem?_cons_zero, List.getElem?_cons_succ]; rfl)
    case qz73 => exact fun _ _ _ h => h
    case gz73 => rfl
    simp only [Act.put, List.setIfInBounds_toArray, List.set_cons_zero, List.set_cons_succ]
    refine wpAnyH_take (i := 23) (oi := ?oz74) (v := undef) ?iz74 (by kernel_rfl) (by kernel_rfl) (by kernel_rfl) ?qz74 (Or.inr ⟨?gz74, rfl⟩) (by assumption) ?rz74
    case iz74 => (simp only [List.getElem?_toArray, List.getElem?_cons_zero, List.getElem?_cons_succ]; rfl)
    case qz74 => exact fun _ _ _ h => h
    case gz74 => rfl
    simp only [Act.put, List.setIfInBounds_toArray, List.set_cons_zero, List.set_cons_succ]
    refine wpAnyH_take (i := 24) (oi := ?oz75) (v := undef) ?iz75 (by kernel_rfl) (by kernel_rfl) (by kernel_rfl) ?qz75 (Or.inr ⟨?gz75, rfl⟩) (by assumption) ?rz75
    case iz75 => (simp only [List.getElem?_toArray, List.getElem?_cons_zero, List.getElem?_cons_succ]; rfl)
    case qz75 => exact fun _ _ _ h => h
    case gz75 => rfl
    simp only [Act.put, List.setIfInBounds_toArray, List.set_cons_zero, List.set_cons_succ]
    refine wpAnyH_take (i := 25) (oi := ?oz76) (v := ?vz76) ?iz76 (by kernel_rfl) (by kernel_rfl) (by kernel_rfl) ?qz76 (Or.inl ⟨?gz76, ?hz76⟩) (by assumption) ?rz76
    case iz76 => (simp only [List.getElem?_toArray, List.getElem?_cons_zero, List.getElem?_cons_succ]; rfl)
    case qz76 => exact fun _ _ _ h => h
    case gz76 => rfl
    case hz76 => (intro w hSw; (simp only [Holds] at hSw); go_simp <;> with_reducible rfl)
    simp only [Act.put, List.setIfInBounds_toArray, List.set_cons_zero, List.set_cons_succ]
    refine wpAnyH_take (i := 26) (oi := ?oz77) (v := ?vz77) ?iz77 (by kernel_rfl) (by kernel_rfl) (by kernel_rfl) ?qz77 (Or.inl ⟨?gz77, ?hz77⟩) (by assumption) ?rz77
    case iz77 => (simp only [List.getElem?_toArray, List.getElem?_cons_zero, List.getElem?_cons_succ]; rfl)
    case qz77 => exact fun _ _ _ h => h
    case gz77 => rfl
    case hz77 => (intro w hSw; (simp only [Holds] at hSw); go_simp <;> with_reducible rfl)
    simp only [Act.put, List.setIfInBounds_toArray, List.set_cons_zero, List.set_cons_succ]
    refine wpAnyH_take (i := 27) (oi := ?oz78) (v := undef) ?iz78 (by kernel_rfl) (by kernel_rfl) (by kernel_rfl) ?qz78 (Or.inr ⟨?gz78, rfl⟩) (by assumption) ?rz78
    case iz78 => (simp only [List.getElem?_toArray, List.getElem?_cons_zero, List.getElem?_cons_succ]; rfl)
    case qz78 => exact fun _ _ _ h => h
    case gz78 => rfl
    simp only [Act.put, List.setIfInBounds_toArray, List.set_cons_zero, List.set_cons_succ]
    refine wpAnyH_take (i := 28) (oi := ?oz79) (v := undef) ?iz79 (by kernel_rfl) (by kernel_rfl) (by kernel_rfl) ?qz79 (Or.inr ⟨?gz79, rfl⟩) (by assumption) ?rz79
    case iz79 => (simp only [List.getElem?_toArray, List.getElem?_cons_zero, List.getElem?_cons_succ]; rfl)
    case qz79 => exact fun _ _ _ h => h
    case gz79 => rfl
    simp only [Act.put, List.setIfInBounds_toArray, List.set_cons_zero, List.set_cons_succ]
    refine wpAnyH_take (i := 29) (oi := ?oz80) (v := undef) ?iz80 (by kernel_rfl) (by kernel_rfl) (by kernel_rfl) ?qz80 (Or.inr ⟨?gz80, rfl⟩) (by assumption) ?rz80
    case iz80 => (simp only [List.getElem?_toArray, List.getElem?_cons_zero, List.getElem?_cons_succ]; rfl)
    case qz80 => exact fun _ _ _ h => h
    case gz80 => rfl
    simp only [Act.put, List.setIfInBounds_toArray, List.set_cons_zero, List.set_cons_succ]
    refine wpAnyH_take (i := 30) (oi := ?oz81) (v := ?vz81) ?iz81 (by kernel_rfl) (by kernel_rfl) (by kernel_rfl) ?qz81 (Or.inl ⟨?gz81, ?hz81⟩) (by assumption) ?rz81
    case iz81 => (simp only [List.getElem?_toArray, List.getElem?_cons_zero, List.getElem?_cons_succ]; rfl)
    case qz81 => exact fun _ _ _ h => h
    case gz81 => rfl
    case hz81 => (intro w hSw; (simp only [Holds] at hSw); go_simp <;> with_reducible rfl)
    simp only [Act.put, List.setIfInBounds_toArray, List.set_cons_zero, List.set_cons_succ]
    refine wpAnyH_take (i := 31) (oi := ?oz82) (v := ?vz82) ?iz82 (by kernel_rfl) (by kernel_rfl) (by kernel_rfl) ?qz82 (Or.inl ⟨?gz82, ?hz82⟩) (by assumption) ?rz82
    case iz82 => (simp only [List.getElem?_toArray, List.getElem?_cons_zero, List.getElem?_cons_succ]; rfl)
    case qz82 => exact fun _ _ _ h => h
    case gz82 => rfl
    case hz82 => (intro w hSw; (simp only [Holds] at hSw); go_simp <;> with_reducible rfl)
    simp only [Act.put, List.setIfInBounds_toArray, List.set_cons_zero, List.set_cons_succ]
    refine wpAnyH_take (i := 32) (oi := ?oz83) (v := undef) ?iz83 (by kernel_rfl) (by kernel_rfl) (by kernel_rfl) ?qz83 (Or.inr ⟨?gz83, rfl⟩) (by assumption) ?rz83
    case iz83 => (simp only [List.getElem?_toArray, List.getElem?_cons_zero, List.getElem?_cons_succ]; rfl)
    case qz83 => exact fun _ _ _ h => h
    case gz83 => rfl
    simp only [Act.put, List.setIfInBounds_toArray, List.set_cons_zero, List.set_cons_succ]
    refine wpAnyH_take (i := 33) (oi := ?oz84) (v := undef) ?iz84 (by kernel_rfl) (by kernel_rfl) (by kernel_rfl) ?qz84 (Or.inr ⟨?gz84, rfl⟩) (by assumption) ?rz84
    case iz84 => (simp only [List.getElem?_toArray, List.getElem?_cons_zero, List.getElem?_cons_succ]; rfl)
    case qz84 => exact fun _ _ _ h => h
    case gz84 => rfl
    simp only [Act.put, List.setIfInBounds_toArray, List.set_cons_zero, List.set_cons_succ]
    refine wpAnyH_take (i := 34) (oi := ?oz85) (v := undef) ?iz85 (by kernel_rfl) (by kernel_rfl) (by kernel_rfl) ?qz85 (Or.inr ⟨?gz85, rfl⟩) (by assumption) ?rz85
    case iz85 => (simp only [List.getElem?_toArray, List.getElem?_cons_zero, List.getElem?_cons_succ]; rfl)
    case qz85 => exact fun _ _ _ h => h
    case gz85 => rfl
    simp only [Act.put, List.setIfInBounds_toArray, List.set_cons_zero, List.set_cons_succ]
    refine wpAnyH_take (i := 35) (oi := ?oz86) (v := undef) ?iz86 (by kernel_rfl) (by kernel_rfl) (by kernel_rfl) ?qz86 (Or.inr ⟨?gz86, rfl⟩) (by assumption) ?rz86
    case iz86 => (simp only [List.getElem?_toArray, List.getElem?_cons_zero, List.getElem?_cons_succ]; rfl)
    case qz86 => exact fun _ _ _ h => h
    case gz86 => rfl
    simp only [Act.put, List.setIfInBounds_toArray, List.set_cons_zero, List.set_cons_succ]
    refine wpAnyH_take (i := 36) (oi := ?oz87) (v := undef) ?iz87 (by kernel_rfl) (by kernel_rfl) (by kernel_rfl) ?qz87 (Or.inr ⟨?gz87, rfl⟩) (by assumption) ?rz87
    case iz87 => (simp only [List.getElem?_toArray, List.getElem?_cons_zero, List.getElem?_cons_succ]; rfl)
    case qz87 => exact fun _ _ _ h => h
    case gz87 => rfl
    simp only [Act.put, List.setIfInBounds_toArray, List.set_cons_zero, List.set_cons_succ]
    refine wpAnyH_take (i := 37) (oi := ?oz88) (v := ?vz88) ?iz88 (by kernel_rfl) (by kernel_rfl) (by kernel_rfl) ?qz88 (Or.inl ⟨?gz88, ?hz88⟩) (by assumption) ?rz88
    case iz88 => (simp only [List.getElem?_toArray, List.getElem?_cons_zero, List.getElem?_cons_succ]; rfl)
    case qz88 => exact fun _ _ _ h => h
    case gz88 => rfl
    case hz88 => (intro w hSw; (simp only [Holds] at hSw); go_simp <;> with_reducible rfl)
    simp only [Act.put, List.setIfInBounds_toArray, List.set_cons_zero, List.set_cons_succ]
    refine wpAnyH_take (i := 38) (oi := ?oz89) (v := ?vz89) ?iz89 (by kernel_rfl) (by kernel_rfl) (by kernel_rfl) ?qz89 (Or.inl ⟨?gz89, ?hz89⟩) (by assumption) ?rz89
    case iz89 => (simp only [List.getElem?_toArray, List.getElem?_cons_zero, List.getElem?_cons_succ]; rfl)
    case qz89 => exact fun _ _ _ h => h
    case gz89 => rfl
    case hz89 => (intro w hSw; (simp only [Holds] at hSw); go_simp <;> with_reducible rfl)
    simp only [Act.put, List.setIfInBounds_toArray, List.set_cons_zero, List.set_cons_succ]
    refine wpAnyH_take (i := 39) (oi := ?oz90) (v := undef) ?iz90 (by kernel_rfl) (by kernel_rfl) (by kernel_rfl) ?qz90 (Or.inr ⟨?gz90, rfl⟩) (by assumption) ?rz90
    case iz90 => (simp only [List.getElem?_toArray, List.getElem?_cons_zero, List.getElem?_cons_succ]; rfl)
    case qz90 => exact fun _ _ _ h => h
    case gz90 => rfl
    simp only [Act.put, List.setIfInBounds_toArray, List.set_cons_zero, List.set_cons_succ]
    refine wpAnyH_take (i := 40) (oi := ?oz91) (v := undef) ?iz91 (by kernel_rfl) (by kernel_rfl) (by kernel_rfl) ?qz91 (Or.inr ⟨?gz91, rfl⟩) (by assumption) ?rz91
    case iz91 => (simp only [List.getElem?_toArray, List.getElem?_cons_zero, List.getElem?_cons_succ]; rfl)
    case qz91 => exact fun _ _ _ h => h
    case gz91 => rfl
    simp only [Act.put, List.setIfInBounds_toArray, List.set_cons_zero, List.set_cons_succ]
    refine wpAnyH_take (i := 41) (oi := ?oz92) (v := undef) ?iz92 (by kernel_rfl) (by kernel_rfl) (by kernel_rfl) ?qz92 (Or.inr ⟨?gz92, rfl⟩) (by assumption) ?rz92
    case iz92 => (simp only [List.getElem?_toArray, List.getElem?_cons_zero, List.getElem?_cons_succ]; rfl)
    case qz92 => exact fun _ _ _ h => h
    case gz92 => rfl
    simp only [Act.put, List.setIfInBounds_toArray, List.set_cons_zero, List.set_cons_succ]
    refine wpAnyH_take (i := 42) (oi := ?oz93) (v := undef) ?iz93 (by kernel_rfl) (by kernel_rfl) (by kernel_rfl) ?qz93 (Or.inr ⟨?gz93, rfl⟩) (by assumption) ?rz93
    case iz93 => (simp only [List.getElem?_toArray, List.getElem?_cons_zero, List.getElem?_cons_succ]; rfl)
    case qz93 => exact fun _ _ _ h => h
    case gz93 => rfl
    simp only [Act.put, List.setIfInBounds_toArray, List.set_cons_zero, List.set_cons_succ]
    refine wpAnyH_take (i := 43) (oi := ?oz94) (v := undef) ?iz94 (by kernel_rfl) (by kernel_rfl) (by kernel_rfl) ?qz94 (Or.inr ⟨?gz94, rfl⟩) (by assumption) ?rz94
    case iz94 => (simp only [List.getElem?_toArray, List.getElem?_cons_zero, List.getElem?_cons_succ]; rfl)
    case qz94 => exact fun _ _ _ h => h
    case gz94 => rfl
    simp only [Act.put, List.setIfInBounds_toArray, List.set_cons_zero, List.set_cons_succ]
    refine wpAnyH_take (i := 44) (oi := ?oz95) (v := undef) ?iz95 (by kernel_rfl) (by kernel_rfl) (by kernel_rfl) ?qz95 (Or.inr ⟨?gz95, rfl⟩) (by assumption) ?rz95
    case iz95 => (simp only [List.getElem?_toArray, List.getElem?_cons_zero, List.getElem?_cons_succ]; rfl)
    case qz95 => exact fun _ _ _ h => h
    case gz95 => rfl
    simp only [Act.put, List.setIfInBounds_toArray, List.set_cons_zero, List.set_cons_succ]
    refine wpAnyH_take (i := 45) (oi := ?oz96) (v := undef) ?iz96 (by kernel_rfl) (by kernel_rfl) (by kernel_rfl) ?qz96 (Or.inr ⟨?gz96, rfl⟩) (by assumption) ?rz96
    case iz96 => (simp only [List.getElem?_toArray, List.getElem?_cons_zero, List.getElem?_cons_succ]; rfl)
    case qz96 => exact fun _ _ _ h => h
    case gz96 => rfl
    simp only [Act.put, List.setIfInBounds_toArray, List.set_cons_zero, List.set_cons_succ]
    refine wpAnyH_take (i := 46) (oi := ?oz97) (v := undef) ?iz97 (by kernel_rfl) (by kernel_rfl) (by kernel_rfl) ?qz97 (Or.inr ⟨?gz97, rfl⟩) (by assumption) ?rz97
    case iz97 => (simp only [List.getElem?_toArray, List.getElem?_cons_zero, List.getElem?_cons_succ]; rfl)
    case qz97 => exact fun _ _ _ h => h
    case gz97 => rfl
    simp only [Act.put, List.setIfInBounds_toArray, List.set_cons_zero, List.set_cons_succ]
    refine wpAnyH_take (i := 47) (oi := ?oz98) (v := undef) ?iz98 (by kernel_rfl) (by kernel_rfl) (by kernel_rfl) ?qz98 (Or.inr ⟨?gz98, rfl⟩) (by assumption) ?rz98
    case iz98 => (simp only [List.getElem?_toArray, List.getElem?_cons_zero, List.getElem?_cons_succ]; rfl)
    case qz98 => exact fun _ _ _ h => h
    case gz98 => rfl
    simp only [Act.put, List.setIfInBounds_toArray, List.set_cons_zero, List.set_cons_succ]
    refine wpAnyH_take (i := 48) (oi := ?oz99) (v := undef) ?iz99 (by kernel_rfl) (by kernel_rfl) (by kernel_rfl) ?qz99 (Or.inr ⟨?gz99, rfl⟩) (by assumption) ?rz99
    case iz99 => (simp only [List.getElem?_toArray, List.getElem?_cons_zero, List.getElem?_cons_succ]; rfl)
    case qz99 => exact fun _ _ _ h => h
    case gz99 => rfl
    simp only [Act.put, List.setIfInBounds_toArray, List.set_cons_zero, List.set_cons_succ]
    refine wpAnyH_take (i := 49) (oi := ?oz100) (v := undef) ?iz100 (by kernel_rfl) (by kernel_rfl) (by kernel_rfl) ?qz100 (Or.inr ⟨?gz100, rfl⟩) (by assumption) ?rz100
    case iz100 => (simp only [List.getElem?_toArray, List.getElem?_cons_zero, List.getElem?_cons_succ]; rfl)
    case qz100 => exact fun _ _ _ h => h
    case gz100 => rfl
    simp only [Act.put, List.setIfInBounds_toArray, List.set_cons_zero, List.set_cons_succ]
    refine wpAnyH_take (i := 50) (oi := ?oz101) (v := undef) ?iz101 (by kernel_rfl) (by kernel_rfl) (by kernel_rfl) ?qz101 (Or.inr ⟨?gz101, rfl⟩) (by assumption) ?rz101
    case iz101 => (simp only [List.getElem?_toArray, List.getElem?_cons_zero, List.getElem?_cons_succ]; rfl)
    case qz101 => exact fun _ _ _ h => h
    case gz101 => rfl
    simp only [Act.put, List.setIfInBounds_toArray, List.set_cons_zero, List.set_cons_succ]
    refine wpAnyH_take (i := 51) (oi := ?oz102) (v := undef) ?iz102 (by kernel_rfl) (by kernel_rfl) (by kernel_rfl) ?qz102 (Or.inr ⟨?gz102, rfl⟩) (by assumption) ?rz102
    case iz102 => (simp only [List.getElem?_toArray, List.getElem?_cons_zero, List.getElem?_cons_succ]; rfl)
    case qz102 => exact fun _ _ _ h => h
    case gz102 => rfl
    simp only [Act.put, List.setIfInBounds_toArray, List.set_cons_zero, List.set_cons_succ]
    refine wpAnyH_take (i := 52) (oi := ?oz103) (v := ?vz103) ?iz103 (by kernel_rfl) (by kernel_rfl) (by kernel_rfl) ?qz103 (Or.inl ⟨?gz103, ?hz103⟩) (by assumption) ?rz103
    case iz103 => (simp only [List.getElem?_toArray, List.getElem?_cons_zero, List.getElem?_cons_succ]; rfl)
    case qz103 => exact fun _ _ _ h => h
    case gz103 => rfl
    case hz103 => (intro w hSw; (simp only [Holds] at hSw); go_simp <;> with_reducible rfl)
    simp only [Act.put, List.setIfInBounds_toArray, List.set_cons_zero, List.set_cons_succ]
    refine wpAnyH_take (i := 53) (oi := ?oz104) (v := ?vz104) ?iz104 (by kernel_rfl) (by kernel_rfl) (by kernel_rfl) ?qz104 (Or.inl ⟨?gz104, ?hz104⟩) (by assumption) ?rz104
    case iz104 => (simp only [List.getElem?_toArray, List.getElem?_cons_zero, List.getElem?_cons_succ]; rfl)
    case qz104 => exact fun _ _ _ h => h
    case gz104 => rfl
    case hz104 => (intro w hSw; (simp only [Holds] at hSw); go_simp <;> with_reducible rfl)
    simp only [Act.put, List.setIfInBounds_toArray, List.set_cons_zero, List.set_cons_succ]
    refine wpAnyH_done (by kernel_rfl) ?_ _
    go_wp2
    go_ret
    exact ⟨ret_bool HD.out.symm, HB1.out.trans (Bc.out.mono hNW)⟩
  refine wpAnyH_take (i := 9) (oi := ?oz105) (v := ?vz105) ?iz105 (by kernel_rfl) (by kernel_rfl) (by kernel_rfl) ?qz105 (Or.inl ⟨?gz105, ?hz105⟩) (by assumption) ?rz105
  case iz105 => (simp only [List.getElem?_toArray, List.getElem?_cons_zero, List.getElem?_cons_succ]; rfl)
  case qz105 => exact fun _ _ _ h => h
  case gz105 => rfl
  case hz105 => (intro w hSw; (simp only [Holds] at hSw); go_simp <;> with_reducible rfl)
  simp only [Act.put, List.setIfInBounds_toArray, List.set_cons_zero, List.set_cons_succ]
  refine wpAnyH_take (i := 10) (oi := ?oz106) (v := ?vz106) ?iz106 (by kernel_rfl) (by kernel_rfl) (by kernel_rfl) ?qz106 (Or.inl ⟨?gz106, ?hz106⟩) (by assumption) ?rz106
  case iz106 => (simp only [List.getElem?_toArray, List.getElem?_cons_zero, List.getElem?_cons_succ]; rfl)
  case qz106 => exact fun _ _ _ h => h
  case gz106 => rfl
  case hz106 => (intro w hSw; (simp only [Holds] at hSw); go_simp <;> with_reducible rfl)
  simp only [Act.put, List.setIfInBounds_toArray, List.set_cons_zero, List.set_cons_succ]
  refine wpAnyH_take (i := 11) (oi := ?oz107) (v := ?vz107) ?iz107 (by kernel_rfl) (by kernel_rfl) (by kernel_rfl) ?qz107 (Or.inl ⟨?gz107, ?hz107⟩) (by assumption) ?rz107
  case iz107 => (simp only [List.getElem?_toArray, List.getElem?_cons_zero, List.getElem?_cons_succ]; rfl)
  case qz107 => exact fun _ _ _ h => h
  case gz107 => rfl
  case hz107 => (intro w hSw; (simp only [Holds] at hSw); go_simp <;> with_reducible rfl)
  simp only [Act.put, List.setIfInBounds_toArray, List.set_cons_zero, List.set_cons_succ]
  refine wpAnyH_take (i := 12) (oi := ?oz108) (v := ?vz108) ?iz108 (by kernel_rfl) (by kernel_rfl) (by kernel_rfl) ?qz108 (Or.inl ⟨?gz108, ?hz108⟩) (by assumption) ?rz108
  case iz108 => (simp only [List.getElem?_toArray, List.getElem?_cons_zero, List.getElem?_cons_succ]; rfl)
  case qz108 => exact fun _ _ _ h => h
  case gz108 => rfl
  case hz108 => (intro w hSw; (simp only [Holds] at hSw); go_simp <;> with_reducible rfl)
  simp only [Act.put, List.setIfInBounds_toArray, List.set_cons_zero, List.set_cons_succ]
  refine wpAnyH_ready (rs := [13]) (by kernel_rfl) (by simp) ?_
  refine AllReadyH.cons (o := ?oz109) ?iz109 (fun K hK => ?kz109) AllReadyH.nil
  case iz109 => (simp only [List.getElem?_toArray, List.getElem?_cons_zero, List.getElem?_cons_succ]; rfl)
  go_simp
  refine held_more hK HS0.out hlt (Bc.out.alloc Bc.out.size _) (fun Bc hSn => ?_)
  refine wpAnyH_ready (rs := [14]) (by kernel_rfl) (by simp) ?_
  refine AllReadyH.cons (o := ?oz110) ?iz110 (fun K hK => ?kz110) AllReadyH.nil
  case iz110 => (simp only [List.getElem?_toArray, List.getElem?_cons_zero, List.getElem?_cons_succ]; rfl)
  go_simp
  refine (within1 _ 1 1000 I.r (by go_simp)).mono ?_
  rintro e w' ⟨rfl, rfl⟩
  refine held_more hK HS0.out hlt Bc.out (fun Bc hSn => ?_)
  cases hb3 : inb 1 1000 I.r
  · have HD := Lib.hid (show mayB I = false by rw [HSM.out, hb1, hb2, hb3]; rfl)
    refine wpAnyH_take (i := 15) (oi := ?oz111) (v := ?vz111) ?iz111 (by kernel_rfl) (by kernel_rfl) (by kernel_rfl) ?qz111 (Or.inl ⟨?gz111, ?hz111⟩) (by assumption) ?rz111
    case iz111 => (simp only [List.getElem?_toArray, List.getElem?_cons_zero, List.getElem?_cons_succ]; rfl)
    case qz111 => exact fun _ _ _ h => h
    case gz111 => rfl
    case hz111 => (intro w hSw; (simp only [Holds] at hSw); go_simp <;> with_reducible rfl)
    simp only [Act.put, List.setIfInBounds_toArray, List.set_cons_zero, List.set_cons_succ]
    refine wpAnyH_take (i := 16) (oi := ?oz112) (v := ?vz112) ?iz112 (by kernel_rfl) (by kernel_rfl) (by kernel_rfl) ?qz112 (Or.inl ⟨?gz112, ?hz112⟩) (by assumption) ?rz112
    case iz112 => (simp only [List.getElem?_toArray, List.getElem?_cons_zero, List.getElem?_cons_succ]; rfl)
    case qz112 => exact fun _ _ _ h => h
    case gz112 => rfl
    case hz112 => (intro w hSw; (simp only [Holds] at hSw); go_simp <;> with_reducible rfl)
    simp only [Act.put, List.setIfInBounds_toArray, List.set_cons_zero, List.set_cons_succ]
    refine wpAnyH_take (i := 17) (oi := ?oz113) (v := undef) ?iz113 (by kernel_rfl) (by kernel_rfl) (by kernel_rfl) ?qz113 (Or.inr ⟨?gz113, rfl⟩) (by assumption) ?rz113
    case iz113 => (simp only [List.getElem?_toArray, List.getElem?_cons_zero, List.getElem?_cons_succ]; rfl)
    case qz113 => exact fun _ _ _ h => h
    case gz113 => rfl
    simp only [Act.put, List.setIfInBounds_toArray, List.set_cons_zero, List.set_cons_succ]
    refine wpAnyH_take (i := 18) (oi := ?oz114) (v := undef) ?iz114 (by kernel_rfl) (by kernel_rfl) (by kernel_rfl) ?qz114 (Or.inr ⟨?gz114, rfl⟩) (by assumption) ?rz114
    case iz114 => (simp only [List.getElem?_toArray, List.getElem?_cons_zero, List.getElem?_cons_succ]; rfl)
    case qz114 => exact fun _ _ _ h => h
    case gz114 => rfl
    simp only [Act.put, List.setIfInBounds_toArray, List.set_cons_zero, List.set_cons_succ]
    refine wpAnyH_take (i := 19) (oi := ?oz115) (v := undef) ?iz115 (by kernel_rfl) (by kernel_rfl) (by kernel_rfl) ?qz115 (Or.inr ⟨?gz115, rfl⟩) (by assumption) ?rz115
    case iz115 => (simp only [List.getElem?_toArray, List.getElem?_cons_zero, List.getElem?_cons_succ]; rfl)
    case qz115 => exact fun _ _ _ h => h
    case gz115 => rfl
    simp only [Act.put, List.setIfInBounds_toArray, List.set_cons_zero, List.set_cons_succ]
    refine wpAnyH_take (i := 20) (oi := ?oz116) (v := undef) ?iz116 (by kernel_rfl) (by kernel_rfl) (by kernel_rfl) ?qz116 (Or.inr ⟨?gz116, rfl⟩) (by assumption) ?rz116
    case iz116 => (simp only [List.getElem?_toArray, List.getElem?_cons_zero, List.getElem?_cons_succ]; rfl)
    case qz116 => exact fun _ _ _ h => h
    case gz116 => rfl
    simp only [Act.put, List.setIfInBounds_toArray, List.set_cons_zero, List.set_cons_succ]
    refine wpAnyH_take (i := 21) (oi := ?oz117) (v := undef) ?iz117 (by kernel_rfl) (by kernel_rfl) (by kernel_rfl) ?qz117 (Or.inr ⟨?gz117, rfl⟩) (by assumption) ?rz117
    case iz117 => (simp only [List.getElem?_toArray, List.getElem?_cons_zero, List.getElem?_cons_succ]; rfl)
    case qz117 => exact fun _ _ _ h => h
    case gz117 => rfl
    simp only [Act.put, List.setIfInBounds_toArray, List.set_cons_zero, List.set_cons_succ]
    refine wpAnyH_take (i := 22) (oi := ?oz118) (v := undef) ?iz118 (by kernel_rfl) (by kernel_rfl) (by kernel_rfl) ?qz118 (Or.inr ⟨?gz118, rfl⟩) (by assumption) ?rz118
    case iz118 => (simp only [List.getElem?_toArray, List.getElem?_cons_zero, List.getElem?_cons_succ]; rfl)
    case qz118 => exact fun _ _ _ h => h
    case gz118 => rfl
    simp only [Act.put, List.setIfInBounds_toArray, List.set_cons_zero, List.set_cons_succ]
    refine wpAnyH_take (i := 23) (oi := ?oz119) (v := undef) ?iz119 (by kernel_rfl) (by kernel_rfl) (by kernel_rfl) ?qz119 (Or.inr ⟨?gz119, rfl⟩) (by assumption) ?rz119
    case iz119 => (simp only [List.getElem?_toArray, List.getElem?_cons_zero, List.getElem?_cons_succ]; rfl)
    case qz119 => exact fun _ _ _ h => h
    case gz119 => rfl
    simp only [Act.put, List.setIfInBounds_toArray, List.set_cons_zero, List.set_cons_succ]
    refine wpAnyH_take (i := 24) (oi := ?oz120) (v := undef) ?iz120 (by kernel_rfl) (by kernel_rfl) (by kernel_rfl) ?qz120 (Or.inr ⟨?gz120, rfl⟩) (by assumption) ?rz120
    case iz120 => (simp only [List.getElem?_toArray, List.getElem?_cons_zero, List.getElem?_cons_succ]; rfl)
    case qz120 => exact fun _ _ _ h => h
    case gz120 => rfl
    simp only [Act.put, List.setIfInBounds_toArray, List.set_cons_zero, List.set_cons_succ]
    refine wpAnyH_take (i := 25) (oi := ?oz121) (v := ?vz121) ?iz121 (by kernel_rfl) (by kernel_rfl) (by kernel_rfl) ?qz121 (Or.inl ⟨?gz121, ?hz121⟩) (by assumption) ?rz121
    case iz121 => (simp only [List.getElem?_toArray, List.getElem?_cons_zero, List.getElem?_cons_succ]; rfl)
    case qz121 => exact fun _ _ _ h => h
    case gz121 => rfl
    case hz121 => (intro w hSw; (simp only [Holds] at hSw); go_simp <;> with_reducible rfl)
    simp only [Act.put, List.setIfInBounds_toArray, List.set_cons_zero, List.set_cons_succ]
    refine wpAnyH_take (i := 26) (oi := ?oz122) (v := ?vz122) ?iz122 (by kernel_rfl) (by kernel_rfl) (by kernel_rfl) ?qz122 (Or.inl ⟨?gz122, ?hz122⟩) (by assumption) ?rz122
    case iz122 => (simp only [List.getElem?_toArray, List.getElem?_cons_zero, List.getElem?_cons_succ]; rfl)
    case qz122 => exact fun _ _ _ h => h
    case gz122 => rfl
    case hz122 => (intro w hSw; (simp only [Holds] at hSw); go_simp <;> with_reducible rfl)
    simp only [Act.put, List.setIfInBounds_toArray, List.set_cons_zero, List.set_cons_succ]
    refine wpAnyH_take (i := 27) (oi := ?oz123) (v := undef) ?iz123 (by kernel_rfl) (by kernel_rfl) (by kernel_rfl) ?qz123 (Or.inr ⟨?gz123, rfl⟩) (by assumption) ?rz123
    case iz123 => (simp only [List.getElem?_toArray, List.getElem?_cons_zero, List.getElem?_cons_succ]; rfl)
    case qz123 => exact fun _ _ _ h => h
    case gz123 => rfl
    simp only [Act.put, List.setIfInBounds_toArray, List.set_cons_zero, List.set_cons_succ]
    refine wpAnyH_take (i := 28) (oi := ?oz124) (v := undef) ?iz124 (by kernel_rfl) (by kernel_rfl) (by kernel_rfl) ?qz124 (Or.inr ⟨?gz124, rfl⟩) (by assumption) ?rz124
    case iz124 => (simp only [List.getElem?_toArray, List.getElem?_cons_zero, List.getElem?_cons_succ]; rfl)
    case qz124 => exact fun _ _ _ h => h
    case gz124 => rfl
    simp only [Act.put, List.setIfInBounds_toArray, List.set_cons_zero, List.set_cons_succ]
    refine wpAnyH_take (i := 29) (oi := ?oz125) (v := undef) ?iz125 (by kernel_rfl) (by kernel_rfl) (by kernel_rfl) ?qz125 (Or.inr ⟨?gz125, rfl⟩) (by assumption) ?rz125
    case iz125 => (simp only [List.getElem?_toArray, List.getElem?_cons_zero, List.getElem?_cons_succ]; rfl)
    case qz125 => exact fun _ _ _ h => h
    case gz125 => rfl
    simp only [Act.put, List.setIfInBounds_toArray, List.set_cons_zero, List.set_cons_succ]
    refine wpAnyH_take (i := 30) (oi := ?oz126) (v := ?vz126) ?iz126 (by kernel_rfl) (by kernel_rfl) (by kernel_rfl) ?qz126 (Or.inl ⟨?gz126, ?hz126⟩) (by assumption) ?rz126
    case iz126 => (simp only [List.getElem?_toArray, List.getElem?_cons_zero, List.getElem?_cons_succ]; rfl)
    case qz126 => exact fun _ _ _ h => h
    case gz126 => rfl
    case hz126 => (intro w hSw; (simp only [Holds] at hSw); go_simp <;> with_reducible rfl)
    simp only [Act.put, List.setIfInBounds_toArray, List.set_cons_zero, List.set_cons_succ]
    refine wpAnyH_take (i := 31) (oi := ?oz127) (v := ?vz127) ?iz127 (by kernel_rfl) (by kernel_rfl) (by kernel_rfl) ?qz127 (Or.inl ⟨?gz127, ?hz127⟩) (by assumption) ?rz127
    case iz127 => (simp only [List.getElem?_toArray, List.getElem?_cons_zero, List.getElem?_cons_succ]; rfl)
    case qz127 => exact fun _ _ _ h => h
    case gz127 => rfl
    case hz127 => (intro w hSw; (simp only [Holds] at hSw); go_simp <;> with_reducible rfl)
    simp only [Act.put, List.setIfInBounds_toArray, List.set_cons_zero, List.set_cons_succ]
    refine wpAnyH_take (i := 32) (oi := ?oz128) (v := undef) ?iz128 (by kernel_rfl) (by kernel_rfl) (by kernel_rfl) ?qz128 (Or.inr ⟨?gz128, rfl⟩) (by assumption) ?rz128
    case iz128 => (simp only [List.getElem?_toArray, List.getElem?_cons_zero, List.getElem?_cons_succ]; rfl)
    case qz128 => exact fun _ _ _ h => h
    case gz128 => rfl
    simp only [Act.put, List.setIfInBounds_toArray, List.set_cons_zero, List.set_cons_succ]
    refine wpAnyH_take (i := 33) (oi := ?oz129) (v := undef) ?iz129 (by kernel_rfl) (by kernel_rfl) (by kernel_rfl) ?qz129 (Or.inr ⟨?gz129, rfl⟩) (by assumption) ?rz129
    case iz129 => (simp only [List.getElem?_toArray, List.getElem?_cons_zero, List.getElem?_cons_succ]; rfl)
    case qz129 => exact fun _ _ _ h => h
    case gz129 => rfl
    simp only [Act.put, List.setIfInBounds_toArray, List.set_cons_zero, List.set_cons_succ]
    refine wpAnyH_take (i := 34) (oi := ?oz130) (v := undef) ?iz130 (by kernel_rfl) (by kernel_rfl) (by kernel_rfl) ?qz130 (Or.inr ⟨?gz130, rfl⟩) (by assumption) ?rz130
    case iz130 => (simp only [List.getElem?_toArray, List.getElem?_cons_zero, List.getElem?_cons_succ]; rfl)
    case qz130 => exact fun _ _ _ h => h
    case gz130 => rfl
    simp only [Act.put, List.setIfInBounds_toArray, List.set_cons_zero, List.set_cons_succ]
    refine wpAnyH_take (i := 35) (oi := ?oz131) (v := undef) ?iz131 (by kernel_rfl) (by kernel_rfl) (by kernel_rfl) ?qz131 (Or.inr ⟨?gz131, rfl⟩) (by assumption) ?rz131
    case iz131 => (simp only [List.getElem?_toArray, List.getElem?_cons_zero, List.getElem?_cons_succ]; rfl)
    case qz131 => exact fun _ _ _ h => h
    case gz131 => rfl
    simp only [Act.put, List.setIfInBounds_toArray, List.set_cons_zero, List.set_cons_succ]
    refine wpAnyH_take (i := 36) (oi := ?oz132) (v := undef) ?iz132 (by kernel_rfl) (by kernel_rfl) (by kernel_rfl) ?qz132 (Or.inr ⟨?gz132, rfl⟩) (by assumption) ?rz132
    case iz132 => (simp only [List.getElem?_toArray, List.getElem?_cons_zero, List.getElem?_cons_succ]; rfl)
    case qz132 => exact fun _ _ _ h => h
    case gz132 => rfl
    simp only [Act.put, List.setIfInBounds_toArray, List.set_cons_zero, List.set_cons_succ]
    refine wpAnyH_take (i := 37) (oi := ?oz133) (v := ?vz133) ?iz133 (by kernel_rfl) (by kernel_rfl) (by kernel_rfl) ?qz133 (Or.inl ⟨?gz133, ?hz133⟩) (by assumption) ?rz133
    case iz133 => (simp only [List.getElem?_toArray, List.getElem?_cons_zero, List.getElem?_cons_succ]; rfl)
    case qz133 => exact fun _ _ _ h => h
    case gz133 => rfl
    case hz133 => (intro w hSw; (simp only [Holds] at hSw); go_simp <;> with_reducible rfl)
    simp only [Act.put, List.setIfInBounds_toArray, List.set_cons_zero, List.set_cons_succ]
    refine wpAnyH_take (i := 38) (oi := ?oz134) (v := ?vz134) ?iz134 (by kernel_rfl) (by kernel_rfl) (by kernel_rfl) ?qz134 (Or.inl ⟨?gz134, ?hz134⟩) (by assumption) ?rz134
    case iz134 => (simp only [List.getElem?_toArray, List.getElem?_cons_zero, List.getElem?_cons_succ]; rfl)
    case qz134 => exact fun _ _ _ h => h
    case gz134 => rfl
    case hz134 => (intro w hSw; (simp only [Holds] at hSw); go_simp <;> with_reducible rfl)
    simp only [Act.put, List.setIfInBounds_toArray, List.set_cons_zero, List.set_cons_succ]
    refine wpAnyH_take (i := 39) (oi := ?oz135) (v := undef) ?iz135 (by kernel_rfl) (by kernel_rfl) (by kernel_rfl) ?qz135 (Or.inr ⟨?gz135, rfl⟩) (by assumption) ?rz135
    case iz135 => (simp only [List.getElem?_toArray, List.getElem?_cons_zero, List.getElem?_cons_succ]; rfl)
    case qz135 => exact fun _ _ _ h => h
    case gz135 => rfl
    simp only [Act.put, List.setIfInBounds_toArray, List.set_cons_zero, List.set_cons_succ]
    refine wpAnyH_take (i := 40) (oi := ?oz136) (v := undef) ?iz136 (by kernel_rfl) (by kernel_rfl) (by kernel_rfl) ?qz136 (Or.inr ⟨?gz136, rfl⟩) (by assumption) ?rz136
    case iz136 => (simp only [List.getElem?_toArray, List.getElem?_cons_zero, List.getElem?_cons_succ]; rfl)
    case qz136 => exact fun _ _ _ h => h
    case gz136 => rfl
    simp only [Act.put, List.setIfInBounds_toArray, List.set_cons_zero, List.set_cons_succ]
    refine wpAnyH_take (i := 41) (oi := ?oz137) (v := undef) ?iz137 (by kernel_rfl) (by kernel_rfl) (by kernel_rfl) ?qz137 (Or.inr ⟨?gz137, rfl⟩) (by assumption) ?rz137
    case iz137 => (simp only [List.getElem?_toArray, List.getElem?_cons_zero, List.getElem?_cons_succ]; rfl)
    case qz137 => exact fun _ _ _ h => h
    case gz137 => rfl
    simp only [Act.put, List.setIfInBounds_toArray, List.set_cons_zero, List.set_cons_succ]
    refine wpAnyH_take (i := 42) (oi := ?oz138) (v := undef) ?iz138 (by kernel_rfl) (by kernel_rfl) (by kernel_rfl) ?qz138 (Or.inr ⟨?gz138, rfl⟩) (by assumption) ?rz138
    case iz138 => (simp only [List.getElem?_toArray, List.getElem?_cons_zero, List.getElem?_cons_succ]; rfl)
    case qz138 => exact fun _ _ _ h => h
    case gz138 => rfl
    simp only [Act.put, List.setIfInBounds_toArray, List.set_cons_zero, List.set_cons_succ]
    refine wpAnyH_take (i := 43) (oi := ?oz139) (v := undef) ?iz139 (by kernel_rfl) (by kernel_rfl) (by kernel_rfl) ?qz139 (Or.inr ⟨?gz139, rfl⟩) (by assumption) ?rz139
    case iz139 => (simp only [List.getElem?_toArray, List.getElem?_cons_zero, List.getElem?_cons_succ]; rfl)
    case qz139 => exact fun _ _ _ h => h
    case gz139 => rfl
    simp only [Act.put, List.setIfInBounds_toArray, List.set_cons_zero, List.set_cons_succ]
    refine wpAnyH_take (i := 44) (oi := ?oz140) (v := undef) ?iz140 (by kernel_rfl) (by kernel_rfl) (by kernel_rfl) ?qz140 (Or.inr ⟨?gz140, rfl⟩) (by assumption) ?rz140
    case iz140 => (simp only [List.getElem?_toArray, List.getElem?_cons_zero, List.getElem?_cons_succ]; rfl)
    case qz140 => exact fun _ _ _ h => h
    case gz140 => rfl
    simp only [Act.put, List.setIfInBounds_toArray, List.set_cons_zero, List.set_cons_succ]
    refine wpAnyH_take (i := 45) (oi := ?oz141) (v := undef) ?iz141 (by kernel_rfl) (by kernel_rfl) (by kernel_rfl) ?qz141 (Or.inr ⟨?gz141, rfl⟩) (by assumption) ?rz141
    case iz141 => (simp only [List.getElem?_toArray, List.getElem?_cons_zero, List.getElem?_cons_succ]; rfl)
    case qz141 => exact fun _ _ _ h => h
    case gz141 => rfl
    simp only [Act.put, List.setIfInBounds_toArray, List.set_cons_zero, List.set_cons_succ]
    refine wpAnyH_take (i := 46) (oi := ?oz142) (v := undef) ?iz142 (by kernel_rfl) (by kernel_rfl) (by kernel_rfl) ?qz142 (Or.inr ⟨?gz142, rfl⟩) (by assumption) ?rz142
    case iz142 => (simp only [List.getElem?_toArray, List.getElem?_cons_zero, List.getElem?_cons_succ]; rfl)
    case qz142 => exact fun _ _ _ h => h
    case gz142 => rfl
    simp only [Act.put, List.setIfInBounds_toArray, List.set_cons_zero, List.set_cons_succ]
    refine wpAnyH_take (i := 47) (oi := ?oz143) (v := undef) ?iz143 (by kernel_rfl) (by kernel_rfl) (by kernel_rfl) ?qz143 (Or.inr ⟨?gz143, rfl⟩) (by assumption) ?rz143
    case iz143 => (simp only [List.getElem?_toArray, List.getElem?_cons_zero, List.getElem?_cons_succ]; rfl)
    case qz143 => exact fun _ _ _ h => h
    case gz143 => rfl
    simp only [Act.put, List.setIfInBounds_toArray, List.set_cons_zero, List.set_cons_succ]
    refine wpAnyH_take (i := 48) (oi := ?oz144) (v := undef) ?iz144 (by kernel_rfl) (by kernel_rfl) (by kernel_rfl) ?qz144 (Or.inr ⟨?gz144, rfl⟩) (by assumption) ?rz144
    case iz144 => (simp only [List.getElem?_toArray, List.getElem?_cons_zero, List.getElem?_cons_succ]; rfl)
    case qz144 => exact fun _ _ _ h => h
    case gz144 => rfl
    simp only [Act.put, List.setIfInBounds_toArray, List.set_cons_zero, List.set_cons_succ]
    refine wpAnyH_take (i := 49) (oi := ?oz145) (v := undef) ?iz145 (by kernel_rfl) (by kernel_rfl) (by kernel_rfl) ?qz145 (Or.inr ⟨?gz145, rfl⟩) (by assumption) ?rz145
    case iz145 => (simp only [List.getElem?_toArray, List.getElem?_cons_zero, List.getElem?_cons_succ]; rfl)
    case qz145 => exact fun _ _ _ h => h
    case gz145 => rfl
    simp only [Act.put, List.setIfInBounds_toArray, List.set_cons_zero, List.set_cons_succ]
    refine wpAnyH_take (i := 50) (oi := ?oz146) (v := undef) ?iz146 (by kernel_rfl) (by kernel_rfl) (by kernel_rfl) ?qz146 (Or.inr ⟨?gz146, rfl⟩) (by assumption) ?rz146
    case iz146 => (simp only [List.getElem?_toArray, List.getElem?_cons_zero, List.getElem?_cons_succ]; rfl)
    case qz146 => exact fun _ _ _ h => h
    case gz146 => rfl
    simp only [Act.put, List.setIfInBounds_toArray, List.set_cons_zero, List.set_cons_succ]
    refine wpAnyH_take (i := 51) (oi := ?oz147) (v := undef) ?iz147 (by kernel_rfl) (by kernel_rfl) (by kernel_rfl) ?qz147 (Or.inr ⟨?gz147, rfl⟩) (by assumption) ?rz147
    case iz147 => (simp only [List.getElem?_toArray, List.getElem?_cons_zero, List.getElem?_cons_succ]; rfl)
    case qz147 => exact fun _ _ _ h => h
    case gz147 => rfl
    simp only [Act.put, List.setIfInBounds_toArray, List.set_cons_zero, List.set_cons_succ]
    refine wpAnyH_take (i := 52) (oi := ?oz148) (v := ?vz148) ?iz148 (by kernel_rfl) (by kernel_rfl) (by kernel_rfl) ?qz148 (Or.inl ⟨?gz148, ?hz148⟩) (by assumption) ?rz148
    case iz148 => (simp only [List.getElem?_toArray, List.getElem?_cons_zero, List.getElem?_cons_succ]; rfl)
    case qz148 => exact fun _ _ _ h => h
    case gz148 => rfl
    case hz148 => (intro w hSw; (simp only [Holds] at hSw); go_simp <;> with_reducible rfl)
    simp only [Act.put, List.setIfInBounds_toArray, List.set_cons_zero, List.set_cons_succ]
    refine wpAnyH_take (i := 53) (oi := ?oz149) (v := ?vz149) ?iz149 (by kernel_rfl) (by kernel_rfl) (by kernel_rfl) ?qz149 (Or.inl ⟨?gz149, ?hz149⟩) (by assumption) ?rz149
    case iz149 => (simp only [List.getElem?_toArray, List.getElem?_cons_zero, List.getElem?_cons_succ]; rfl)
    case qz149 => exact fun _ _ _ h => h
    case gz149 => rfl
    case hz149 => (intro w hSw; (simp only [Holds] at hSw); go_simp <;> with_reducible rfl)
    simp only [Act.put, List.setIfInBounds_toArray, List.set_cons_zero, List.set_cons_succ]
    refine wpAnyH_done (by kernel_rfl) ?_ _
    go_wp2
    go_ret
    exact ⟨ret_bool HD.out.symm, HB1.out.trans (Bc.out.mono hNW)⟩
  have e4 := eql_len I.l.length I.p
  refine wpAnyH_take (i := 15) (oi := ?oz150) (v := ?vz150) ?iz150 (by kernel_rfl) (by kernel_rfl) (by kernel_rfl) ?qz150 (Or.inl ⟨?gz150, ?hz150⟩) (by assumption) ?rz150
  case iz150 => (simp only [List.getElem?_toArray, List.getElem?_cons_zero, List.getElem?_cons_succ]; rfl)
  case qz150 => exact fun _ _ _ h => h
  case gz150 => rfl
  case hz150 => (intro w hSw; (simp only [Holds] at hSw); go_simp <;> with_reducible rfl)
  simp only [Act.put, List.setIfInBounds_toArray, List.set_cons_zero, List.set_cons_succ]
  refine wpAnyH_take (i := 16) (oi := ?oz151) (v := ?vz151) ?iz151 (by kernel_rfl) (by kernel_rfl) (by kernel_rfl) ?qz151 (Or.inl ⟨?gz151, ?hz151⟩) (by assumption) ?rz151
  case iz151 => (simp only [List.getElem?_toArray, List.getElem?_cons_zero, List.getElem?_cons_succ]; rfl)
  case qz151 => exact fun _ _ _ h => h
  case gz151 => rfl
  case hz151 => (intro w hSw; (simp only [Holds] at hSw); go_simp <;> with_reducible rfl)
  simp only [Act.put, List.setIfInBounds_toArray, List.set_cons_zero, List.set_cons_succ]
  refine wpAnyH_take (i := 17) (oi := ?oz152) (v := ?vz152) ?iz152 (by kernel_rfl) (by kernel_rfl) (by kernel_rfl) ?qz152 (Or.inl ⟨?gz152, ?hz152⟩) (by assumption) ?rz152
  case iz152 => (simp only [List.getElem?_toArray, List.getElem?_cons_zero, List.getElem?_cons_succ]; rfl)
  case qz152 => exact fun _ _ _ h => h
  case gz152 => rfl
  case hz152 => (intro w hSw; (simp only [Holds] at hSw); go_simp <;> with_reducible rfl)
  simp only [Act.put, List.setIfInBounds_toArray, List.set_cons_zero, List.set_cons_succ]
  refine wpAnyH_take (i := 18) (oi := ?oz153) (v := ?vz153) ?iz153 (by kernel_rfl) (by kernel_rfl) (by kernel_rfl) ?qz153 (Or.inl ⟨?gz153, ?hz153⟩) (by assumption) ?rz153
  case iz153 => (simp only [List.getElem?_toArray, List.getElem?_cons_zero, List.getElem?_cons_succ]; rfl)
  case qz153 => exact fun _ _ _ h => h
  case gz153 => rfl
  case hz153 => (intro w hSw; (simp only [Holds] at hSw); go_simp <;> with_reducible rfl)
  simp only [Act.put, List.setIfInBounds_toArray, List.set_cons_zero, List.set_cons_succ]
  refine wpAnyH_take (i := 19) (oi := ?oz154) (v := ?vz154) ?iz154 (by kernel_rfl) (by kernel_rfl) (by kernel_rfl) ?qz154 (Or.inl ⟨?gz154, ?hz154⟩) (by assumption) ?rz154
  case iz154 => (simp only [List.getElem?_toArray, List.getElem?_cons_zero, List.getElem?_cons_succ]; rfl)
  case qz154 => exact fun _ _ _ h => h
  case gz154 => rfl
  case hz154 => (intro w hSw; (simp only [Holds] at hSw); go_simp <;> with_reducible rfl)
  simp only [Act.put, List.setIfInBounds_toArray, List.set_cons_zero, List.set_cons_succ]
  refine wpAnyH_take (i := 20) (oi := ?oz155) (v := ?vz155) ?iz155 (by kernel_rfl) (by kernel_rfl) (by kernel_rfl) ?qz155 (Or.inl ⟨?gz155, ?hz155⟩) (by assumption) ?rz155
  case iz155 => (simp only [List.getElem?_toArray, List.getElem?_cons_zero, List.getElem?_cons_succ]; rfl)
  case qz155 => exact fun _ _ _ h => h
  case gz155 => rfl
  case hz155 => (intro w hSw; (simp only [Holds] at hSw); go_simp <;> with_reducible rfl)
  simp only [Act.put, List.setIfInBounds_toArray, List.set_cons_zero, List.set_cons_succ]
  refine wpAnyH_take (i := 21) (oi := ?oz156) (v := ?vz156) ?iz156 (by kernel_rfl) (by kernel_rfl) (by kernel_rfl) ?qz156 (Or.inl ⟨?gz156, ?hz156⟩) (by assumption) ?rz156
  case iz156 => (simp only [List.getElem?_toArray, List.getElem?_cons_zero, List.getElem?_cons_succ]; rfl)
  case qz156 => exact fun _ _ _ h => h
  case gz156 => rfl
  case hz156 => (intro w hSw; (simp only [Holds] at hSw); go_simp <;> with_reducible rfl)
  simp only [Act.put, List.setIfInBounds_toArray, List.set_cons_zero, List.set_cons_succ]
  refine wpAnyH_take (i := 22) (oi := ?oz157) (v := ?vz157) ?iz157 (by kernel_rfl) (by kernel_rfl) (by kernel_rfl) ?qz157 (Or.inl ⟨?gz157, ?hz157⟩) (by assumption) ?rz157
  case iz157 => (simp only [List.getElem?_toArray, List.getElem?_cons_zero, List.getElem?_cons_succ]; rfl)
  case qz157 => exact fun _ _ _ h => h
  case gz157 => rfl
  case hz157 => (intro w hSw; (simp only [Holds] at hSw); go_simp <;> with_reducible rfl)
  simp only [Act.put, List.setIfInBounds_toArray, List.set_cons_zero, List.set_cons_succ]
  refine wpAnyH_take (i := 23) (oi := ?oz158) (v := ?vz158) ?iz158 (by kernel_rfl) (by kernel_rfl) (by kernel_rfl) ?qz158 (Or.inl ⟨?gz158, ?hz158⟩) (by assumption) ?rz158
  case iz158 => (simp only [List.getElem?_toArray, List.getElem?_cons_zero, List.getElem?_cons_succ]; rfl)
  case qz158 => exact fun _ _ _ h => h
  case gz158 => rfl
  case hz158 => (intro w hSw; (simp only [Holds] at hSw); go_simp <;> with_reducible rfl)
  simp only [Act.put, List.setIfInBounds_toArray, List.set_cons_zero, List.set_cons_succ]
  refine wpAnyH_take (i := 24) (oi := ?oz159) (v := ?vz159) ?iz159 (by kernel_rfl) (by kernel_rfl) (by kernel_rfl) ?qz159 (Or.inl ⟨?gz159, ?hz159⟩) (by assumption) ?rz159
  case iz159 => (simp only [List.getElem?_toArray, List.getElem?_cons_zero, List.getElem?_cons_succ]; rfl)
  case qz159 => exact fun _ _ _ h => h
  case gz159 => rfl
  case hz159 => (intro w hSw; (simp only [Holds] at hSw); go_simp <;> with_reducible rfl)
  simp only [Act.put, List.setIfInBounds_toArray, List.set_cons_zero, List.set_cons_succ]
  clear e4
  cases hb4 : lenOk I.p I.l.length
  · have HD := Lib.hid (show mayB I = false by rw [HSM.out, hb1, hb2, hb3, hb4]; rfl)
    refine wpAnyH_take (i := 25) (oi := ?oz160) (v := ?vz160) ?iz160 (by kernel_rfl) (by kernel_rfl) (by kernel_rfl) ?qz160 (Or.inl ⟨?gz160, ?hz160⟩) (by assumption) ?rz160
    case iz160 => (simp only [List.getElem?_toArray, List.getElem?_cons_zero, List.getElem?_cons_succ]; rfl)
    case qz160 => exact fun _ _ _ h => h
    case gz160 => rfl
    case hz160 => (intro w hSw; (simp only [Holds] at hSw); go_simp <;> with_reducible rfl)
    simp only [Act.put, List.setIfInBounds_toArray, List.set_cons_zero, List.set_cons_succ]
    refine wpAnyH_take (i := 26) (oi := ?oz161) (v := ?vz161) ?iz161 (by kernel_rfl) (by kernel_rfl) (by kernel_rfl) ?qz161 (Or.inl ⟨?gz161, ?hz161⟩) (by assumption) ?rz161
    case iz161 => (simp only [List.getElem?_toArray, List.getElem?_cons_zero, List.getElem?_cons_succ]; rfl)
    case qz161 => exact fun _ _ _ h => h
    case gz161 => rfl
    case hz161 => (intro w hSw; (simp only [Holds] at hSw); go_simp <;> with_reducible rfl)
    simp only [Act.put, List.setIfInBounds_toArray, List.set_cons_zero, List.set_cons_succ]
    refine wpAnyH_take (i := 27) (oi := ?oz162) (v := undef) ?iz162 (by kernel_rfl) (by kernel_rfl) (by kernel_rfl) ?qz162 (Or.inr ⟨?gz162, rfl⟩) (by assumption) ?rz162
    case iz162 => (simp only [List.getElem?_toArray, List.getElem?_cons_zero, List.getElem?_cons_succ]; rfl)
    case qz162 => exact fun _ _ _ h => h
    case gz162 => rfl
    simp only [Act.put, List.setIfInBounds_toArray, List.set_cons_zero, List.set_cons_succ]
    refine wpAnyH_take (i := 28) (oi := ?oz163) (v := undef) ?iz163 (by kernel_rfl) (by kernel_rfl) (by kernel_rfl) ?qz163 (Or.inr ⟨?gz163, rfl⟩) (by assumption) ?rz163
    case iz163 => (simp only [List.getElem?_toArray, List.getElem?_cons_zero, List.getElem?_cons_succ]; rfl)
    case qz163 => exact fun _ _ _ h => h
    case gz163 => rfl
    simp only [Act.put, List.setIfInBounds_toArray, List.set_cons_zero, List.set_cons_succ]
    refine wpAnyH_take (i := 29) (oi := ?oz164) (v := undef) ?iz164 (by kernel_rfl) (by kernel_rfl) (by kernel_rfl) ?qz164 (Or.inr ⟨?gz164, rfl⟩) (by assumption) ?rz164
    case iz164 => (simp only [List.getElem?_toArray, List.getElem?_cons_zero, List.getElem?_cons_succ]; rfl)
    case qz164 => exact fun _ _ _ h => h
    case gz164 => rfl
    simp only [Act.put, List.setIfInBounds_toArray, List.set_cons_zero, List.set_cons_succ]
    refine wpAnyH_take (i := 30) (oi := ?oz165) (v := ?vz165) ?iz165 (by kernel_rfl) (by kernel_rfl) (by kernel_rfl) ?qz165 (Or.inl ⟨?gz165, ?hz165⟩) (by assumption) ?rz165
    case iz165 => (simp only [List.getElem?_toArray, List.getElem?_cons_zero, List.getElem?_cons_succ]; rfl)
    case qz165 => exact fun _ _ _ h => h
    case gz165 => rfl
    case hz165 => (intro w hSw; (simp only [Holds] at hSw); go_simp <;> with_reducible rfl)
    simp only [Act.put, List.setIfInBounds_toArray, List.set_cons_zero, List.set_cons_succ]
    refine wpAnyH_take (i := 31) (oi := ?oz166) (v := ?vz166) ?iz166 (by kernel_rfl) (by kernel_rfl) (by kernel_rfl) ?qz166 (Or.inl ⟨?gz166, ?hz166⟩) (by assumption) ?rz166
    case iz166 => (simp only [List.getElem?_toArray, List.getElem?_cons_zero, List.getElem?_cons_succ]; rfl)
    case qz166 => exact fun _ _ _ h => h
    case gz166 => rfl
    case hz166 => (intro w hSw; (simp only [Holds] at hSw); go_simp <;> with_reducible rfl)
    simp only [Act.put, List.setIfInBounds_toArray, List.set_cons_zero, List.set_cons_succ]
    refine wpAnyH_take (i := 32) (oi := ?oz167) (v := undef) ?iz167 (by kernel_rfl) (by kernel_rfl) (by kernel_rfl) ?qz167 (Or.inr ⟨?gz167, rfl⟩) (by assumption) ?rz167
    case iz167 => (simp only [List.getElem?_toArray, List.getElem?_cons_zero, List.getElem?_cons_succ]; rfl)
    case qz167 => exact fun _ _ _ h => h
    case gz167 => rfl
    simp only [Act.put, List.setIfInBounds_toArray, List.set_cons_zero, List.set_cons_succ]
    refine wpAnyH_take (i := 33) (oi := ?oz168) (v := undef) ?iz168 (by kernel_rfl) (by kernel_rfl) (by kernel_rfl) ?qz168 (Or.inr ⟨?gz168, rfl⟩) (by assumption) ?rz168
    case iz168 => (simp only [List.getElem?_toArray, List.getElem?_cons_zero, List.getElem?_cons_succ]; rfl)
    case qz168 => exact fun _ _ _ h => h
    case gz168 => rfl
    simp only [Act.put, List.setIfInBounds_toArray, List.set_cons_zero, List.set_cons_succ]
    refine wpAnyH_take (i := 34) (oi := ?oz169) (v := undef) ?iz169 (by kernel_rfl) (by kernel_rfl) (by kernel_rfl) ?qz169 (Or.inr ⟨?gz169, rfl⟩) (by assumption) ?rz169
    case iz169 => (simp only [List.getElem?_toArray, List.getElem?_cons_zero, List.getElem?_cons_succ]; rfl)
    case qz169 => exact fun _ _ _ h => h
    case gz169 => rfl
    simp only [Act.put, List.setIfInBounds_toArray, List.set_cons_zero, List.set_cons_succ]
    refine wpAnyH_take (i := 35) (oi := ?oz170) (v := undef) ?iz170 (by kernel_rfl) (by kernel_rfl) (by kernel_rfl) ?qz170 (Or.inr ⟨?gz170, rfl⟩) (by assumption) ?rz170
    case iz170 => (simp only [List.getElem?_toArray, List.getElem?_cons_zero, List.getElem?_cons_succ]; rfl)
    case qz170 => exact fun _ _ _ h => h
    case gz170 => rfl
    simp only [Act.put, List.setIfInBounds_toArray, List.set_cons_zero, List.set_cons_succ]
    refine wpAnyH_take (i := 36) (oi := ?oz171) (v := undef) ?iz171 (by kernel_rfl) (by kernel_rfl) (by kernel_rfl) ?qz171 (Or.inr ⟨?gz171, rfl⟩) (by assumption) ?rz171
    case iz171 => (simp only [List.getElem?_toArray, List.getElem?_cons_zero, List.getElem?_cons_succ]; rfl)
    case qz171 => exact fun _ _ _ h => h
    case gz171 => rfl
    simp only [Act.put, List.setIfInBounds_toArray, List.set_cons_zero, List.set_cons_succ]
    refine wpAnyH_take (i := 37) (oi := ?oz172) (v := ?vz172) ?iz172 (by kernel_rfl) (by kernel_rfl) (by kernel_rfl) ?qz172 (Or.inl ⟨?gz172, ?hz172⟩) (by assumption) ?rz172
    case iz172 => (simp only [List.getElem?_toArray, List.getElem?_cons_zero, List.getElem?_cons_succ]; rfl)
    case qz172 => exact fun _ _ _ h => h
    case gz172 => rfl
    case hz172 => (intro w hSw; (simp only [Holds] at hSw); go_simp <;> with_reducible rfl)
    simp only [Act.put, List.setIfInBounds_toArray, List.set_cons_zero, List.set_cons_succ]
    refine wpAnyH_take (i := 38) (oi := ?oz173) (v := ?vz173) ?iz173 (by kernel_rfl) (by kernel_rfl) (by kernel_rfl) ?qz173 (Or.inl ⟨?gz173, ?hz173⟩) (by assumption) ?rz173
    case iz173 => (simp only [List.getElem?_toArray, List.getElem?_cons_zero, List.getElem?_cons_succ]; rfl)
    case qz173 => exact fun _ _ _ h => h
    case gz173 => rfl
    case hz173 => (intro w hSw; (simp only [Holds] at hSw); go_simp <;> with_reducible rfl)
    simp only [Act.put, List.setIfInBounds_toArray, List.set_cons_zero, List.set_cons_succ]
    refine wpAnyH_take (i := 39) (oi := ?oz174) (v := undef) ?iz174 (by kernel_rfl) (by kernel_rfl) (by kernel_rfl) ?qz174 (Or.inr ⟨?gz174, rfl⟩) (by assumption) ?rz174
    case iz174 => (simp only [List.getElem?_toArray, List.getElem?_cons_zero, List.getElem?_cons_succ]; rfl)
    case qz174 => exact fun _ _ _ h => h
    case gz174 => rfl
    simp only [Act.put, List.setIfInBounds_toArray, List.set_cons_zero, List.set_cons_succ]
    refine wpAnyH_take (i := 40) (oi := ?oz175) (v := undef) ?iz175 (by kernel_rfl) (by kernel_rfl) (by kernel_rfl) ?qz175 (Or.inr ⟨?gz175, rfl⟩) (by assumption) ?rz175
    case iz175 => (simp only [List.getElem?_toArray, List.getElem?_cons_zero, List.getElem?_cons_succ]; rfl)
    case qz175 => exact fun _ _ _ h => h
    case gz175 => rfl
    simp only [Act.put, List.setIfInBounds_toArray, List.set_cons_zero, List.set_cons_succ]
    refine wpAnyH_take (i := 41) (oi := ?oz176) (v := undef) ?iz176 (by kernel_rfl) (by kernel_rfl) (by kernel_rfl) ?qz176 (Or.inr ⟨?gz176, rfl⟩) (by assumption) ?rz176
    case iz176 => (simp only [List.getElem?_toArray, List.getElem?_cons_zero, List.getElem?_cons_succ]; rfl)
    case qz176 => exact fun _ _ _ h => h
    case gz176 => rfl
    simp only [Act.put, List.setIfInBounds_toArray, List.set_cons_zero, List.set_cons_succ]
    refine wpAnyH_take (i := 42) (oi := ?oz177) (v := undef) ?iz177 (by kernel_rfl) (by kernel_rfl) (by kernel_rfl) ?qz177 (Or.inr ⟨?gz177, rfl⟩) (by assumption) ?rz177
    case iz177 => (simp only [List.getElem?_toArray, List.getElem?_cons_zero, List.getElem?_cons_succ]; rfl)
    case qz177 => exact fun _ _ _ h => h
    case gz177 => rfl
    simp only [Act.put, List.setIfInBounds_toArray, List.set_cons_zero, List.set_cons_succ]
    refine wpAnyH_take (i := 43) (oi := ?oz178) (v := undef) ?iz178 (by kernel_rfl) (by kernel_rfl) (by kernel_rfl) ?qz178 (Or.inr ⟨?gz178, rfl⟩) (by assumption) ?rz178
    case iz178 => (simp only [List.getElem?_toArray, List.getElem?_cons_zero, List.getElem?_cons_succ]; rfl)
    case qz178 => exact fun _ _ _ h => h
    case gz178 => rfl
    simp only [Act.put, List.setIfInBounds_toArray, List.set_cons_zero, List.set_cons_succ]
    refine wpAnyH_take (i := 44) (oi := ?oz179) (v := undef) ?iz179 (by kernel_rfl) (by kernel_rfl) (by kernel_rfl) ?qz179 (Or.inr ⟨?gz179, rfl⟩) (by assumption) ?rz179
    case iz179 => (simp only [List.getElem?_toArray, List.getElem?_cons_zero, List.getElem?_cons_succ]; rfl)
    case qz179 => exact fun _ _ _ h => h
    case gz179 => rfl
    simp only [Act.put, List.setIfInBounds_toArray, List.set_cons_zero, List.set_cons_succ]
    refine wpAnyH_take (i := 45) (oi := ?oz180) (v := undef) ?iz180 (by kernel_rfl) (by kernel_rfl) (by kernel_rfl) ?qz180 (Or.inr ⟨?gz180, rfl⟩) (by assumption) ?rz180
    case iz180 => (simp only [List.getElem?_toArray, List.getElem?_cons_zero, List.getElem?_cons_succ]; rfl)
    case qz180 => exact fun _ _ _ h => h
    case gz180 => rfl
    simp only [Act.put, List.setIfInBounds_toArray, List.set_cons_zero, List.set_cons_succ]
    refine wpAnyH_take (i := 46) (oi := ?oz181) (v := undef) ?iz181 (by kernel_rfl) (by kernel_rfl) (by kernel_rfl) ?qz181 (Or.inr ⟨?gz181, rfl⟩) (by assumption) ?rz181
    case iz181 => (simp only [List.getElem?_toArray, List.getElem?_cons_zero, List.getElem?_cons_succ]; rfl)
    case qz181 => exact fun _ _ _ h => h
    case gz181 => rfl
    simp only [Act.put, List.setIfInBounds_toArray, List.set_cons_zero, List.set_cons_succ]
    refine wpAnyH_take (i := 47) (oi := ?oz182) (v := undef) ?iz182 (by kernel_rfl) (by kernel_rfl) (by kernel_rfl) ?qz182 (Or.inr ⟨?gz182, rfl⟩) (by assumption) ?rz182
    case iz182 => (simp only [List.getElem?_toArray, List.getElem?_cons_zero, List.getElem?_cons_succ]; rfl)
    case qz182 => exact fun _ _ _ h => h
    case gz182 => rfl
    simp only [Act.put, List.setIfInBounds_toArray, List.set_cons_zero, List.set_cons_succ]
    refine wpAnyH_take (i := 48) (oi := ?oz183) (v := undef) ?iz183 (by kernel_rfl) (by kernel_rfl) (by kernel_rfl) ?qz183 (Or.inr ⟨?gz183, rfl⟩) (by assumption) ?rz183
    case iz183 => (simp only [List.getElem?_toArray, List.getElem?_cons_zero, List.getElem?_cons_succ]; rfl)
    case qz183 => exact fun _ _ _ h => h
    case gz183 => rfl
    simp only [Act.put, List.setIfInBounds_toArray, List.set_cons_zero, List.set_cons_succ]
    refine wpAnyH_take (i := 49) (oi := ?oz184) (v := undef) ?iz184 (by kernel_rfl) (by kernel_rfl) (by kernel_rfl) ?qz184 (Or.inr ⟨?gz184, rfl⟩) (by assumption) ?rz184
    case iz184 => (simp only [List.getElem?_toArray, List.getElem?_cons_zero, List.getElem?_cons_succ]; rfl)
    case qz184 => exact fun _ _ _ h => h
    case gz184 => rfl
    simp only [Act.put, List.setIfInBounds_toArray, List.set_cons_zero, List.set_cons_succ]
    refine wpAnyH_take (i := 50) (oi := ?oz185) (v := undef) ?iz185 (by kernel_rfl) (by kernel_rfl) (by kernel_rfl) ?qz185 (Or.inr ⟨?gz185, rfl⟩) (by assumption) ?rz185
    case iz185 => (simp only [List.getElem?_toArray, List.getElem?_cons_zero, List.getElem?_cons_succ]; rfl)
    case qz185 => exact fun _ _ _ h => h
    case gz185 => rfl
    simp only [Act.put, List.setIfInBounds_toArray, List.set_cons_zero, List.set_cons_succ]
    refine wpAnyH_take (i := 51) (oi := ?oz186) (v := undef) ?iz186 (by kernel_rfl) (by kernel_rfl) (by kernel_rfl) ?qz186 (Or.inr ⟨?gz186, rfl⟩) (by assumption) ?rz186
    case iz186 => (simp only [List.getElem?_toArray, List.getElem?_cons_zero, List.getElem?_cons_succ]; rfl)
    case qz186 => exact fun _ _ _ h => h
    case gz186 => rfl
    simp only [Act.put, List.setIfInBounds_toArray, List.set_cons_zero, List.set_cons_succ]
    refine wpAnyH_take (i := 52) (oi := ?oz187) (v := ?vz187) ?iz187 (by kernel_rfl) (by kernel_rfl) (by kernel_rfl) ?qz187 (Or.inl ⟨?gz187, ?hz187⟩) (by assumption) ?rz187
    case iz187 => (simp only [List.getElem?_toArray, List.getElem?_cons_zero, List.getElem?_cons_succ]; rfl)
    case qz187 => exact fun _ _ _ h => h
    case gz187 => rfl
    case hz187 => (intro w hSw; (simp only [Holds] at hSw); go_simp <;> with_reducible rfl)
    simp only [Act.put, List.setIfInBounds_toArray, List.set_cons_zero, List.set_cons_succ]
    refine wpAnyH_take (i := 53) (oi := ?oz188) (v := ?vz188) ?iz188 (by kernel_rfl) (by kernel_rfl) (by kernel_rfl) ?qz188 (Or.inl ⟨?gz188, ?hz188⟩) (by assumption) ?rz188
    case iz188 => (simp only [List.getElem?_toArray, List.getElem?_cons_zero, List.getElem?_cons_succ]; rfl)
    case qz188 => exact fun _ _ _ h => h
    case gz188 => rfl
    case hz188 => (intro w hSw; (simp only [Holds] at hSw); go_simp <;> with_reducible rfl)
    simp only [Act.put, List.setIfInBounds_toArray, List.set_cons_zero, List.set_cons_succ]
    refine wpAnyH_done (by kernel_rfl) ?_ _
    go_wp2
    go_ret
    exact ⟨ret_bool HD.out.symm, HB1.out.trans (Bc.out.mono hNW)⟩
  have hl : (I.l.length : Int) = 2 * I.p + 1 := by unfold lenOk at hb4; exact decide_eq_true_iff.1 hb4
  obtain ⟨b, off, rfl, hat, hbl⟩ := srow_at H1.out 0 (by omega)
  have HAT := Lib.hid (show At W.drew b off (nth I.l 0) by simpa using hat)
  clear hat
  refine wpAnyH_take (i := 25) (oi := ?oz189) (v := ?vz189) ?iz189 (by kernel_rfl) (by kernel_rfl) (by kernel_rfl) ?qz189 (Or.inl ⟨?gz189, ?hz189⟩) (by assumption) ?rz189
  case iz189 => (simp only [List.getElem?_toArray, List.getElem?_cons_zero, List.getElem?_cons_succ]; rfl)
  case qz189 => exact fun _ _ _ h => h
  case gz189 => rfl
  case hz189 => (intro w hSw; (simp only [Holds] at hSw); go_simp <;> with_reducible rfl)
  simp only [Act.put, List.setIfInBounds_toArray, List.set_cons_zero, List.set_cons_succ]
  refine wpAnyH_take (i := 26) (oi := ?oz190) (v := ?vz190) ?iz190 (by kernel_rfl) (by kernel_rfl) (by kernel_rfl) ?qz190 (Or.inl ⟨?gz190, ?hz190⟩) (by assumption) ?rz190
  case iz190 => (simp only [List.getElem?_toArray, List.getElem?_cons_zero, List.getElem?_cons_succ]; rfl)
  case qz190 => exact fun _ _ _ h => h
  case gz190 => rfl
  case hz190 => (intro w hSw; (simp only [Holds] at hSw); go_simp <;> with_reducible rfl)
  simp only [Act.put, List.setIfInBounds_toArray, List.set_cons_zero, List.set_cons_succ]
  refine wpAnyH_take (i := 27) (oi := ?oz191) (v := ?vz191) ?iz191 (by kernel_rfl) (by kernel_rfl) (by kernel_rfl) ?qz191 (Or.inl ⟨?gz191, ?hz191⟩) (by assumption) ?rz191
  case iz191 => (simp only [List.getElem?_toArray, List.getElem?_cons_zero, List.getElem?_cons_succ]; rfl)
  case qz191 => exact fun _ _ _ h => h
  case gz191 => rfl
  case hz191 => (intro w hSw; (simp only [Holds] at hSw); go_simp <;> with_reducible rfl)
  simp only [Act.put, List.setIfInBounds_toArray, List.set_cons_zero, List.set_cons_succ]
  refine wpAnyH_take (i := 28) (oi := ?oz192) (v := ?vz192) ?iz192 (by kernel_rfl) (by kernel_rfl) (by kernel_rfl) ?qz192 (Or.inl ⟨?gz192, ?hz192⟩) (by assumption) ?rz192
  case iz192 => (simp only [List.getElem?_toArray, List.getElem?_cons_zero, List.getElem?_cons_succ]; rfl)
  case qz192 => exact fun _ _ _ h => h
  case gz192 => rfl
  case hz192 => (intro w hSw; (simp only [Holds] at hSw); go_simp <;> with_reducible rfl)
  simp only [Act.put, List.setIfInBounds_toArray, List.set_cons_zero, List.set_cons_succ]
  refine wpAnyH_ready (rs := [29]) (by kernel_rfl) (by simp) ?_
  refine AllReadyH.cons (o := ?oz193) ?iz193 (fun K hK => ?kz193) AllReadyH.nil
  case iz193 => (simp only [List.getElem?_toArray, List.getElem?_cons_zero, List.getElem?_cons_succ]; rfl)
  go_simp
  refine (stopsMay_any (H1.out.below Bc.out)).mono ?_
  rintro e w' ⟨rfl, hb⟩
  refine held_more hK HS0.out hlt (Bc.out.trans (hb.mono Bc.out.size)) (fun Bc hSn => ?_)
  clear hb hK
  cases hb5 : stopsOk I.l
  · have HD := Lib.hid (show mayB I = false by rw [HSM.out, hb1, hb2, hb3, hb4, hb5]; rfl)
    refine wpAnyH_take (i := 30) (oi := ?oz194) (v := ?vz194) ?iz194 (by kernel_rfl) (by kernel_rfl) (by kernel_rfl) ?qz194 (Or.inl ⟨?gz194, ?hz194⟩) (by assumption) ?rz194
    case iz194 => (simp only [List.getElem?_toArray, List.getElem?_cons_zero, List.getElem?_cons_succ]; rfl)
    case qz194 => exact fun _ _ _ h => h
    case gz194 => rfl
    case hz194 => (intro w hSw; (simp only [Holds] at hSw); go_simp <;> with_reducible rfl)
    simp only [Act.put, List.setIfInBounds_toArray, List.set_cons_zero, List.set_cons_succ]
    refine wpAnyH_take (i := 31) (oi := ?oz195) (v := ?vz195) ?iz195 (by kernel_rfl) (by kernel_rfl) (by kernel_rfl) ?qz195 (Or.inl ⟨?gz195, ?hz195⟩) (by assumption) ?rz195
    case iz195 => (simp only [List.getElem?_toArray, List.getElem?_cons_zero, List.getElem?_cons_succ]; rfl)
    case qz195 => exact fun _ _ _ h => h
    case gz195 => rfl
    case hz195 => (intro w hSw; (simp only [Holds] at hSw); go_simp <;> with_reducible rfl)
    simp only [Act.put, List.setIfInBounds_toArray, List.set_cons_zero, List.set_cons_succ]
    refine wpAnyH_take (i := 32) (oi := ?oz196) (v := undef) ?iz196 (by kernel_rfl) (by kernel_rfl) (by kernel_rfl) ?qz196 (Or.inr ⟨?gz196, rfl⟩) (by assumption) ?rz196
    case iz196 => (simp only [List.getElem?_toArray, List.getElem?_cons_zero, List.getElem?_cons_succ]; rfl)
    case qz196 => exact fun _ _ _ h => h
    case gz196 => rfl
    simp only [Act.put, List.setIfInBounds_toArray, List.set_cons_zero, List.set_cons_succ]
    refine wpAnyH_take (i := 33) (oi := ?oz197) (v := undef) ?iz197 (by kernel_rfl) (by kernel_rfl) (by kernel_rfl) ?qz197 (Or.inr ⟨?gz197, rfl⟩) (by assumption) ?rz197
    case iz197 => (simp only [List.getElem?_toArray, List.getElem?_cons_zero, List.getElem?_cons_succ]; rfl)
    case qz197 => exact fun _ _ _ h => h
    case gz197 => rfl
    simp only [Act.put, List.setIfInBounds_toArray, List.set_cons_zero, List.set_cons_succ]
    refine wpAnyH_take (i := 34) (oi := ?oz198) (v := undef) ?iz198 (by kernel_rfl) (by kernel_rfl) (by kernel_rfl) ?qz198 (Or.inr ⟨?gz198, rfl⟩) (by assumption) ?rz198
    case iz198 => (simp only [List.getElem?_toArray, List.getElem?_cons_zero, List.getElem?_cons_succ]; rfl)
    case qz198 => exact fun _ _ _ h => h
    case gz198 => rfl
    simp only [Act.put, List.setIfInBounds_toArray, List.set_cons_zero, List.set_cons_succ]
    refine wpAnyH_take (i := 35) (oi := ?oz199) (v := undef) ?iz199 (by kernel_rfl) (by kernel_rfl) (by kernel_rfl) ?qz199 (Or.inr ⟨?gz199, rfl⟩) (by assumption) ?rz199
    case iz199 => (simp only [List.getElem?_toArray, List.getElem?_cons_zero, List.getElem?_cons_succ]; rfl)
    case qz199 => exact fun _ _ _ h => h
    case gz199 => rfl
    simp only [Act.put, List.setIfInBounds_toArray, List.set_cons_zero, List.set_cons_succ]
    refine wpAnyH_take (i := 36) (oi := ?oz200) (v := undef) ?iz200 (by kernel_rfl) (by kernel_rfl) (by kernel_rfl) ?qz200 (Or.inr ⟨?gz200, rfl⟩) (by assumption) ?rz200
    case iz200 => (simp only [List.getElem?_toArray, List.getElem?_cons_zero, List.getElem?_cons_succ]; rfl)
    case qz200 => exact fun _ _ _ h => h
    case gz200 => rfl
    simp only [Act.put, List.setIfInBounds_toArray, List.set_cons_zero, List.set_cons_succ]
    refine wpAnyH_take (i := 37) (oi := ?oz201) (v := ?vz201) ?iz201 (by kernel_rfl) (by kernel_rfl) (by kernel_rfl) ?qz201 (Or.inl ⟨?gz201, ?hz201⟩) (by assumption) ?rz201
    case iz201 => (simp only [List.getElem?_toArray, List.getElem?_cons_zero, List.getElem?_cons_succ]; rfl)
    case qz201 => exact fun _ _ _ h => h
    case gz201 => rfl
    case hz201 => (intro w hSw; (simp only [Holds] at hSw); go_simp <;> with_reducible rfl)
    simp only [Act.put, List.setIfInBounds_toArray, List.set_cons_zero, List.set_cons_succ]
    refine wpAnyH_take (i := 38) (oi := ?oz202) (v := ?vz202) ?iz202 (by kernel_rfl) (by kernel_rfl) (by kernel_rfl) ?qz202 (Or.inl ⟨?gz202, ?hz202⟩) (by assumption) ?rz202
    case iz202 => (simp only [List.getElem?_toArray, List.getElem?_cons_zero, List.getElem?_cons_succ]; rfl)
    case qz202 => exact fun _ _ _ h => h
    case gz202 => rfl
    case hz202 => (intro w hSw; (simp only [Holds] at hSw); go_simp <;> with_reducible rfl)
    simp only [Act.put, List.setIfInBounds_toArray, List.set_cons_zero, List.set_cons_succ]
    refine wpAnyH_take (i := 39) (oi := ?oz203) (v := undef) ?iz203 (by kernel_rfl) (by kernel_rfl) (by kernel_rfl) ?qz203 (Or.inr ⟨?gz203, rfl⟩) (by assumption) ?rz203
    case iz203 => (simp only [List.getElem?_toArray, List.getElem?_cons_zero, List.getElem?_cons_succ]; rfl)
    case qz203 => exact fun _ _ _ h => h
    case gz203 => rfl
    simp only [Act.put, List.setIfInBounds_toArray, List.set_cons_zero, List.set_cons_succ]
    refine wpAnyH_take (i := 40) (oi := ?oz204) (v := undef) ?iz204 (by kernel_rfl) (by kernel_rfl) (by kernel_rfl) ?qz204 (Or.inr ⟨?gz204, rfl⟩) (by assumption) ?rz204
    case iz204 => (simp only [List.getElem?_toArray, List.getElem?_cons_zero, List.getElem?_cons_succ]; rfl)
    case qz204 => exact fun _ _ _ h => h
    case gz204 => rfl
    simp only [Act.put, List.setIfInBounds_toArray, List.set_cons_zero, List.set_cons_succ]
    refine wpAnyH_take (i := 41) (oi := ?oz205) (v := undef) ?iz205 (by kernel_rfl) (by kernel_rfl) (by kernel_rfl) ?qz205 (Or.inr ⟨?gz205, rfl⟩) (by assumption) ?rz205
    case iz205 => (simp only [List.getElem?_toArray, List.getElem?_cons_zero, List.getElem?_cons_succ]; rfl)
    case qz205 => exact fun _ _ _ h => h
    case gz205 => rfl
    simp only [Act.put, List.setIfInBounds_toArray, List.set_cons_zero, List.set_cons_succ]
    refine wpAnyH_take (i := 42) (oi := ?oz206) (v := undef) ?iz206 (by kernel_rfl) (by kernel_rfl) (by kernel_rfl) ?qz206 (Or.inr ⟨?gz206, rfl⟩) (by assumption) ?rz206
    case iz206 => (simp only [List.getElem?_toArray, List.getElem?_cons_zero, List.getElem?_cons_succ]; rfl)
    case qz206 => exact fun _ _ _ h => h
    case gz206 => rfl
    simp only [Act.put, List.setIfInBounds_toArray, List.set_cons_zero, List.set_cons_succ]
    refine wpAnyH_take (i := 43) (oi := ?oz207) (v := undef) ?iz207 (by kernel_rfl) (by kernel_rfl) (by kernel_rfl) ?qz207 (Or.inr ⟨?gz207, rfl⟩) (by assumption) ?rz207
    case iz207 => (simp only [List.getElem?_toArray, List.getElem?_cons_zero, List.getElem?_cons_succ]; rfl)
    case qz207 => exact fun _ _ _ h => h
    case gz207 => rfl
    simp only [Act.put, List.setIfInBounds_toArray, List.set_cons_zero, List.set_cons_succ]
    refine wpAnyH_take (i := 44) (oi := ?oz208) (v := undef) ?iz208 (by kernel_rfl) (by kernel_rfl) (by kernel_rfl) ?qz208 (Or.inr ⟨?gz208, rfl⟩) (by assumption) ?rz208
    case iz208 => (simp only [List.getElem?_toArray, List.getElem?_cons_zero, List.getElem?_cons_succ]; rfl)
    case qz208 => exact fun _ _ _ h => h
    case gz208 => rfl
    simp only [Act.put, List.setIfInBounds_toArray, List.set_cons_zero, List.set_cons_succ]
    refine wpAnyH_take (i := 45) (oi := ?oz209) (v := undef) ?iz209 (by kernel_rfl) (by kernel_rfl) (by kernel_rfl) ?qz209 (Or.inr ⟨?gz209, rfl⟩) (by assumption) ?rz209
    case iz209 => (simp only [List.getElem?_toArray, List.getElem?_cons_zero, List.getElem?_cons_succ]; rfl)
    case qz209 => exact fun _ _ _ h => h
    case gz209 => rfl
    simp only [Act.put, List.setIfInBounds_toArray, List.set_cons_zero, List.set_cons_succ]
    refine wpAnyH_take (i := 46) (oi := ?oz210) (v := undef) ?iz210 (by kernel_rfl) (by kernel_rfl) (by kernel_rfl) ?qz210 (Or.inr ⟨?gz210, rfl⟩) (by assumption) ?rz210
    case iz210 => (simp only [List.getElem?_toArray, List.getElem?_cons_zero, List.getElem?_cons_succ]; rfl)
    case qz210 => exact fun _ _ _ h => h
    case gz210 => rfl
    simp only [Act.put, List.setIfInBounds_toArray, List.set_cons_zero, List.set_cons_succ]
    refine wpAnyH_take (i := 47) (oi := ?oz211) (v := undef) ?iz211 (by kernel_rfl) (by kernel_rfl) (by kernel_rfl) ?qz211 (Or.inr ⟨?gz211, rfl⟩) (by assumption) ?rz211
    case iz211 => (simp only [List.getElem?_toArray, List.getElem?_cons_zero, List.getElem?_cons_succ]; rfl)
    case qz211 => exact fun _ _ _ h => h
    case gz211 => rfl
    simp only [Act.put, List.setIfInBounds_toArray, List.set_cons_zero, List.set_cons_succ]
    refine wpAnyH_take (i := 48) (oi := ?oz212) (v := undef) ?iz212 (by kernel_rfl) (by kernel_rfl) (by kernel_rfl) ?qz212 (Or.inr ⟨?gz212, rfl⟩) (by assumption) ?rz212
    case iz212 => (simp only [List.getElem?_toArray, List.getElem?_cons_zero, List.getElem?_cons_succ]; rfl)
    case qz212 => exact fun _ _ _ h => h
    case gz212 => rfl
    simp only [Act.put, List.setIfInBounds_toArray, List.set_cons_zero, List.set_cons_succ]
    refine wpAnyH_take (i := 49) (oi := ?oz213) (v := undef) ?iz213 (by kernel_rfl) (by kernel_rfl) (by kernel_rfl) ?qz213 (Or.inr ⟨?gz213, rfl⟩) (by assumption) ?rz213
    case iz213 => (simp only [List.getElem?_toArray, List.getElem?_cons_zero, List.getElem?_cons_succ]; rfl)
    case qz213 => exact fun _ _ _ h => h
    case gz213 => rfl
    simp only [Act.put, List.setIfInBounds_toArray, List.set_cons_zero, List.set_cons_succ]
    refine wpAnyH_take (i := 50) (oi := ?oz214) (v := undef) ?iz214 (by kernel_rfl) (by kernel_rfl) (by kernel_rfl) ?qz214 (Or.inr ⟨?gz214, rfl⟩) (by assumption) ?rz214
    case iz214 => (simp only [List.getElem?_toArray, List.getElem?_cons_zero, List.getElem?_cons_succ]; rfl)
    case qz214 => exact fun _ _ _ h => h
    case gz214 => rfl
    simp only [Act.put, List.setIfInBounds_toArray, List.set_cons_zero, List.set_cons_succ]
    refine wpAnyH_take (i := 51) (oi := ?oz215) (v := undef) ?iz215 (by kernel_rfl) (by kernel_rfl) (by kernel_rfl) ?qz215 (Or.inr ⟨?gz215, rfl⟩) (by assumption) ?rz215
    case iz215 => (simp only [List.getElem?_toArray, List.getElem?_cons_zero, List.getElem?_cons_succ]; rfl)
    case qz215 => exact fun _ _ _ h => h
    case gz215 => rfl
    simp only [Act.put, List.setIfInBounds_toArray, List.set_cons_zero, List.set_cons_succ]
    refine wpAnyH_take (i := 52) (oi := ?oz216) (v := ?vz216) ?iz216 (by kernel_rfl) (by kernel_rfl) (by kernel_rfl) ?qz216 (Or.inl ⟨?gz216, ?hz216⟩) (by assumption) ?rz216
    case iz216 => (simp only [List.getElem?_toArray, List.getElem?_cons_zero, List.getElem?_cons_succ]; rfl)
    case qz216 => exact fun _ _ _ h => h
    case gz216 => rfl
    case hz216 => (intro w hSw; (simp only [Holds] at hSw); go_simp <;> with_reducible rfl)
    simp only [Act.put, List.setIfInBounds_toArray, List.set_cons_zero, List.set_cons_succ]
    refine wpAnyH_take (i := 53) (oi := ?oz217) (v := ?vz217) ?iz217 (by kernel_rfl) (by kernel_rfl) (by kernel_rfl) ?qz217 (Or.inl ⟨?gz217, ?hz217⟩) (by assumption) ?rz217
    case iz217 => (simp only [List.getElem?_toArray, List.getElem?_cons_zero, List.getElem?_cons_succ]; rfl)
    case qz217 => exact fun _ _ _ h => h
    case gz217 => rfl
    case hz217 => (intro w hSw; (simp only [Holds] at hSw); go_simp <;> with_reducible rfl)
    simp only [Act.put, List.setIfInBounds_toArray, List.set_cons_zero, List.set_cons_succ]
    refine wpAnyH_done (by kernel_rfl) ?_ _
    go_wp2
    go_ret
    exact ⟨ret_bool HD.out.symm, HB1.out.trans (Bc.out.mono hNW)⟩
  have h0l : (0 : Int) < (I.l.length : Int) := by omega
  have h0n : 0 < I.l.length := by omega
  have i1 : (0 : Int) ≤ 1 + I.p := by omega
  have i2 : (1 : Int) ≤ 1 + I.p := by omega
  have i3 : 1 + I.p ≤ (cap : Int) := by omega
  have i4 : 1 + I.p ≤ (I.l.length : Int) := by omega
  have HL := Lib.hid hl
  clear hl
  have HS1 := Lib.hid (show Holds (cellsA w.heap.size I (.slice (some ⟨b, off, none⟩) I.l.length cap) b off (nth I.l 0)) W.drew from ⟨HS0.out.1, HS0.out.2.1, HS0.out.2.2.1, HS0.out.2.2.2.1, HAT.out.holds⟩)
  have hlt1 := Lib.hid (show Lows W.drew.heap.size (cellsA w.heap.size I (.slice (some ⟨b, off, none⟩) I.l.length cap) b off (nth I.l 0)) from ⟨hlt.out.1, hlt.out.2.1, hlt.out.2.2.1, hlt.out.2.2.2.1, lows_S hbl⟩)
  clear hSn HS0 hlt
  have HS0 := HS1
  have hlt := hlt1
  clear HS1 hlt1
  have hSn := Holds.below Bc.out HS0.out hlt.out
  refine wpAnyH_strong (S' := Holds (cellsA w.heap.size I (.slice (some ⟨b, off, none⟩) I.l.length cap) b off (nth I.l 0))) (fun _ h => ⟨h.1, h.2.1, h.2.2.1, h.2.2.2.1, trivial⟩) _ _ _ _ ?_
  unfold cellsA at *
  refine wpAnyH_take (i := 30) (oi := ?oz218) (v := ?vz218) ?iz218 (by kernel_rfl) (by kernel_rfl) (by kernel_rfl) ?qz218 (Or.inl ⟨?gz218, ?hz218⟩) (by assumption) ?rz218
  case iz218 => (simp only [List.getElem?_toArray, List.getElem?_cons_zero, List.getElem?_cons_succ]; rfl)
  case qz218 => exact fun _ _ _ h => h
  case gz218 => rfl
  case hz218 => (intro w hSw; (simp only [Holds] at hSw); go_simp <;> with_reducible rfl)
  simp only [Act.put, List.setIfInBounds_toArray, List.set_cons_zero, List.set_cons_succ]
  refine wpAnyH_take (i := 31) (oi := ?oz219) (v := ?vz219) ?iz219 (by kernel_rfl) (by kernel_rfl) (by kernel_rfl) ?qz219 (Or.inl ⟨?gz219, ?hz219⟩) (by assumption) ?rz219
  case iz219 => (simp only [List.getElem?_toArray, List.getElem?_cons_zero, List.getElem?_cons_succ]; rfl)
  case qz219 => exact fun _ _ _ h => h
  case gz219 => rfl
  case hz219 => (intro w hSw; (simp only [Holds] at hSw); go_simp <;> with_reducible rfl)
  simp only [Act.put, List.setIfInBounds_toArray, List.set_cons_zero, List.set_cons_succ]
  refine wpAnyH_take (i := 32) (oi := ?oz220) (v := ?vz220) ?iz220 (by kernel_rfl) (by kernel_rfl) (by kernel_rfl) ?qz220 (Or.inl ⟨?gz220, ?hz220⟩) (by assumption) ?rz220
  case iz220 => (simp only [List.getElem?_toArray, List.getElem?_cons_zero, List.getElem?_cons_succ]; rfl)
  case qz220 => exact fun _ _ _ h => h
  case gz220 => rfl
  case hz220 => (intro w hSw; (simp only [Holds] at hSw); go_simp <;> with_reducible rfl)
  simp only [Act.put, List.setIfInBounds_toArray, List.set_cons_zero, List.set_cons_succ]
  refine wpAnyH_take (i := 33) (oi := ?oz221) (v := ?vz221) ?iz221 (by kernel_rfl) (by kernel_rfl) (by kernel_rfl) ?qz221 (Or.inl ⟨?gz221, ?hz221⟩) (by assumption) ?rz221
  case iz221 => (simp only [List.getElem?_toArray, List.getElem?_cons_zero, List.getElem?_cons_succ]; rfl)
  case qz221 => exact fun _ _ _ h => h
  case gz221 => rfl
  case hz221 => (intro w hSw; (simp only [Holds] at hSw); go_simp <;> with_reducible rfl)
  simp only [Act.put, List.setIfInBounds_toArray, List.set_cons_zero, List.set_cons_succ]
  refine wpAnyH_take (i := 34) (oi := ?oz222) (v := ?vz222) ?iz222 (by kernel_rfl) (by kernel_rfl) (by kernel_rfl) ?qz222 (Or.inl ⟨?gz222, ?hz222⟩) (by assumption) ?rz222
  case iz222 => (simp only [List.getElem?_toArray, List.getElem?_cons_zero, List.getElem?_cons_succ]; rfl)
  case qz222 => exact fun _ _ _ h => h
  case gz222 => rfl
  case hz222 => (intro w hSw; (simp only [Holds] at hSw); go_simp <;> with_reducible rfl)
  simp only [Act.put, List.setIfInBounds_toArray, List.set_cons_zero, List.set_cons_succ]
  refine wpAnyH_take (i := 35) (oi := ?oz223) (v := ?vz223) ?iz223 (by kernel_rfl) (by kernel_rfl) (by kernel_rfl) ?qz223 (Or.inl ⟨?gz223, ?hz223⟩) (by assumption) ?rz223
  case iz223 => (simp only [List.getElem?_toArray, List.getElem?_cons_zero, List.getElem?_cons_succ]; rfl)
  case qz223 => exact fun _ _ _ h => h
  case gz223 => rfl
  case hz223 => (intro w hSw; (simp only [Holds] at hSw); go_simp <;> with_reducible rfl)
  simp only [Act.put, List.setIfInBounds_toArray, List.set_cons_zero, List.set_cons_succ]
  refine wpAnyH_ready (rs := [36]) (by kernel_rfl) (by simp) ?_
  refine AllReadyH.cons (o := ?oz224) ?iz224 (fun K hK => ?kz224) AllReadyH.nil
  case iz224 => (simp only [List.getElem?_toArray, List.getElem?_cons_zero, List.getElem?_cons_succ]; rfl)
  go_simp
  refine (yard_any (nth I.l 0) _).mono ?_
  rintro e w' ⟨rfl, hb⟩
  refine held_more hK HS0.out hlt (Bc.out.trans (hb.mono Bc.out.size)) (fun Bc hSn => ?_)
  clear hb hK
  cases hb6 : yardOk (nth I.l 0)
  · have HD := Lib.hid (show mayB I = false by rw [HSM.out, hb1, hb2, hb3, hb4, hb5, hb6]; rfl)
    refine wpAnyH_take (i := 37) (oi := ?oz225) (v := ?vz225) ?iz225 (by kernel_rfl) (by kernel_rfl) (by kernel_rfl) ?qz225 (Or.inl ⟨?gz225, ?hz225⟩) (by assumption) ?rz225
    case iz225 => (simp only [List.getElem?_toArray, List.getElem?_cons_zero, List.getElem?_cons_succ]; rfl)
    case qz225 => exact fun _ _ _ h => h
    case gz225 => rfl
    case hz225 => (intro w hSw; (simp only [Holds] at hSw); go_simp <;> with_reducible rfl)
    simp only [Act.put, List.setIfInBounds_toArray, List.set_cons_zero, List.set_cons_succ]
    refine wpAnyH_take (i := 38) (oi := ?oz226) (v := ?vz226) ?iz226 (by kernel_rfl) (by kernel_rfl) (by kernel_rfl) ?qz226 (Or.inl ⟨?gz226, ?hz226⟩) (by assumption) ?rz226
    case iz226 => (simp only [List.getElem?_toArray, List.getElem?_cons_zero, List.getElem?_cons_succ]; rfl)
    case qz226 => exact fun _ _ _ h => h
    case gz226 => rfl
    case hz226 => (intro w hSw; (simp only [Holds] at hSw); go_simp <;> with_reducible rfl)
    simp only [Act.put, List.setIfInBounds_toArray, List.set_cons_zero, List.set_cons_succ]
    refine wpAnyH_take (i := 39) (oi := ?oz227) (v := undef) ?iz227 (by kernel_rfl) (by kernel_rfl) (by kernel_rfl) ?qz227 (Or.inr ⟨?gz227, rfl⟩) (by assumption) ?rz227
    case iz227 => (simp only [List.getElem?_toArray, List.getElem?_cons_zero, List.getElem?_cons_succ]; rfl)
    case qz227 => exact fun _ _ _ h => h
    case gz227 => rfl
    simp only [Act.put, List.setIfInBounds_toArray, List.set_cons_zero, List.set_cons_succ]
    refine wpAnyH_take (i := 40) (oi := ?oz228) (v := undef) ?iz228 (by kernel_rfl) (by kernel_rfl) (by kernel_rfl) ?qz228 (Or.inr ⟨?gz228, rfl⟩) (by assumption) ?rz228
    case iz228 => (simp only [List.getElem?_toArray, List.getElem?_cons_zero, List.getElem?_cons_succ]; rfl)
    case qz228 => exact fun _ _ _ h => h
    case gz228 => rfl
    simp only [Act.put, List.setIfInBounds_toArray, List.set_cons_zero, List.set_cons_succ]
    refine wpAnyH_take (i := 41) (oi := ?oz229) (v := undef) ?iz229 (by kernel_rfl) (by kernel_rfl) (by kernel_rfl) ?qz229 (Or.inr ⟨?gz229, rfl⟩) (by assumption) ?rz229
    case iz229 => (simp only [List.getElem?_toArray, List.getElem?_cons_zero, List.getElem?_cons_succ]; rfl)
    case qz229 => exact fun _ _ _ h => h
    case gz229 => rfl
    simp only [Act.put, List.setIfInBounds_toArray, List.set_cons_zero, List.set_cons_succ]
    refine wpAnyH_take (i := 42) (oi := ?oz230) (v := undef) ?iz230 (by kernel_rfl) (by kernel_rfl) (by kernel_rfl) ?qz230 (Or.inr ⟨?gz230, rfl⟩) (by assumption) ?rz230
    case iz230 => (simp only [List.getElem?_toArray, List.getElem?_cons_zero, List.getElem?_cons_succ]; rfl)
    case qz230 => exact fun _ _ _ h => h
    case gz230 => rfl
    simp only [Act.put, List.setIfInBounds_toArray, List.set_cons_zero, List.set_cons_succ]
    refine wpAnyH_take (i := 43) (oi := ?oz231) (v := undef) ?iz231 (by kernel_rfl) (by kernel_rfl) (by kernel_rfl) ?qz231 (Or.inr ⟨?gz231, rfl⟩) (by assumption) ?rz231
    case iz231 => (simp only [List.getElem?_toArray, List.getElem?_cons_zero, List.getElem?_cons_succ]; rfl)
    case qz231 => exact fun _ _ _ h => h
    case gz231 => rfl
    simp only [Act.put, List.setIfInBounds_toArray, List.set_cons_zero, List.set_cons_succ]
    refine wpAnyH_take (i := 44) (oi := ?oz232) (v := undef) ?iz232 (by kernel_rfl) (by kernel_rfl) (by kernel_rfl) ?qz232 (Or.inr ⟨?gz232, rfl⟩) (by assumption) ?rz232
    case iz232 => (simp only [List.getElem?_toArray, List.getElem?_cons_zero, List.getElem?_cons_succ]; rfl)
    case qz232 => exact fun _ _ _ h => h
    case gz232 => rfl
    simp only [Act.put, List.setIfInBounds_toArray, List.set_cons_zero, List.set_cons_succ]
    refine wpAnyH_take (i := 45) (oi := ?oz233) (v := undef) ?iz233 (by kernel_rfl) (by kernel_rfl) (by kernel_rfl) ?qz233 (Or.inr ⟨?gz233, rfl⟩) (by assumption) ?rz233
    case iz233 => (simp only [List.getElem?_toArray, List.getElem?_cons_zero, List.getElem?_cons_succ]; rfl)
    case qz233 => exact fun _ _ _ h => h
    case gz233 => rfl
    simp only [Act.put, List.setIfInBounds_toArray, List.set_cons_zero, List.set_cons_succ]
    refine wpAnyH_take (i := 46) (oi := ?oz234) (v := undef) ?iz234 (by kernel_rfl) (by kernel_rfl) (by kernel_rfl) ?qz234 (Or.inr ⟨?gz234, rfl⟩) (by assumption) ?rz234
    case iz234 => (simp only [List.getElem?_toArray, List.getElem?_cons_zero, List.getElem?_cons_succ]; rfl)
    case qz234 => exact fun _ _ _ h => h
    case gz234 => rfl
    simp only [Act.put, List.setIfInBounds_toArray, List.set_cons_zero, List.set_cons_succ]
    refine wpAnyH_take (i := 47) (oi := ?oz235) (v := undef) ?iz235 (by kernel_rfl) (by kernel_rfl) (by kernel_rfl) ?qz235 (Or.inr ⟨?gz235, rfl⟩) (by assumption) ?rz235
    case iz235 => (simp only [List.getElem?_toArray, List.getElem?_cons_zero, List.getElem?_cons_succ]; rfl)
    case qz235 => exact fun _ _ _ h => h
    case gz235 => rfl
    simp only [Act.put, List.setIfInBounds_toArray, List.set_cons_zero, List.set_cons_succ]
    refine wpAnyH_take (i := 48) (oi := ?oz236) (v := undef) ?iz236 (by kernel_rfl) (by kernel_rfl) (by kernel_rfl) ?qz236 (Or.inr ⟨?gz236, rfl⟩) (by assumption) ?rz236
    case iz236 => (simp only [List.getElem?_toArray, List.getElem?_cons_zero, List.getElem?_cons_succ]; rfl)
    case qz236 => exact fun _ _ _ h => h
    case gz236 => rfl
    simp only [Act.put, List.setIfInBounds_toArray, List.set_cons_zero, List.set_cons_succ]
    refine wpAnyH_take (i := 49) (oi := ?oz237) (v := undef) ?iz237 (by kernel_rfl) (by kernel_rfl) (by kernel_rfl) ?qz237 (Or.inr ⟨?gz237, rfl⟩) (by assumption) ?rz237
    case iz237 => (simp only [List.getElem?_toArray, List.getElem?_cons_zero, List.getElem?_cons_succ]; rfl)
    case qz237 => exact fun _ _ _ h => h
    case gz237 => rfl
    simp only [Act.put, List.setIfInBounds_toArray, List.set_cons_zero, List.set_cons_succ]
    refine wpAnyH_take (i := 50) (oi := ?oz238) (v := undef) ?iz238 (by kernel_rfl) (by kernel_rfl) (by kernel_rfl) ?qz238 (Or.inr ⟨?gz238, rfl⟩) (by assumption) ?rz238
    case iz238 => (simp only [List.getElem?_toArray, List.getElem?_cons_zero, List.getElem?_cons_succ]; rfl)
    case qz238 => exact fun _ _ _ h => h
    case gz238 => rfl
    simp only [Act.put, List.setIfInBounds_toArray, List.set_cons_zero, List.set_cons_succ]
    refine wpAnyH_take (i := 51) (oi := ?oz239) (v := undef) ?iz239 (by kernel_rfl) (by kernel_rfl) (by kernel_rfl) ?qz239 (Or.inr ⟨?gz239, rfl⟩) (by assumption) ?rz239
    case iz239 => (simp only [List.getElem?_toArray, List.getElem?_cons_zero, List.getElem?_cons_succ]; rfl)
    case qz239 => exact fun _ _ _ h => h
    case gz239 => rfl
    simp only [Act.put, List.setIfInBounds_toArray, List.set_cons_zero, List.set_cons_succ]
    refine wpAnyH_take (i := 52) (oi := ?oz240) (v := ?vz240) ?iz240 (by kernel_rfl) (by kernel_rfl) (by kernel_rfl) ?qz240 (Or.inl ⟨?gz240, ?hz240⟩) (by assumption) ?rz240
    case iz240 => (simp only [List.getElem?_toArray, List.getElem?_cons_zero, List.getElem?_cons_succ]; rfl)
    case qz240 => exact fun _ _ _ h => h
    case gz240 => rfl
    case hz240 => (intro w hSw; (simp only [Holds] at hSw); go_simp <;> with_reducible rfl)
    simp only [Act.put, List.setIfInBounds_toArray, List.set_cons_zero, List.set_cons_succ]
    refine wpAnyH_take (i := 53) (oi := ?oz241) (v := ?vz241) ?iz241 (by kernel_rfl) (by kernel_rfl) (by kernel_rfl) ?qz241 (Or.inl ⟨?gz241, ?hz241⟩) (by assumption) ?rz241
    case iz241 => (simp only [List.getElem?_toArray, List.getElem?_cons_zero, List.getElem?_cons_succ]; rfl)
    case qz241 => exact fun _ _ _ h => h
    case gz241 => rfl
    case hz241 => (intro w hSw; (simp only [Holds] at hSw); go_simp <;> with_reducible rfl)
    simp only [Act.put, List.setIfInBounds_toArray, List.set_cons_zero, List.set_cons_succ]
    refine wpAnyH_done (by kernel_rfl) ?_ _
    go_wp2
    go_ret
    exact ⟨ret_bool HD.out.symm, HB1.out.trans (Bc.out.mono hNW)⟩
  refine wpAnyH_take (i := 37) (oi := ?oz242) (v := ?vz242) ?iz242 (by kernel_rfl) (by kernel_rfl) (by kernel_rfl) ?qz242 (Or.inl ⟨?gz242, ?hz242⟩) (by assumption) ?rz242
  case iz242 => (simp only [List.getElem?_toArray, List.getElem?_cons_zero, List.getElem?_cons_succ]; rfl)
  case qz242 => exact fun _ _ _ h => h
  case gz242 => rfl
  case hz242 => (intro w hSw; (simp only [Holds] at hSw); go_simp <;> with_reducible rfl)
  simp only [Act.put, List.setIfInBounds_toArray, List.set_cons_zero, List.set_cons_succ]
  refine wpAnyH_take (i := 38) (oi := ?oz243) (v := ?vz243) ?iz243 (by kernel_rfl) (by kernel_rfl) (by kernel_rfl) ?qz243 (Or.inl ⟨?gz243, ?hz243⟩) (by assumption) ?rz243
  case iz243 => (simp only [List.getElem?_toArray, List.getElem?_cons_zero, List.getElem?_cons_succ]; rfl)
  case qz243 => exact fun _ _ _ h => h
  case gz243 => rfl
  case hz243 => (intro w hSw; (simp only [Holds] at hSw); go_simp <;> with_reducible rfl)
  simp only [Act.put, List.setIfInBounds_toArray, List.set_cons_zero, List.set_cons_succ]
  refine wpAnyH_take (i := 39) (oi := ?oz244) (v := ?vz244) ?iz244 (by kernel_rfl) (by kernel_rfl) (by kernel_rfl) ?qz244 (Or.inl ⟨?gz244, ?hz244⟩) (by assumption) ?rz244
  case iz244 => (simp only [List.getElem?_toArray, List.getElem?_cons_zero, List.getElem?_cons_succ]; rfl)
  case qz244 => exact fun _ _ _ h => h
  case gz244 => rfl
  case hz244 => (intro w hSw; (simp only [Holds] at hSw); go_simp <;> with_reducible rfl)
  simp only [Act.put, List.setIfInBounds_toArray, List.set_cons_zero, List.set_cons_succ]
  refine wpAnyH_take (i := 40) (oi := ?oz245) (v := ?vz245) ?iz245 (by kernel_rfl) (by kernel_rfl) (by kernel_rfl) ?qz245 (Or.inl ⟨?gz245, ?hz245⟩) (by assumption) ?rz245
  case iz245 => (simp only [List.getElem?_toArray, List.getElem?_cons_zero, List.getElem?_cons_succ]; rfl)
  case qz245 => exact fun _ _ _ h => h
  case gz245 => rfl
  case hz245 => (intro w hSw; (simp only [Holds] at hSw); go_simp <;> with_reducible rfl)
  simp only [Act.put, List.setIfInBounds_toArray, List.set_cons_zero, List.set_cons_succ]
  refine wpAnyH_take (i := 41) (oi := ?oz246) (v := ?vz246) ?iz246 (by kernel_rfl) (by kernel_rfl) (by kernel_rfl) ?qz246 (Or.inl ⟨?gz246, ?hz246⟩) (by assumption) ?rz246
  case iz246 => (simp only [List.getElem?_toArray, List.getElem?_cons_zero, List.getElem?_cons_succ]; rfl)
  case qz246 => exact fun _ _ _ h => h
  case gz246 => rfl
  case hz246 => (intro w hSw; (simp only [Holds] at hSw); go_simp <;> with_reducible rfl)
  simp only [Act.put, List.setIfInBounds_toArray, List.set_cons_zero, List.set_cons_succ]
  refine wpAnyH_take (i := 42) (oi := ?oz247) (v := ?vz247) ?iz247 (by kernel_rfl) (by kernel_rfl) (by kernel_rfl) ?qz247 (Or.inl ⟨?gz247, ?hz247⟩) (by assumption) ?rz247
  case iz247 => (simp only [List.getElem?_toArray, List.getElem?_cons_zero, List.getElem?_cons_succ]; rfl)
  case qz247 => exact fun _ _ _ h => h
  case gz247 => rfl
  case hz247 => (intro w hSw; (simp only [Holds] at hSw); go_simp <;> with_reducible rfl)
  simp only [Act.put, List.setIfInBounds_toArray, List.set_cons_zero, List.set_cons_succ]
  refine wpAnyH_take (i := 43) (oi := ?oz248) (v := ?vz248) ?iz248 (by kernel_rfl) (by kernel_rfl) (by kernel_rfl) ?qz248 (Or.inl ⟨?gz248, ?hz248⟩) (by assumption) ?rz248
  case iz248 => (simp only [List.getElem?_toArray, List.getElem?_cons_zero, List.getElem?_cons_succ]; rfl)
  case qz248 => exact fun _ _ _ h => h
  case gz248 => rfl
  case hz248 => (intro w hSw; (simp only [Holds] at hSw); go_simp <;> with_reducible rfl)
  simp only [Act.put, List.setIfInBounds_toArray, List.set_cons_zero, List.set_cons_succ]
  refine wpAnyH_take (i := 44) (oi := ?oz249) (v := ?vz249) ?iz249 (by kernel_rfl) (by kernel_rfl) (by kernel_rfl) ?qz249 (Or.inl ⟨?gz249, ?hz249⟩) (by assumption) ?rz249
  case iz249 => (simp only [List.getElem?_toArray, List.getElem?_cons_zero, List.getElem?_cons_succ]; rfl)
  case qz249 => exact fun _ _ _ h => h
  case gz249 => rfl
  case hz249 => (intro w hSw; (simp only [Holds] at hSw); go_simp <;> with_reducible rfl)
  simp only [Act.put, List.setIfInBounds_toArray, List.set_cons_zero, List.set_cons_succ]
  refine wpAnyH_take (i := 45) (oi := ?oz250) (v := ?vz250) ?iz250 (by kernel_rfl) (by kernel_rfl) (by kernel_rfl) ?qz250 (Or.inl ⟨?gz250, ?hz250⟩) (by assumption) ?rz250
  case iz250 => (simp only [List.getElem?_toArray, List.getElem?_cons_zero, List.getElem?_cons_succ]; rfl)
  case qz250 => exact fun _ _ _ h => h
  case gz250 => rfl
  case hz250 => (intro w hSw; (simp only [Holds] at hSw); go_simp <;> with_reducible rfl)
  simp only [Act.put, List.setIfInBounds_toArray, List.set_cons_zero, List.set_cons_succ]
  refine wpAnyH_take (i := 46) (oi := ?oz251) (v := ?vz251) ?iz251 (by kernel_rfl) (by kernel_rfl) (by kernel_rfl) ?qz251 (Or.inl ⟨?gz251, ?hz251⟩) (by assumption) ?rz251
  case iz251 => (simp only [List.getElem?_toArray, List.getElem?_cons_zero, List.getElem?_cons_succ]; rfl)
  case qz251 => exact fun _ _ _ h => h
  case gz251 => rfl
  case hz251 => (intro w hSw; (simp only [Holds] at hSw); go_simp <;> with_reducible rfl)
  simp only [Act.put, List.setIfInBounds_toArray, List.set_cons_zero, List.set_cons_succ]
  refine wpAnyH_take (i := 47) (oi := ?oz252) (v := ?vz252) ?iz252 (by kernel_rfl) (by kernel_rfl) (by kernel_rfl) ?qz252 (Or.inl ⟨?gz252, ?hz252⟩) (by assumption) ?rz252
  case iz252 => (simp only [List.getElem?_toArray, List.getElem?_cons_zero, List.getElem?_cons_succ]; rfl)
  case qz252 => exact fun _ _ _ h => h
  case gz252 => rfl
  case hz252 => (intro w hSw; (simp only [Holds] at hSw); go_simp <;> with_reducible rfl)
  simp only [Act.put, List.setIfInBounds_toArray, List.set_cons_zero, List.set_cons_succ]
  refine wpAnyH_take (i := 48) (oi := ?oz253) (v := ?vz253) ?iz253 (by kernel_rfl) (by kernel_rfl) (by kernel_rfl) ?qz253 (Or.inl ⟨?gz253, ?hz253⟩) (by assumption) ?rz253
  case iz253 => (simp only [List.getElem?_toArray, List.getElem?_cons_zero, List.getElem?_cons_succ]; rfl)
  case qz253 => exact fun _ _ _ h => h
  case gz253 => rfl
  case hz253 => (intro w hSw; (simp only [Holds] at hSw); go_simp <;> with_reducible rfl)
  simp only [Act.put, List.setIfInBounds_toArray, List.set_cons_zero, List.set_cons_succ]
  refine wpAnyH_take (i := 49) (oi := ?oz254) (v := ?vz254) ?iz254 (by kernel_rfl) (by kernel_rfl) (by kernel_rfl) ?qz254 (Or.inl ⟨?gz254, ?hz254⟩) (by assumption) ?rz254
  case iz254 => (simp only [List.getElem?_toArray, List.getElem?_cons_zero, List.getElem?_cons_succ]; rfl)
  case qz254 => exact fun _ _ _ h => h
  case gz254 => rfl
  case hz254 => (intro w hSw; (simp only [Holds] at hSw); go_simp <;> with_reducible rfl)
  simp only [Act.put, List.setIfInBounds_toArray, List.set_cons_zero, List.set_cons_succ]
  refine wpAnyH_take (i := 50) (oi := ?oz255) (v := ?vz255) ?iz255 (by kernel_rfl) (by kernel_rfl) (by kernel_rfl) ?qz255 (Or.inl ⟨?gz255, ?hz255⟩) (by assumption) ?rz255
  case iz255 => (simp only [List.getElem?_toArray, List.getElem?_cons_zero, List.getElem?_cons_succ]; rfl)
  case qz255 => exact fun _ _ _ h => h
  case gz255 => rfl
  case hz255 => (intro w hSw; (simp only [Holds] at hSw); go_simp <;> with_reducible rfl)
  simp only [Act.put, List.setIfInBounds_toArray, List.set_cons_zero, List.set_cons_succ]
  refine wpAnyH_ready (rs := [51]) (by kernel_rfl) (by simp) ?_
  refine AllReadyH.cons (o := ?oz256) ?iz256 (fun K hK => ?kz256) AllReadyH.nil
  case iz256 => (simp only [List.getElem?_toArray, List.getElem?_cons_zero, List.getElem?_cons_succ]; rfl)
  go_simp
  have hk : (1 + I.p).toNat = 1 + I.p.toNat := by omega
  have hk2 : 1 + I.p.toNat - 1 = I.p.toNat := by omega
  have hk3 : 1 + I.p.toNat ≤ I.l.length := by omega
  have HR := Lib.hid (H1.out.below Bc.out)
  refine (demands_any (T := (I.l.drop 1).take I.p.toNat) (B := I.l.drop (1 + I.p.toNat)) ?s1 ?s2 ?s3).mono ?_
  case s1 =>
    have := HR.out.part 1 (1 + I.p.toNat) (by omega) (by omega) _ rfl
    rw [hk2] at this
    rw [hk, hk2]
    exact this
  case s2 =>
    have := HR.out.part (1 + I.p.toNat) I.l.length (by omega) (Nat.le_refl _) _ rfl
    rw [List.take_of_length_le (by simp)] at this
    rw [hk]
    exact this
  case s3 =>
    have := HL.out
    simp
    omega
  rintro e w' ⟨rfl, hb⟩
  refine held_more hK HS0.out hlt (Bc.out.trans (hb.mono Bc.out.size)) (fun Bc hSn => ?_)
  clear hb hK
  have HD := Lib.hid (show mayB I = demOk ((I.l.drop 1).take I.p.toNat) (I.l.drop (1 + I.p.toNat)) by rw [HSM.out, hb1, hb2, hb3, hb4, hb5, hb6]; rfl)
  generalize demOk ((I.l.drop 1).take I.p.toNat) (I.l.drop (1 + I.p.toNat)) = b7 at HD ⊢
  generalize Value.slice (if cap = 1 then some ⟨b, off, none⟩ else some ⟨b, off + 6, none⟩) ((1 + I.p).toNat - 1) (cap - 1) = x1
  generalize Value.slice (if cap = (1 + I.p).toNat then some ⟨b, off, none⟩ else some ⟨b, off + (1 + I.p).toNat * 6, none⟩) (I.l.length - (1 + I.p).toNat) (cap - (1 + I.p).toNat) = x2
  refine wpAnyH_take (i := 52) (oi := ?oz257) (v := ?vz257) ?iz257 (by kernel_rfl) (by kernel_rfl) (by kernel_rfl) ?qz257 (Or.inl ⟨?gz257, ?hz257⟩) (by assumption) ?rz257
  case iz257 => (simp only [List.getElem?_toArray, List.getElem?_cons_zero, List.getElem?_cons_succ]; rfl)
  case qz257 => exact fun _ _ _ h => h
  case gz257 => rfl
  case hz257 => (intro w hSw; (simp only [Holds] at hSw); go_simp <;> with_reducible rfl)
  simp only [Act.put, List.setIfInBounds_toArray, List.set_cons_zero, List.set_cons_succ]
  refine wpAnyH_take (i := 53) (oi := ?oz258) (v := ?vz258) ?iz258 (by kernel_rfl) (by kernel_rfl) (by kernel_rfl) ?qz258 (Or.inl ⟨?gz258, ?hz258⟩) (by assumption) ?rz258
  case iz258 => (simp only [List.getElem?_toArray, List.getElem?_cons_zero, List.getElem?_cons_succ]; rfl)
  case qz258 => exact fun _ _ _ h => h
  case gz258 => rfl
  case hz258 => (intro w hSw; (simp only [Holds] at hSw); go_simp <;> with_reducible rfl)
  simp only [Act.put, List.setIfInBounds_toArray, List.set_cons_zero, List.set_cons_succ]
  refine wpAnyH_done (by kernel_rfl) ?_ _
  go_wp2
  go_ret
  exact ⟨ret_bool HD.out.symm, HB1.out.trans (Bc.out.mono hNW)⟩
end Go.Proofs.YtkhlmgkapmofiaaDoor
