/- inst.Same, and the document's. -/
import Derived.Test.YtkhlmgkapmofiaaDoorIEq
import Derived.Test.YtkhlmgkapmofiaaDoorIMay
namespace Go.Proofs.YtkhlmgkapmofiaaDoor
open Go.ChangeShapes Go.WideShapes Go.ChangeAt Go.RowKit

theorem headEq_iff (I J : Ins) : decide (I = J) = (decide (I.p = J.p ∧ I.c = J.c ∧ I.r = J.r) && decide (I.l = J.l)) := by
  rw [Bool.eq_iff_iff]
  simp only [Bool.and_eq_true, decide_eq_true_iff, ← Ins.eq_iff I J]
  constructor
  · rintro ⟨a, b, c, d⟩; exact ⟨⟨a, b, c⟩, d⟩
  · rintro ⟨⟨a, b, c⟩, d⟩; exact ⟨a, b, c, d⟩
def cellsTwo (N M : Nat) (I J : Ins) (v u : Value) : List (Addr × Value) := [(⟨N, 0, none⟩, .int .i64 I.p), (⟨N, 1, none⟩, .int .i64 I.c), (⟨N, 2, none⟩, .int .i64 I.r), (⟨N, 3, none⟩, v), (⟨M, 0, none⟩, .int .i64 J.p), (⟨M, 1, none⟩, .int .i64 J.c), (⟨M, 2, none⟩, .int .i64 J.r), (⟨M, 3, none⟩, u)]
theorem holds_two (w : World) (I J : Ins) (v u : Value) : Holds (cellsTwo w.heap.size (w.heap.size + 1) I J v u) ((w.alloc (boxI I v)).alloc (boxI J u)) := by
  have h1 := Holds.below (M := w.heap.size + 1) (((Below.refl _ (w.alloc (boxI I v))).alloc (by simp) (boxI J u))) (holds_box w I v) ⟨by simp, by simp, by simp, by simp, trivial⟩
  have h2 := holds_box (w.alloc (boxI I v)) J u
  rw [show (w.alloc (boxI I v)).heap.size = w.heap.size + 1 by simp] at h2
  simp only [cellsI, Holds] at h1 h2
  obtain ⟨a0, a1, a2, a3, _⟩ := h1
  obtain ⟨b0, b1, b2, b3, _⟩ := h2
  exact ⟨a0, a1, a2, a3, b0, b1, b2, b3, trivial⟩
theorem lows_two {M N K : Nat} {I J : Ins} {v u : Value} (h1 : N < M) (h2 : K < M) : Lows M (cellsTwo N K I J v u) := ⟨h1, h1, h1, h1, h2, h2, h2, h2, trivial⟩
set_option maxRecDepth 1000000 in
set_option maxHeartbeats 2000000 in
theorem isame_any {w : World} {v u : Value} {I J : Ins} (h : SRow w v I.l) (k : SRow w u J.l) :
    Calls Tryd.prog 17 #[insV I v, insV J u] w fun e w' => e = .returned (.bool (decide (I = J))) ∧ Below w.heap.size w w' := by
  have HA := Lib.hid h
  have HB := Lib.hid k
  obtain ⟨ad, cap, rfl, _, _⟩ := h.form
  obtain ⟨ad2, cap2, rfl, _, _⟩ := k.form
  have HD := Lib.hid (headEq_iff I J)
  clear h k
  have keq := equalHead I.p I.c I.r J.p J.c J.r
  have kg := guardHead
  unfold insV
  go_enter Tryd.func17, Tryd.ntmps17
  go_wp2_with fail
  change Code.wp _ _ _ _ ((w.alloc (boxI I (.slice ad I.l.length cap))).alloc (boxI J (.slice ad2 J.l.length cap2)))
  have HB1 := Lib.hid ((((Below.refl _ w).alloc (Nat.le_refl _) (boxI I (.slice ad I.l.length cap))).alloc (by simp) (boxI J (.slice ad2 J.l.length cap2))).drew)
  have HS0 := Lib.hid (show Holds (cellsTwo w.heap.size (w.heap.size + 1) I J (.slice ad I.l.length cap) (.slice ad2 J.l.length cap2)) ((w.alloc (boxI I (.slice ad I.l.length cap))).alloc (boxI J (.slice ad2 J.l.length cap2))).drew from holds_two w I J _ _)
  have hlt := Lib.hid (show Lows ((w.alloc (boxI I (.slice ad I.l.length cap))).alloc (boxI J (.slice ad2 J.l.length cap2))).drew.heap.size (cellsTwo w.heap.size (w.heap.size + 1) I J (.slice ad I.l.length cap) (.slice ad2 J.l.length cap2)) from lows_two (by simp [World.drew]; omega) (by simp [World.drew]))
  have HA1 := Lib.hid (HA.out.below HB1.out)
  have HB2 := Lib.hid (HB.out.below HB1.out)
  generalize (w.alloc (boxI I (.slice ad I.l.length cap))).alloc (boxI J (.slice ad2 J.l.length cap2)) = W at *
  have hNW : w.heap.size ≤ W.drew.heap.size := HB1.out.size
  refine wp_region_held_drew (S := Holds (cellsTwo w.heap.size (w.heap.size + 1) I J (.slice ad I.l.length cap) (.slice ad2 J.l.length cap2))) (by kernel_rfl) HS0.out (fun hSn => ?_)
  have Bc := Lib.hid (Below.refl W.drew.heap.size W.drew)
  unfold cellsTwo at *
  refine wpAnyH_take (i := 0) (oi := ?oz1) (v := ?vz1) ?iz1 (by kernel_rfl) (by kernel_rfl) (by kernel_rfl) ?qz1 (Or.inl ⟨?gz1, ?hz1⟩) (by assumption) ?rz1
  case iz1 => (simp only [List.getElem?_toArray, List.getElem?_cons_zero]; rfl)
  case qz1 => exact fun _ _ _ h => h
  case gz1 => rfl
  case hz1 => (intro w hSw; (simp only [Holds] at hSw); go_simp <;> with_reducible rfl)
  simp only [Act.put, List.setIfInBounds_toArray, List.set_cons_zero, List.set_cons_succ]
  refine wpAnyH_take (i := 2) (oi := ?oz2) (v := ?vz2) ?iz2 (by kernel_rfl) (by kernel_rfl) (by kernel_rfl) ?qz2 (Or.inl ⟨?gz2, ?hz2⟩) (by assumption) ?rz2
  case iz2 => (simp only [List.getElem?_toArray, List.getElem?_cons_zero, List.getElem?_cons_succ]; rfl)
  case qz2 => exact fun _ _ _ h => h
  case gz2 => rfl
  case hz2 => (intro w hSw; (simp only [Holds] at hSw); go_simp <;> with_reducible rfl)
  simp only [Act.put, List.setIfInBounds_toArray, List.set_cons_zero, List.set_cons_succ]
  refine wpAnyH_ready (rs := [1]) (by kernel_rfl) (by simp) ?_
  refine AllReadyH.cons (o := ?oz3) ?iz3 (fun K hK => ?kz3) AllReadyH.nil
  case iz3 => (simp only [List.getElem?_toArray, List.getElem?_cons_zero, List.getElem?_cons_succ]; rfl)
  go_simp
  refine (headOf_any I _ _).mono ?_
  rintro e w' ⟨rfl, hb⟩
  refine held_more hK HS0.out hlt (Bc.out.trans (hb.mono Bc.out.size)) (fun Bc hSn => ?_)
  clear hb hK
  refine wpAnyH_ready (rs := [3]) (by kernel_rfl) (by simp) ?_
  refine AllReadyH.cons (o := ?oz4) ?iz4 (fun K hK => ?kz4) AllReadyH.nil
  case iz4 => (simp only [List.getElem?_toArray, List.getElem?_cons_zero, List.getElem?_cons_succ]; rfl)
  go_simp
  refine (headOf_any J _ _).mono ?_
  rintro e w' ⟨rfl, hb⟩
  refine held_more hK HS0.out hlt (Bc.out.trans (hb.mono Bc.out.size)) (fun Bc hSn => ?_)
  clear hb hK
  by_cases hh : I.p = J.p ∧ I.c = J.c ∧ I.r = J.r
  · rw [decide_eq_true hh] at keq HD
    clear hh
    refine wpAnyH_take (i := 4) (oi := ?oz5) (v := ?vz5) ?iz5 (by kernel_rfl) (by kernel_rfl) (by kernel_rfl) ?qz5 (Or.inl ⟨?gz5, ?hz5⟩) (by assumption) ?rz5
    case iz5 => (simp only [List.getElem?_toArray, List.getElem?_cons_zero, List.getElem?_cons_succ]; rfl)
    case qz5 => exact fun _ _ _ h => h
    case gz5 => rfl
    case hz5 => (intro w hSw; (simp only [Holds] at hSw); go_simp <;> with_reducible rfl)
    simp only [Act.put, List.setIfInBounds_toArray, List.set_cons_zero, List.set_cons_succ]
    refine wpAnyH_take (i := 5) (oi := ?oz6) (v := ?vz6) ?iz6 (by kernel_rfl) (by kernel_rfl) (by kernel_rfl) ?qz6 (Or.inl ⟨?gz6, ?hz6⟩) (by assumption) ?rz6
    case iz6 => (simp only [List.getElem?_toArray, List.getElem?_cons_zero, List.getElem?_cons_succ]; rfl)
    case qz6 => exact fun _ _ _ h => h
    case gz6 => rfl
    case hz6 => (intro w hSw; (simp only [Holds] at hSw); go_simp <;> with_reducible rfl)
    simp only [Act.put, List.setIfInBounds_toArray, List.set_cons_zero, List.set_cons_succ]
    refine wpAnyH_take (i := 6) (oi := ?oz7) (v := ?vz7) ?iz7 (by kernel_rfl) (by kernel_rfl) (by kernel_rfl) ?qz7 (Or.inl ⟨?gz7, ?hz7⟩) (by assumption) ?rz7
    case iz7 => (simp only [List.getElem?_toArray, List.getElem?_cons_zero, List.getElem?_cons_succ]; rfl)
    case qz7 => exact fun _ _ _ h => h
    case gz7 => rfl
    case hz7 => (intro w hSw; (simp only [Holds] at hSw); go_simp <;> with_reducible rfl)
    simp only [Act.put, List.setIfInBounds_toArray, List.set_cons_zero, List.set_cons_succ]
    refine wpAnyH_take (i := 7) (oi := ?oz8) (v := ?vz8) ?iz8 (by kernel_rfl) (by kernel_rfl) (by kernel_rfl) ?qz8 (Or.inl ⟨?gz8, ?hz8⟩) (by assumption) ?rz8
    case iz8 => (simp only [List.getElem?_toArray, List.getElem?_cons_zero, List.getElem?_cons_succ]; rfl)
    case qz8 => exact fun _ _ _ h => h
    case gz8 => rfl
    case hz8 => (intro w hSw; (simp only [Holds] at hSw); go_simp <;> with_reducible rfl)
    simp only [Act.put, List.setIfInBounds_toArray, List.set_cons_zero, List.set_cons_succ]
    refine wpAnyH_take (i := 8) (oi := ?oz9) (v := ?vz9) ?iz9 (by kernel_rfl) (by kernel_rfl) (by kernel_rfl) ?qz9 (Or.inl ⟨?gz9, ?hz9⟩) (by assumption) ?rz9
    case iz9 => (simp only [List.getElem?_toArray, List.getElem?_cons_zero, List.getElem?_cons_succ]; rfl)
    case qz9 => exact fun _ _ _ h => h
    case gz9 => rfl
    case hz9 => (intro w hSw; (simp only [Holds] at hSw); go_simp <;> with_reducible rfl)
    simp only [Act.put, List.setIfInBounds_toArray, List.set_cons_zero, List.set_cons_succ]
    refine wpAnyH_take (i := 9) (oi := ?oz10) (v := ?vz10) ?iz10 (by kernel_rfl) (by kernel_rfl) (by kernel_rfl) ?qz10 (Or.inl ⟨?gz10, ?hz10⟩) (by assumption) ?rz10
    case iz10 => (simp only [List.getElem?_toArray, List.getElem?_cons_zero, List.getElem?_cons_succ]; rfl)
    case qz10 => exact fun _ _ _ h => h
    case gz10 => rfl
    case hz10 => (intro w hSw; (simp only [Holds] at hSw); go_simp <;> with_reducible rfl)
    simp only [Act.put, List.setIfInBounds_toArray, List.set_cons_zero, List.set_cons_succ]
    refine wpAnyH_ready (rs := [10]) (by kernel_rfl) (by simp) ?_
    refine AllReadyH.cons (o := ?oz11) ?iz11 (fun K hK => ?kz11) AllReadyH.nil
    case iz11 => (simp only [List.getElem?_toArray, List.getElem?_cons_zero, List.getElem?_cons_succ]; rfl)
    go_simp
    refine (equal_any (HA1.out.below Bc.out) (HB2.out.below Bc.out)).mono ?_
    rintro e w' ⟨rfl, hb⟩
    refine held_more hK HS0.out hlt (Bc.out.trans (hb.mono Bc.out.size)) (fun Bc hSn => ?_)
    clear hb hK
    have HD2 := Lib.hid (show decide (I = J) = decide (I.l = J.l) by rw [HD.out]; rfl)
    generalize decide (I.l = J.l) = b at *
    refine wpAnyH_take (i := 11) (oi := ?oz12) (v := ?vz12) ?iz12 (by kernel_rfl) (by kernel_rfl) (by kernel_rfl) ?qz12 (Or.inl ⟨?gz12, ?hz12⟩) (by assumption) ?rz12
    case iz12 => (simp only [List.getElem?_toArray, List.getElem?_cons_zero, List.getElem?_cons_succ]; rfl)
    case qz12 => exact fun _ _ _ h => h
    case gz12 => rfl
    case hz12 => (intro w hSw; (simp only [Holds] at hSw); go_simp <;> with_reducible rfl)
    simp only [Act.put, List.setIfInBounds_toArray, List.set_cons_zero, List.set_cons_succ]
    refine wpAnyH_take (i := 12) (oi := ?oz13) (v := ?vz13) ?iz13 (by kernel_rfl) (by kernel_rfl) (by kernel_rfl) ?qz13 (Or.inl ⟨?gz13, ?hz13⟩) (by assumption) ?rz13
    case iz13 => (simp only [List.getElem?_toArray, List.getElem?_cons_zero, List.getElem?_cons_succ]; rfl)
    case qz13 => exact fun _ _ _ h => h
    case gz13 => rfl
    case hz13 => (intro w hSw; (simp only [Holds] at hSw); go_simp <;> with_reducible rfl)
    simp only [Act.put, List.setIfInBounds_toArray, List.set_cons_zero, List.set_cons_succ]
    refine wpAnyH_done (by kernel_rfl) ?_ _
    go_wp2
    go_ret
    exact ⟨ret_bool HD2.out.symm, HB1.out.trans (Bc.out.mono hNW)⟩
  · rw [decide_eq_false hh] at keq HD
    clear hh
    have HD2 := Lib.hid (show decide (I = J) = false by rw [HD.out]; rfl)
    refine wpAnyH_take (i := 4) (oi := ?oz14) (v := ?vz14) ?iz14 (by kernel_rfl) (by kernel_rfl) (by kernel_rfl) ?qz14 (Or.inl ⟨?gz14, ?hz14⟩) (by assumption) ?rz14
    case iz14 => (simp only [List.getElem?_toArray, List.getElem?_cons_zero, List.getElem?_cons_succ]; rfl)
    case qz14 => exact fun _ _ _ h => h
    case gz14 => rfl
    case hz14 => (intro w hSw; (simp only [Holds] at hSw); go_simp <;> with_reducible rfl)
    simp only [Act.put, List.setIfInBounds_toArray, List.set_cons_zero, List.set_cons_succ]
    refine wpAnyH_take (i := 5) (oi := ?oz15) (v := ?vz15) ?iz15 (by kernel_rfl) (by kernel_rfl) (by kernel_rfl) ?qz15 (Or.inl ⟨?gz15, ?hz15⟩) (by assumption) ?rz15
    case iz15 => (simp only [List.getElem?_toArray, List.getElem?_cons_zero, List.getElem?_cons_succ]; rfl)
    case qz15 => exact fun _ _ _ h => h
    case gz15 => rfl
    case hz15 => (intro w hSw; (simp only [Holds] at hSw); go_simp <;> with_reducible rfl)
    simp only [Act.put, List.setIfInBounds_toArray, List.set_cons_zero, List.set_cons_succ]
    refine wpAnyH_take (i := 6) (oi := ?oz16) (v := undef) ?iz16 (by kernel_rfl) (by kernel_rfl) (by kernel_rfl) ?qz16 (Or.inr ⟨?gz16, rfl⟩) (by assumption) ?rz16
    case iz16 => (simp only [List.getElem?_toArray, List.getElem?_cons_zero, List.getElem?_cons_succ]; rfl)
    case qz16 => exact fun _ _ _ h => h
    case gz16 => rfl
    simp only [Act.put, List.setIfInBounds_toArray, List.set_cons_zero, List.set_cons_succ]
    refine wpAnyH_take (i := 7) (oi := ?oz17) (v := undef) ?iz17 (by kernel_rfl) (by kernel_rfl) (by kernel_rfl) ?qz17 (Or.inr ⟨?gz17, rfl⟩) (by assumption) ?rz17
    case iz17 => (simp only [List.getElem?_toArray, List.getElem?_cons_zero, List.getElem?_cons_succ]; rfl)
    case qz17 => exact fun _ _ _ h => h
    case gz17 => rfl
    simp only [Act.put, List.setIfInBounds_toArray, List.set_cons_zero, List.set_cons_succ]
    refine wpAnyH_take (i := 8) (oi := ?oz18) (v := undef) ?iz18 (by kernel_rfl) (by kernel_rfl) (by kernel_rfl) ?qz18 (Or.inr ⟨?gz18, rfl⟩) (by assumption) ?rz18
    case iz18 => (simp only [List.getElem?_toArray, List.getElem?_cons_zero, List.getElem?_cons_succ]; rfl)
    case qz18 => exact fun _ _ _ h => h
    case gz18 => rfl
    simp only [Act.put, List.setIfInBounds_toArray, List.set_cons_zero, List.set_cons_succ]
    refine wpAnyH_take (i := 9) (oi := ?oz19) (v := undef) ?iz19 (by kernel_rfl) (by kernel_rfl) (by kernel_rfl) ?qz19 (Or.inr ⟨?gz19, rfl⟩) (by assumption) ?rz19
    case iz19 => (simp only [List.getElem?_toArray, List.getElem?_cons_zero, List.getElem?_cons_succ]; rfl)
    case qz19 => exact fun _ _ _ h => h
    case gz19 => rfl
    simp only [Act.put, List.setIfInBounds_toArray, List.set_cons_zero, List.set_cons_succ]
    refine wpAnyH_take (i := 10) (oi := ?oz20) (v := undef) ?iz20 (by kernel_rfl) (by kernel_rfl) (by kernel_rfl) ?qz20 (Or.inr ⟨?gz20, rfl⟩) (by assumption) ?rz20
    case iz20 => (simp only [List.getElem?_toArray, List.getElem?_cons_zero, List.getElem?_cons_succ]; rfl)
    case qz20 => exact fun _ _ _ h => h
    case gz20 => rfl
    simp only [Act.put, List.setIfInBounds_toArray, List.set_cons_zero, List.set_cons_succ]
    refine wpAnyH_take (i := 11) (oi := ?oz21) (v := ?vz21) ?iz21 (by kernel_rfl) (by kernel_rfl) (by kernel_rfl) ?qz21 (Or.inl ⟨?gz21, ?hz21⟩) (by assumption) ?rz21
    case iz21 => (simp only [List.getElem?_toArray, List.getElem?_cons_zero, List.getElem?_cons_succ]; rfl)
    case qz21 => exact fun _ _ _ h => h
    case gz21 => rfl
    case hz21 => (intro w hSw; (simp only [Holds] at hSw); go_simp <;> with_reducible rfl)
    simp only [Act.put, List.setIfInBounds_toArray, List.set_cons_zero, List.set_cons_succ]
    refine wpAnyH_take (i := 12) (oi := ?oz22) (v := ?vz22) ?iz22 (by kernel_rfl) (by kernel_rfl) (by kernel_rfl) ?qz22 (Or.inl ⟨?gz22, ?hz22⟩) (by assumption) ?rz22
    case iz22 => (simp only [List.getElem?_toArray, List.getElem?_cons_zero, List.getElem?_cons_succ]; rfl)
    case qz22 => exact fun _ _ _ h => h
    case gz22 => rfl
    case hz22 => (intro w hSw; (simp only [Holds] at hSw); go_simp <;> with_reducible rfl)
    simp only [Act.put, List.setIfInBounds_toArray, List.set_cons_zero, List.set_cons_succ]
    refine wpAnyH_done (by kernel_rfl) ?_ _
    go_wp2
    go_ret
    exact ⟨ret_bool HD2.out.symm, HB1.out.trans (Bc.out.mono hNW)⟩
end Go.Proofs.YtkhlmgkapmofiaaDoor
