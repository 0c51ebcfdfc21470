/- What a car's visit leaves: the walk. -/
import Derived.Test.YtolaiccgbngomaaTVisit
namespace Go.Proofs.Ytolaiccgbngomaa
open Go.ChangeShapes Go.WideShapes Go.ChangeAt Go.RowKit

set_option maxRecDepth 1000000 in
set_option maxHeartbeats 4000000 in
theorem visit_any {w0 w : World} {b : Nat} {I : Ins} {sv : Value} {a k : Nat} {n g h : Int} {S : List Bool} {tv lv : Value} {T : List Tm} {Q : List Int} (hc : CarB w b I sv a n g h S tv lv) (hb0 : w0.heap.size ≤ b) (hT : OwnT w w0.heap.size tv T) (hQ : OwnI w w0.heap.size lv Q)
    (hbel : Below w0.heap.size w0 w) (hr : SRow w0 sv I.l) (ha : a < I.l.length) (hk : k < I.l.length) (hk33 : k < 33) (hn : 0 ≤ n ∧ n ≤ 2000000) (hs : stopOk (stp I k) = true) (hg : 0 ≤ g ∧ g ≤ 1000000000) (hh : -1000000 ≤ h + (stp I k).d ∧ h + (stp I k).d ≤ 1000000) (hTl : T.length ≤ 1000) (hQl : Q.length ≤ 1000) :
    Calls Try.prog 39 #[.pointer (some ⟨b, 0, none⟩), .int .i64 k] w fun e w' => e = .returned (.tuple #[]) ∧ ∃ tv' lv', CarB w' b I sv k (tmN n (stp I a) (stp I k)).leave (g + farF (stp I a) (stp I k)) (h + (stp I k).d) (S.set k true) tv' lv' ∧
      OwnT w' w0.heap.size tv' (T ++ [tmN n (stp I a) (stp I k)]) ∧ OwnI w' w0.heap.size lv' (Q ++ [h + (stp I k).d]) ∧ Below w0.heap.size w0 w' := by
  have HC := Lib.hid hc
  have HR := Lib.hid hr
  have HQ := Lib.hid hQ
  have HTm := Lib.hid hT
  have HBL := Lib.hid hbel
  obtain ⟨t, ht⟩ : ∃ t, tmN n (stp I a) (stp I k) = t := ⟨_, rfl⟩
  have HT := Lib.hid ht
  have hfb := farF_bd (stp I a) (stp I k)
  obtain ⟨d, hd⟩ : ∃ d, farF (stp I a) (stp I k) = d := ⟨_, rfl⟩
  have HD := Lib.hid hd
  rw [hd] at hfb
  have e1 : IntKind.i64.wrap (g + d) = g + d := IntWalk.i64_in _ (by omega)
  have e2 : IntKind.i64.wrap (h + (stp I k).d) = h + (stp I k).d := IntWalk.i64_in _ (by omega)
  clear hc hr hQ hT hbel ht hd hfb hg hh
  go_enter Try.func39, Try.ntmps39
  go_wp2_with fail
  refine (timeAt_any HC.out (HR.out.below HBL.out) ha hk hn hs).mono ?_
  rw [HT.out]
  rintro e w1 ⟨rfl, hb⟩
  have HV1 := Lib.hid (show VJ w0 b w1.heap.size I sv a n g h S tv lv tv lv T Q t (w1.alloc (.cells #[.int .i64 t.come, .int .i64 t.begn, .int .i64 t.leave] 40)) from by
    have hlt := HC.out.lt
    have hsz := hb.size
    have h2 : w.ownsRow w0.heap.size 40 3 tv T.length (flatT T) := HTm.out
    have hall := hb.trans (((Below.refl _ w1).alloc (Nat.le_refl _) (.cells #[.int .i64 t.come, .int .i64 t.begn, .int .i64 t.leave] 40)).mono hsz)
    exact ⟨⟨hb0, by have := HBL.out.size; omega, by omega⟩, HC.out.later hall, heap_alloc_new w1 _, HTm.out.below hall, HQ.out.below hall, fun e => by have := (World.ownsRow.lt h2 _ e).2; omega, HBL.out.trans (hall.mono HBL.out.size)⟩)
  unfold timeV
  go_wp2_with fail
  clear hb
  generalize w1.alloc (.cells #[.int .i64 t.come, .int .i64 t.begn, .int .i64 t.leave] 40) = W at *
  generalize w1.heap.size = z at *
  go_cut [] from 5 (fun wx => VJ w0 b z I sv a n (g + d) h S tv lv tv lv T Q t wx)
  case first =>
    have HV2 := Lib.hid (HV1.out.later ((Below.refl _ W).drew))
    have hSn : Holds [(⟨b, 6, none⟩, .int .i64 g)] W.drew := ⟨HV2.out.car.c6, trivial⟩
    refine wp_until (S := Holds [(⟨b, 6, none⟩, .int .i64 g)]) (m := 10) (by kernel_rfl) ?_
    refine until_take (i := 0) (oi := ?oz1) (v := ?vz1) ?iz1 (by kernel_rfl) (by kernel_rfl) (by kernel_rfl) (by kernel_rfl) (by kernel_rfl) ?qz1 (Or.inl ⟨?gz1, ?hz1⟩) (by assumption) ?rz1
    case iz1 => (simp only [List.getElem?_toArray, List.getElem?_cons_zero]; rfl)
    case qz1 => exact fun _ _ _ h => h
    case gz1 => rfl
    case hz1 => (intro w hSw; (simp only [Holds] at hSw); go_simp <;> with_reducible rfl)
    simp only [Act.put, List.setIfInBounds_toArray, List.set_cons_zero, List.set_cons_succ]
    refine until_take (i := 1) (oi := ?oz2) (v := ?vz2) ?iz2 (by kernel_rfl) (by kernel_rfl) (by kernel_rfl) (by kernel_rfl) (by kernel_rfl) ?qz2 (Or.inl ⟨?gz2, ?hz2⟩) (by assumption) ?rz2
    case iz2 => (simp only [List.getElem?_toArray, List.getElem?_cons_zero, List.getElem?_cons_succ]; rfl)
    case qz2 => exact fun _ _ _ h => h
    case gz2 => rfl
    case hz2 => (intro w hSw; (simp only [Holds] at hSw); go_simp <;> with_reducible rfl)
    simp only [Act.put, List.setIfInBounds_toArray, List.set_cons_zero, List.set_cons_succ]
    refine until_take (i := 2) (oi := ?oz3) (v := ?vz3) ?iz3 (by kernel_rfl) (by kernel_rfl) (by kernel_rfl) (by kernel_rfl) (by kernel_rfl) ?qz3 (Or.inl ⟨?gz3, ?hz3⟩) (by assumption) ?rz3
    case iz3 => (simp only [List.getElem?_toArray, List.getElem?_cons_zero, List.getElem?_cons_succ]; rfl)
    case qz3 => exact fun _ _ _ h => h
    case gz3 => rfl
    case hz3 => (intro w hSw; (simp only [Holds] at hSw); go_simp <;> with_reducible rfl)
    simp only [Act.put, List.setIfInBounds_toArray, List.set_cons_zero, List.set_cons_succ]
    refine until_take (i := 3) (oi := ?oz4) (v := ?vz4) ?iz4 (by kernel_rfl) (by kernel_rfl) (by kernel_rfl) (by kernel_rfl) (by kernel_rfl) ?qz4 (Or.inl ⟨?gz4, ?hz4⟩) (by assumption) ?rz4
    case iz4 => (simp only [List.getElem?_toArray, List.getElem?_cons_zero, List.getElem?_cons_succ]; rfl)
    case qz4 => exact fun _ _ _ h => h
    case gz4 => rfl
    case hz4 => (intro w hSw; (simp only [Holds] at hSw); go_simp <;> with_reducible rfl)
    simp only [Act.put, List.setIfInBounds_toArray, List.set_cons_zero, List.set_cons_succ]
    refine until_take (i := 4) (oi := ?oz5) (v := ?vz5) ?iz5 (by kernel_rfl) (by kernel_rfl) (by kernel_rfl) (by kernel_rfl) (by kernel_rfl) ?qz5 (Or.inl ⟨?gz5, ?hz5⟩) (by assumption) ?rz5
    case iz5 => (simp only [List.getElem?_toArray, List.getElem?_cons_zero, List.getElem?_cons_succ]; rfl)
    case qz5 => exact fun _ _ _ h => h
    case gz5 => rfl
    case hz5 => (intro w hSw; (simp only [Holds] at hSw); go_simp <;> with_reducible rfl)
    simp only [Act.put, List.setIfInBounds_toArray, List.set_cons_zero, List.set_cons_succ]
    refine until_take (i := 5) (oi := ?oz6) (v := ?vz6) ?iz6 (by kernel_rfl) (by kernel_rfl) (by kernel_rfl) (by kernel_rfl) (by kernel_rfl) ?qz6 (Or.inl ⟨?gz6, ?hz6⟩) (by assumption) ?rz6
    case iz6 => (simp only [List.getElem?_toArray, List.getElem?_cons_zero, List.getElem?_cons_succ]; rfl)
    case qz6 => exact fun _ _ _ h => h
    case gz6 => rfl
    case hz6 => (intro w hSw; (simp only [Holds] at hSw); go_simp <;> with_reducible rfl)
    simp only [Act.put, List.setIfInBounds_toArray, List.set_cons_zero, List.set_cons_succ]
    refine until_ready (rs := [6]) (by kernel_rfl) (by simp) ?_
    refine (NextU.cons (o := ?oz7) ?iz7 (fun K hK => ?kz7) NextU.nil)
    case iz7 => (simp only [List.getElem?_toArray, List.getElem?_cons_zero, List.getElem?_cons_succ]; rfl)
    go_simp
    refine (farTo_any HV2.out.car (HR.out.below HV2.out.bel) ha hk).mono ?_
    rw [HD.out]
    rintro e w2 ⟨rfl, hb⟩
    have HV3 := Lib.hid (HV2.out.later hb)
    clear hb hSn
    refine hK.out _ _ ⟨HV3.out.car.c6, trivial⟩ (fun hSn => ?_)
    clear hK
    refine until_take (i := 7) (oi := ?oz8) (v := ?vz8) ?iz8 (by kernel_rfl) (by kernel_rfl) (by kernel_rfl) (by kernel_rfl) (by kernel_rfl) ?qz8 (Or.inl ⟨?gz8, ?hz8⟩) (by assumption) ?rz8
    case iz8 => (simp only [List.getElem?_toArray, List.getElem?_cons_zero, List.getElem?_cons_succ]; rfl)
    case qz8 => exact fun _ _ _ h => h
    case gz8 => rfl
    case hz8 => (intro w hSw; (simp only [Holds] at hSw); go_simp <;> with_reducible rfl)
    simp only [Act.put, List.setIfInBounds_toArray, List.set_cons_zero, List.set_cons_succ]
    refine anyhow_take (i := 8) (oi := ?oz9) (v := ?vz9) ?iz9 (by kernel_rfl) (by kernel_rfl) (by kernel_rfl) (by decide) ?qz9 (Or.inl ⟨?gz9, ?hz9⟩) (Or.inr (by assumption)) ?rz9
    case iz9 => (simp only [List.getElem?_toArray, List.getElem?_cons_zero, List.getElem?_cons_succ]; rfl)
    case qz9 => exact fun _ _ _ h => h
    case gz9 => rfl
    case hz9 => (intro w hSw; clear hSw; go_simp <;> with_reducible rfl)
    simp only [Act.put, List.setIfInBounds_toArray, List.set_cons_zero, List.set_cons_succ]
    refine until_take (i := 9) (oi := ?oz10) (v := ?vz10) ?iz10 (by kernel_rfl) (by kernel_rfl) (by kernel_rfl) (by kernel_rfl) (by kernel_rfl) ?qz10 (Or.inl ⟨?gz10, ?hz10⟩) (by assumption) ?rz10
    case iz10 => (simp only [List.getElem?_toArray, List.getElem?_cons_zero, List.getElem?_cons_succ]; rfl)
    case qz10 => exact fun _ _ _ h => h
    case gz10 => rfl
    case hz10 => (intro w hSw; (simp only [Holds] at hSw); go_simp <;> with_reducible rfl)
    simp only [Act.put, List.setIfInBounds_toArray, List.set_cons_zero, List.set_cons_succ]
    have q6 := HV3.out.car.c6
    have f6 := HV3.out.car.free 6
    refine until_ready (rs := [10]) (by kernel_rfl) (by simp) ?_
    refine (NextU.late (o := ?oz11) ?iz11 (by first | exact Or.inl rfl | exact Or.inr (by kernel_rfl)) (fun K hK => ?kz11) NextU.nil)
    case iz11 => (simp only [List.getElem?_toArray, List.getElem?_cons_zero, List.getElem?_cons_succ]; rfl)
    go_simp
    refine hK.out _ _ ?_
    refine until_done (by kernel_rfl) ?_ _
    go_wp2_with fail
    go_meet
    case rel => exact HV3.out.put 6 _ (HV3.out.car.setGone _)
  case rest =>
    clear HV1
    have HV1 := Lib.hid hcut
    clear hcut
    go_wp2_with fail
    go_cut [] from 5 (fun wx => VJ w0 b z I sv a n (g + d) (h + (stp I k).d) S tv lv tv lv T Q t wx)
    case first =>
      have HV2 := Lib.hid (HV1.out.later ((Below.refl _ wc).drew))
      have HR2 := Lib.hid (HR.out.below HV2.out.bel)
      obtain ⟨ad, cap, rfl, _⟩ := HR.out.form
      obtain ⟨tb, off, rfl, hkt, hlt0⟩ := srow_at HR2.out k hk
      have HKT := Lib.hid (show At wc.drew tb (off + k * 6) (stp I k) from hkt)
      have hki : (k : Int) < (I.l.length : Int) := by omega
      clear hkt
      generalize stp I k = s at *
      have hSn : Holds ([(⟨b, 3, none⟩, .slice (some ⟨tb, off, none⟩) I.l.length cap), (⟨b, 7, none⟩, .int .i64 h)] ++ cellsF tb (off + k * 6) s) wc.drew := Holds.app.2 ⟨⟨HV2.out.car.c3, HV2.out.car.c7, trivial⟩, holds_at HKT.out⟩
      refine wp_until (S := Holds ([(⟨b, 3, none⟩, .slice (some ⟨tb, off, none⟩) I.l.length cap), (⟨b, 7, none⟩, .int .i64 h)] ++ cellsF tb (off + k * 6) s)) (m := 16) (by kernel_rfl) ?_
      simp only [cellsF, List.cons_append, List.nil_append] at *
      refine until_take (i := 0) (oi := ?oz12) (v := ?vz12) ?iz12 (by kernel_rfl) (by kernel_rfl) (by kernel_rfl) (by kernel_rfl) (by kernel_rfl) ?qz12 (Or.inl ⟨?gz12, ?hz12⟩) (by assumption) ?rz12
      case iz12 => (simp only [List.getElem?_toArray, List.getElem?_cons_zero]; rfl)
      case qz12 => exact fun _ _ _ h => h
      case gz12 => rfl
      case hz12 => (intro w hSw; (simp only [Holds] at hSw); go_simp <;> with_reducible rfl)
      simp only [Act.put, List.setIfInBounds_toArray, List.set_cons_zero, List.set_cons_succ]
      refine until_take (i := 1) (oi := ?oz13) (v := ?vz13) ?iz13 (by kernel_rfl) (by kernel_rfl) (by kernel_rfl) (by kernel_rfl) (by kernel_rfl) ?qz13 (Or.inl ⟨?gz13, ?hz13⟩) (by assumption) ?rz13
      case iz13 => (simp only [List.getElem?_toArray, List.getElem?_cons_zero, List.getElem?_cons_succ]; rfl)
      case qz13 => exact fun _ _ _ h => h
      case gz13 => rfl
      case hz13 => (intro w hSw; (simp only [Holds] at hSw); go_simp <;> with_reducible rfl)
      simp only [Act.put, List.setIfInBounds_toArray, List.set_cons_zero, List.set_cons_succ]
      refine until_take (i := 2) (oi := ?oz14) (v := ?vz14) ?iz14 (by kernel_rfl) (by kernel_rfl) (by kernel_rfl) (by kernel_rfl) (by kernel_rfl) ?qz14 (Or.inl ⟨?gz14, ?hz14⟩) (by assumption) ?rz14
      case iz14 => (simp only [List.getElem?_toArray, List.getElem?_cons_zero, List.getElem?_cons_succ]; rfl)
      case qz14 => exact fun _ _ _ h => h
      case gz14 => rfl
      case hz14 => (intro w hSw; (simp only [Holds] at hSw); go_simp <;> with_reducible rfl)
      simp only [Act.put, List.setIfInBounds_toArray, List.set_cons_zero, List.set_cons_succ]
      refine until_take (i := 3) (oi := ?oz15) (v := ?vz15) ?iz15 (by kernel_rfl) (by kernel_rfl) (by kernel_rfl) (by kernel_rfl) (by kernel_rfl) ?qz15 (Or.inl ⟨?gz15, ?hz15⟩) (by assumption) ?rz15
      case iz15 => (simp only [List.getElem?_toArray, List.getElem?_cons_zero, List.getElem?_cons_succ]; rfl)
      case qz15 => exact fun _ _ _ h => h
      case gz15 => rfl
      case hz15 => (intro w hSw; (simp only [Holds] at hSw); go_simp <;> with_reducible rfl)
      simp only [Act.put, List.setIfInBounds_toArray, List.set_cons_zero, List.set_cons_succ]
      refine until_take (i := 4) (oi := ?oz16) (v := ?vz16) ?iz16 (by kernel_rfl) (by kernel_rfl) (by kernel_rfl) (by kernel_rfl) (by kernel_rfl) ?qz16 (Or.inl ⟨?gz16, ?hz16⟩) (by assumption) ?rz16
      case iz16 => (simp only [List.getElem?_toArray, List.getElem?_cons_zero, List.getElem?_cons_succ]; rfl)
      case qz16 => exact fun _ _ _ h => h
      case gz16 => rfl
      case hz16 => (intro w hSw; (simp only [Holds] at hSw); go_simp <;> with_reducible rfl)
      simp only [Act.put, List.setIfInBounds_toArray, List.set_cons_zero, List.set_cons_succ]
      refine until_take (i := 5) (oi := ?oz17) (v := ?vz17) ?iz17 (by kernel_rfl) (by kernel_rfl) (by kernel_rfl) (by kernel_rfl) (by kernel_rfl) ?qz17 (Or.inl ⟨?gz17, ?hz17⟩) (by assumption) ?rz17
      case iz17 => (simp only [List.getElem?_toArray, List.getElem?_cons_zero, List.getElem?_cons_succ]; rfl)
      case qz17 => exact fun _ _ _ h => h
      case gz17 => rfl
      case hz17 => (intro w hSw; (simp only [Holds] at hSw); go_simp <;> with_reducible rfl)
      simp only [Act.put, List.setIfInBounds_toArray, List.set_cons_zero, List.set_cons_succ]
      refine until_take (i := 6) (oi := ?oz18) (v := ?vz18) ?iz18 (by kernel_rfl) (by kernel_rfl) (by kernel_rfl) (by kernel_rfl) (by kernel_rfl) ?qz18 (Or.inl ⟨?gz18, ?hz18⟩) (by assumption) ?rz18
      case iz18 => (simp only [List.getElem?_toArray, List.getElem?_cons_zero, List.getElem?_cons_succ]; rfl)
      case qz18 => exact fun _ _ _ h => h
      case gz18 => rfl
      case hz18 => (intro w hSw; (simp only [Holds] at hSw); go_simp <;> with_reducible rfl)
      simp only [Act.put, List.setIfInBounds_toArray, List.set_cons_zero, List.set_cons_succ]
      refine until_take (i := 7) (oi := ?oz19) (v := ?vz19) ?iz19 (by kernel_rfl) (by kernel_rfl) (by kernel_rfl) (by kernel_rfl) (by kernel_rfl) ?qz19 (Or.inl ⟨?gz19, ?hz19⟩) (by assumption) ?rz19
      case iz19 => (simp only [List.getElem?_toArray, List.getElem?_cons_zero, List.getElem?_cons_succ]; rfl)
      case qz19 => exact fun _ _ _ h => h
      case gz19 => rfl
      case hz19 => (intro w hSw; (simp only [Holds] at hSw); go_simp <;> with_reducible rfl)
      simp only [Act.put, List.setIfInBounds_toArray, List.set_cons_zero, List.set_cons_succ]
      refine until_take (i := 8) (oi := ?oz20) (v := ?vz20) ?iz20 (by kernel_rfl) (by kernel_rfl) (by kernel_rfl) (by kernel_rfl) (by kernel_rfl) ?qz20 (Or.inl ⟨?gz20, ?hz20⟩) (by assumption) ?rz20
      case iz20 => (simp only [List.getElem?_toArray, List.getElem?_cons_zero, List.getElem?_cons_succ]; rfl)
      case qz20 => exact fun _ _ _ h => h
      case gz20 => rfl
      case hz20 => (intro w hSw; (simp only [Holds] at hSw); go_simp <;> with_reducible rfl)
      simp only [Act.put, List.setIfInBounds_toArray, List.set_cons_zero, List.set_cons_succ]
      refine until_take (i := 9) (oi := ?oz21) (v := ?vz21) ?iz21 (by kernel_rfl) (by kernel_rfl) (by kernel_rfl) (by kernel_rfl) (by kernel_rfl) ?qz21 (Or.inl ⟨?gz21, ?hz21⟩) (by assumption) ?rz21
      case iz21 => (simp only [List.getElem?_toArray, List.getElem?_cons_zero, List.getElem?_cons_succ]; rfl)
      case qz21 => exact fun _ _ _ h => h
      case gz21 => rfl
      case hz21 => (intro w hSw; (simp only [Holds] at hSw); go_simp <;> with_reducible rfl)
      simp only [Act.put, List.setIfInBounds_toArray, List.set_cons_zero, List.set_cons_succ]
      refine until_take (i := 10) (oi := ?oz22) (v := ?vz22) ?iz22 (by kernel_rfl) (by kernel_rfl) (by kernel_rfl) (by kernel_rfl) (by kernel_rfl) ?qz22 (Or.inl ⟨?gz22, ?hz22⟩) (by assumption) ?rz22
      case iz22 => (simp only [List.getElem?_toArray, List.getElem?_cons_zero, List.getElem?_cons_succ]; rfl)
      case qz22 => exact fun _ _ _ h => h
      case gz22 => rfl
      case hz22 => (intro w hSw; (simp only [Holds] at hSw); go_simp <;> with_reducible rfl)
      simp only [Act.put, List.setIfInBounds_toArray, List.set_cons_zero, List.set_cons_succ]
      refine until_take (i := 11) (oi := ?oz23) (v := ?vz23) ?iz23 (by kernel_rfl) (by kernel_rfl) (by kernel_rfl) (by kernel_rfl) (by kernel_rfl) ?qz23 (Or.inl ⟨?gz23, ?hz23⟩) (by assumption) ?rz23
      case iz23 => (simp only [List.getElem?_toArray, List.getElem?_cons_zero, List.getElem?_cons_succ]; rfl)
      case qz23 => exact fun _ _ _ h => h
      case gz23 => rfl
      case hz23 => (intro w hSw; (simp only [Holds] at hSw); go_simp <;> with_reducible rfl)
      simp only [Act.put, List.setIfInBounds_toArray, List.set_cons_zero, List.set_cons_succ]
      refine until_take (i := 12) (oi := ?oz24) (v := ?vz24) ?iz24 (by kernel_rfl) (by kernel_rfl) (by kernel_rfl) (by kernel_rfl) (by kernel_rfl) ?qz24 (Or.inl ⟨?gz24, ?hz24⟩) (by assumption) ?rz24
      case iz24 => (simp only [List.getElem?_toArray, List.getElem?_cons_zero, List.getElem?_cons_succ]; rfl)
      case qz24 => exact fun _ _ _ h => h
      case gz24 => rfl
      case hz24 => (intro w hSw; (simp only [Holds] at hSw); go_simp <;> with_reducible rfl)
      simp only [Act.put, List.setIfInBounds_toArray, List.set_cons_zero, List.set_cons_succ]
      refine until_take (i := 13) (oi := ?oz25) (v := ?vz25) ?iz25 (by kernel_rfl) (by kernel_rfl) (by kernel_rfl) (by kernel_rfl) (by kernel_rfl) ?qz25 (Or.inl ⟨?gz25, ?hz25⟩) (by assumption) ?rz25
      case iz25 => (simp only [List.getElem?_toArray, List.getElem?_cons_zero, List.getElem?_cons_succ]; rfl)
      case qz25 => exact fun _ _ _ h => h
      case gz25 => rfl
      case hz25 => (intro w hSw; (simp only [Holds] at hSw); go_simp <;> with_reducible rfl)
      simp only [Act.put, List.setIfInBounds_toArray, List.set_cons_zero, List.set_cons_succ]
      refine anyhow_take (i := 14) (oi := ?oz26) (v := ?vz26) ?iz26 (by kernel_rfl) (by kernel_rfl) (by kernel_rfl) (by decide) ?qz26 (Or.inl ⟨?gz26, ?hz26⟩) (Or.inr (by assumption)) ?rz26
      case iz26 => (simp only [List.getElem?_toArray, List.getElem?_cons_zero, List.getElem?_cons_succ]; rfl)
      case qz26 => exact fun _ _ _ h => h
      case gz26 => rfl
      case hz26 => (intro w hSw; clear hSw; go_simp <;> with_reducible rfl)
      simp only [Act.put, List.setIfInBounds_toArray, List.set_cons_zero, List.set_cons_succ]
      refine until_take (i := 15) (oi := ?oz27) (v := ?vz27) ?iz27 (by kernel_rfl) (by kernel_rfl) (by kernel_rfl) (by kernel_rfl) (by kernel_rfl) ?qz27 (Or.inl ⟨?gz27, ?hz27⟩) (by assumption) ?rz27
      case iz27 => (simp only [List.getElem?_toArray, List.getElem?_cons_zero, List.getElem?_cons_succ]; rfl)
      case qz27 => exact fun _ _ _ h => h
      case gz27 => rfl
      case hz27 => (intro w hSw; (simp only [Holds] at hSw); go_simp <;> with_reducible rfl)
      simp only [Act.put, List.setIfInBounds_toArray, List.set_cons_zero, List.set_cons_succ]
      have q7 := HV2.out.car.c7
      have f7 := HV2.out.car.free 7
      refine until_ready (rs := [16]) (by kernel_rfl) (by simp) ?_
      refine (NextU.late (o := ?oz28) ?iz28 (by first | exact Or.inl rfl | exact Or.inr (by kernel_rfl)) (fun K hK => ?kz28) NextU.nil)
      case iz28 => (simp only [List.getElem?_toArray, List.getElem?_cons_zero, List.getElem?_cons_succ]; rfl)
      go_simp
      refine hK.out _ _ ?_
      refine until_done (by kernel_rfl) ?_ _
      go_wp2_with fail
      go_meet
      case rel => exact HV2.out.put 7 _ (HV2.out.car.setLoad _)
    case rest =>
      clear HV1
      have HV1 := Lib.hid hcut
      clear hcut e1 e2
      go_wp2_with fail
      obtain ⟨s, hss⟩ : ∃ s, stp I k = s := ⟨_, rfl⟩
      have HSS := Lib.hid hss
      rw [hss] at HV1
      clear hss
      go_cut [] from 5 (fun wx => VJ w0 b z I sv k t.leave (g + d) (h + s.d) (S.set k true) tv lv tv lv T Q t wx)
      case first =>
        have HV2 := Lib.hid (HV1.out.later ((Below.refl _ wc).drew))
        have hki : (k : Int) < 33 := by omega
        have hSn : Holds (cellsZ z t) wc.drew := HV2.out.holdsZ
        refine wp_until (S := Holds (cellsZ z t)) (m := 16) (by kernel_rfl) ?_
        generalize wc.drew = wd at *
        unfold cellsZ at *
        refine until_take (i := 0) (oi := ?oz29) (v := ?vz29) ?iz29 (by kernel_rfl) (by kernel_rfl) (by kernel_rfl) (by kernel_rfl) (by kernel_rfl) ?qz29 (Or.inl ⟨?gz29, ?hz29⟩) (by assumption) ?rz29
        case iz29 => (simp only [List.getElem?_toArray, List.getElem?_cons_zero]; rfl)
        case qz29 => exact fun _ _ _ h => h
        case gz29 => rfl
        case hz29 => (intro w hSw; (simp only [Holds] at hSw); go_simp <;> with_reducible rfl)
        simp only [Act.put, List.setIfInBounds_toArray, List.set_cons_zero, List.set_cons_succ]
        refine until_take (i := 1) (oi := ?oz30) (v := ?vz30) ?iz30 (by kernel_rfl) (by kernel_rfl) (by kernel_rfl) (by kernel_rfl) (by kernel_rfl) ?qz30 (Or.inl ⟨?gz30, ?hz30⟩) (by assumption) ?rz30
        case iz30 => (simp only [List.getElem?_toArray, List.getElem?_cons_zero, List.getElem?_cons_succ]; rfl)
        case qz30 => exact fun _ _ _ h => h
        case gz30 => rfl
        case hz30 => (intro w hSw; (simp only [Holds] at hSw); go_simp <;> with_reducible rfl)
        simp only [Act.put, List.setIfInBounds_toArray, List.set_cons_zero, List.set_cons_succ]
        refine until_take (i := 2) (oi := ?oz31) (v := ?vz31) ?iz31 (by kernel_rfl) (by kernel_rfl) (by kernel_rfl) (by kernel_rfl) (by kernel_rfl) ?qz31 (Or.inl ⟨?gz31, ?hz31⟩) (by assumption) ?rz31
        case iz31 => (simp only [List.getElem?_toArray, List.getElem?_cons_zero, List.getElem?_cons_succ]; rfl)
        case qz31 => exact fun _ _ _ h => h
        case gz31 => rfl
        case hz31 => (intro w hSw; (simp only [Holds] at hSw); go_simp <;> with_reducible rfl)
        simp only [Act.put, List.setIfInBounds_toArray, List.set_cons_zero, List.set_cons_succ]
        refine until_take (i := 3) (oi := ?oz32) (v := ?vz32) ?iz32 (by kernel_rfl) (by kernel_rfl) (by kernel_rfl) (by kernel_rfl) (by kernel_rfl) ?qz32 (Or.inl ⟨?gz32, ?hz32⟩) (by assumption) ?rz32
        case iz32 => (simp only [List.getElem?_toArray, List.getElem?_cons_zero, List.getElem?_cons_succ]; rfl)
        case qz32 => exact fun _ _ _ h => h
        case gz32 => rfl
        case hz32 => (intro w hSw; (simp only [Holds] at hSw); go_simp <;> with_reducible rfl)
        simp only [Act.put, List.setIfInBounds_toArray, List.set_cons_zero, List.set_cons_succ]
        refine until_take (i := 4) (oi := ?oz33) (v := ?vz33) ?iz33 (by kernel_rfl) (by kernel_rfl) (by kernel_rfl) (by kernel_rfl) (by kernel_rfl) ?qz33 (Or.inl ⟨?gz33, ?hz33⟩) (by assumption) ?rz33
        case iz33 => (simp only [List.getElem?_toArray, List.getElem?_cons_zero, List.getElem?_cons_succ]; rfl)
        case qz33 => exact fun _ _ _ h => h
        case gz33 => rfl
        case hz33 => (intro w hSw; (simp only [Holds] at hSw); go_simp <;> with_reducible rfl)
        simp only [Act.put, List.setIfInBounds_toArray, List.set_cons_zero, List.set_cons_succ]
        refine until_take (i := 5) (oi := ?oz34) (v := ?vz34) ?iz34 (by kernel_rfl) (by kernel_rfl) (by kernel_rfl) (by kernel_rfl) (by kernel_rfl) ?qz34 (Or.inl ⟨?gz34, ?hz34⟩) (by assumption) ?rz34
        case iz34 => (simp only [List.getElem?_toArray, List.getElem?_cons_zero, List.getElem?_cons_succ]; rfl)
        case qz34 => exact fun _ _ _ h => h
        case gz34 => rfl
        case hz34 => (intro w hSw; (simp only [Holds] at hSw); go_simp <;> with_reducible rfl)
        simp only [Act.put, List.setIfInBounds_toArray, List.set_cons_zero, List.set_cons_succ]
        refine until_take (i := 6) (oi := ?oz35) (v := ?vz35) ?iz35 (by kernel_rfl) (by kernel_rfl) (by kernel_rfl) (by kernel_rfl) (by kernel_rfl) ?qz35 (Or.inl ⟨?gz35, ?hz35⟩) (by assumption) ?rz35
        case iz35 => (simp only [List.getElem?_toArray, List.getElem?_cons_zero, List.getElem?_cons_succ]; rfl)
        case qz35 => exact fun _ _ _ h => h
        case gz35 => rfl
        case hz35 => (intro w hSw; (simp only [Holds] at hSw); go_simp <;> with_reducible rfl)
        simp only [Act.put, List.setIfInBounds_toArray, List.set_cons_zero, List.set_cons_succ]
        refine anyhow_take (i := 7) (oi := ?oz36) (v := ?vz36) ?iz36 (by kernel_rfl) (by kernel_rfl) (by kernel_rfl) (by decide) ?qz36 (Or.inl ⟨?gz36, ?hz36⟩) (Or.inr (by assumption)) ?rz36
        case iz36 => (simp only [List.getElem?_toArray, List.getElem?_cons_zero, List.getElem?_cons_succ]; rfl)
        case qz36 => exact fun _ _ _ h => h
        case gz36 => rfl
        case hz36 => (intro w hSw; clear hSw; go_simp <;> with_reducible rfl)
        simp only [Act.put, List.setIfInBounds_toArray, List.set_cons_zero, List.set_cons_succ]
        refine anyhow_take (i := 8) (oi := ?oz37) (v := ?vz37) ?iz37 (by kernel_rfl) (by kernel_rfl) (by kernel_rfl) (by decide) ?qz37 (Or.inl ⟨?gz37, ?hz37⟩) (Or.inr (by assumption)) ?rz37
        case iz37 => (simp only [List.getElem?_toArray, List.getElem?_cons_zero, List.getElem?_cons_succ]; rfl)
        case qz37 => exact fun _ _ _ h => h
        case gz37 => rfl
        case hz37 => (intro w hSw; clear hSw; go_simp <;> with_reducible rfl)
        simp only [Act.put, List.setIfInBounds_toArray, List.set_cons_zero, List.set_cons_succ]
        refine anyhow_take (i := 13) (oi := ?oz38) (v := ?vz38) ?iz38 (by kernel_rfl) (by kernel_rfl) (by kernel_rfl) (by decide) ?qz38 (Or.inl ⟨?gz38, ?hz38⟩) (Or.inr (by assumption)) ?rz38
        case iz38 => (simp only [List.getElem?_toArray, List.getElem?_cons_zero, List.getElem?_cons_succ]; rfl)
        case qz38 => exact fun _ _ _ h => h
        case gz38 => rfl
        case hz38 => (intro w hSw; clear hSw; go_simp <;> with_reducible rfl)
        simp only [Act.put, List.setIfInBounds_toArray, List.set_cons_zero, List.set_cons_succ]
        refine anyhow_take (i := 14) (oi := ?oz39) (v := ?vz39) ?iz39 (by kernel_rfl) (by kernel_rfl) (by kernel_rfl) (by decide) ?qz39 (Or.inl ⟨?gz39, ?hz39⟩) (Or.inr (by assumption)) ?rz39
        case iz39 => (simp only [List.getElem?_toArray, List.getElem?_cons_zero, List.getElem?_cons_succ]; rfl)
        case qz39 => exact fun _ _ _ h => h
        case gz39 => rfl
        case hz39 => (intro w hSw; clear hSw; go_simp <;> with_reducible rfl)
        simp only [Act.put, List.setIfInBounds_toArray, List.set_cons_zero, List.set_cons_succ]
        have q4 := HV2.out.car.c4
        have f4 := HV2.out.car.free 4
        refine until_ready (rs := [9]) (by kernel_rfl) (by simp) ?_
        refine (NextU.cons (o := ?oz40) ?iz40 (fun K hK => ?kz40) NextU.nil)
        case iz40 => (simp only [List.getElem?_toArray, List.getElem?_cons_zero, List.getElem?_cons_succ]; rfl)
        go_simp
        have HV3 := Lib.hid (HV2.out.put 4 _ (HV2.out.car.setAt k))
        generalize wd.setCell ⟨b, 4, none⟩ (.int .i64 k) = w4 at *
        refine hK.out _ _ HV3.out.holdsZ (fun hSn => ?_)
        clear hK q4 f4
        unfold cellsZ at *
        refine anyhow_take (i := 10) (oi := ?oz41) (v := ?vz41) ?iz41 (by kernel_rfl) (by kernel_rfl) (by kernel_rfl) (by decide) ?qz41 (Or.inl ⟨?gz41, ?hz41⟩) (Or.inr (by assumption)) ?rz41
        case iz41 => (simp only [List.getElem?_toArray, List.getElem?_cons_zero, List.getElem?_cons_succ]; rfl)
        case qz41 => exact fun _ _ _ h => h
        case gz41 => rfl
        case hz41 => (intro w hSw; clear hSw; go_simp <;> with_reducible rfl)
        simp only [Act.put, List.setIfInBounds_toArray, List.set_cons_zero, List.set_cons_succ]
        refine anyhow_take (i := 11) (oi := ?oz42) (v := ?vz42) ?iz42 (by kernel_rfl) (by kernel_rfl) (by kernel_rfl) (by decide) ?qz42 (Or.inl ⟨?gz42, ?hz42⟩) (Or.inr (by assumption)) ?rz42
        case iz42 => (simp only [List.getElem?_toArray, List.getElem?_cons_zero, List.getElem?_cons_succ]; rfl)
        case qz42 => exact fun _ _ _ h => h
        case gz42 => rfl
        case hz42 => (intro w hSw; clear hSw; go_simp <;> with_reducible rfl)
        simp only [Act.put, List.setIfInBounds_toArray, List.set_cons_zero, List.set_cons_succ]
        have q5 := HV3.out.car.c5
        have f5 := HV3.out.car.free 5
        refine until_ready (rs := [12]) (by kernel_rfl) (by simp) ?_
        refine (NextU.cons (o := ?oz43) ?iz43 (fun K hK => ?kz43) NextU.nil)
        case iz43 => (simp only [List.getElem?_toArray, List.getElem?_cons_zero, List.getElem?_cons_succ]; rfl)
        go_simp
        have HV4 := Lib.hid (HV3.out.put 5 _ (HV3.out.car.setLeft t.leave))
        generalize w4.setCell ⟨b, 5, none⟩ (.int .i64 t.leave) = w5 at *
        refine hK.out _ _ HV4.out.holdsZ (fun hSn => ?_)
        clear hK q5 f5
        unfold cellsZ at *
        refine until_take (i := 15) (oi := ?oz44) (v := ?vz44) ?iz44 (by kernel_rfl) (by kernel_rfl) (by kernel_rfl) (by kernel_rfl) (by kernel_rfl) ?qz44 (Or.inl ⟨?gz44, ?hz44⟩) (by assumption) ?rz44
        case iz44 => (simp only [List.getElem?_toArray, List.getElem?_cons_zero, List.getElem?_cons_succ]; rfl)
        case qz44 => exact fun _ _ _ h => h
        case gz44 => rfl
        case hz44 => (intro w hSw; (simp only [Holds] at hSw); go_simp <;> with_reducible rfl)
        simp only [Act.put, List.setIfInBounds_toArray, List.set_cons_zero, List.set_cons_succ]
        have q8 := HV4.out.car.cs k hk33
        have f8 := HV4.out.car.free (8 + k)
        refine until_ready (rs := [16]) (by kernel_rfl) (by simp) ?_
        refine (NextU.late (o := ?oz45) ?iz45 (by first | exact Or.inl rfl | exact Or.inr (by kernel_rfl)) (fun K hK => ?kz45) NextU.nil)
        case iz45 => (simp only [List.getElem?_toArray, List.getElem?_cons_zero, List.getElem?_cons_succ]; rfl)
        go_simp
        refine hK.out _ _ ?_
        refine until_done (by kernel_rfl) ?_ _
        go_wp2_with fail
        go_meet
        case rel => exact HV4.out.put (8 + k) _ (HV4.out.car.setSeen k hk33)
      case rest =>
        clear HV1
        have HV1 := Lib.hid hcut
        clear hcut
        go_wp2_with fail
        obtain ⟨i0, hi, hz0, hz1, hz2⟩ := info_parts infoTime
        obtain ⟨j0, hj, hy0, hy1, hy2⟩ := info_parts infoInt
        have HV2 := Lib.hid (HV1.out.later ((Below.refl _ wc).drew))
        have hSn : Holds (cellsV b z (h + s.d) tv lv t) wc.drew := HV2.out.holdsV
        refine wp_until (S := Holds (cellsV b z (h + s.d) tv lv t)) (m := 21) (by kernel_rfl) ?_
        generalize wc.drew = wd at *
        unfold cellsV at *
        refine until_take (i := 0) (oi := ?oz46) (v := ?vz46) ?iz46 (by kernel_rfl) (by kernel_rfl) (by kernel_rfl) (by kernel_rfl) (by kernel_rfl) ?qz46 (Or.inl ⟨?gz46, ?hz46⟩) (by assumption) ?rz46
        case iz46 => (simp only [List.getElem?_toArray, List.getElem?_cons_zero]; rfl)
        case qz46 => exact fun _ _ _ h => h
        case gz46 => rfl
        case hz46 => (intro w hSw; (simp only [Holds] at hSw); go_simp <;> with_reducible rfl)
        simp only [Act.put, List.setIfInBounds_toArray, List.set_cons_zero, List.set_cons_succ]
        refine until_take (i := 2) (oi := ?oz47) (v := ?vz47) ?iz47 (by kernel_rfl) (by kernel_rfl) (by kernel_rfl) (by kernel_rfl) (by kernel_rfl) ?qz47 (Or.inl ⟨?gz47, ?hz47⟩) (by assumption) ?rz47
        case iz47 => (simp only [List.getElem?_toArray, List.getElem?_cons_zero, List.getElem?_cons_succ]; rfl)
        case qz47 => exact fun _ _ _ h => h
        case gz47 => rfl
        case hz47 => (intro w hSw; (simp only [Holds] at hSw); go_simp <;> with_reducible rfl)
        simp only [Act.put, List.setIfInBounds_toArray, List.set_cons_zero, List.set_cons_succ]
        refine until_take (i := 3) (oi := ?oz48) (v := ?vz48) ?iz48 (by kernel_rfl) (by kernel_rfl) (by kernel_rfl) (by kernel_rfl) (by kernel_rfl) ?qz48 (Or.inl ⟨?gz48, ?hz48⟩) (by assumption) ?rz48
        case iz48 => (simp only [List.getElem?_toArray, List.getElem?_cons_zero, List.getElem?_cons_succ]; rfl)
        case qz48 => exact fun _ _ _ h => h
        case gz48 => rfl
        case hz48 => (intro w hSw; (simp only [Holds] at hSw); go_simp <;> with_reducible rfl)
        simp only [Act.put, List.setIfInBounds_toArray, List.set_cons_zero, List.set_cons_succ]
        refine until_take (i := 4) (oi := ?oz49) (v := ?vz49) ?iz49 (by kernel_rfl) (by kernel_rfl) (by kernel_rfl) (by kernel_rfl) (by kernel_rfl) ?qz49 (Or.inl ⟨?gz49, ?hz49⟩) (by assumption) ?rz49
        case iz49 => (simp only [List.getElem?_toArray, List.getElem?_cons_zero, List.getElem?_cons_succ]; rfl)
        case qz49 => exact fun _ _ _ h => h
        case gz49 => rfl
        case hz49 => (intro w hSw; (simp only [Holds] at hSw); go_simp <;> with_reducible rfl)
        simp only [Act.put, List.setIfInBounds_toArray, List.set_cons_zero, List.set_cons_succ]
        refine until_take (i := 5) (oi := ?oz50) (v := ?vz50) ?iz50 (by kernel_rfl) (by kernel_rfl) (by kernel_rfl) (by kernel_rfl) (by kernel_rfl) ?qz50 (Or.inl ⟨?gz50, ?hz50⟩) (by assumption) ?rz50
        case iz50 => (simp only [List.getElem?_toArray, List.getElem?_cons_zero, List.getElem?_cons_succ]; rfl)
        case qz50 => exact fun _ _ _ h => h
        case gz50 => rfl
        case hz50 => (intro w hSw; (simp only [Holds] at hSw); go_simp <;> with_reducible rfl)
        simp only [Act.put, List.setIfInBounds_toArray, List.set_cons_zero, List.set_cons_succ]
        refine until_take (i := 6) (oi := ?oz51) (v := ?vz51) ?iz51 (by kernel_rfl) (by kernel_rfl) (by kernel_rfl) (by kernel_rfl) (by kernel_rfl) ?qz51 (Or.inl ⟨?gz51, ?hz51⟩) (by assumption) ?rz51
        case iz51 => (simp only [List.getElem?_toArray, List.getElem?_cons_zero, List.getElem?_cons_succ]; rfl)
        case qz51 => exact fun _ _ _ h => h
        case gz51 => rfl
        case hz51 => (intro w hSw; (simp only [Holds] at hSw); go_simp <;> with_reducible rfl)
        simp only [Act.put, List.setIfInBounds_toArray, List.set_cons_zero, List.set_cons_succ]
        refine anyhow_take (i := 1) (oi := ?oz52) (v := ?vz52) ?iz52 (by kernel_rfl) (by kernel_rfl) (by kernel_rfl) (by decide) ?qz52 (Or.inl ⟨?gz52, ?hz52⟩) (Or.inr (by assumption)) ?rz52
        case iz52 => (simp only [List.getElem?_toArray, List.getElem?_cons_zero, List.getElem?_cons_succ]; rfl)
        case qz52 => exact fun _ _ _ h => h
        case gz52 => rfl
        case hz52 => (intro w hSw; clear hSw; go_simp <;> with_reducible rfl)
        simp only [Act.put, List.setIfInBounds_toArray, List.set_cons_zero, List.set_cons_succ]
        refine anyhow_take (i := 9) (oi := ?oz53) (v := ?vz53) ?iz53 (by kernel_rfl) (by kernel_rfl) (by kernel_rfl) (by decide) ?qz53 (Or.inl ⟨?gz53, ?hz53⟩) (Or.inr (by assumption)) ?rz53
        case iz53 => (simp only [List.getElem?_toArray, List.getElem?_cons_zero, List.getElem?_cons_succ]; rfl)
        case qz53 => exact fun _ _ _ h => h
        case gz53 => rfl
        case hz53 => (intro w hSw; clear hSw; go_simp <;> with_reducible rfl)
        simp only [Act.put, List.setIfInBounds_toArray, List.set_cons_zero, List.set_cons_succ]
        refine anyhow_take (i := 10) (oi := ?oz54) (v := ?vz54) ?iz54 (by kernel_rfl) (by kernel_rfl) (by kernel_rfl) (by decide) ?qz54 (Or.inl ⟨?gz54, ?hz54⟩) (Or.inr (by assumption)) ?rz54
        case iz54 => (simp only [List.getElem?_toArray, List.getElem?_cons_zero, List.getElem?_cons_succ]; rfl)
        case qz54 => exact fun _ _ _ h => h
        case gz54 => rfl
        case hz54 => (intro w hSw; clear hSw; go_simp <;> with_reducible rfl)
        simp only [Act.put, List.setIfInBounds_toArray, List.set_cons_zero, List.set_cons_succ]
        refine anyhow_take (i := 11) (oi := ?oz55) (v := ?vz55) ?iz55 (by kernel_rfl) (by kernel_rfl) (by kernel_rfl) (by decide) ?qz55 (Or.inl ⟨?gz55, ?hz55⟩) (Or.inr (by assumption)) ?rz55
        case iz55 => (simp only [List.getElem?_toArray, List.getElem?_cons_zero, List.getElem?_cons_succ]; rfl)
        case qz55 => exact fun _ _ _ h => h
        case gz55 => rfl
        case hz55 => (intro w hSw; clear hSw; go_simp <;> with_reducible rfl)
        simp only [Act.put, List.setIfInBounds_toArray, List.set_cons_zero, List.set_cons_succ]
        refine anyhow_take (i := 13) (oi := ?oz56) (v := ?vz56) ?iz56 (by kernel_rfl) (by kernel_rfl) (by kernel_rfl) (by decide) ?qz56 (Or.inl ⟨?gz56, ?hz56⟩) (Or.inr (by assumption)) ?rz56
        case iz56 => (simp only [List.getElem?_toArray, List.getElem?_cons_zero, List.getElem?_cons_succ]; rfl)
        case qz56 => exact fun _ _ _ h => h
        case gz56 => rfl
        case hz56 => (intro w hSw; clear hSw; go_simp <;> with_reducible rfl)
        simp only [Act.put, List.setIfInBounds_toArray, List.set_cons_zero, List.set_cons_succ]
        refine anyhow_take (i := 14) (oi := ?oz57) (v := ?vz57) ?iz57 (by kernel_rfl) (by kernel_rfl) (by kernel_rfl) (by decide) ?qz57 (Or.inl ⟨?gz57, ?hz57⟩) (Or.inr (by assumption)) ?rz57
        case iz57 => (simp only [List.getElem?_toArray, List.getElem?_cons_zero, List.getElem?_cons_succ]; rfl)
        case qz57 => exact fun _ _ _ h => h
        case gz57 => rfl
        case hz57 => (intro w hSw; clear hSw; go_simp <;> with_reducible rfl)
        simp only [Act.put, List.setIfInBounds_toArray, List.set_cons_zero, List.set_cons_succ]
        refine anyhow_take (i := 15) (oi := ?oz58) (v := ?vz58) ?iz58 (by kernel_rfl) (by kernel_rfl) (by kernel_rfl) (by decide) ?qz58 (Or.inl ⟨?gz58, ?hz58⟩) (Or.inr (by assumption)) ?rz58
        case iz58 => (simp only [List.getElem?_toArray, List.getElem?_cons_zero, List.getElem?_cons_succ]; rfl)
        case qz58 => exact fun _ _ _ h => h
        case gz58 => rfl
        case hz58 => (intro w hSw; clear hSw; go_simp <;> with_reducible rfl)
        simp only [Act.put, List.setIfInBounds_toArray, List.set_cons_zero, List.set_cons_succ]
        refine until_take (i := 12) (oi := ?oz59) (v := ?vz59) ?iz59 (by kernel_rfl) (by kernel_rfl) (by kernel_rfl) (by kernel_rfl) (by kernel_rfl) ?qz59 (Or.inl ⟨?gz59, ?hz59⟩) (by assumption) ?rz59
        case iz59 => (simp only [List.getElem?_toArray, List.getElem?_cons_zero, List.getElem?_cons_succ]; rfl)
        case qz59 => exact fun _ _ _ h => h
        case gz59 => rfl
        case hz59 => (intro w hSw; (simp only [Holds] at hSw); go_simp <;> with_reducible rfl)
        simp only [Act.put, List.setIfInBounds_toArray, List.set_cons_zero, List.set_cons_succ]
        refine until_take (i := 16) (oi := ?oz60) (v := ?vz60) ?iz60 (by kernel_rfl) (by kernel_rfl) (by kernel_rfl) (by kernel_rfl) (by kernel_rfl) ?qz60 (Or.inl ⟨?gz60, ?hz60⟩) (by assumption) ?rz60
        case iz60 => (simp only [List.getElem?_toArray, List.getElem?_cons_zero, List.getElem?_cons_succ]; rfl)
        case qz60 => exact fun _ _ _ h => h
        case gz60 => rfl
        case hz60 => (intro w hSw; (simp only [Holds] at hSw); go_simp <;> with_reducible rfl)
        simp only [Act.put, List.setIfInBounds_toArray, List.set_cons_zero, List.set_cons_succ]
        refine until_ready (rs := [7, 17]) (by kernel_rfl) (by simp) ?_
        refine (NextU.cons (o := ?oz61) ?iz61 (fun K hK => ?kz61) (NextU.cons (o := ?oz62) ?iz62 (fun K hK => ?kz62) NextU.nil))
        case iz61 => (simp only [List.getElem?_toArray, List.getElem?_cons_zero, List.getElem?_cons_succ]; rfl)
        case iz62 => (simp only [List.getElem?_toArray, List.getElem?_cons_zero, List.getElem?_cons_succ]; rfl)
        · go_simp
          have HV3 := Lib.hid (HV2.out.later ((Below.refl _ wd).alloc (Nat.le_refl _) (.cells #[.int .i64 t.come, .int .i64 t.begn, .int .i64 t.leave] 40)))
          have N7 := Lib.hid (heap_alloc_new wd (.cells #[.int .i64 t.come, .int .i64 t.begn, .int .i64 t.leave] 40))
          generalize wd.alloc (.cells #[.int .i64 t.come, .int .i64 t.begn, .int .i64 t.leave] 40) = w3 at *
          generalize wd.heap.size = s7 at *
          refine hK.out _ _ HV3.out.holdsV (fun hSn => ?_)
          clear hK
          refine until_ready (rs := [8, 17]) (by kernel_rfl) (by simp) ?_
          refine (NextU.cons (o := ?oz63) ?iz63 (fun K hK => ?kz63) (NextU.cons (o := ?oz64) ?iz64 (fun K hK => ?kz64) NextU.nil))
          case iz63 => (simp only [List.getElem?_toArray, List.getElem?_cons_zero, List.getElem?_cons_succ]; rfl)
          case iz64 => (simp only [List.getElem?_toArray, List.getElem?_cons_zero, List.getElem?_cons_succ]; rfl)
          · skip
            simp only [Act.put, List.setIfInBounds_toArray, List.set_cons_zero, List.set_cons_succ]
            rw [if_pos (by rfl)]
            refine wp_append_lies _ _ _ _ (by rfl) w0.heap.size 40 i0 _ 3 24 Try.underlying27 hi hz0 hz1 hz2 rfl (by decide) tv T.length (flatT T) (by rfl) HV3.out.ts ⟨s7, 0, none⟩ 1 1 (rowT t) (by rfl) rfl (World.news_of_block N7.out) (rowT_one t) (by decide) (by unfold maxLen; omega) (by omega) HV3.out.bel.size _ rfl ?_
            intro g2 cp2 wt hown hgrow hgg _
            have HV4 := Lib.hid (HV3.out.moreT (ownT_more hown) hgrow (hgg.elim (fun e => .inl e.symm) (fun e => .inr (by rw [e]; rfl))))
            clear hown hgrow hgg
            refine hK.out _ _ HV4.out.holdsV (fun hSn => ?_)
            clear hK
            refine until_ready (rs := [17]) (by kernel_rfl) (by simp) ?_
            refine (NextU.cons (o := ?oz65) ?iz65 (fun K hK => ?kz65) NextU.nil)
            case iz65 => (simp only [List.getElem?_toArray, List.getElem?_cons_zero, List.getElem?_cons_succ]; rfl)
            go_simp
            have HV5 := Lib.hid (HV4.out.later ((Below.refl _ wt).alloc (Nat.le_refl _) (.cells #[.int .i64 (h + s.d)] 3)))
            have N17 := Lib.hid (heap_alloc_new wt (.cells #[.int .i64 (h + s.d)] 3))
            generalize wt.alloc (.cells #[.int .i64 (h + s.d)] 3) = w5 at *
            generalize wt.heap.size = s17 at *
            refine hK.out _ _ HV5.out.holdsV (fun hSn => ?_)
            clear hK
            refine until_ready (rs := [18]) (by kernel_rfl) (by simp) ?_
            refine (NextU.cons (o := ?oz66) ?iz66 (fun K hK => ?kz66) NextU.nil)
            case iz66 => (simp only [List.getElem?_toArray, List.getElem?_cons_zero, List.getElem?_cons_succ]; rfl)
            simp only [Act.put, List.setIfInBounds_toArray, List.set_cons_zero, List.set_cons_succ]
            rw [if_pos (by rfl)]
            refine wp_append_lies _ _ _ _ (by rfl) w0.heap.size 3 j0 _ 1 8 Try.underlying25 hj hy0 hy1 hy2 rfl (by decide) lv Q.length (ints Q) (by rfl) HV5.out.ls ⟨s17, 0, none⟩ 1 1 [.int .i64 (h + s.d)] (by rfl) rfl (World.news_of_block N17.out) (by simp; rfl) (by decide) (by unfold maxLen; omega) (by omega) HV5.out.bel.size _ rfl ?_
            intro g3 cp3 wi hown hgrow _ _
            have HV6 := Lib.hid (HV5.out.moreI (ownI_more hown) hgrow)
            clear hown hgrow
            refine hK.out _ _ HV6.out.holdsV (fun hSn => ?_)
            clear hK
            refine anyhow_take (i := 19) (oi := ?oz67) (v := ?vz67) ?iz67 (by kernel_rfl) (by kernel_rfl) (by kernel_rfl) (by decide) ?qz67 (Or.inl ⟨?gz67, ?hz67⟩) (Or.inr (by assumption)) ?rz67
            case iz67 => (simp only [List.getElem?_toArray, List.getElem?_cons_zero, List.getElem?_cons_succ]; rfl)
            case qz67 => exact fun _ _ _ h => h
            case gz67 => rfl
            case hz67 => (intro w hSw; clear hSw; go_simp <;> with_reducible rfl)
            simp only [Act.put, List.setIfInBounds_toArray, List.set_cons_zero, List.set_cons_succ]
            refine until_take (i := 20) (oi := ?oz68) (v := ?vz68) ?iz68 (by kernel_rfl) (by kernel_rfl) (by kernel_rfl) (by kernel_rfl) (by kernel_rfl) ?qz68 (Or.inl ⟨?gz68, ?hz68⟩) (by assumption) ?rz68
            case iz68 => (simp only [List.getElem?_toArray, List.getElem?_cons_zero, List.getElem?_cons_succ]; rfl)
            case qz68 => exact fun _ _ _ h => h
            case gz68 => rfl
            case hz68 => (intro w hSw; (simp only [Holds] at hSw); go_simp <;> with_reducible rfl)
            simp only [Act.put, List.setIfInBounds_toArray, List.set_cons_zero, List.set_cons_succ]
            have q41 := HV6.out.car.ct
            have f41 := HV6.out.car.free 41
            refine until_ready (rs := [21]) (by kernel_rfl) (by simp) ?_
            refine (NextU.late (o := ?oz69) ?iz69 (by first | exact Or.inl rfl | exact Or.inr (by kernel_rfl)) (fun K hK => ?kz69) NextU.nil)
            case iz69 => (simp only [List.getElem?_toArray, List.getElem?_cons_zero, List.getElem?_cons_succ]; rfl)
            go_simp
            have HV7 := Lib.hid (HV6.out.put 41 _ (HV6.out.car.setTimes (.slice (some ⟨g2, 0, none⟩) (T.length + 1) cp2)))
            generalize wi.setCell ⟨b, 41, none⟩ (.slice (some ⟨g2, 0, none⟩) (T.length + 1) cp2) = wj at *
            refine hK.out _ _ ?_
            clear hK q41 f41 hSn
            refine anyhow_take (i := 22) (oi := ?oz70) (v := ?vz70) ?iz70 (by kernel_rfl) (by kernel_rfl) (by kernel_rfl) (by decide) ?qz70 (Or.inl ⟨?gz70, ?hz70⟩) (Or.inl (by kernel_rfl)) ?rz70
            case iz70 => (simp only [List.getElem?_toArray, List.getElem?_cons_zero, List.getElem?_cons_succ]; rfl)
            case qz70 => exact fun _ _ _ h => h
            case gz70 => rfl
            case hz70 => (intro w hSw; clear hSw; go_simp <;> with_reducible rfl)
            simp only [Act.put, List.setIfInBounds_toArray, List.set_cons_zero, List.set_cons_succ]
            refine anyhow_take (i := 23) (oi := ?oz71) (v := ?vz71) ?iz71 (by kernel_rfl) (by kernel_rfl) (by kernel_rfl) (by decide) ?qz71 (Or.inl ⟨?gz71, ?hz71⟩) (Or.inl (by kernel_rfl)) ?rz71
            case iz71 => (simp only [List.getElem?_toArray, List.getElem?_cons_zero, List.getElem?_cons_succ]; rfl)
            case qz71 => exact fun _ _ _ h => h
            case gz71 => rfl
            case hz71 => (intro w hSw; clear hSw; go_simp <;> with_reducible rfl)
            simp only [Act.put, List.setIfInBounds_toArray, List.set_cons_zero, List.set_cons_succ]
            have q42 := HV7.out.car.cl
            have f42 := HV7.out.car.free 42
            refine until_ready (rs := [24]) (by kernel_rfl) (by simp) ?_
            refine (NextU.late (o := ?oz72) ?iz72 (by first | exact Or.inl rfl | exact Or.inr (by kernel_rfl)) (fun K hK => ?kz72) NextU.nil)
            case iz72 => (simp only [List.getElem?_toArray, List.getElem?_cons_zero, List.getElem?_cons_succ]; rfl)
            go_simp
            have HV8 := Lib.hid (HV7.out.put 42 _ (HV7.out.car.setLoads (.slice (some ⟨g3, 0, none⟩) (Q.length + 1) cp3)))
            generalize wj.setCell ⟨b, 42, none⟩ (.slice (some ⟨g3, 0, none⟩) (Q.length + 1) cp3) = wl at *
            refine hK.out _ _ ?_
            clear hK
            refine until_done (by kernel_rfl) ?_ _
            go_wp2
            exact bodyPost_end (v := .tuple #[]) (by simp [results, Try.results39, go_sem]) rfl ⟨rfl, _, _, by rw [HT.out, HD.out, HSS.out]; exact ⟨HV8.out.car, HV8.out.ts, HV8.out.ls, HV8.out.bel⟩⟩
          · go_simp
            have HV4 := Lib.hid (HV3.out.later ((Below.refl _ w3).alloc (Nat.le_refl _) (.cells #[.int .i64 (h + s.d)] 3)))
            have N17 := Lib.hid (heap_alloc_new w3 (.cells #[.int .i64 (h + s.d)] 3))
            have hs7 : s7 < w3.heap.size := (Array.getElem?_eq_some_iff.1 N7.out).1
            have N7 := Lib.hid ((heap_alloc_old w3 (.cells #[.int .i64 (h + s.d)] 3) hs7).trans N7.out)
            generalize w3.alloc (.cells #[.int .i64 (h + s.d)] 3) = w4 at *
            generalize w3.heap.size = s17 at *
            refine hK.out _ _ HV4.out.holdsV (fun hSn => ?_)
            clear hK
            refine until_ready (rs := [8]) (by kernel_rfl) (by simp) ?_
            refine (NextU.cons (o := ?oz73) ?iz73 (fun K hK => ?kz73) NextU.nil)
            case iz73 => (simp only [List.getElem?_toArray, List.getElem?_cons_zero, List.getElem?_cons_succ]; rfl)
            simp only [Act.put, List.setIfInBounds_toArray, List.set_cons_zero, List.set_cons_succ]
            rw [if_pos (by rfl)]
            refine wp_append_lies _ _ _ _ (by rfl) w0.heap.size 40 i0 _ 3 24 Try.underlying27 hi hz0 hz1 hz2 rfl (by decide) tv T.length (flatT T) (by rfl) HV4.out.ts ⟨s7, 0, none⟩ 1 1 (rowT t) (by rfl) rfl (World.news_of_block N7.out) (rowT_one t) (by decide) (by unfold maxLen; omega) (by omega) HV4.out.bel.size _ rfl ?_
            intro g2 cp2 wt hown hgrow hgg _
            have HV5 := Lib.hid (HV4.out.moreT (ownT_more hown) hgrow (hgg.elim (fun e => .inl e.symm) (fun e => .inr (by rw [e]; rfl))))
            have N17 := Lib.hid (show wt.heap[s17]? = some (.cells #[.int .i64 (h + s.d)] 3 (0, 0)) by rw [hgrow.block s17 ((Array.getElem?_eq_some_iff.1 N17.out).1) (fun e => own_ne (show OwnT w4 w0.heap.size tv T from HV4.out.ts) N17.out (by decide) e.symm)]; exact N17.out)
            clear hown hgrow hgg
            refine hK.out _ _ HV5.out.holdsV (fun hSn => ?_)
            clear hK
            refine until_ready (rs := [18]) (by kernel_rfl) (by simp) ?_
            refine (NextU.cons (o := ?oz74) ?iz74 (fun K hK => ?kz74) NextU.nil)
            case iz74 => (simp only [List.getElem?_toArray, List.getElem?_cons_zero, List.getElem?_cons_succ]; rfl)
            simp only [Act.put, List.setIfInBounds_toArray, List.set_cons_zero, List.set_cons_succ]
            rw [if_pos (by rfl)]
            refine wp_append_lies _ _ _ _ (by rfl) w0.heap.size 3 j0 _ 1 8 Try.underlying25 hj hy0 hy1 hy2 rfl (by decide) lv Q.length (ints Q) (by rfl) HV5.out.ls ⟨s17, 0, none⟩ 1 1 [.int .i64 (h + s.d)] (by rfl) rfl (World.news_of_block N17.out) (by simp; rfl) (by decide) (by unfold maxLen; omega) (by omega) HV5.out.bel.size _ rfl ?_
            intro g3 cp3 wi hown hgrow _ _
            have HV6 := Lib.hid (HV5.out.moreI (ownI_more hown) hgrow)
            clear hown hgrow
            refine hK.out _ _ HV6.out.holdsV (fun hSn => ?_)
            clear hK
            refine anyhow_take (i := 19) (oi := ?oz75) (v := ?vz75) ?iz75 (by kernel_rfl) (by kernel_rfl) (by kernel_rfl) (by decide) ?qz75 (Or.inl ⟨?gz75, ?hz75⟩) (Or.inr (by assumption)) ?rz75
            case iz75 => (simp only [List.getElem?_toArray, List.getElem?_cons_zero, List.getElem?_cons_succ]; rfl)
            case qz75 => exact fun _ _ _ h => h
            case gz75 => rfl
            case hz75 => (intro w hSw; clear hSw; go_simp <;> with_reducible rfl)
            simp only [Act.put, List.setIfInBounds_toArray, List.set_cons_zero, List.set_cons_succ]
            refine until_take (i := 20) (oi := ?oz76) (v := ?vz76) ?iz76 (by kernel_rfl) (by kernel_rfl) (by kernel_rfl) (by kernel_rfl) (by kernel_rfl) ?qz76 (Or.inl ⟨?gz76, ?hz76⟩) (by assumption) ?rz76
            case iz76 => (simp only [List.getElem?_toArray, List.getElem?_cons_zero, List.getElem?_cons_succ]; rfl)
            case qz76 => exact fun _ _ _ h => h
            case gz76 => rfl
            case hz76 => (intro w hSw; (simp only [Holds] at hSw); go_simp <;> with_reducible rfl)
            simp only [Act.put, List.setIfInBounds_toArray, List.set_cons_zero, List.set_cons_succ]
            have q41 := HV6.out.car.ct
            have f41 := HV6.out.car.free 41
            refine until_ready (rs := [21]) (by kernel_rfl) (by simp) ?_
            refine (NextU.late (o := ?oz77) ?iz77 (by first | exact Or.inl rfl | exact Or.inr (by kernel_rfl)) (fun K hK => ?kz77) NextU.nil)
            case iz77 => (simp only [List.getElem?_toArray, List.getElem?_cons_zero, List.getElem?_cons_succ]; rfl)
            go_simp
            have HV7 := Lib.hid (HV6.out.put 41 _ (HV6.out.car.setTimes (.slice (some ⟨g2, 0, none⟩) (T.length + 1) cp2)))
            generalize wi.setCell ⟨b, 41, none⟩ (.slice (some ⟨g2, 0, none⟩) (T.length + 1) cp2) = wj at *
            refine hK.out _ _ ?_
            clear hK q41 f41 hSn
            refine anyhow_take (i := 22) (oi := ?oz78) (v := ?vz78) ?iz78 (by kernel_rfl) (by kernel_rfl) (by kernel_rfl) (by decide) ?qz78 (Or.inl ⟨?gz78, ?hz78⟩) (Or.inl (by kernel_rfl)) ?rz78
            case iz78 => (simp only [List.getElem?_toArray, List.getElem?_cons_zero, List.getElem?_cons_succ]; rfl)
            case qz78 => exact fun _ _ _ h => h
            case gz78 => rfl
            case hz78 => (intro w hSw; clear hSw; go_simp <;> with_reducible rfl)
            simp only [Act.put, List.setIfInBounds_toArray, List.set_cons_zero, List.set_cons_succ]
            refine anyhow_take (i := 23) (oi := ?oz79) (v := ?vz79) ?iz79 (by kernel_rfl) (by kernel_rfl) (by kernel_rfl) (by decide) ?qz79 (Or.inl ⟨?gz79, ?hz79⟩) (Or.inl (by kernel_rfl)) ?rz79
            case iz79 => (simp only [List.getElem?_toArray, List.getElem?_cons_zero, List.getElem?_cons_succ]; rfl)
            case qz79 => exact fun _ _ _ h => h
            case gz79 => rfl
            case hz79 => (intro w hSw; clear hSw; go_simp <;> with_reducible rfl)
            simp only [Act.put, List.setIfInBounds_toArray, List.set_cons_zero, List.set_cons_succ]
            have q42 := HV7.out.car.cl
            have f42 := HV7.out.car.free 42
            refine until_ready (rs := [24]) (by kernel_rfl) (by simp) ?_
            refine (NextU.late (o := ?oz80) ?iz80 (by first | exact Or.inl rfl | exact Or.inr (by kernel_rfl)) (fun K hK => ?kz80) NextU.nil)
            case iz80 => (simp only [List.getElem?_toArray, List.getElem?_cons_zero, List.getElem?_cons_succ]; rfl)
            go_simp
            have HV8 := Lib.hid (HV7.out.put 42 _ (HV7.out.car.setLoads (.slice (some ⟨g3, 0, none⟩) (Q.length + 1) cp3)))
            generalize wj.setCell ⟨b, 42, none⟩ (.slice (some ⟨g3, 0, none⟩) (Q.length + 1) cp3) = wl at *
            refine hK.out _ _ ?_
            clear hK
            refine until_done (by kernel_rfl) ?_ _
            go_wp2
            exact bodyPost_end (v := .tuple #[]) (by simp [results, Try.results39, go_sem]) rfl ⟨rfl, _, _, by rw [HT.out, HD.out, HSS.out]; exact ⟨HV8.out.car, HV8.out.ts, HV8.out.ls, HV8.out.bel⟩⟩
        · go_simp
          have HV3 := Lib.hid (HV2.out.later ((Below.refl _ wd).alloc (Nat.le_refl _) (.cells #[.int .i64 (h + s.d)] 3)))
          have N17 := Lib.hid (heap_alloc_new wd (.cells #[.int .i64 (h + s.d)] 3))
          generalize wd.alloc (.cells #[.int .i64 (h + s.d)] 3) = w3 at *
          generalize wd.heap.size = s17 at *
          refine hK.out _ _ HV3.out.holdsV (fun hSn => ?_)
          clear hK
          refine until_ready (rs := [7]) (by kernel_rfl) (by simp) ?_
          refine (NextU.cons (o := ?oz81) ?iz81 (fun K hK => ?kz81) NextU.nil)
          case iz81 => (simp only [List.getElem?_toArray, List.getElem?_cons_zero, List.getElem?_cons_succ]; rfl)
          go_simp
          have HV4 := Lib.hid (HV3.out.later ((Below.refl _ w3).alloc (Nat.le_refl _) (.cells #[.int .i64 t.come, .int .i64 t.begn, .int .i64 t.leave] 40)))
          have N7 := Lib.hid (heap_alloc_new w3 (.cells #[.int .i64 t.come, .int .i64 t.begn, .int .i64 t.leave] 40))
          have hs17 : s17 < w3.heap.size := (Array.getElem?_eq_some_iff.1 N17.out).1
          have N17 := Lib.hid ((heap_alloc_old w3 (.cells #[.int .i64 t.come, .int .i64 t.begn, .int .i64 t.leave] 40) hs17).trans N17.out)
          generalize w3.alloc (.cells #[.int .i64 t.come, .int .i64 t.begn, .int .i64 t.leave] 40) = w4 at *
          generalize w3.heap.size = s7 at *
          refine hK.out _ _ HV4.out.holdsV (fun hSn => ?_)
          clear hK
          refine until_ready (rs := [8]) (by kernel_rfl) (by simp) ?_
          refine (NextU.cons (o := ?oz82) ?iz82 (fun K hK => ?kz82) NextU.nil)
          case iz82 => (simp only [List.getElem?_toArray, List.getElem?_cons_zero, List.getElem?_cons_succ]; rfl)
          simp only [Act.put, List.setIfInBounds_toArray, List.set_cons_zero, List.set_cons_succ]
          rw [if_pos (by rfl)]
          refine wp_append_lies _ _ _ _ (by rfl) w0.heap.size 40 i0 _ 3 24 Try.underlying27 hi hz0 hz1 hz2 rfl (by decide) tv T.length (flatT T) (by rfl) HV4.out.ts ⟨s7, 0, none⟩ 1 1 (rowT t) (by rfl) rfl (World.news_of_block N7.out) (rowT_one t) (by decide) (by unfold maxLen; omega) (by omega) HV4.out.bel.size _ rfl ?_
          intro g2 cp2 wt hown hgrow hgg _
          have HV5 := Lib.hid (HV4.out.moreT (ownT_more hown) hgrow (hgg.elim (fun e => .inl e.symm) (fun e => .inr (by rw [e]; rfl))))
          have N17 := Lib.hid (show wt.heap[s17]? = some (.cells #[.int .i64 (h + s.d)] 3 (0, 0)) by rw [hgrow.block s17 ((Array.getElem?_eq_some_iff.1 N17.out).1) (fun e => own_ne (show OwnT w4 w0.heap.size tv T from HV4.out.ts) N17.out (by decide) e.symm)]; exact N17.out)
          clear hown hgrow hgg
          refine hK.out _ _ HV5.out.holdsV (fun hSn => ?_)
          clear hK
          refine until_ready (rs := [18]) (by kernel_rfl) (by simp) ?_
          refine (NextU.cons (o := ?oz83) ?iz83 (fun K hK => ?kz83) NextU.nil)
          case iz83 => (simp only [List.getElem?_toArray, List.getElem?_cons_zero, List.getElem?_cons_succ]; rfl)
          simp only [Act.put, List.setIfInBounds_toArray, List.set_cons_zero, List.set_cons_succ]
          rw [if_pos (by rfl)]
          refine wp_append_lies _ _ _ _ (by rfl) w0.heap.size 3 j0 _ 1 8 Try.underlying25 hj hy0 hy1 hy2 rfl (by decide) lv Q.length (ints Q) (by rfl) HV5.out.ls ⟨s17, 0, none⟩ 1 1 [.int .i64 (h + s.d)] (by rfl) rfl (World.news_of_block N17.out) (by simp; rfl) (by decide) (by unfold maxLen; omega) (by omega) HV5.out.bel.size _ rfl ?_
          intro g3 cp3 wi hown hgrow _ _
          have HV6 := Lib.hid (HV5.out.moreI (ownI_more hown) hgrow)
          clear hown hgrow
          refine hK.out _ _ HV6.out.holdsV (fun hSn => ?_)
          clear hK
          refine anyhow_take (i := 19) (oi := ?oz84) (v := ?vz84) ?iz84 (by kernel_rfl) (by kernel_rfl) (by kernel_rfl) (by decide) ?qz84 (Or.inl ⟨?gz84, ?hz84⟩) (Or.inr (by assumption)) ?rz84
          case iz84 => (simp only [List.getElem?_toArray, List.getElem?_cons_zero, List.getElem?_cons_succ]; rfl)
          case qz84 => exact fun _ _ _ h => h
          case gz84 => rfl
          case hz84 => (intro w hSw; clear hSw; go_simp <;> with_reducible rfl)
          simp only [Act.put, List.setIfInBounds_toArray, List.set_cons_zero, List.set_cons_succ]
          refine until_take (i := 20) (oi := ?oz85) (v := ?vz85) ?iz85 (by kernel_rfl) (by kernel_rfl) (by kernel_rfl) (by kernel_rfl) (by kernel_rfl) ?qz85 (Or.inl ⟨?gz85, ?hz85⟩) (by assumption) ?rz85
          case iz85 => (simp only [List.getElem?_toArray, List.getElem?_cons_zero, List.getElem?_cons_succ]; rfl)
          case qz85 => exact fun _ _ _ h => h
          case gz85 => rfl
          case hz85 => (intro w hSw; (simp only [Holds] at hSw); go_simp <;> with_reducible rfl)
          simp only [Act.put, List.setIfInBounds_toArray, List.set_cons_zero, List.set_cons_succ]
          have q41 := HV6.out.car.ct
          have f41 := HV6.out.car.free 41
          refine until_ready (rs := [21]) (by kernel_rfl) (by simp) ?_
          refine (NextU.late (o := ?oz86) ?iz86 (by first | exact Or.inl rfl | exact Or.inr (by kernel_rfl)) (fun K hK => ?kz86) NextU.nil)
          case iz86 => (simp only [List.getElem?_toArray, List.getElem?_cons_zero, List.getElem?_cons_succ]; rfl)
          go_simp
          have HV7 := Lib.hid (HV6.out.put 41 _ (HV6.out.car.setTimes (.slice (some ⟨g2, 0, none⟩) (T.length + 1) cp2)))
          generalize wi.setCell ⟨b, 41, none⟩ (.slice (some ⟨g2, 0, none⟩) (T.length + 1) cp2) = wj at *
          refine hK.out _ _ ?_
          clear hK q41 f41 hSn
          refine anyhow_take (i := 22) (oi := ?oz87) (v := ?vz87) ?iz87 (by kernel_rfl) (by kernel_rfl) (by kernel_rfl) (by decide) ?qz87 (Or.inl ⟨?gz87, ?hz87⟩) (Or.inl (by kernel_rfl)) ?rz87
          case iz87 => (simp only [List.getElem?_toArray, List.getElem?_cons_zero, List.getElem?_cons_succ]; rfl)
          case qz87 => exact fun _ _ _ h => h
          case gz87 => rfl
          case hz87 => (intro w hSw; clear hSw; go_simp <;> with_reducible rfl)
          simp only [Act.put, List.setIfInBounds_toArray, List.set_cons_zero, List.set_cons_succ]
          refine anyhow_take (i := 23) (oi := ?oz88) (v := ?vz88) ?iz88 (by kernel_rfl) (by kernel_rfl) (by kernel_rfl) (by decide) ?qz88 (Or.inl ⟨?gz88, ?hz88⟩) (Or.inl (by kernel_rfl)) ?rz88
          case iz88 => (simp only [List.getElem?_toArray, List.getElem?_cons_zero, List.getElem?_cons_succ]; rfl)
          case qz88 => exact fun _ _ _ h => h
          case gz88 => rfl
          case hz88 => (intro w hSw; clear hSw; go_simp <;> with_reducible rfl)
          simp only [Act.put, List.setIfInBounds_toArray, List.set_cons_zero, List.set_cons_succ]
          have q42 := HV7.out.car.cl
          have f42 := HV7.out.car.free 42
          refine until_ready (rs := [24]) (by kernel_rfl) (by simp) ?_
          refine (NextU.late (o := ?oz89) ?iz89 (by first | exact Or.inl rfl | exact Or.inr (by kernel_rfl)) (fun K hK => ?kz89) NextU.nil)
          case iz89 => (simp only [List.getElem?_toArray, List.getElem?_cons_zero, List.getElem?_cons_succ]; rfl)
          go_simp
          have HV8 := Lib.hid (HV7.out.put 42 _ (HV7.out.car.setLoads (.slice (some ⟨g3, 0, none⟩) (Q.length + 1) cp3)))
          generalize wj.setCell ⟨b, 42, none⟩ (.slice (some ⟨g3, 0, none⟩) (Q.length + 1) cp3) = wl at *
          refine hK.out _ _ ?_
          clear hK
          refine until_done (by kernel_rfl) ?_ _
          go_wp2
          exact bodyPost_end (v := .tuple #[]) (by simp [results, Try.results39, go_sem]) rfl ⟨rfl, _, _, by rw [HT.out, HD.out, HSS.out]; exact ⟨HV8.out.car, HV8.out.ts, HV8.out.ls, HV8.out.bel⟩⟩
end Go.Proofs.Ytolaiccgbngomaa
