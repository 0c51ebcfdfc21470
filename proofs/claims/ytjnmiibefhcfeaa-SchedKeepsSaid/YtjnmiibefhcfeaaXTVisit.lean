/- What a car's visit leaves. -/
import Derived.Test.YtjnmiibefhcfeaaTWrong
import Derived.Test.YtjnmiibefhcfeaaTUntil
import Derived.Deep.Cut
import Derived.Deep.AppendLies
namespace Go.Proofs.Ytjnmiibefhcfeaa
open Go.ChangeShapes Go.WideShapes Go.ChangeAt Go.RowKit

/-- A car on its way: its box, the rows that it owns (what its box says of them may be older), and a time in a box of its own. -/
structure VJ (w0 : World) (b z : Nat) (I : Ins) (sv : Value) (a n g h : Int) (S : List Bool) (tb lb tv lv : Value) (T : List Tm) (Q : List Int) (t : Tm) (w : World) : Prop where
  base : w0.heap.size ≤ b ∧ w0.heap.size ≤ z ∧ z ≠ b
  car : CarB w b I sv a n g h S tb lb
  tim : w.heap[z]? = some (.cells #[.int .i64 t.come, .int .i64 t.begn, .int .i64 t.leave] 37 (0, 0))
  ts : OwnT w w0.heap.size tv T
  ls : OwnI w w0.heap.size lv Q
  ap : tv.ownBlock ≠ some z
  bel : Below w0.heap.size w0 w
def cellsZ (z : Nat) (t : Tm) : List (Addr × Value) := [(⟨z, 0, none⟩, .int .i64 t.come), (⟨z, 1, none⟩, .int .i64 t.begn), (⟨z, 2, none⟩, .int .i64 t.leave)]
section
variable {w0 w w' : World} {b z : Nat} {I : Ins} {sv : Value} {a n g h : Int} {S : List Bool} {tb lb tv lv : Value} {T : List Tm} {Q : List Int} {t : Tm}
theorem VJ.ltz (k : VJ w0 b z I sv a n g h S tb lb tv lv T Q t w) : z < w.heap.size := (Array.getElem?_eq_some_iff.1 k.tim).1
theorem VJ.holdsZ (k : VJ w0 b z I sv a n g h S tb lb tv lv T Q t w) : Holds (cellsZ z t) w := by
  have hc : ∀ i, w.cell? ⟨z, i, none⟩ = [Value.int .i64 t.come, .int .i64 t.begn, .int .i64 t.leave][i]? := fun i => by rw [cell_of_row w z i _ _ _ k.tim]; simp
  exact ⟨hc 0, hc 1, hc 2, trivial⟩
def cellsV (b z : Nat) (h : Int) (tb lb : Value) (t : Tm) : List (Addr × Value) := [(⟨b, 7, none⟩, .int .i64 h), (⟨b, 41, none⟩, tb), (⟨b, 42, none⟩, lb), (⟨z, 0, none⟩, .int .i64 t.come), (⟨z, 1, none⟩, .int .i64 t.begn), (⟨z, 2, none⟩, .int .i64 t.leave)]
theorem VJ.holdsV (k : VJ w0 b z I sv a n g h S tb lb tv lv T Q t w) : Holds (cellsV b z h tb lb t) w := ⟨k.car.c7, k.car.ct, k.car.cl, k.holdsZ⟩
theorem VJ.later (k : VJ w0 b z I sv a n g h S tb lb tv lv T Q t w) (hb : Below w.heap.size w w') : VJ w0 b z I sv a n g h S tb lb tv lv T Q t w' :=
  ⟨k.base, k.car.later hb, by rw [hb.block z k.ltz]; exact k.tim, k.ts.below hb, k.ls.below hb, k.ap, k.bel.trans (hb.mono k.bel.size)⟩
theorem own_car {e : TypeId} {s m : Nat} {u : Value} {xs : List Value} {B : Nat} (k : CarB w b I sv a n g h S tb lb) (ho : w.ownsRow B e s u m xs) (he : e ≠ 45) : u.ownBlock ≠ some b := own_ne ho k.2 he
/-- A cell of its box is stored. -/
theorem VJ.put (k : VJ w0 b z I sv a n g h S tb lb tv lv T Q t w) (i : Nat) (u : Value) {a2 n2 g2 h2 : Int} {S2 : List Bool} {tb2 lb2 : Value} (hc : CarB (w.setCell ⟨b, i, none⟩ u) b I sv a2 n2 g2 h2 S2 tb2 lb2) :
    VJ w0 b z I sv a2 n2 g2 h2 S2 tb2 lb2 tv lv T Q t (w.setCell ⟨b, i, none⟩ u) := by
  have hg : w.grownBy (w.setCell ⟨b, i, none⟩ u) (some b) := ⟨rfl, rfl, rfl, by simp [World.setCell], fun j _ hj => heap_setCell_other w ⟨b, i, none⟩ j _ (fun e => hj (by rw [e]))⟩
  refine ⟨k.base, hc, ?_, k.ts.kept hg (.inr (own_car k.car k.ts (by decide))), ?_, k.ap, k.bel.setCell k.base.1 u⟩
  · rw [heap_setCell_other w ⟨b, i, none⟩ z u (fun e => k.base.2.2 e)]; exact k.tim
  · have h1 : w.ownsRow w0.heap.size 3 1 lv Q.length (ints Q) := k.ls
    exact h1.kept hg (.inr (own_car k.car h1 (by decide)))
/-- The times have grown. -/
theorem VJ.moreT (k : VJ w0 b z I sv a n g h S tb lb tv lv T Q t w) {tv2 : Value} {T2 : List Tm} (ho : OwnT w' w0.heap.size tv2 T2) (hg : w.grownBy w' tv.ownBlock) (hn : tv2.ownBlock = tv.ownBlock ∨ tv2.ownBlock = some w.heap.size) :
    VJ w0 b z I sv a n g h S tb lb tv2 lv T2 Q t w' := by
  have h1 : w.ownsRow w0.heap.size 3 1 lv Q.length (ints Q) := k.ls
  have h2 : w.ownsRow w0.heap.size 37 3 tv T.length (flatT T) := k.ts
  refine ⟨k.base, k.car.grown hg (own_car k.car k.ts (by decide)), ?_, ho, h1.kept hg (own_diff h1 h2 (by decide)), ?_, k.bel.grown hg k.bel.size (fun j hj => (World.ownsRow.lt h2 j hj).1)⟩
  · rw [hg.block z k.ltz (fun e => k.ap e.symm)]; exact k.tim
  · rcases hn with e | e
    · rw [e]; exact k.ap
    · rw [e]; intro e2; simp at e2; have := k.ltz; omega
/-- The loads have grown. -/
theorem VJ.moreI (k : VJ w0 b z I sv a n g h S tb lb tv lv T Q t w) {lv2 : Value} {Q2 : List Int} (ho : OwnI w' w0.heap.size lv2 Q2) (hg : w.grownBy w' lv.ownBlock) :
    VJ w0 b z I sv a n g h S tb lb tv lv2 T Q2 t w' := by
  have h1 : w.ownsRow w0.heap.size 3 1 lv Q.length (ints Q) := k.ls
  have h2 : w.ownsRow w0.heap.size 37 3 tv T.length (flatT T) := k.ts
  refine ⟨k.base, k.car.grown hg (own_car k.car h1 (by decide)), ?_, k.ts.kept hg (own_diff h2 h1 (by decide)), ho, k.ap, k.bel.grown hg k.bel.size (fun j hj => (World.ownsRow.lt h1 j hj).1)⟩
  rw [hg.block z k.ltz (fun e => own_ne h1 k.tim (by decide) e.symm)]; exact k.tim
end
theorem ownT_more {w : World} {B g n cp : Nat} {l : List Tm} {t : Tm} (h : w.ownsRow B 37 3 (.slice (some ⟨g, 0, none⟩) n cp) (l.length + 1) (flatT l ++ rowT t)) : OwnT w B (.slice (some ⟨g, 0, none⟩) n cp) (l ++ [t]) := by
  unfold OwnT
  rw [List.length_append, flatT_append]
  simpa [flatT] using h
theorem ownI_more {w : World} {B g n cp : Nat} {l : List Int} {x : Int} (h : w.ownsRow B 3 1 (.slice (some ⟨g, 0, none⟩) n cp) (l.length + 1) (ints l ++ [.int .i64 x])) : OwnI w B (.slice (some ⟨g, 0, none⟩) n cp) (l ++ [x]) := by
  unfold OwnI
  rw [List.length_append, show ints (l ++ [x]) = ints l ++ [.int .i64 x] by simp [ints]]
  exact h
theorem rowT_one (t : Tm) : ∀ u ∈ rowT t, u.oneCell' = true := fun u hu => flatT_one [t] u (by rw [flatT]; simp [hu])
end Go.Proofs.Ytjnmiibefhcfeaa
/- What a car's visit leaves: the walk. -/
namespace Go.Proofs.Ytjnmiibefhcfeaa
open Go.ChangeShapes Go.WideShapes Go.ChangeAt Go.RowKit

set_option maxRecDepth 1000000 in
set_option maxHeartbeats 4000000 in
theorem visit_any {w0 w : World} {b : Nat} {I : Ins} {sv : Value} {a k : Nat} {n g h : Int} {S : List Bool} {tv lv : Value} {T : List Tm} {Q : List Int} (hc : CarB w b I sv a n g h S tv lv) (hb0 : w0.heap.size ≤ b) (hT : OwnT w w0.heap.size tv T) (hQ : OwnI w w0.heap.size lv Q)
    (hbel : Below w0.heap.size w0 w) (hr : SRow w0 sv I.l) (ha : a < I.l.length) (hk : k < I.l.length) (hk33 : k < 33) (hn : 0 ≤ n ∧ n ≤ 2000000) (hs : stopOk (stp I k) = true) (hg : 0 ≤ g ∧ g ≤ 1000000000) (hh : -1000000 ≤ h + (stp I k).d ∧ h + (stp I k).d ≤ 1000000) (hTl : T.length ≤ 1000) (hQl : Q.length ≤ 1000) :
    Calls Try.prog 17 #[.pointer (some ⟨b, 0, none⟩), .int .i64 k] w fun e w' => e = .returned (.tuple #[]) ∧ ∃ tv' lv', CarB w' b I sv k (tmN n (stp I a) (stp I k)).leave (g + farF (stp I a) (stp I k)) (h + (stp I k).d) (S.set k true) tv' lv' ∧
      OwnT w' w0.heap.size tv' (T ++ [tmN n (stp I a) (stp I k)]) ∧ OwnI w' w0.heap.size lv' (Q ++ [h + (stp I k).d]) ∧ Below w0.heap.size w0 w' := by
  have HC := Lib.hid hc
  have HR := Lib.hid hr
  have HQ := Lib.hid hQ
  have HTm := Lib.hid hT
  have HBL := Lib.hid hbel
  obtain ⟨t, ht⟩ : ∃ t, tmN n (stp I a) (stp I k) = t := ⟨_, rfl⟩
  have HT := Lib.hid ht
  have hfb := farF_bd (stp I a) (stp I k)
  obtain ⟨d, hd⟩ : ∃ d, farF (stp I a) (stp I k) = d := ⟨_, rfl⟩
  have HD := Lib.hid hd
  rw [hd] at hfb
  have e1 : IntKind.i64.wrap (g + d) = g + d := IntWalk.i64_in _ (by omega)
  have e2 : IntKind.i64.wrap (h + (stp I k).d) = h + (stp I k).d := IntWalk.i64_in _ (by omega)
  clear hc hr hQ hT hbel ht hd hfb hg hh
  go_enter Try.func17, Try.ntmps17
  go_wp2_with fail
  refine (timeAt_any HC.out (HR.out.below HBL.out) ha hk hn hs).mono ?_
  rw [HT.out]
  rintro e w1 ⟨rfl, hb⟩
  have HV1 := Lib.hid (show VJ w0 b w1.heap.size I sv a n g h S tv lv tv lv T Q t (w1.alloc (.cells #[.int .i64 t.come, .int .i64 t.begn, .int .i64 t.leave] 37)) from by
    have hlt := HC.out.lt
    have hsz := hb.size
    have h2 : w.ownsRow w0.heap.size 37 3 tv T.length (flatT T) := HTm.out
    have hall := hb.trans (((Below.refl _ w1).alloc (Nat.le_refl _) (.cells #[.int .i64 t.come, .int .i64 t.begn, .int .i64 t.leave] 37)).mono hsz)
    exact ⟨⟨hb0, by have := HBL.out.size; omega, by omega⟩, HC.out.later hall, heap_alloc_new w1 _, HTm.out.below hall, HQ.out.below hall, fun e => by have := (World.ownsRow.lt h2 _ e).2; omega, HBL.out.trans (hall.mono HBL.out.size)⟩)
  unfold timeV
  go_wp2_with fail
  clear hb
  generalize w1.alloc (.cells #[.int .i64 t.come, .int .i64 t.begn, .int .i64 t.leave] 37) = W at *
  generalize w1.heap.size = z at *
  go_cut [] from 5 (fun wx => VJ w0 b z I sv a n (g + d) h S tv lv tv lv T Q t wx)
  case first =>
    have HV2 := Lib.hid (HV1.out.later ((Below.refl _ W).drew))
    have hSn : Holds [(⟨b, 6, none⟩, .int .i64 g)] W.drew := ⟨HV2.out.car.c6, trivial⟩
    refine wp_until (S := Holds [(⟨b, 6, none⟩, .int .i64 g)]) (m := 10) (by kernel_rfl) ?_
    refine until_take (i := 0) (oi := ?oz424) (v := ?vz424) ?iz424 (by kernel_rfl) (by kernel_rfl) (by kernel_rfl) (by kernel_rfl) (by kernel_rfl) ?qz424 (Or.inl ⟨?gz424, ?hz424⟩) (by assumption) ?rz424
    case iz424 => (simp only [List.getElem?_toArray, List.getElem?_cons_zero]; rfl)
    case qz424 => exact fun _ _ _ h => h
    case gz424 => rfl
    case hz424 => (intro w hSw; (simp only [Holds] at hSw); go_simp <;> with_reducible rfl)
    simp only [Act.put, List.setIfInBounds_toArray, List.set_cons_zero, List.set_cons_succ]
    refine until_take (i := 1) (oi := ?oz425) (v := ?vz425) ?iz425 (by kernel_rfl) (by kernel_rfl) (by kernel_rfl) (by kernel_rfl) (by kernel_rfl) ?qz425 (Or.inl ⟨?gz425, ?hz425⟩) (by assumption) ?rz425
    case iz425 => (simp only [List.getElem?_toArray, List.getElem?_cons_zero, List.getElem?_cons_succ]; rfl)
    case qz425 => exact fun _ _ _ h => h
    case gz425 => rfl
    case hz425 => (intro w hSw; (simp only [Holds] at hSw); go_simp <;> with_reducible rfl)
    simp only [Act.put, List.setIfInBounds_toArray, List.set_cons_zero, List.set_cons_succ]
    refine until_take (i := 2) (oi := ?oz426) (v := ?vz426) ?iz426 (by kernel_rfl) (by kernel_rfl) (by kernel_rfl) (by kernel_rfl) (by kernel_rfl) ?qz426 (Or.inl ⟨?gz426, ?hz426⟩) (by assumption) ?rz426
    case iz426 => (simp only [List.getElem?_toArray, List.getElem?_cons_zero, List.getElem?_cons_succ]; rfl)
    case qz426 => exact fun _ _ _ h => h
    case gz426 => rfl
    case hz426 => (intro w hSw; (simp only [Holds] at hSw); go_simp <;> with_reducible rfl)
    simp only [Act.put, List.setIfInBounds_toArray, List.set_cons_zero, List.set_cons_succ]
    refine until_take (i := 3) (oi := ?oz427) (v := ?vz427) ?iz427 (by kernel_rfl) (by kernel_rfl) (by kernel_rfl) (by kernel_rfl) (by kernel_rfl) ?qz427 (Or.inl ⟨?gz427, ?hz427⟩) (by assumption) ?rz427
    case iz427 => (simp only [List.getElem?_toArray, List.getElem?_cons_zero, List.getElem?_cons_succ]; rfl)
    case qz427 => exact fun _ _ _ h => h
    case gz427 => rfl
    case hz427 => (intro w hSw; (simp only [Holds] at hSw); go_simp <;> with_reducible rfl)
    simp only [Act.put, List.setIfInBounds_toArray, List.set_cons_zero, List.set_cons_succ]
    refine until_take (i := 4) (oi := ?oz428) (v := ?vz428) ?iz428 (by kernel_rfl) (by kernel_rfl) (by kernel_rfl) (by kernel_rfl) (by kernel_rfl) ?qz428 (Or.inl ⟨?gz428, ?hz428⟩) (by assumption) ?rz428
    case iz428 => (simp only [List.getElem?_toArray, List.getElem?_cons_zero, List.getElem?_cons_succ]; rfl)
    case qz428 => exact fun _ _ _ h => h
    case gz428 => rfl
    case hz428 => (intro w hSw; (simp only [Holds] at hSw); go_simp <;> with_reducible rfl)
    simp only [Act.put, List.setIfInBounds_toArray, List.set_cons_zero, List.set_cons_succ]
    refine until_take (i := 5) (oi := ?oz429) (v := ?vz429) ?iz429 (by kernel_rfl) (by kernel_rfl) (by kernel_rfl) (by kernel_rfl) (by kernel_rfl) ?qz429 (Or.inl ⟨?gz429, ?hz429⟩) (by assumption) ?rz429
    case iz429 => (simp only [List.getElem?_toArray, List.getElem?_cons_zero, List.getElem?_cons_succ]; rfl)
    case qz429 => exact fun _ _ _ h => h
    case gz429 => rfl
    case hz429 => (intro w hSw; (simp only [Holds] at hSw); go_simp <;> with_reducible rfl)
    simp only [Act.put, List.setIfInBounds_toArray, List.set_cons_zero, List.set_cons_succ]
    refine until_ready (rs := [6]) (by kernel_rfl) (by simp) ?_
    refine (NextU.cons (o := ?oz430) ?iz430 (fun K hK => ?kz430) NextU.nil)
    case iz430 => (simp only [List.getElem?_toArray, List.getElem?_cons_zero, List.getElem?_cons_succ]; rfl)
    go_simp
    refine (farTo_any HV2.out.car (HR.out.below HV2.out.bel) ha hk).mono ?_
    rw [HD.out]
    rintro e w2 ⟨rfl, hb⟩
    have HV3 := Lib.hid (HV2.out.later hb)
    clear hb hSn
    refine hK.out _ _ ⟨HV3.out.car.c6, trivial⟩ (fun hSn => ?_)
    clear hK
    refine until_take (i := 7) (oi := ?oz431) (v := ?vz431) ?iz431 (by kernel_rfl) (by kernel_rfl) (by kernel_rfl) (by kernel_rfl) (by kernel_rfl) ?qz431 (Or.inl ⟨?gz431, ?hz431⟩) (by assumption) ?rz431
    case iz431 => (simp only [List.getElem?_toArray, List.getElem?_cons_zero, List.getElem?_cons_succ]; rfl)
    case qz431 => exact fun _ _ _ h => h
    case gz431 => rfl
    case hz431 => (intro w hSw; (simp only [Holds] at hSw); go_simp <;> with_reducible rfl)
    simp only [Act.put, List.setIfInBounds_toArray, List.set_cons_zero, List.set_cons_succ]
    refine anyhow_take (i := 8) (oi := ?oz432) (v := ?vz432) ?iz432 (by kernel_rfl) (by kernel_rfl) (by kernel_rfl) (by decide) ?qz432 (Or.inl ⟨?gz432, ?hz432⟩) (Or.inr (by assumption)) ?rz432
    case iz432 => (simp only [List.getElem?_toArray, List.getElem?_cons_zero, List.getElem?_cons_succ]; rfl)
    case qz432 => exact fun _ _ _ h => h
    case gz432 => rfl
    case hz432 => (intro w hSw; clear hSw; go_simp <;> with_reducible rfl)
    simp only [Act.put, List.setIfInBounds_toArray, List.set_cons_zero, List.set_cons_succ]
    refine until_take (i := 9) (oi := ?oz433) (v := ?vz433) ?iz433 (by kernel_rfl) (by kernel_rfl) (by kernel_rfl) (by kernel_rfl) (by kernel_rfl) ?qz433 (Or.inl ⟨?gz433, ?hz433⟩) (by assumption) ?rz433
    case iz433 => (simp only [List.getElem?_toArray, List.getElem?_cons_zero, List.getElem?_cons_succ]; rfl)
    case qz433 => exact fun _ _ _ h => h
    case gz433 => rfl
    case hz433 => (intro w hSw; (simp only [Holds] at hSw); go_simp <;> with_reducible rfl)
    simp only [Act.put, List.setIfInBounds_toArray, List.set_cons_zero, List.set_cons_succ]
    have q6 := HV3.out.car.c6
    have f6 := HV3.out.car.free 6
    refine until_ready (rs := [10]) (by kernel_rfl) (by simp) ?_
    refine (NextU.late (o := ?oz434) ?iz434 (by first | exact Or.inl rfl | exact Or.inr (by kernel_rfl)) (fun K hK => ?kz434) NextU.nil)
    case iz434 => (simp only [List.getElem?_toArray, List.getElem?_cons_zero, List.getElem?_cons_succ]; rfl)
    go_simp
    refine hK.out _ _ ?_
    refine until_done (by kernel_rfl) ?_ _
    go_wp2_with fail
    go_meet
    case rel => exact HV3.out.put 6 _ (HV3.out.car.setGone _)
  case rest =>
    clear HV1
    have HV1 := Lib.hid hcut
    clear hcut
    go_wp2_with fail
    go_cut [] from 5 (fun wx => VJ w0 b z I sv a n (g + d) (h + (stp I k).d) S tv lv tv lv T Q t wx)
    case first =>
      have HV2 := Lib.hid (HV1.out.later ((Below.refl _ wc).drew))
      have HR2 := Lib.hid (HR.out.below HV2.out.bel)
      obtain ⟨ad, cap, rfl, _⟩ := HR.out.form
      obtain ⟨tb, off, rfl, hkt, hlt0⟩ := srow_at HR2.out k hk
      have HKT := Lib.hid (show At wc.drew tb (off + k * 6) (stp I k) from hkt)
      have hki : (k : Int) < (I.l.length : Int) := by omega
      clear hkt
      generalize stp I k = s at *
      have hSn : Holds ([(⟨b, 3, none⟩, .slice (some ⟨tb, off, none⟩) I.l.length cap), (⟨b, 7, none⟩, .int .i64 h)] ++ cellsF tb (off + k * 6) s) wc.drew := Holds.app.2 ⟨⟨HV2.out.car.c3, HV2.out.car.c7, trivial⟩, holds_at HKT.out⟩
      refine wp_until (S := Holds ([(⟨b, 3, none⟩, .slice (some ⟨tb, off, none⟩) I.l.length cap), (⟨b, 7, none⟩, .int .i64 h)] ++ cellsF tb (off + k * 6) s)) (m := 16) (by kernel_rfl) ?_
      simp only [cellsF, List.cons_append, List.nil_append] at *
      refine until_take (i := 0) (oi := ?oz435) (v := ?vz435) ?iz435 (by kernel_rfl) (by kernel_rfl) (by kernel_rfl) (by kernel_rfl) (by kernel_rfl) ?qz435 (Or.inl ⟨?gz435, ?hz435⟩) (by assumption) ?rz435
      case iz435 => (simp only [List.getElem?_toArray, List.getElem?_cons_zero]; rfl)
      case qz435 => exact fun _ _ _ h => h
      case gz435 => rfl
      case hz435 => (intro w hSw; (simp only [Holds] at hSw); go_simp <;> with_reducible rfl)
      simp only [Act.put, List.setIfInBounds_toArray, List.set_cons_zero, List.set_cons_succ]
      refine until_take (i := 1) (oi := ?oz436) (v := ?vz436) ?iz436 (by kernel_rfl) (by kernel_rfl) (by kernel_rfl) (by kernel_rfl) (by kernel_rfl) ?qz436 (Or.inl ⟨?gz436, ?hz436⟩) (by assumption) ?rz436
      case iz436 => (simp only [List.getElem?_toArray, List.getElem?_cons_zero, List.getElem?_cons_succ]; rfl)
      case qz436 => exact fun _ _ _ h => h
      case gz436 => rfl
      case hz436 => (intro w hSw; (simp only [Holds] at hSw); go_simp <;> with_reducible rfl)
      simp only [Act.put, List.setIfInBounds_toArray, List.set_cons_zero, List.set_cons_succ]
      refine until_take (i := 2) (oi := ?oz437) (v := ?vz437) ?iz437 (by kernel_rfl) (by kernel_rfl) (by kernel_rfl) (by kernel_rfl) (by kernel_rfl) ?qz437 (Or.inl ⟨?gz437, ?hz437⟩) (by assumption) ?rz437
      case iz437 => (simp only [List.getElem?_toArray, List.getElem?_cons_zero, List.getElem?_cons_succ]; rfl)
      case qz437 => exact fun _ _ _ h => h
      case gz437 => rfl
      case hz437 => (intro w hSw; (simp only [Holds] at hSw); go_simp <;> with_reducible rfl)
      simp only [Act.put, List.setIfInBounds_toArray, List.set_cons_zero, List.set_cons_succ]
      refine until_take (i := 3) (oi := ?oz438) (v := ?vz438) ?iz438 (by kernel_rfl) (by kernel_rfl) (by kernel_rfl) (by kernel_rfl) (by kernel_rfl) ?qz438 (Or.inl ⟨?gz438, ?hz438⟩) (by assumption) ?rz438
      case iz438 => (simp only [List.getElem?_toArray, List.getElem?_cons_zero, List.getElem?_cons_succ]; rfl)
      case qz438 => exact fun _ _ _ h => h
      case gz438 => rfl
      case hz438 => (intro w hSw; (simp only [Holds] at hSw); go_simp <;> with_reducible rfl)
      simp only [Act.put, List.setIfInBounds_toArray, List.set_cons_zero, List.set_cons_succ]
      refine until_take (i := 4) (oi := ?oz439) (v := ?vz439) ?iz439 (by kernel_rfl) (by kernel_rfl) (by kernel_rfl) (by kernel_rfl) (by kernel_rfl) ?qz439 (Or.inl ⟨?gz439, ?hz439⟩) (by assumption) ?rz439
      case iz439 => (simp only [List.getElem?_toArray, List.getElem?_cons_zero, List.getElem?_cons_succ]; rfl)
      case qz439 => exact fun _ _ _ h => h
      case gz439 => rfl
      case hz439 => (intro w hSw; (simp only [Holds] at hSw); go_simp <;> with_reducible rfl)
      simp only [Act.put, List.setIfInBounds_toArray, List.set_cons_zero, List.set_cons_succ]
      refine until_take (i := 5) (oi := ?oz440) (v := ?vz440) ?iz440 (by kernel_rfl) (by kernel_rfl) (by kernel_rfl) (by kernel_rfl) (by kernel_rfl) ?qz440 (Or.inl ⟨?gz440, ?hz440⟩) (by assumption) ?rz440
      case iz440 => (simp only [List.getElem?_toArray, List.getElem?_cons_zero, List.getElem?_cons_succ]; rfl)
      case qz440 => exact fun _ _ _ h => h
      case gz440 => rfl
      case hz440 => (intro w hSw; (simp only [Holds] at hSw); go_simp <;> with_reducible rfl)
      simp only [Act.put, List.setIfInBounds_toArray, List.set_cons_zero, List.set_cons_succ]
      refine until_take (i := 6) (oi := ?oz441) (v := ?vz441) ?iz441 (by kernel_rfl) (by kernel_rfl) (by kernel_rfl) (by kernel_rfl) (by kernel_rfl) ?qz441 (Or.inl ⟨?gz441, ?hz441⟩) (by assumption) ?rz441
      case iz441 => (simp only [List.getElem?_toArray, List.getElem?_cons_zero, List.getElem?_cons_succ]; rfl)
      case qz441 => exact fun _ _ _ h => h
      case gz441 => rfl
      case hz441 => (intro w hSw; (simp only [Holds] at hSw); go_simp <;> with_reducible rfl)
      simp only [Act.put, List.setIfInBounds_toArray, List.set_cons_zero, List.set_cons_succ]
      refine until_take (i := 7) (oi := ?oz442) (v := ?vz442) ?iz442 (by kernel_rfl) (by kernel_rfl) (by kernel_rfl) (by kernel_rfl) (by kernel_rfl) ?qz442 (Or.inl ⟨?gz442, ?hz442⟩) (by assumption) ?rz442
      case iz442 => (simp only [List.getElem?_toArray, List.getElem?_cons_zero, List.getElem?_cons_succ]; rfl)
      case qz442 => exact fun _ _ _ h => h
      case gz442 => rfl
      case hz442 => (intro w hSw; (simp only [Holds] at hSw); go_simp <;> with_reducible rfl)
      simp only [Act.put, List.setIfInBounds_toArray, List.set_cons_zero, List.set_cons_succ]
      refine until_take (i := 8) (oi := ?oz443) (v := ?vz443) ?iz443 (by kernel_rfl) (by kernel_rfl) (by kernel_rfl) (by kernel_rfl) (by kernel_rfl) ?qz443 (Or.inl ⟨?gz443, ?hz443⟩) (by assumption) ?rz443
      case iz443 => (simp only [List.getElem?_toArray, List.getElem?_cons_zero, List.getElem?_cons_succ]; rfl)
      case qz443 => exact fun _ _ _ h => h
      case gz443 => rfl
      case hz443 => (intro w hSw; (simp only [Holds] at hSw); go_simp <;> with_reducible rfl)
      simp only [Act.put, List.setIfInBounds_toArray, List.set_cons_zero, List.set_cons_succ]
      refine until_take (i := 9) (oi := ?oz444) (v := ?vz444) ?iz444 (by kernel_rfl) (by kernel_rfl) (by kernel_rfl) (by kernel_rfl) (by kernel_rfl) ?qz444 (Or.inl ⟨?gz444, ?hz444⟩) (by assumption) ?rz444
      case iz444 => (simp only [List.getElem?_toArray, List.getElem?_cons_zero, List.getElem?_cons_succ]; rfl)
      case qz444 => exact fun _ _ _ h => h
      case gz444 => rfl
      case hz444 => (intro w hSw; (simp only [Holds] at hSw); go_simp <;> with_reducible rfl)
      simp only [Act.put, List.setIfInBounds_toArray, List.set_cons_zero, List.set_cons_succ]
      refine until_take (i := 10) (oi := ?oz445) (v := ?vz445) ?iz445 (by kernel_rfl) (by kernel_rfl) (by kernel_rfl) (by kernel_rfl) (by kernel_rfl) ?qz445 (Or.inl ⟨?gz445, ?hz445⟩) (by assumption) ?rz445
      case iz445 => (simp only [List.getElem?_toArray, List.getElem?_cons_zero, List.getElem?_cons_succ]; rfl)
      case qz445 => exact fun _ _ _ h => h
      case gz445 => rfl
      case hz445 => (intro w hSw; (simp only [Holds] at hSw); go_simp <;> with_reducible rfl)
      simp only [Act.put, List.setIfInBounds_toArray, List.set_cons_zero, List.set_cons_succ]
      refine until_take (i := 11) (oi := ?oz446) (v := ?vz446) ?iz446 (by kernel_rfl) (by kernel_rfl) (by kernel_rfl) (by kernel_rfl) (by kernel_rfl) ?qz446 (Or.inl ⟨?gz446, ?hz446⟩) (by assumption) ?rz446
      case iz446 => (simp only [List.getElem?_toArray, List.getElem?_cons_zero, List.getElem?_cons_succ]; rfl)
      case qz446 => exact fun _ _ _ h => h
      case gz446 => rfl
      case hz446 => (intro w hSw; (simp only [Holds] at hSw); go_simp <;> with_reducible rfl)
      simp only [Act.put, List.setIfInBounds_toArray, List.set_cons_zero, List.set_cons_succ]
      refine until_take (i := 12) (oi := ?oz447) (v := ?vz447) ?iz447 (by kernel_rfl) (by kernel_rfl) (by kernel_rfl) (by kernel_rfl) (by kernel_rfl) ?qz447 (Or.inl ⟨?gz447, ?hz447⟩) (by assumption) ?rz447
      case iz447 => (simp only [List.getElem?_toArray, List.getElem?_cons_zero, List.getElem?_cons_succ]; rfl)
      case qz447 => exact fun _ _ _ h => h
      case gz447 => rfl
      case hz447 => (intro w hSw; (simp only [Holds] at hSw); go_simp <;> with_reducible rfl)
      simp only [Act.put, List.setIfInBounds_toArray, List.set_cons_zero, List.set_cons_succ]
      refine until_take (i := 13) (oi := ?oz448) (v := ?vz448) ?iz448 (by kernel_rfl) (by kernel_rfl) (by kernel_rfl) (by kernel_rfl) (by kernel_rfl) ?qz448 (Or.inl ⟨?gz448, ?hz448⟩) (by assumption) ?rz448
      case iz448 => (simp only [List.getElem?_toArray, List.getElem?_cons_zero, List.getElem?_cons_succ]; rfl)
      case qz448 => exact fun _ _ _ h => h
      case gz448 => rfl
      case hz448 => (intro w hSw; (simp only [Holds] at hSw); go_simp <;> with_reducible rfl)
      simp only [Act.put, List.setIfInBounds_toArray, List.set_cons_zero, List.set_cons_succ]
      refine anyhow_take (i := 14) (oi := ?oz449) (v := ?vz449) ?iz449 (by kernel_rfl) (by kernel_rfl) (by kernel_rfl) (by decide) ?qz449 (Or.inl ⟨?gz449, ?hz449⟩) (Or.inr (by assumption)) ?rz449
      case iz449 => (simp only [List.getElem?_toArray, List.getElem?_cons_zero, List.getElem?_cons_succ]; rfl)
      case qz449 => exact fun _ _ _ h => h
      case gz449 => rfl
      case hz449 => (intro w hSw; clear hSw; go_simp <;> with_reducible rfl)
      simp only [Act.put, List.setIfInBounds_toArray, List.set_cons_zero, List.set_cons_succ]
      refine until_take (i := 15) (oi := ?oz450) (v := ?vz450) ?iz450 (by kernel_rfl) (by kernel_rfl) (by kernel_rfl) (by kernel_rfl) (by kernel_rfl) ?qz450 (Or.inl ⟨?gz450, ?hz450⟩) (by assumption) ?rz450
      case iz450 => (simp only [List.getElem?_toArray, List.getElem?_cons_zero, List.getElem?_cons_succ]; rfl)
      case qz450 => exact fun _ _ _ h => h
      case gz450 => rfl
      case hz450 => (intro w hSw; (simp only [Holds] at hSw); go_simp <;> with_reducible rfl)
      simp only [Act.put, List.setIfInBounds_toArray, List.set_cons_zero, List.set_cons_succ]
      have q7 := HV2.out.car.c7
      have f7 := HV2.out.car.free 7
      refine until_ready (rs := [16]) (by kernel_rfl) (by simp) ?_
      refine (NextU.late (o := ?oz451) ?iz451 (by first | exact Or.inl rfl | exact Or.inr (by kernel_rfl)) (fun K hK => ?kz451) NextU.nil)
      case iz451 => (simp only [List.getElem?_toArray, List.getElem?_cons_zero, List.getElem?_cons_succ]; rfl)
      go_simp
      refine hK.out _ _ ?_
      refine until_done (by kernel_rfl) ?_ _
      go_wp2_with fail
      go_meet
      case rel => exact HV2.out.put 7 _ (HV2.out.car.setLoad _)
    case rest =>
      clear HV1
      have HV1 := Lib.hid hcut
      clear hcut e1 e2
      go_wp2_with fail
      obtain ⟨s, hss⟩ : ∃ s, stp I k = s := ⟨_, rfl⟩
      have HSS := Lib.hid hss
      rw [hss] at HV1
      clear hss
      go_cut [] from 5 (fun wx => VJ w0 b z I sv k t.leave (g + d) (h + s.d) (S.set k true) tv lv tv lv T Q t wx)
      case first =>
        have HV2 := Lib.hid (HV1.out.later ((Below.refl _ wc).drew))
        have hki : (k : Int) < 33 := by omega
        have hSn : Holds (cellsZ z t) wc.drew := HV2.out.holdsZ
        refine wp_until (S := Holds (cellsZ z t)) (m := 16) (by kernel_rfl) ?_
        generalize wc.drew = wd at *
        unfold cellsZ at *
        refine until_take (i := 0) (oi := ?oz452) (v := ?vz452) ?iz452 (by kernel_rfl) (by kernel_rfl) (by kernel_rfl) (by kernel_rfl) (by kernel_rfl) ?qz452 (Or.inl ⟨?gz452, ?hz452⟩) (by assumption) ?rz452
        case iz452 => (simp only [List.getElem?_toArray, List.getElem?_cons_zero]; rfl)
        case qz452 => exact fun _ _ _ h => h
        case gz452 => rfl
        case hz452 => (intro w hSw; (simp only [Holds] at hSw); go_simp <;> with_reducible rfl)
        simp only [Act.put, List.setIfInBounds_toArray, List.set_cons_zero, List.set_cons_succ]
        refine until_take (i := 1) (oi := ?oz453) (v := ?vz453) ?iz453 (by kernel_rfl) (by kernel_rfl) (by kernel_rfl) (by kernel_rfl) (by kernel_rfl) ?qz453 (Or.inl ⟨?gz453, ?hz453⟩) (by assumption) ?rz453
        case iz453 => (simp only [List.getElem?_toArray, List.getElem?_cons_zero, List.getElem?_cons_succ]; rfl)
        case qz453 => exact fun _ _ _ h => h
        case gz453 => rfl
        case hz453 => (intro w hSw; (simp only [Holds] at hSw); go_simp <;> with_reducible rfl)
        simp only [Act.put, List.setIfInBounds_toArray, List.set_cons_zero, List.set_cons_succ]
        refine until_take (i := 2) (oi := ?oz454) (v := ?vz454) ?iz454 (by kernel_rfl) (by kernel_rfl) (by kernel_rfl) (by kernel_rfl) (by kernel_rfl) ?qz454 (Or.inl ⟨?gz454, ?hz454⟩) (by assumption) ?rz454
        case iz454 => (simp only [List.getElem?_toArray, List.getElem?_cons_zero, List.getElem?_cons_succ]; rfl)
        case qz454 => exact fun _ _ _ h => h
        case gz454 => rfl
        case hz454 => (intro w hSw; (simp only [Holds] at hSw); go_simp <;> with_reducible rfl)
        simp only [Act.put, List.setIfInBounds_toArray, List.set_cons_zero, List.set_cons_succ]
        refine until_take (i := 3) (oi := ?oz455) (v := ?vz455) ?iz455 (by kernel_rfl) (by kernel_rfl) (by kernel_rfl) (by kernel_rfl) (by kernel_rfl) ?qz455 (Or.inl ⟨?gz455, ?hz455⟩) (by assumption) ?rz455
        case iz455 => (simp only [List.getElem?_toArray, List.getElem?_cons_zero, List.getElem?_cons_succ]; rfl)
        case qz455 => exact fun _ _ _ h => h
        case gz455 => rfl
        case hz455 => (intro w hSw; (simp only [Holds] at hSw); go_simp <;> with_reducible rfl)
        simp only [Act.put, List.setIfInBounds_toArray, List.set_cons_zero, List.set_cons_succ]
        refine until_take (i := 4) (oi := ?oz456) (v := ?vz456) ?iz456 (by kernel_rfl) (by kernel_rfl) (by kernel_rfl) (by kernel_rfl) (by kernel_rfl) ?qz456 (Or.inl ⟨?gz456, ?hz456⟩) (by assumption) ?rz456
        case iz456 => (simp only [List.getElem?_toArray, List.getElem?_cons_zero, List.getElem?_cons_succ]; rfl)
        case qz456 => exact fun _ _ _ h => h
        case gz456 => rfl
        case hz456 => (intro w hSw; (simp only [Holds] at hSw); go_simp <;> with_reducible rfl)
        simp only [Act.put, List.setIfInBounds_toArray, List.set_cons_zero, List.set_cons_succ]
        refine until_take (i := 5) (oi := ?oz457) (v := ?vz457) ?iz457 (by kernel_rfl) (by kernel_rfl) (by kernel_rfl) (by kernel_rfl) (by kernel_rfl) ?qz457 (Or.inl ⟨?gz457, ?hz457⟩) (by assumption) ?rz457
        case iz457 => (simp only [List.getElem?_toArray, List.getElem?_cons_zero, List.getElem?_cons_succ]; rfl)
        case qz457 => exact fun _ _ _ h => h
        case gz457 => rfl
        case hz457 => (intro w hSw; (simp only [Holds] at hSw); go_simp <;> with_reducible rfl)
        simp only [Act.put, List.setIfInBounds_toArray, List.set_cons_zero, List.set_cons_succ]
        refine until_take (i := 6) (oi := ?oz458) (v := ?vz458) ?iz458 (by kernel_rfl) (by kernel_rfl) (by kernel_rfl) (by kernel_rfl) (by kernel_rfl) ?qz458 (Or.inl ⟨?gz458, ?hz458⟩) (by assumption) ?rz458
        case iz458 => (simp only [List.getElem?_toArray, List.getElem?_cons_zero, List.getElem?_cons_succ]; rfl)
        case qz458 => exact fun _ _ _ h => h
        case gz458 => rfl
        case hz458 => (intro w hSw; (simp only [Holds] at hSw); go_simp <;> with_reducible rfl)
        simp only [Act.put, List.setIfInBounds_toArray, List.set_cons_zero, List.set_cons_succ]
        refine anyhow_take (i := 7) (oi := ?oz459) (v := ?vz459) ?iz459 (by kernel_rfl) (by kernel_rfl) (by kernel_rfl) (by decide) ?qz459 (Or.inl ⟨?gz459, ?hz459⟩) (Or.inr (by assumption)) ?rz459
        case iz459 => (simp only [List.getElem?_toArray, List.getElem?_cons_zero, List.getElem?_cons_succ]; rfl)
        case qz459 => exact fun _ _ _ h => h
        case gz459 => rfl
        case hz459 => (intro w hSw; clear hSw; go_simp <;> with_reducible rfl)
        simp only [Act.put, List.setIfInBounds_toArray, List.set_cons_zero, List.set_cons_succ]
        refine anyhow_take (i := 8) (oi := ?oz460) (v := ?vz460) ?iz460 (by kernel_rfl) (by kernel_rfl) (by kernel_rfl) (by decide) ?qz460 (Or.inl ⟨?gz460, ?hz460⟩) (Or.inr (by assumption)) ?rz460
        case iz460 => (simp only [List.getElem?_toArray, List.getElem?_cons_zero, List.getElem?_cons_succ]; rfl)
        case qz460 => exact fun _ _ _ h => h
        case gz460 => rfl
        case hz460 => (intro w hSw; clear hSw; go_simp <;> with_reducible rfl)
        simp only [Act.put, List.setIfInBounds_toArray, List.set_cons_zero, List.set_cons_succ]
        refine anyhow_take (i := 13) (oi := ?oz461) (v := ?vz461) ?iz461 (by kernel_rfl) (by kernel_rfl) (by kernel_rfl) (by decide) ?qz461 (Or.inl ⟨?gz461, ?hz461⟩) (Or.inr (by assumption)) ?rz461
        case iz461 => (simp only [List.getElem?_toArray, List.getElem?_cons_zero, List.getElem?_cons_succ]; rfl)
        case qz461 => exact fun _ _ _ h => h
        case gz461 => rfl
        case hz461 => (intro w hSw; clear hSw; go_simp <;> with_reducible rfl)
        simp only [Act.put, List.setIfInBounds_toArray, List.set_cons_zero, List.set_cons_succ]
        refine anyhow_take (i := 14) (oi := ?oz462) (v := ?vz462) ?iz462 (by kernel_rfl) (by kernel_rfl) (by kernel_rfl) (by decide) ?qz462 (Or.inl ⟨?gz462, ?hz462⟩) (Or.inr (by assumption)) ?rz462
        case iz462 => (simp only [List.getElem?_toArray, List.getElem?_cons_zero, List.getElem?_cons_succ]; rfl)
        case qz462 => exact fun _ _ _ h => h
        case gz462 => rfl
        case hz462 => (intro w hSw; clear hSw; go_simp <;> with_reducible rfl)
        simp only [Act.put, List.setIfInBounds_toArray, List.set_cons_zero, List.set_cons_succ]
        have q4 := HV2.out.car.c4
        have f4 := HV2.out.car.free 4
        refine until_ready (rs := [9]) (by kernel_rfl) (by simp) ?_
        refine (NextU.cons (o := ?oz463) ?iz463 (fun K hK => ?kz463) NextU.nil)
        case iz463 => (simp only [List.getElem?_toArray, List.getElem?_cons_zero, List.getElem?_cons_succ]; rfl)
        go_simp
        have HV3 := Lib.hid (HV2.out.put 4 _ (HV2.out.car.setAt k))
        generalize wd.setCell ⟨b, 4, none⟩ (.int .i64 k) = w4 at *
        refine hK.out _ _ HV3.out.holdsZ (fun hSn => ?_)
        clear hK q4 f4
        unfold cellsZ at *
        refine anyhow_take (i := 10) (oi := ?oz464) (v := ?vz464) ?iz464 (by kernel_rfl) (by kernel_rfl) (by kernel_rfl) (by decide) ?qz464 (Or.inl ⟨?gz464, ?hz464⟩) (Or.inr (by assumption)) ?rz464
        case iz464 => (simp only [List.getElem?_toArray, List.getElem?_cons_zero, List.getElem?_cons_succ]; rfl)
        case qz464 => exact fun _ _ _ h => h
        case gz464 => rfl
        case hz464 => (intro w hSw; clear hSw; go_simp <;> with_reducible rfl)
        simp only [Act.put, List.setIfInBounds_toArray, List.set_cons_zero, List.set_cons_succ]
        refine anyhow_take (i := 11) (oi := ?oz465) (v := ?vz465) ?iz465 (by kernel_rfl) (by kernel_rfl) (by kernel_rfl) (by decide) ?qz465 (Or.inl ⟨?gz465, ?hz465⟩) (Or.inr (by assumption)) ?rz465
        case iz465 => (simp only [List.getElem?_toArray, List.getElem?_cons_zero, List.getElem?_cons_succ]; rfl)
        case qz465 => exact fun _ _ _ h => h
        case gz465 => rfl
        case hz465 => (intro w hSw; clear hSw; go_simp <;> with_reducible rfl)
        simp only [Act.put, List.setIfInBounds_toArray, List.set_cons_zero, List.set_cons_succ]
        have q5 := HV3.out.car.c5
        have f5 := HV3.out.car.free 5
        refine until_ready (rs := [12]) (by kernel_rfl) (by simp) ?_
        refine (NextU.cons (o := ?oz466) ?iz466 (fun K hK => ?kz466) NextU.nil)
        case iz466 => (simp only [List.getElem?_toArray, List.getElem?_cons_zero, List.getElem?_cons_succ]; rfl)
        go_simp
        have HV4 := Lib.hid (HV3.out.put 5 _ (HV3.out.car.setLeft t.leave))
        generalize w4.setCell ⟨b, 5, none⟩ (.int .i64 t.leave) = w5 at *
        refine hK.out _ _ HV4.out.holdsZ (fun hSn => ?_)
        clear hK q5 f5
        unfold cellsZ at *
        refine until_take (i := 15) (oi := ?oz467) (v := ?vz467) ?iz467 (by kernel_rfl) (by kernel_rfl) (by kernel_rfl) (by kernel_rfl) (by kernel_rfl) ?qz467 (Or.inl ⟨?gz467, ?hz467⟩) (by assumption) ?rz467
        case iz467 => (simp only [List.getElem?_toArray, List.getElem?_cons_zero, List.getElem?_cons_succ]; rfl)
        case qz467 => exact fun _ _ _ h => h
        case gz467 => rfl
        case hz467 => (intro w hSw; (simp only [Holds] at hSw); go_simp <;> with_reducible rfl)
        simp only [Act.put, List.setIfInBounds_toArray, List.set_cons_zero, List.set_cons_succ]
        have q8 := HV4.out.car.cs k hk33
        have f8 := HV4.out.car.free (8 + k)
        refine until_ready (rs := [16]) (by kernel_rfl) (by simp) ?_
        refine (NextU.late (o := ?oz468) ?iz468 (by first | exact Or.inl rfl | exact Or.inr (by kernel_rfl)) (fun K hK => ?kz468) NextU.nil)
        case iz468 => (simp only [List.getElem?_toArray, List.getElem?_cons_zero, List.getElem?_cons_succ]; rfl)
        go_simp
        refine hK.out _ _ ?_
        refine until_done (by kernel_rfl) ?_ _
        go_wp2_with fail
        go_meet
        case rel => exact HV4.out.put (8 + k) _ (HV4.out.car.setSeen k hk33)
      case rest =>
        clear HV1
        have HV1 := Lib.hid hcut
        clear hcut
        go_wp2_with fail
        obtain ⟨i0, hi, hz0, hz1, hz2⟩ := info_parts infoTime
        obtain ⟨j0, hj, hy0, hy1, hy2⟩ := info_parts infoInt
        have HV2 := Lib.hid (HV1.out.later ((Below.refl _ wc).drew))
        have hSn : Holds (cellsV b z (h + s.d) tv lv t) wc.drew := HV2.out.holdsV
        refine wp_until (S := Holds (cellsV b z (h + s.d) tv lv t)) (m := 21) (by kernel_rfl) ?_
        generalize wc.drew = wd at *
        unfold cellsV at *
        refine until_take (i := 0) (oi := ?oz469) (v := ?vz469) ?iz469 (by kernel_rfl) (by kernel_rfl) (by kernel_rfl) (by kernel_rfl) (by kernel_rfl) ?qz469 (Or.inl ⟨?gz469, ?hz469⟩) (by assumption) ?rz469
        case iz469 => (simp only [List.getElem?_toArray, List.getElem?_cons_zero]; rfl)
        case qz469 => exact fun _ _ _ h => h
        case gz469 => rfl
        case hz469 => (intro w hSw; (simp only [Holds] at hSw); go_simp <;> with_reducible rfl)
        simp only [Act.put, List.setIfInBounds_toArray, List.set_cons_zero, List.set_cons_succ]
        refine until_take (i := 2) (oi := ?oz470) (v := ?vz470) ?iz470 (by kernel_rfl) (by kernel_rfl) (by kernel_rfl) (by kernel_rfl) (by kernel_rfl) ?qz470 (Or.inl ⟨?gz470, ?hz470⟩) (by assumption) ?rz470
        case iz470 => (simp only [List.getElem?_toArray, List.getElem?_cons_zero, List.getElem?_cons_succ]; rfl)
        case qz470 => exact fun _ _ _ h => h
        case gz470 => rfl
        case hz470 => (intro w hSw; (simp only [Holds] at hSw); go_simp <;> with_reducible rfl)
        simp only [Act.put, List.setIfInBounds_toArray, List.set_cons_zero, List.set_cons_succ]
        refine until_take (i := 3) (oi := ?oz471) (v := ?vz471) ?iz471 (by kernel_rfl) (by kernel_rfl) (by kernel_rfl) (by kernel_rfl) (by kernel_rfl) ?qz471 (Or.inl ⟨?gz471, ?hz471⟩) (by assumption) ?rz471
        case iz471 => (simp only [List.getElem?_toArray, List.getElem?_cons_zero, List.getElem?_cons_succ]; rfl)
        case qz471 => exact fun _ _ _ h => h
        case gz471 => rfl
        case hz471 => (intro w hSw; (simp only [Holds] at hSw); go_simp <;> with_reducible rfl)
        simp only [Act.put, List.setIfInBounds_toArray, List.set_cons_zero, List.set_cons_succ]
        refine until_take (i := 4) (oi := ?oz472) (v := ?vz472) ?iz472 (by kernel_rfl) (by kernel_rfl) (by kernel_rfl) (by kernel_rfl) (by kernel_rfl) ?qz472 (Or.inl ⟨?gz472, ?hz472⟩) (by assumption) ?rz472
        case iz472 => (simp only [List.getElem?_toArray, List.getElem?_cons_zero, List.getElem?_cons_succ]; rfl)
        case qz472 => exact fun _ _ _ h => h
        case gz472 => rfl
        case hz472 => (intro w hSw; (simp only [Holds] at hSw); go_simp <;> with_reducible rfl)
        simp only [Act.put, List.setIfInBounds_toArray, List.set_cons_zero, List.set_cons_succ]
        refine until_take (i := 5) (oi := ?oz473) (v := ?vz473) ?iz473 (by kernel_rfl) (by kernel_rfl) (by kernel_rfl) (by kernel_rfl) (by kernel_rfl) ?qz473 (Or.inl ⟨?gz473, ?hz473⟩) (by assumption) ?rz473
        case iz473 => (simp only [List.getElem?_toArray, List.getElem?_cons_zero, List.getElem?_cons_succ]; rfl)
        case qz473 => exact fun _ _ _ h => h
        case gz473 => rfl
        case hz473 => (intro w hSw; (simp only [Holds] at hSw); go_simp <;> with_reducible rfl)
        simp only [Act.put, List.setIfInBounds_toArray, List.set_cons_zero, List.set_cons_succ]
        refine until_take (i := 6) (oi := ?oz474) (v := ?vz474) ?iz474 (by kernel_rfl) (by kernel_rfl) (by kernel_rfl) (by kernel_rfl) (by kernel_rfl) ?qz474 (Or.inl ⟨?gz474, ?hz474⟩) (by assumption) ?rz474
        case iz474 => (simp only [List.getElem?_toArray, List.getElem?_cons_zero, List.getElem?_cons_succ]; rfl)
        case qz474 => exact fun _ _ _ h => h
        case gz474 => rfl
        case hz474 => (intro w hSw; (simp only [Holds] at hSw); go_simp <;> with_reducible rfl)
        simp only [Act.put, List.setIfInBounds_toArray, List.set_cons_zero, List.set_cons_succ]
        refine anyhow_take (i := 1) (oi := ?oz475) (v := ?vz475) ?iz475 (by kernel_rfl) (by kernel_rfl) (by kernel_rfl) (by decide) ?qz475 (Or.inl ⟨?gz475, ?hz475⟩) (Or.inr (by assumption)) ?rz475
        case iz475 => (simp only [List.getElem?_toArray, List.getElem?_cons_zero, List.getElem?_cons_succ]; rfl)
        case qz475 => exact fun _ _ _ h => h
        case gz475 => rfl
        case hz475 => (intro w hSw; clear hSw; go_simp <;> with_reducible rfl)
        simp only [Act.put, List.setIfInBounds_toArray, List.set_cons_zero, List.set_cons_succ]
        refine anyhow_take (i := 9) (oi := ?oz476) (v := ?vz476) ?iz476 (by kernel_rfl) (by kernel_rfl) (by kernel_rfl) (by decide) ?qz476 (Or.inl ⟨?gz476, ?hz476⟩) (Or.inr (by assumption)) ?rz476
        case iz476 => (simp only [List.getElem?_toArray, List.getElem?_cons_zero, List.getElem?_cons_succ]; rfl)
        case qz476 => exact fun _ _ _ h => h
        case gz476 => rfl
        case hz476 => (intro w hSw; clear hSw; go_simp <;> with_reducible rfl)
        simp only [Act.put, List.setIfInBounds_toArray, List.set_cons_zero, List.set_cons_succ]
        refine anyhow_take (i := 10) (oi := ?oz477) (v := ?vz477) ?iz477 (by kernel_rfl) (by kernel_rfl) (by kernel_rfl) (by decide) ?qz477 (Or.inl ⟨?gz477, ?hz477⟩) (Or.inr (by assumption)) ?rz477
        case iz477 => (simp only [List.getElem?_toArray, List.getElem?_cons_zero, List.getElem?_cons_succ]; rfl)
        case qz477 => exact fun _ _ _ h => h
        case gz477 => rfl
        case hz477 => (intro w hSw; clear hSw; go_simp <;> with_reducible rfl)
        simp only [Act.put, List.setIfInBounds_toArray, List.set_cons_zero, List.set_cons_succ]
        refine anyhow_take (i := 11) (oi := ?oz478) (v := ?vz478) ?iz478 (by kernel_rfl) (by kernel_rfl) (by kernel_rfl) (by decide) ?qz478 (Or.inl ⟨?gz478, ?hz478⟩) (Or.inr (by assumption)) ?rz478
        case iz478 => (simp only [List.getElem?_toArray, List.getElem?_cons_zero, List.getElem?_cons_succ]; rfl)
        case qz478 => exact fun _ _ _ h => h
        case gz478 => rfl
        case hz478 => (intro w hSw; clear hSw; go_simp <;> with_reducible rfl)
        simp only [Act.put, List.setIfInBounds_toArray, List.set_cons_zero, List.set_cons_succ]
        refine anyhow_take (i := 13) (oi := ?oz479) (v := ?vz479) ?iz479 (by kernel_rfl) (by kernel_rfl) (by kernel_rfl) (by decide) ?qz479 (Or.inl ⟨?gz479, ?hz479⟩) (Or.inr (by assumption)) ?rz479
        case iz479 => (simp only [List.getElem?_toArray, List.getElem?_cons_zero, List.getElem?_cons_succ]; rfl)
        case qz479 => exact fun _ _ _ h => h
        case gz479 => rfl
        case hz479 => (intro w hSw; clear hSw; go_simp <;> with_reducible rfl)
        simp only [Act.put, List.setIfInBounds_toArray, List.set_cons_zero, List.set_cons_succ]
        refine anyhow_take (i := 14) (oi := ?oz480) (v := ?vz480) ?iz480 (by kernel_rfl) (by kernel_rfl) (by kernel_rfl) (by decide) ?qz480 (Or.inl ⟨?gz480, ?hz480⟩) (Or.inr (by assumption)) ?rz480
        case iz480 => (simp only [List.getElem?_toArray, List.getElem?_cons_zero, List.getElem?_cons_succ]; rfl)
        case qz480 => exact fun _ _ _ h => h
        case gz480 => rfl
        case hz480 => (intro w hSw; clear hSw; go_simp <;> with_reducible rfl)
        simp only [Act.put, List.setIfInBounds_toArray, List.set_cons_zero, List.set_cons_succ]
        refine anyhow_take (i := 15) (oi := ?oz481) (v := ?vz481) ?iz481 (by kernel_rfl) (by kernel_rfl) (by kernel_rfl) (by decide) ?qz481 (Or.inl ⟨?gz481, ?hz481⟩) (Or.inr (by assumption)) ?rz481
        case iz481 => (simp only [List.getElem?_toArray, List.getElem?_cons_zero, List.getElem?_cons_succ]; rfl)
        case qz481 => exact fun _ _ _ h => h
        case gz481 => rfl
        case hz481 => (intro w hSw; clear hSw; go_simp <;> with_reducible rfl)
        simp only [Act.put, List.setIfInBounds_toArray, List.set_cons_zero, List.set_cons_succ]
        refine until_take (i := 12) (oi := ?oz482) (v := ?vz482) ?iz482 (by kernel_rfl) (by kernel_rfl) (by kernel_rfl) (by kernel_rfl) (by kernel_rfl) ?qz482 (Or.inl ⟨?gz482, ?hz482⟩) (by assumption) ?rz482
        case iz482 => (simp only [List.getElem?_toArray, List.getElem?_cons_zero, List.getElem?_cons_succ]; rfl)
        case qz482 => exact fun _ _ _ h => h
        case gz482 => rfl
        case hz482 => (intro w hSw; (simp only [Holds] at hSw); go_simp <;> with_reducible rfl)
        simp only [Act.put, List.setIfInBounds_toArray, List.set_cons_zero, List.set_cons_succ]
        refine until_take (i := 16) (oi := ?oz483) (v := ?vz483) ?iz483 (by kernel_rfl) (by kernel_rfl) (by kernel_rfl) (by kernel_rfl) (by kernel_rfl) ?qz483 (Or.inl ⟨?gz483, ?hz483⟩) (by assumption) ?rz483
        case iz483 => (simp only [List.getElem?_toArray, List.getElem?_cons_zero, List.getElem?_cons_succ]; rfl)
        case qz483 => exact fun _ _ _ h => h
        case gz483 => rfl
        case hz483 => (intro w hSw; (simp only [Holds] at hSw); go_simp <;> with_reducible rfl)
        simp only [Act.put, List.setIfInBounds_toArray, List.set_cons_zero, List.set_cons_succ]
        refine until_ready (rs := [7, 17]) (by kernel_rfl) (by simp) ?_
        refine (NextU.cons (o := ?oz484) ?iz484 (fun K hK => ?kz484) (NextU.cons (o := ?oz485) ?iz485 (fun K hK => ?kz485) NextU.nil))
        case iz484 => (simp only [List.getElem?_toArray, List.getElem?_cons_zero, List.getElem?_cons_succ]; rfl)
        case iz485 => (simp only [List.getElem?_toArray, List.getElem?_cons_zero, List.getElem?_cons_succ]; rfl)
        · go_simp
          have HV3 := Lib.hid (HV2.out.later ((Below.refl _ wd).alloc (Nat.le_refl _) (.cells #[.int .i64 t.come, .int .i64 t.begn, .int .i64 t.leave] 37)))
          have N7 := Lib.hid (heap_alloc_new wd (.cells #[.int .i64 t.come, .int .i64 t.begn, .int .i64 t.leave] 37))
          generalize wd.alloc (.cells #[.int .i64 t.come, .int .i64 t.begn, .int .i64 t.leave] 37) = w3 at *
          generalize wd.heap.size = s7 at *
          refine hK.out _ _ HV3.out.holdsV (fun hSn => ?_)
          clear hK
          refine until_ready (rs := [8, 17]) (by kernel_rfl) (by simp) ?_
          refine (NextU.cons (o := ?oz486) ?iz486 (fun K hK => ?kz486) (NextU.cons (o := ?oz487) ?iz487 (fun K hK => ?kz487) NextU.nil))
          case iz486 => (simp only [List.getElem?_toArray, List.getElem?_cons_zero, List.getElem?_cons_succ]; rfl)
          case iz487 => (simp only [List.getElem?_toArray, List.getElem?_cons_zero, List.getElem?_cons_succ]; rfl)
          · skip
            simp only [Act.put, List.setIfInBounds_toArray, List.set_cons_zero, List.set_cons_succ]
            rw [if_pos (by rfl)]
            refine wp_append_lies _ _ _ _ (by rfl) w0.heap.size 37 i0 _ 3 24 Try.underlying27 hi hz0 hz1 hz2 rfl (by decide) tv T.length (flatT T) (by rfl) HV3.out.ts ⟨s7, 0, none⟩ 1 1 (rowT t) (by rfl) rfl (World.news_of_block N7.out) (rowT_one t) (by decide) (by unfold maxLen; omega) (by omega) HV3.out.bel.size _ rfl ?_
            intro g2 cp2 wt hown hgrow hgg _
            have HV4 := Lib.hid (HV3.out.moreT (ownT_more hown) hgrow (hgg.elim (fun e => .inl e.symm) (fun e => .inr (by rw [e]; rfl))))
            clear hown hgrow hgg
            refine hK.out _ _ HV4.out.holdsV (fun hSn => ?_)
            clear hK
            refine until_ready (rs := [17]) (by kernel_rfl) (by simp) ?_
            refine (NextU.cons (o := ?oz488) ?iz488 (fun K hK => ?kz488) NextU.nil)
            case iz488 => (simp only [List.getElem?_toArray, List.getElem?_cons_zero, List.getElem?_cons_succ]; rfl)
            go_simp
            have HV5 := Lib.hid (HV4.out.later ((Below.refl _ wt).alloc (Nat.le_refl _) (.cells #[.int .i64 (h + s.d)] 3)))
            have N17 := Lib.hid (heap_alloc_new wt (.cells #[.int .i64 (h + s.d)] 3))
            generalize wt.alloc (.cells #[.int .i64 (h + s.d)] 3) = w5 at *
            generalize wt.heap.size = s17 at *
            refine hK.out _ _ HV5.out.holdsV (fun hSn => ?_)
            clear hK
            refine until_ready (rs := [18]) (by kernel_rfl) (by simp) ?_
            refine (NextU.cons (o := ?oz489) ?iz489 (fun K hK => ?kz489) NextU.nil)
            case iz489 => (simp only [List.getElem?_toArray, List.getElem?_cons_zero, List.getElem?_cons_succ]; rfl)
            simp only [Act.put, List.setIfInBounds_toArray, List.set_cons_zero, List.set_cons_succ]
            rw [if_pos (by rfl)]
            refine wp_append_lies _ _ _ _ (by rfl) w0.heap.size 3 j0 _ 1 8 Try.underlying25 hj hy0 hy1 hy2 rfl (by decide) lv Q.length (ints Q) (by rfl) HV5.out.ls ⟨s17, 0, none⟩ 1 1 [.int .i64 (h + s.d)] (by rfl) rfl (World.news_of_block N17.out) (by simp; rfl) (by decide) (by unfold maxLen; omega) (by omega) HV5.out.bel.size _ rfl ?_
            intro g3 cp3 wi hown hgrow _ _
            have HV6 := Lib.hid (HV5.out.moreI (ownI_more hown) hgrow)
            clear hown hgrow
            refine hK.out _ _ HV6.out.holdsV (fun hSn => ?_)
            clear hK
            refine anyhow_take (i := 19) (oi := ?oz490) (v := ?vz490) ?iz490 (by kernel_rfl) (by kernel_rfl) (by kernel_rfl) (by decide) ?qz490 (Or.inl ⟨?gz490, ?hz490⟩) (Or.inr (by assumption)) ?rz490
            case iz490 => (simp only [List.getElem?_toArray, List.getElem?_cons_zero, List.getElem?_cons_succ]; rfl)
            case qz490 => exact fun _ _ _ h => h
            case gz490 => rfl
            case hz490 => (intro w hSw; clear hSw; go_simp <;> with_reducible rfl)
            simp only [Act.put, List.setIfInBounds_toArray, List.set_cons_zero, List.set_cons_succ]
            refine until_take (i := 20) (oi := ?oz491) (v := ?vz491) ?iz491 (by kernel_rfl) (by kernel_rfl) (by kernel_rfl) (by kernel_rfl) (by kernel_rfl) ?qz491 (Or.inl ⟨?gz491, ?hz491⟩) (by assumption) ?rz491
            case iz491 => (simp only [List.getElem?_toArray, List.getElem?_cons_zero, List.getElem?_cons_succ]; rfl)
            case qz491 => exact fun _ _ _ h => h
            case gz491 => rfl
            case hz491 => (intro w hSw; (simp only [Holds] at hSw); go_simp <;> with_reducible rfl)
            simp only [Act.put, List.setIfInBounds_toArray, List.set_cons_zero, List.set_cons_succ]
            have q41 := HV6.out.car.ct
            have f41 := HV6.out.car.free 41
            refine until_ready (rs := [21]) (by kernel_rfl) (by simp) ?_
            refine (NextU.late (o := ?oz492) ?iz492 (by first | exact Or.inl rfl | exact Or.inr (by kernel_rfl)) (fun K hK => ?kz492) NextU.nil)
            case iz492 => (simp only [List.getElem?_toArray, List.getElem?_cons_zero, List.getElem?_cons_succ]; rfl)
            go_simp
            have HV7 := Lib.hid (HV6.out.put 41 _ (HV6.out.car.setTimes (.slice (some ⟨g2, 0, none⟩) (T.length + 1) cp2)))
            generalize wi.setCell ⟨b, 41, none⟩ (.slice (some ⟨g2, 0, none⟩) (T.length + 1) cp2) = wj at *
            refine hK.out _ _ ?_
            clear hK q41 f41 hSn
            refine anyhow_take (i := 22) (oi := ?oz493) (v := ?vz493) ?iz493 (by kernel_rfl) (by kernel_rfl) (by kernel_rfl) (by decide) ?qz493 (Or.inl ⟨?gz493, ?hz493⟩) (Or.inl (by kernel_rfl)) ?rz493
            case iz493 => (simp only [List.getElem?_toArray, List.getElem?_cons_zero, List.getElem?_cons_succ]; rfl)
            case qz493 => exact fun _ _ _ h => h
            case gz493 => rfl
            case hz493 => (intro w hSw; clear hSw; go_simp <;> with_reducible rfl)
            simp only [Act.put, List.setIfInBounds_toArray, List.set_cons_zero, List.set_cons_succ]
            refine anyhow_take (i := 23) (oi := ?oz494) (v := ?vz494) ?iz494 (by kernel_rfl) (by kernel_rfl) (by kernel_rfl) (by decide) ?qz494 (Or.inl ⟨?gz494, ?hz494⟩) (Or.inl (by kernel_rfl)) ?rz494
            case iz494 => (simp only [List.getElem?_toArray, List.getElem?_cons_zero, List.getElem?_cons_succ]; rfl)
            case qz494 => exact fun _ _ _ h => h
            case gz494 => rfl
            case hz494 => (intro w hSw; clear hSw; go_simp <;> with_reducible rfl)
            simp only [Act.put, List.setIfInBounds_toArray, List.set_cons_zero, List.set_cons_succ]
            have q42 := HV7.out.car.cl
            have f42 := HV7.out.car.free 42
            refine until_ready (rs := [24]) (by kernel_rfl) (by simp) ?_
            refine (NextU.late (o := ?oz495) ?iz495 (by first | exact Or.inl rfl | exact Or.inr (by kernel_rfl)) (fun K hK => ?kz495) NextU.nil)
            case iz495 => (simp only [List.getElem?_toArray, List.getElem?_cons_zero, List.getElem?_cons_succ]; rfl)
            go_simp
            have HV8 := Lib.hid (HV7.out.put 42 _ (HV7.out.car.setLoads (.slice (some ⟨g3, 0, none⟩) (Q.length + 1) cp3)))
            generalize wj.setCell ⟨b, 42, none⟩ (.slice (some ⟨g3, 0, none⟩) (Q.length + 1) cp3) = wl at *
            refine hK.out _ _ ?_
            clear hK
            refine until_done (by kernel_rfl) ?_ _
            go_wp2
            exact bodyPost_end (v := .tuple #[]) (by simp [results, Try.results17, go_sem]) rfl ⟨rfl, _, _, by rw [HT.out, HD.out, HSS.out]; exact ⟨HV8.out.car, HV8.out.ts, HV8.out.ls, HV8.out.bel⟩⟩
          · go_simp
            have HV4 := Lib.hid (HV3.out.later ((Below.refl _ w3).alloc (Nat.le_refl _) (.cells #[.int .i64 (h + s.d)] 3)))
            have N17 := Lib.hid (heap_alloc_new w3 (.cells #[.int .i64 (h + s.d)] 3))
            have hs7 : s7 < w3.heap.size := (Array.getElem?_eq_some_iff.1 N7.out).1
            have N7 := Lib.hid ((heap_alloc_old w3 (.cells #[.int .i64 (h + s.d)] 3) hs7).trans N7.out)
            generalize w3.alloc (.cells #[.int .i64 (h + s.d)] 3) = w4 at *
            generalize w3.heap.size = s17 at *
            refine hK.out _ _ HV4.out.holdsV (fun hSn => ?_)
            clear hK
            refine until_ready (rs := [8]) (by kernel_rfl) (by simp) ?_
            refine (NextU.cons (o := ?oz496) ?iz496 (fun K hK => ?kz496) NextU.nil)
            case iz496 => (simp only [List.getElem?_toArray, List.getElem?_cons_zero, List.getElem?_cons_succ]; rfl)
            simp only [Act.put, List.setIfInBounds_toArray, List.set_cons_zero, List.set_cons_succ]
            rw [if_pos (by rfl)]
            refine wp_append_lies _ _ _ _ (by rfl) w0.heap.size 37 i0 _ 3 24 Try.underlying27 hi hz0 hz1 hz2 rfl (by decide) tv T.length (flatT T) (by rfl) HV4.out.ts ⟨s7, 0, none⟩ 1 1 (rowT t) (by rfl) rfl (World.news_of_block N7.out) (rowT_one t) (by decide) (by unfold maxLen; omega) (by omega) HV4.out.bel.size _ rfl ?_
            intro g2 cp2 wt hown hgrow hgg _
            have HV5 := Lib.hid (HV4.out.moreT (ownT_more hown) hgrow (hgg.elim (fun e => .inl e.symm) (fun e => .inr (by rw [e]; rfl))))
            have N17 := Lib.hid (show wt.heap[s17]? = some (.cells #[.int .i64 (h + s.d)] 3 (0, 0)) by rw [hgrow.block s17 ((Array.getElem?_eq_some_iff.1 N17.out).1) (fun e => own_ne (show OwnT w4 w0.heap.size tv T from HV4.out.ts) N17.out (by decide) e.symm)]; exact N17.out)
            clear hown hgrow hgg
            refine hK.out _ _ HV5.out.holdsV (fun hSn => ?_)
            clear hK
            refine until_ready (rs := [18]) (by kernel_rfl) (by simp) ?_
            refine (NextU.cons (o := ?oz497) ?iz497 (fun K hK => ?kz497) NextU.nil)
            case iz497 => (simp only [List.getElem?_toArray, List.getElem?_cons_zero, List.getElem?_cons_succ]; rfl)
            simp only [Act.put, List.setIfInBounds_toArray, List.set_cons_zero, List.set_cons_succ]
            rw [if_pos (by rfl)]
            refine wp_append_lies _ _ _ _ (by rfl) w0.heap.size 3 j0 _ 1 8 Try.underlying25 hj hy0 hy1 hy2 rfl (by decide) lv Q.length (ints Q) (by rfl) HV5.out.ls ⟨s17, 0, none⟩ 1 1 [.int .i64 (h + s.d)] (by rfl) rfl (World.news_of_block N17.out) (by simp; rfl) (by decide) (by unfold maxLen; omega) (by omega) HV5.out.bel.size _ rfl ?_
            intro g3 cp3 wi hown hgrow _ _
            have HV6 := Lib.hid (HV5.out.moreI (ownI_more hown) hgrow)
            clear hown hgrow
            refine hK.out _ _ HV6.out.holdsV (fun hSn => ?_)
            clear hK
            refine anyhow_take (i := 19) (oi := ?oz498) (v := ?vz498) ?iz498 (by kernel_rfl) (by kernel_rfl) (by kernel_rfl) (by decide) ?qz498 (Or.inl ⟨?gz498, ?hz498⟩) (Or.inr (by assumption)) ?rz498
            case iz498 => (simp only [List.getElem?_toArray, List.getElem?_cons_zero, List.getElem?_cons_succ]; rfl)
            case qz498 => exact fun _ _ _ h => h
            case gz498 => rfl
            case hz498 => (intro w hSw; clear hSw; go_simp <;> with_reducible rfl)
            simp only [Act.put, List.setIfInBounds_toArray, List.set_cons_zero, List.set_cons_succ]
            refine until_take (i := 20) (oi := ?oz499) (v := ?vz499) ?iz499 (by kernel_rfl) (by kernel_rfl) (by kernel_rfl) (by kernel_rfl) (by kernel_rfl) ?qz499 (Or.inl ⟨?gz499, ?hz499⟩) (by assumption) ?rz499
            case iz499 => (simp only [List.getElem?_toArray, List.getElem?_cons_zero, List.getElem?_cons_succ]; rfl)
            case qz499 => exact fun _ _ _ h => h
            case gz499 => rfl
            case hz499 => (intro w hSw; (simp only [Holds] at hSw); go_simp <;> with_reducible rfl)
            simp only [Act.put, List.setIfInBounds_toArray, List.set_cons_zero, List.set_cons_succ]
            have q41 := HV6.out.car.ct
            have f41 := HV6.out.car.free 41
            refine until_ready (rs := [21]) (by kernel_rfl) (by simp) ?_
            refine (NextU.late (o := ?oz500) ?iz500 (by first | exact Or.inl rfl | exact Or.inr (by kernel_rfl)) (fun K hK => ?kz500) NextU.nil)
            case iz500 => (simp only [List.getElem?_toArray, List.getElem?_cons_zero, List.getElem?_cons_succ]; rfl)
            go_simp
            have HV7 := Lib.hid (HV6.out.put 41 _ (HV6.out.car.setTimes (.slice (some ⟨g2, 0, none⟩) (T.length + 1) cp2)))
            generalize wi.setCell ⟨b, 41, none⟩ (.slice (some ⟨g2, 0, none⟩) (T.length + 1) cp2) = wj at *
            refine hK.out _ _ ?_
            clear hK q41 f41 hSn
            refine anyhow_take (i := 22) (oi := ?oz501) (v := ?vz501) ?iz501 (by kernel_rfl) (by kernel_rfl) (by kernel_rfl) (by decide) ?qz501 (Or.inl ⟨?gz501, ?hz501⟩) (Or.inl (by kernel_rfl)) ?rz501
            case iz501 => (simp only [List.getElem?_toArray, List.getElem?_cons_zero, List.getElem?_cons_succ]; rfl)
            case qz501 => exact fun _ _ _ h => h
            case gz501 => rfl
            case hz501 => (intro w hSw; clear hSw; go_simp <;> with_reducible rfl)
            simp only [Act.put, List.setIfInBounds_toArray, List.set_cons_zero, List.set_cons_succ]
            refine anyhow_take (i := 23) (oi := ?oz502) (v := ?vz502) ?iz502 (by kernel_rfl) (by kernel_rfl) (by kernel_rfl) (by decide) ?qz502 (Or.inl ⟨?gz502, ?hz502⟩) (Or.inl (by kernel_rfl)) ?rz502
            case iz502 => (simp only [List.getElem?_toArray, List.getElem?_cons_zero, List.getElem?_cons_succ]; rfl)
            case qz502 => exact fun _ _ _ h => h
            case gz502 => rfl
            case hz502 => (intro w hSw; clear hSw; go_simp <;> with_reducible rfl)
            simp only [Act.put, List.setIfInBounds_toArray, List.set_cons_zero, List.set_cons_succ]
            have q42 := HV7.out.car.cl
            have f42 := HV7.out.car.free 42
            refine until_ready (rs := [24]) (by kernel_rfl) (by simp) ?_
            refine (NextU.late (o := ?oz503) ?iz503 (by first | exact Or.inl rfl | exact Or.inr (by kernel_rfl)) (fun K hK => ?kz503) NextU.nil)
            case iz503 => (simp only [List.getElem?_toArray, List.getElem?_cons_zero, List.getElem?_cons_succ]; rfl)
            go_simp
            have HV8 := Lib.hid (HV7.out.put 42 _ (HV7.out.car.setLoads (.slice (some ⟨g3, 0, none⟩) (Q.length + 1) cp3)))
            generalize wj.setCell ⟨b, 42, none⟩ (.slice (some ⟨g3, 0, none⟩) (Q.length + 1) cp3) = wl at *
            refine hK.out _ _ ?_
            clear hK
            refine until_done (by kernel_rfl) ?_ _
            go_wp2
            exact bodyPost_end (v := .tuple #[]) (by simp [results, Try.results17, go_sem]) rfl ⟨rfl, _, _, by rw [HT.out, HD.out, HSS.out]; exact ⟨HV8.out.car, HV8.out.ts, HV8.out.ls, HV8.out.bel⟩⟩
        · go_simp
          have HV3 := Lib.hid (HV2.out.later ((Below.refl _ wd).alloc (Nat.le_refl _) (.cells #[.int .i64 (h + s.d)] 3)))
          have N17 := Lib.hid (heap_alloc_new wd (.cells #[.int .i64 (h + s.d)] 3))
          generalize wd.alloc (.cells #[.int .i64 (h + s.d)] 3) = w3 at *
          generalize wd.heap.size = s17 at *
          refine hK.out _ _ HV3.out.holdsV (fun hSn => ?_)
          clear hK
          refine until_ready (rs := [7]) (by kernel_rfl) (by simp) ?_
          refine (NextU.cons (o := ?oz504) ?iz504 (fun K hK => ?kz504) NextU.nil)
          case iz504 => (simp only [List.getElem?_toArray, List.getElem?_cons_zero, List.getElem?_cons_succ]; rfl)
          go_simp
          have HV4 := Lib.hid (HV3.out.later ((Below.refl _ w3).alloc (Nat.le_refl _) (.cells #[.int .i64 t.come, .int .i64 t.begn, .int .i64 t.leave] 37)))
          have N7 := Lib.hid (heap_alloc_new w3 (.cells #[.int .i64 t.come, .int .i64 t.begn, .int .i64 t.leave] 37))
          have hs17 : s17 < w3.heap.size := (Array.getElem?_eq_some_iff.1 N17.out).1
          have N17 := Lib.hid ((heap_alloc_old w3 (.cells #[.int .i64 t.come, .int .i64 t.begn, .int .i64 t.leave] 37) hs17).trans N17.out)
          generalize w3.alloc (.cells #[.int .i64 t.come, .int .i64 t.begn, .int .i64 t.leave] 37) = w4 at *
          generalize w3.heap.size = s7 at *
          refine hK.out _ _ HV4.out.holdsV (fun hSn => ?_)
          clear hK
          refine until_ready (rs := [8]) (by kernel_rfl) (by simp) ?_
          refine (NextU.cons (o := ?oz505) ?iz505 (fun K hK => ?kz505) NextU.nil)
          case iz505 => (simp only [List.getElem?_toArray, List.getElem?_cons_zero, List.getElem?_cons_succ]; rfl)
          simp only [Act.put, List.setIfInBounds_toArray, List.set_cons_zero, List.set_cons_succ]
          rw [if_pos (by rfl)]
          refine wp_append_lies _ _ _ _ (by rfl) w0.heap.size 37 i0 _ 3 24 Try.underlying27 hi hz0 hz1 hz2 rfl (by decide) tv T.length (flatT T) (by rfl) HV4.out.ts ⟨s7, 0, none⟩ 1 1 (rowT t) (by rfl) rfl (World.news_of_block N7.out) (rowT_one t) (by decide) (by unfold maxLen; omega) (by omega) HV4.out.bel.size _ rfl ?_
          intro g2 cp2 wt hown hgrow hgg _
          have HV5 := Lib.hid (HV4.out.moreT (ownT_more hown) hgrow (hgg.elim (fun e => .inl e.symm) (fun e => .inr (by rw [e]; rfl))))
          have N17 := Lib.hid (show wt.heap[s17]? = some (.cells #[.int .i64 (h + s.d)] 3 (0, 0)) by rw [hgrow.block s17 ((Array.getElem?_eq_some_iff.1 N17.out).1) (fun e => own_ne (show OwnT w4 w0.heap.size tv T from HV4.out.ts) N17.out (by decide) e.symm)]; exact N17.out)
          clear hown hgrow hgg
          refine hK.out _ _ HV5.out.holdsV (fun hSn => ?_)
          clear hK
          refine until_ready (rs := [18]) (by kernel_rfl) (by simp) ?_
          refine (NextU.cons (o := ?oz506) ?iz506 (fun K hK => ?kz506) NextU.nil)
          case iz506 => (simp only [List.getElem?_toArray, List.getElem?_cons_zero, List.getElem?_cons_succ]; rfl)
          simp only [Act.put, List.setIfInBounds_toArray, List.set_cons_zero, List.set_cons_succ]
          rw [if_pos (by rfl)]
          refine wp_append_lies _ _ _ _ (by rfl) w0.heap.size 3 j0 _ 1 8 Try.underlying25 hj hy0 hy1 hy2 rfl (by decide) lv Q.length (ints Q) (by rfl) HV5.out.ls ⟨s17, 0, none⟩ 1 1 [.int .i64 (h + s.d)] (by rfl) rfl (World.news_of_block N17.out) (by simp; rfl) (by decide) (by unfold maxLen; omega) (by omega) HV5.out.bel.size _ rfl ?_
          intro g3 cp3 wi hown hgrow _ _
          have HV6 := Lib.hid (HV5.out.moreI (ownI_more hown) hgrow)
          clear hown hgrow
          refine hK.out _ _ HV6.out.holdsV (fun hSn => ?_)
          clear hK
          refine anyhow_take (i := 19) (oi := ?oz507) (v := ?vz507) ?iz507 (by kernel_rfl) (by kernel_rfl) (by kernel_rfl) (by decide) ?qz507 (Or.inl ⟨?gz507, ?hz507⟩) (Or.inr (by assumption)) ?rz507
          case iz507 => (simp only [List.getElem?_toArray, List.getElem?_cons_zero, List.getElem?_cons_succ]; rfl)
          case qz507 => exact fun _ _ _ h => h
          case gz507 => rfl
          case hz507 => (intro w hSw; clear hSw; go_simp <;> with_reducible rfl)
          simp only [Act.put, List.setIfInBounds_toArray, List.set_cons_zero, List.set_cons_succ]
          refine until_take (i := 20) (oi := ?oz508) (v := ?vz508) ?iz508 (by kernel_rfl) (by kernel_rfl) (by kernel_rfl) (by kernel_rfl) (by kernel_rfl) ?qz508 (Or.inl ⟨?gz508, ?hz508⟩) (by assumption) ?rz508
          case iz508 => (simp only [List.getElem?_toArray, List.getElem?_cons_zero, List.getElem?_cons_succ]; rfl)
          case qz508 => exact fun _ _ _ h => h
          case gz508 => rfl
          case hz508 => (intro w hSw; (simp only [Holds] at hSw); go_simp <;> with_reducible rfl)
          simp only [Act.put, List.setIfInBounds_toArray, List.set_cons_zero, List.set_cons_succ]
          have q41 := HV6.out.car.ct
          have f41 := HV6.out.car.free 41
          refine until_ready (rs := [21]) (by kernel_rfl) (by simp) ?_
          refine (NextU.late (o := ?oz509) ?iz509 (by first | exact Or.inl rfl | exact Or.inr (by kernel_rfl)) (fun K hK => ?kz509) NextU.nil)
          case iz509 => (simp only [List.getElem?_toArray, List.getElem?_cons_zero, List.getElem?_cons_succ]; rfl)
          go_simp
          have HV7 := Lib.hid (HV6.out.put 41 _ (HV6.out.car.setTimes (.slice (some ⟨g2, 0, none⟩) (T.length + 1) cp2)))
          generalize wi.setCell ⟨b, 41, none⟩ (.slice (some ⟨g2, 0, none⟩) (T.length + 1) cp2) = wj at *
          refine hK.out _ _ ?_
          clear hK q41 f41 hSn
          refine anyhow_take (i := 22) (oi := ?oz510) (v := ?vz510) ?iz510 (by kernel_rfl) (by kernel_rfl) (by kernel_rfl) (by decide) ?qz510 (Or.inl ⟨?gz510, ?hz510⟩) (Or.inl (by kernel_rfl)) ?rz510
          case iz510 => (simp only [List.getElem?_toArray, List.getElem?_cons_zero, List.getElem?_cons_succ]; rfl)
          case qz510 => exact fun _ _ _ h => h
          case gz510 => rfl
          case hz510 => (intro w hSw; clear hSw; go_simp <;> with_reducible rfl)
          simp only [Act.put, List.setIfInBounds_toArray, List.set_cons_zero, List.set_cons_succ]
          refine anyhow_take (i := 23) (oi := ?oz511) (v := ?vz511) ?iz511 (by kernel_rfl) (by kernel_rfl) (by kernel_rfl) (by decide) ?qz511 (Or.inl ⟨?gz511, ?hz511⟩) (Or.inl (by kernel_rfl)) ?rz511
          case iz511 => (simp only [List.getElem?_toArray, List.getElem?_cons_zero, List.getElem?_cons_succ]; rfl)
          case qz511 => exact fun _ _ _ h => h
          case gz511 => rfl
          case hz511 => (intro w hSw; clear hSw; go_simp <;> with_reducible rfl)
          simp only [Act.put, List.setIfInBounds_toArray, List.set_cons_zero, List.set_cons_succ]
          have q42 := HV7.out.car.cl
          have f42 := HV7.out.car.free 42
          refine until_ready (rs := [24]) (by kernel_rfl) (by simp) ?_
          refine (NextU.late (o := ?oz512) ?iz512 (by first | exact Or.inl rfl | exact Or.inr (by kernel_rfl)) (fun K hK => ?kz512) NextU.nil)
          case iz512 => (simp only [List.getElem?_toArray, List.getElem?_cons_zero, List.getElem?_cons_succ]; rfl)
          go_simp
          have HV8 := Lib.hid (HV7.out.put 42 _ (HV7.out.car.setLoads (.slice (some ⟨g3, 0, none⟩) (Q.length + 1) cp3)))
          generalize wj.setCell ⟨b, 42, none⟩ (.slice (some ⟨g3, 0, none⟩) (Q.length + 1) cp3) = wl at *
          refine hK.out _ _ ?_
          clear hK
          refine until_done (by kernel_rfl) ?_ _
          go_wp2
          exact bodyPost_end (v := .tuple #[]) (by simp [results, Try.results17, go_sem]) rfl ⟨rfl, _, _, by rw [HT.out, HD.out, HSS.out]; exact ⟨HV8.out.car, HV8.out.ts, HV8.out.ls, HV8.out.bel⟩⟩
end Go.Proofs.Ytjnmiibefhcfeaa
