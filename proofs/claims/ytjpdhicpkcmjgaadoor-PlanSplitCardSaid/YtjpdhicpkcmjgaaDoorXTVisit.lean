/- What a car's visit leaves. -/
import Derived.Test.YtjpdhicpkcmjgaaDoorTWrong
import Derived.Test.YtjpdhicpkcmjgaaDoorTUntil
import Derived.Deep.Cut
import Derived.Deep.AppendLies
namespace Go.Proofs.YtjpdhicpkcmjgaaDoor
open Go.ChangeShapes Go.WideShapes Go.ChangeAt Go.RowKit

/-- A car on its way: its box, the rows that it owns (what its box says of them may be older), and a time in a box of its own. -/
structure VJ (w0 : World) (b z : Nat) (I : Ins) (sv : Value) (a n g h : Int) (S : List Bool) (tb lb tv lv : Value) (T : List Tm) (Q : List Int) (t : Tm) (w : World) : Prop where
  base : w0.heap.size ≤ b ∧ w0.heap.size ≤ z ∧ z ≠ b
  car : CarB w b I sv a n g h S tb lb
  tim : w.heap[z]? = some (.cells #[.int .i64 t.come, .int .i64 t.begn, .int .i64 t.leave] 82 (0, 0))
  ts : OwnT w w0.heap.size tv T
  ls : OwnI w w0.heap.size lv Q
  ap : tv.ownBlock ≠ some z
  bel : Below w0.heap.size w0 w
def cellsZ (z : Nat) (t : Tm) : List (Addr × Value) := [(⟨z, 0, none⟩, .int .i64 t.come), (⟨z, 1, none⟩, .int .i64 t.begn), (⟨z, 2, none⟩, .int .i64 t.leave)]
section
variable {w0 w w' : World} {b z : Nat} {I : Ins} {sv : Value} {a n g h : Int} {S : List Bool} {tb lb tv lv : Value} {T : List Tm} {Q : List Int} {t : Tm}
theorem VJ.ltz (k : VJ w0 b z I sv a n g h S tb lb tv lv T Q t w) : z < w.heap.size := (Array.getElem?_eq_some_iff.1 k.tim).1
theorem VJ.holdsZ (k : VJ w0 b z I sv a n g h S tb lb tv lv T Q t w) : Holds (cellsZ z t) w := by
  have hc : ∀ i, w.cell? ⟨z, i, none⟩ = [Value.int .i64 t.come, .int .i64 t.begn, .int .i64 t.leave][i]? := fun i => by rw [cell_of_row w z i _ _ _ k.tim]; simp
  exact ⟨hc 0, hc 1, hc 2, trivial⟩
def cellsV (b z : Nat) (h : Int) (tb lb : Value) (t : Tm) : List (Addr × Value) := [(⟨b, 7, none⟩, .int .i64 h), (⟨b, 41, none⟩, tb), (⟨b, 42, none⟩, lb), (⟨z, 0, none⟩, .int .i64 t.come), (⟨z, 1, none⟩, .int .i64 t.begn), (⟨z, 2, none⟩, .int .i64 t.leave)]
theorem VJ.holdsV (k : VJ w0 b z I sv a n g h S tb lb tv lv T Q t w) : Holds (cellsV b z h tb lb t) w := ⟨k.car.c7, k.car.ct, k.car.cl, k.holdsZ⟩
theorem VJ.later (k : VJ w0 b z I sv a n g h S tb lb tv lv T Q t w) (hb : Below w.heap.size w w') : VJ w0 b z I sv a n g h S tb lb tv lv T Q t w' :=
  ⟨k.base, k.car.later hb, by rw [hb.block z k.ltz]; exact k.tim, k.ts.below hb, k.ls.below hb, k.ap, k.bel.trans (hb.mono k.bel.size)⟩
theorem own_car {e : TypeId} {s m : Nat} {u : Value} {xs : List Value} {B : Nat} (k : CarB w b I sv a n g h S tb lb) (ho : w.ownsRow B e s u m xs) (he : e ≠ 68) : u.ownBlock ≠ some b := own_ne ho k.2 he
/-- A cell of its box is stored. -/
theorem VJ.put (k : VJ w0 b z I sv a n g h S tb lb tv lv T Q t w) (i : Nat) (u : Value) {a2 n2 g2 h2 : Int} {S2 : List Bool} {tb2 lb2 : Value} (hc : CarB (w.setCell ⟨b, i, none⟩ u) b I sv a2 n2 g2 h2 S2 tb2 lb2) :
    VJ w0 b z I sv a2 n2 g2 h2 S2 tb2 lb2 tv lv T Q t (w.setCell ⟨b, i, none⟩ u) := by
  have hg : w.grownBy (w.setCell ⟨b, i, none⟩ u) (some b) := ⟨rfl, rfl, rfl, by simp [World.setCell], fun j _ hj => heap_setCell_other w ⟨b, i, none⟩ j _ (fun e => hj (by rw [e]))⟩
  refine ⟨k.base, hc, ?_, k.ts.kept hg (.inr (own_car k.car k.ts (by decide))), ?_, k.ap, k.bel.setCell k.base.1 u⟩
  · rw [heap_setCell_other w ⟨b, i, none⟩ z u (fun e => k.base.2.2 e)]; exact k.tim
  · have h1 : w.ownsRow w0.heap.size 3 1 lv Q.length (ints Q) := k.ls
    exact h1.kept hg (.inr (own_car k.car h1 (by decide)))
/-- The times have grown. -/
theorem VJ.moreT (k : VJ w0 b z I sv a n g h S tb lb tv lv T Q t w) {tv2 : Value} {T2 : List Tm} (ho : OwnT w' w0.heap.size tv2 T2) (hg : w.grownBy w' tv.ownBlock) (hn : tv2.ownBlock = tv.ownBlock ∨ tv2.ownBlock = some w.heap.size) :
    VJ w0 b z I sv a n g h S tb lb tv2 lv T2 Q t w' := by
  have h1 : w.ownsRow w0.heap.size 3 1 lv Q.length (ints Q) := k.ls
  have h2 : w.ownsRow w0.heap.size 82 3 tv T.length (flatT T) := k.ts
  refine ⟨k.base, k.car.grown hg (own_car k.car k.ts (by decide)), ?_, ho, h1.kept hg (own_diff h1 h2 (by decide)), ?_, k.bel.grown hg k.bel.size (fun j hj => (World.ownsRow.lt h2 j hj).1)⟩
  · rw [hg.block z k.ltz (fun e => k.ap e.symm)]; exact k.tim
  · rcases hn with e | e
    · rw [e]; exact k.ap
    · rw [e]; intro e2; simp at e2; have := k.ltz; omega
/-- The loads have grown. -/
theorem VJ.moreI (k : VJ w0 b z I sv a n g h S tb lb tv lv T Q t w) {lv2 : Value} {Q2 : List Int} (ho : OwnI w' w0.heap.size lv2 Q2) (hg : w.grownBy w' lv.ownBlock) :
    VJ w0 b z I sv a n g h S tb lb tv lv2 T Q2 t w' := by
  have h1 : w.ownsRow w0.heap.size 3 1 lv Q.length (ints Q) := k.ls
  have h2 : w.ownsRow w0.heap.size 82 3 tv T.length (flatT T) := k.ts
  refine ⟨k.base, k.car.grown hg (own_car k.car h1 (by decide)), ?_, k.ts.kept hg (own_diff h2 h1 (by decide)), ho, k.ap, k.bel.grown hg k.bel.size (fun j hj => (World.ownsRow.lt h1 j hj).1)⟩
  rw [hg.block z k.ltz (fun e => own_ne h1 k.tim (by decide) e.symm)]; exact k.tim
end
theorem ownT_more {w : World} {B g n cp : Nat} {l : List Tm} {t : Tm} (h : w.ownsRow B 82 3 (.slice (some ⟨g, 0, none⟩) n cp) (l.length + 1) (flatT l ++ rowT t)) : OwnT w B (.slice (some ⟨g, 0, none⟩) n cp) (l ++ [t]) := by
  unfold OwnT
  rw [List.length_append, flatT_append]
  simpa [flatT] using h
theorem ownI_more {w : World} {B g n cp : Nat} {l : List Int} {x : Int} (h : w.ownsRow B 3 1 (.slice (some ⟨g, 0, none⟩) n cp) (l.length + 1) (ints l ++ [.int .i64 x])) : OwnI w B (.slice (some ⟨g, 0, none⟩) n cp) (l ++ [x]) := by
  unfold OwnI
  rw [List.length_append, show ints (l ++ [x]) = ints l ++ [.int .i64 x] by simp [ints]]
  exact h
theorem rowT_one (t : Tm) : ∀ u ∈ rowT t, u.oneCell' = true := fun u hu => flatT_one [t] u (by rw [flatT]; simp [hu])
end Go.Proofs.YtjpdhicpkcmjgaaDoor
/- What a car's visit leaves: the walk. -/
namespace Go.Proofs.YtjpdhicpkcmjgaaDoor
open Go.ChangeShapes Go.WideShapes Go.ChangeAt Go.RowKit

set_option maxRecDepth 1000000 in
set_option maxHeartbeats 4000000 in
theorem visit_any {w0 w : World} {b : Nat} {I : Ins} {sv : Value} {a k : Nat} {n g h : Int} {S : List Bool} {tv lv : Value} {T : List Tm} {Q : List Int} (hc : CarB w b I sv a n g h S tv lv) (hb0 : w0.heap.size ≤ b) (hT : OwnT w w0.heap.size tv T) (hQ : OwnI w w0.heap.size lv Q)
    (hbel : Below w0.heap.size w0 w) (hr : SRow w0 sv I.l) (ha : a < I.l.length) (hk : k < I.l.length) (hk33 : k < 33) (hn : 0 ≤ n ∧ n ≤ 2000000) (hs : stopOk (stp I k) = true) (hg : 0 ≤ g ∧ g ≤ 1000000000) (hh : -1000000 ≤ h + (stp I k).d ∧ h + (stp I k).d ≤ 1000000) (hTl : T.length ≤ 1000) (hQl : Q.length ≤ 1000) :
    Calls Tryd.prog 68 #[.pointer (some ⟨b, 0, none⟩), .int .i64 k] w fun e w' => e = .returned (.tuple #[]) ∧ ∃ tv' lv', CarB w' b I sv k (tmN n (stp I a) (stp I k)).leave (g + farF (stp I a) (stp I k)) (h + (stp I k).d) (S.set k true) tv' lv' ∧
      OwnT w' w0.heap.size tv' (T ++ [tmN n (stp I a) (stp I k)]) ∧ OwnI w' w0.heap.size lv' (Q ++ [h + (stp I k).d]) ∧ Below w0.heap.size w0 w' := by
  have HC := Lib.hid hc
  have HR := Lib.hid hr
  have HQ := Lib.hid hQ
  have HTm := Lib.hid hT
  have HBL := Lib.hid hbel
  obtain ⟨t, ht⟩ : ∃ t, tmN n (stp I a) (stp I k) = t := ⟨_, rfl⟩
  have HT := Lib.hid ht
  have hfb := farF_bd (stp I a) (stp I k)
  obtain ⟨d, hd⟩ : ∃ d, farF (stp I a) (stp I k) = d := ⟨_, rfl⟩
  have HD := Lib.hid hd
  rw [hd] at hfb
  have e1 : IntKind.i64.wrap (g + d) = g + d := IntWalk.i64_in _ (by omega)
  have e2 : IntKind.i64.wrap (h + (stp I k).d) = h + (stp I k).d := IntWalk.i64_in _ (by omega)
  clear hc hr hQ hT hbel ht hd hfb hg hh
  go_enter Tryd.func68, Tryd.ntmps68
  go_wp2_with fail
  refine (timeAt_any HC.out (HR.out.below HBL.out) ha hk hn hs).mono ?_
  rw [HT.out]
  rintro e w1 ⟨rfl, hb⟩
  have HV1 := Lib.hid (show VJ w0 b w1.heap.size I sv a n g h S tv lv tv lv T Q t (w1.alloc (.cells #[.int .i64 t.come, .int .i64 t.begn, .int .i64 t.leave] 82)) from by
    have hlt := HC.out.lt
    have hsz := hb.size
    have h2 : w.ownsRow w0.heap.size 82 3 tv T.length (flatT T) := HTm.out
    have hall := hb.trans (((Below.refl _ w1).alloc (Nat.le_refl _) (.cells #[.int .i64 t.come, .int .i64 t.begn, .int .i64 t.leave] 82)).mono hsz)
    exact ⟨⟨hb0, by have := HBL.out.size; omega, by omega⟩, HC.out.later hall, heap_alloc_new w1 _, HTm.out.below hall, HQ.out.below hall, fun e => by have := (World.ownsRow.lt h2 _ e).2; omega, HBL.out.trans (hall.mono HBL.out.size)⟩)
  unfold timeV
  go_wp2_with fail
  clear hb
  generalize w1.alloc (.cells #[.int .i64 t.come, .int .i64 t.begn, .int .i64 t.leave] 82) = W at *
  generalize w1.heap.size = z at *
  go_cut [] from 5 (fun wx => VJ w0 b z I sv a n (g + d) h S tv lv tv lv T Q t wx)
  case first =>
    have HV2 := Lib.hid (HV1.out.later ((Below.refl _ W).drew))
    have hSn : Holds [(⟨b, 6, none⟩, .int .i64 g)] W.drew := ⟨HV2.out.car.c6, trivial⟩
    refine wp_until (S := Holds [(⟨b, 6, none⟩, .int .i64 g)]) (m := 10) (by kernel_rfl) ?_
    refine until_take (i := 0) (oi := ?oz113) (v := ?vz113) ?iz113 (by kernel_rfl) (by kernel_rfl) (by kernel_rfl) (by kernel_rfl) (by kernel_rfl) ?qz113 (Or.inl ⟨?gz113, ?hz113⟩) (by assumption) ?rz113
    case iz113 => (simp only [List.getElem?_toArray, List.getElem?_cons_zero]; rfl)
    case qz113 => exact fun _ _ _ h => h
    case gz113 => rfl
    case hz113 => (intro w hSw; (simp only [Holds] at hSw); go_simp <;> with_reducible rfl)
    simp only [Act.put, List.setIfInBounds_toArray, List.set_cons_zero, List.set_cons_succ]
    refine until_take (i := 1) (oi := ?oz114) (v := ?vz114) ?iz114 (by kernel_rfl) (by kernel_rfl) (by kernel_rfl) (by kernel_rfl) (by kernel_rfl) ?qz114 (Or.inl ⟨?gz114, ?hz114⟩) (by assumption) ?rz114
    case iz114 => (simp only [List.getElem?_toArray, List.getElem?_cons_zero, List.getElem?_cons_succ]; rfl)
    case qz114 => exact fun _ _ _ h => h
    case gz114 => rfl
    case hz114 => (intro w hSw; (simp only [Holds] at hSw); go_simp <;> with_reducible rfl)
    simp only [Act.put, List.setIfInBounds_toArray, List.set_cons_zero, List.set_cons_succ]
    refine until_take (i := 2) (oi := ?oz115) (v := ?vz115) ?iz115 (by kernel_rfl) (by kernel_rfl) (by kernel_rfl) (by kernel_rfl) (by kernel_rfl) ?qz115 (Or.inl ⟨?gz115, ?hz115⟩) (by assumption) ?rz115
    case iz115 => (simp only [List.getElem?_toArray, List.getElem?_cons_zero, List.getElem?_cons_succ]; rfl)
    case qz115 => exact fun _ _ _ h => h
    case gz115 => rfl
    case hz115 => (intro w hSw; (simp only [Holds] at hSw); go_simp <;> with_reducible rfl)
    simp only [Act.put, List.setIfInBounds_toArray, List.set_cons_zero, List.set_cons_succ]
    refine until_take (i := 3) (oi := ?oz116) (v := ?vz116) ?iz116 (by kernel_rfl) (by kernel_rfl) (by kernel_rfl) (by kernel_rfl) (by kernel_rfl) ?qz116 (Or.inl ⟨?gz116, ?hz116⟩) (by assumption) ?rz116
    case iz116 => (simp only [List.getElem?_toArray, List.getElem?_cons_zero, List.getElem?_cons_succ]; rfl)
    case qz116 => exact fun _ _ _ h => h
    case gz116 => rfl
    case hz116 => (intro w hSw; (simp only [Holds] at hSw); go_simp <;> with_reducible rfl)
    simp only [Act.put, List.setIfInBounds_toArray, List.set_cons_zero, List.set_cons_succ]
    refine until_take (i := 4) (oi := ?oz117) (v := ?vz117) ?iz117 (by kernel_rfl) (by kernel_rfl) (by kernel_rfl) (by kernel_rfl) (by kernel_rfl) ?qz117 (Or.inl ⟨?gz117, ?hz117⟩) (by assumption) ?rz117
    case iz117 => (simp only [List.getElem?_toArray, List.getElem?_cons_zero, List.getElem?_cons_succ]; rfl)
    case qz117 => exact fun _ _ _ h => h
    case gz117 => rfl
    case hz117 => (intro w hSw; (simp only [Holds] at hSw); go_simp <;> with_reducible rfl)
    simp only [Act.put, List.setIfInBounds_toArray, List.set_cons_zero, List.set_cons_succ]
    refine until_take (i := 5) (oi := ?oz118) (v := ?vz118) ?iz118 (by kernel_rfl) (by kernel_rfl) (by kernel_rfl) (by kernel_rfl) (by kernel_rfl) ?qz118 (Or.inl ⟨?gz118, ?hz118⟩) (by assumption) ?rz118
    case iz118 => (simp only [List.getElem?_toArray, List.getElem?_cons_zero, List.getElem?_cons_succ]; rfl)
    case qz118 => exact fun _ _ _ h => h
    case gz118 => rfl
    case hz118 => (intro w hSw; (simp only [Holds] at hSw); go_simp <;> with_reducible rfl)
    simp only [Act.put, List.setIfInBounds_toArray, List.set_cons_zero, List.set_cons_succ]
    refine until_ready (rs := [6]) (by kernel_rfl) (by simp) ?_
    refine (NextU.cons (o := ?oz119) ?iz119 (fun K hK => ?kz119) NextU.nil)
    case iz119 => (simp only [List.getElem?_toArray, List.getElem?_cons_zero, List.getElem?_cons_succ]; rfl)
    go_simp
    refine (farTo_any HV2.out.car (HR.out.below HV2.out.bel) ha hk).mono ?_
    rw [HD.out]
    rintro e w2 ⟨rfl, hb⟩
    have HV3 := Lib.hid (HV2.out.later hb)
    clear hb hSn
    refine hK.out _ _ ⟨HV3.out.car.c6, trivial⟩ (fun hSn => ?_)
    clear hK
    refine until_take (i := 7) (oi := ?oz120) (v := ?vz120) ?iz120 (by kernel_rfl) (by kernel_rfl) (by kernel_rfl) (by kernel_rfl) (by kernel_rfl) ?qz120 (Or.inl ⟨?gz120, ?hz120⟩) (by assumption) ?rz120
    case iz120 => (simp only [List.getElem?_toArray, List.getElem?_cons_zero, List.getElem?_cons_succ]; rfl)
    case qz120 => exact fun _ _ _ h => h
    case gz120 => rfl
    case hz120 => (intro w hSw; (simp only [Holds] at hSw); go_simp <;> with_reducible rfl)
    simp only [Act.put, List.setIfInBounds_toArray, List.set_cons_zero, List.set_cons_succ]
    refine anyhow_take (i := 8) (oi := ?oz121) (v := ?vz121) ?iz121 (by kernel_rfl) (by kernel_rfl) (by kernel_rfl) (by decide) ?qz121 (Or.inl ⟨?gz121, ?hz121⟩) (Or.inr (by assumption)) ?rz121
    case iz121 => (simp only [List.getElem?_toArray, List.getElem?_cons_zero, List.getElem?_cons_succ]; rfl)
    case qz121 => exact fun _ _ _ h => h
    case gz121 => rfl
    case hz121 => (intro w hSw; clear hSw; go_simp <;> with_reducible rfl)
    simp only [Act.put, List.setIfInBounds_toArray, List.set_cons_zero, List.set_cons_succ]
    refine until_take (i := 9) (oi := ?oz122) (v := ?vz122) ?iz122 (by kernel_rfl) (by kernel_rfl) (by kernel_rfl) (by kernel_rfl) (by kernel_rfl) ?qz122 (Or.inl ⟨?gz122, ?hz122⟩) (by assumption) ?rz122
    case iz122 => (simp only [List.getElem?_toArray, List.getElem?_cons_zero, List.getElem?_cons_succ]; rfl)
    case qz122 => exact fun _ _ _ h => h
    case gz122 => rfl
    case hz122 => (intro w hSw; (simp only [Holds] at hSw); go_simp <;> with_reducible rfl)
    simp only [Act.put, List.setIfInBounds_toArray, List.set_cons_zero, List.set_cons_succ]
    have q6 := HV3.out.car.c6
    have f6 := HV3.out.car.free 6
    refine until_ready (rs := [10]) (by kernel_rfl) (by simp) ?_
    refine (NextU.late (o := ?oz123) ?iz123 (by first | exact Or.inl rfl | exact Or.inr (by kernel_rfl)) (fun K hK => ?kz123) NextU.nil)
    case iz123 => (simp only [List.getElem?_toArray, List.getElem?_cons_zero, List.getElem?_cons_succ]; rfl)
    go_simp
    refine hK.out _ _ ?_
    refine until_done (by kernel_rfl) ?_ _
    go_wp2_with fail
    go_meet
    case rel => exact HV3.out.put 6 _ (HV3.out.car.setGone _)
  case rest =>
    clear HV1
    have HV1 := Lib.hid hcut
    clear hcut
    go_wp2_with fail
    go_cut [] from 5 (fun wx => VJ w0 b z I sv a n (g + d) (h + (stp I k).d) S tv lv tv lv T Q t wx)
    case first =>
      have HV2 := Lib.hid (HV1.out.later ((Below.refl _ wc).drew))
      have HR2 := Lib.hid (HR.out.below HV2.out.bel)
      obtain ⟨ad, cap, rfl, _⟩ := HR.out.form
      obtain ⟨tb, off, rfl, hkt, hlt0⟩ := srow_at HR2.out k hk
      have HKT := Lib.hid (show At wc.drew tb (off + k * 6) (stp I k) from hkt)
      have hki : (k : Int) < (I.l.length : Int) := by omega
      clear hkt
      generalize stp I k = s at *
      have hSn : Holds ([(⟨b, 3, none⟩, .slice (some ⟨tb, off, none⟩) I.l.length cap), (⟨b, 7, none⟩, .int .i64 h)] ++ cellsF tb (off + k * 6) s) wc.drew := Holds.app.2 ⟨⟨HV2.out.car.c3, HV2.out.car.c7, trivial⟩, holds_at HKT.out⟩
      refine wp_until (S := Holds ([(⟨b, 3, none⟩, .slice (some ⟨tb, off, none⟩) I.l.length cap), (⟨b, 7, none⟩, .int .i64 h)] ++ cellsF tb (off + k * 6) s)) (m := 16) (by kernel_rfl) ?_
      simp only [cellsF, List.cons_append, List.nil_append] at *
      refine until_take (i := 0) (oi := ?oz124) (v := ?vz124) ?iz124 (by kernel_rfl) (by kernel_rfl) (by kernel_rfl) (by kernel_rfl) (by kernel_rfl) ?qz124 (Or.inl ⟨?gz124, ?hz124⟩) (by assumption) ?rz124
      case iz124 => (simp only [List.getElem?_toArray, List.getElem?_cons_zero]; rfl)
      case qz124 => exact fun _ _ _ h => h
      case gz124 => rfl
      case hz124 => (intro w hSw; (simp only [Holds] at hSw); go_simp <;> with_reducible rfl)
      simp only [Act.put, List.setIfInBounds_toArray, List.set_cons_zero, List.set_cons_succ]
      refine until_take (i := 1) (oi := ?oz125) (v := ?vz125) ?iz125 (by kernel_rfl) (by kernel_rfl) (by kernel_rfl) (by kernel_rfl) (by kernel_rfl) ?qz125 (Or.inl ⟨?gz125, ?hz125⟩) (by assumption) ?rz125
      case iz125 => (simp only [List.getElem?_toArray, List.getElem?_cons_zero, List.getElem?_cons_succ]; rfl)
      case qz125 => exact fun _ _ _ h => h
      case gz125 => rfl
      case hz125 => (intro w hSw; (simp only [Holds] at hSw); go_simp <;> with_reducible rfl)
      simp only [Act.put, List.setIfInBounds_toArray, List.set_cons_zero, List.set_cons_succ]
      refine until_take (i := 2) (oi := ?oz126) (v := ?vz126) ?iz126 (by kernel_rfl) (by kernel_rfl) (by kernel_rfl) (by kernel_rfl) (by kernel_rfl) ?qz126 (Or.inl ⟨?gz126, ?hz126⟩) (by assumption) ?rz126
      case iz126 => (simp only [List.getElem?_toArray, List.getElem?_cons_zero, List.getElem?_cons_succ]; rfl)
      case qz126 => exact fun _ _ _ h => h
      case gz126 => rfl
      case hz126 => (intro w hSw; (simp only [Holds] at hSw); go_simp <;> with_reducible rfl)
      simp only [Act.put, List.setIfInBounds_toArray, List.set_cons_zero, List.set_cons_succ]
      refine until_take (i := 3) (oi := ?oz127) (v := ?vz127) ?iz127 (by kernel_rfl) (by kernel_rfl) (by kernel_rfl) (by kernel_rfl) (by kernel_rfl) ?qz127 (Or.inl ⟨?gz127, ?hz127⟩) (by assumption) ?rz127
      case iz127 => (simp only [List.getElem?_toArray, List.getElem?_cons_zero, List.getElem?_cons_succ]; rfl)
      case qz127 => exact fun _ _ _ h => h
      case gz127 => rfl
      case hz127 => (intro w hSw; (simp only [Holds] at hSw); go_simp <;> with_reducible rfl)
      simp only [Act.put, List.setIfInBounds_toArray, List.set_cons_zero, List.set_cons_succ]
      refine until_take (i := 4) (oi := ?oz128) (v := ?vz128) ?iz128 (by kernel_rfl) (by kernel_rfl) (by kernel_rfl) (by kernel_rfl) (by kernel_rfl) ?qz128 (Or.inl ⟨?gz128, ?hz128⟩) (by assumption) ?rz128
      case iz128 => (simp only [List.getElem?_toArray, List.getElem?_cons_zero, List.getElem?_cons_succ]; rfl)
      case qz128 => exact fun _ _ _ h => h
      case gz128 => rfl
      case hz128 => (intro w hSw; (simp only [Holds] at hSw); go_simp <;> with_reducible rfl)
      simp only [Act.put, List.setIfInBounds_toArray, List.set_cons_zero, List.set_cons_succ]
      refine until_take (i := 5) (oi := ?oz129) (v := ?vz129) ?iz129 (by kernel_rfl) (by kernel_rfl) (by kernel_rfl) (by kernel_rfl) (by kernel_rfl) ?qz129 (Or.inl ⟨?gz129, ?hz129⟩) (by assumption) ?rz129
      case iz129 => (simp only [List.getElem?_toArray, List.getElem?_cons_zero, List.getElem?_cons_succ]; rfl)
      case qz129 => exact fun _ _ _ h => h
      case gz129 => rfl
      case hz129 => (intro w hSw; (simp only [Holds] at hSw); go_simp <;> with_reducible rfl)
      simp only [Act.put, List.setIfInBounds_toArray, List.set_cons_zero, List.set_cons_succ]
      refine until_take (i := 6) (oi := ?oz130) (v := ?vz130) ?iz130 (by kernel_rfl) (by kernel_rfl) (by kernel_rfl) (by kernel_rfl) (by kernel_rfl) ?qz130 (Or.inl ⟨?gz130, ?hz130⟩) (by assumption) ?rz130
      case iz130 => (simp only [List.getElem?_toArray, List.getElem?_cons_zero, List.getElem?_cons_succ]; rfl)
      case qz130 => exact fun _ _ _ h => h
      case gz130 => rfl
      case hz130 => (intro w hSw; (simp only [Holds] at hSw); go_simp <;> with_reducible rfl)
      simp only [Act.put, List.setIfInBounds_toArray, List.set_cons_zero, List.set_cons_succ]
      refine until_take (i := 7) (oi := ?oz131) (v := ?vz131) ?iz131 (by kernel_rfl) (by kernel_rfl) (by kernel_rfl) (by kernel_rfl) (by kernel_rfl) ?qz131 (Or.inl ⟨?gz131, ?hz131⟩) (by assumption) ?rz131
      case iz131 => (simp only [List.getElem?_toArray, List.getElem?_cons_zero, List.getElem?_cons_succ]; rfl)
      case qz131 => exact fun _ _ _ h => h
      case gz131 => rfl
      case hz131 => (intro w hSw; (simp only [Holds] at hSw); go_simp <;> with_reducible rfl)
      simp only [Act.put, List.setIfInBounds_toArray, List.set_cons_zero, List.set_cons_succ]
      refine until_take (i := 8) (oi := ?oz132) (v := ?vz132) ?iz132 (by kernel_rfl) (by kernel_rfl) (by kernel_rfl) (by kernel_rfl) (by kernel_rfl) ?qz132 (Or.inl ⟨?gz132, ?hz132⟩) (by assumption) ?rz132
      case iz132 => (simp only [List.getElem?_toArray, List.getElem?_cons_zero, List.getElem?_cons_succ]; rfl)
      case qz132 => exact fun _ _ _ h => h
      case gz132 => rfl
      case hz132 => (intro w hSw; (simp only [Holds] at hSw); go_simp <;> with_reducible rfl)
      simp only [Act.put, List.setIfInBounds_toArray, List.set_cons_zero, List.set_cons_succ]
      refine until_take (i := 9) (oi := ?oz133) (v := ?vz133) ?iz133 (by kernel_rfl) (by kernel_rfl) (by kernel_rfl) (by kernel_rfl) (by kernel_rfl) ?qz133 (Or.inl ⟨?gz133, ?hz133⟩) (by assumption) ?rz133
      case iz133 => (simp only [List.getElem?_toArray, List.getElem?_cons_zero, List.getElem?_cons_succ]; rfl)
      case qz133 => exact fun _ _ _ h => h
      case gz133 => rfl
      case hz133 => (intro w hSw; (simp only [Holds] at hSw); go_simp <;> with_reducible rfl)
      simp only [Act.put, List.setIfInBounds_toArray, List.set_cons_zero, List.set_cons_succ]
      refine until_take (i := 10) (oi := ?oz134) (v := ?vz134) ?iz134 (by kernel_rfl) (by kernel_rfl) (by kernel_rfl) (by kernel_rfl) (by kernel_rfl) ?qz134 (Or.inl ⟨?gz134, ?hz134⟩) (by assumption) ?rz134
      case iz134 => (simp only [List.getElem?_toArray, List.getElem?_cons_zero, List.getElem?_cons_succ]; rfl)
      case qz134 => exact fun _ _ _ h => h
      case gz134 => rfl
      case hz134 => (intro w hSw; (simp only [Holds] at hSw); go_simp <;> with_reducible rfl)
      simp only [Act.put, List.setIfInBounds_toArray, List.set_cons_zero, List.set_cons_succ]
      refine until_take (i := 11) (oi := ?oz135) (v := ?vz135) ?iz135 (by kernel_rfl) (by kernel_rfl) (by kernel_rfl) (by kernel_rfl) (by kernel_rfl) ?qz135 (Or.inl ⟨?gz135, ?hz135⟩) (by assumption) ?rz135
      case iz135 => (simp only [List.getElem?_toArray, List.getElem?_cons_zero, List.getElem?_cons_succ]; rfl)
      case qz135 => exact fun _ _ _ h => h
      case gz135 => rfl
      case hz135 => (intro w hSw; (simp only [Holds] at hSw); go_simp <;> with_reducible rfl)
      simp only [Act.put, List.setIfInBounds_toArray, List.set_cons_zero, List.set_cons_succ]
      refine until_take (i := 12) (oi := ?oz136) (v := ?vz136) ?iz136 (by kernel_rfl) (by kernel_rfl) (by kernel_rfl) (by kernel_rfl) (by kernel_rfl) ?qz136 (Or.inl ⟨?gz136, ?hz136⟩) (by assumption) ?rz136
      case iz136 => (simp only [List.getElem?_toArray, List.getElem?_cons_zero, List.getElem?_cons_succ]; rfl)
      case qz136 => exact fun _ _ _ h => h
      case gz136 => rfl
      case hz136 => (intro w hSw; (simp only [Holds] at hSw); go_simp <;> with_reducible rfl)
      simp only [Act.put, List.setIfInBounds_toArray, List.set_cons_zero, List.set_cons_succ]
      refine until_take (i := 13) (oi := ?oz137) (v := ?vz137) ?iz137 (by kernel_rfl) (by kernel_rfl) (by kernel_rfl) (by kernel_rfl) (by kernel_rfl) ?qz137 (Or.inl ⟨?gz137, ?hz137⟩) (by assumption) ?rz137
      case iz137 => (simp only [List.getElem?_toArray, List.getElem?_cons_zero, List.getElem?_cons_succ]; rfl)
      case qz137 => exact fun _ _ _ h => h
      case gz137 => rfl
      case hz137 => (intro w hSw; (simp only [Holds] at hSw); go_simp <;> with_reducible rfl)
      simp only [Act.put, List.setIfInBounds_toArray, List.set_cons_zero, List.set_cons_succ]
      refine anyhow_take (i := 14) (oi := ?oz138) (v := ?vz138) ?iz138 (by kernel_rfl) (by kernel_rfl) (by kernel_rfl) (by decide) ?qz138 (Or.inl ⟨?gz138, ?hz138⟩) (Or.inr (by assumption)) ?rz138
      case iz138 => (simp only [List.getElem?_toArray, List.getElem?_cons_zero, List.getElem?_cons_succ]; rfl)
      case qz138 => exact fun _ _ _ h => h
      case gz138 => rfl
      case hz138 => (intro w hSw; clear hSw; go_simp <;> with_reducible rfl)
      simp only [Act.put, List.setIfInBounds_toArray, List.set_cons_zero, List.set_cons_succ]
      refine until_take (i := 15) (oi := ?oz139) (v := ?vz139) ?iz139 (by kernel_rfl) (by kernel_rfl) (by kernel_rfl) (by kernel_rfl) (by kernel_rfl) ?qz139 (Or.inl ⟨?gz139, ?hz139⟩) (by assumption) ?rz139
      case iz139 => (simp only [List.getElem?_toArray, List.getElem?_cons_zero, List.getElem?_cons_succ]; rfl)
      case qz139 => exact fun _ _ _ h => h
      case gz139 => rfl
      case hz139 => (intro w hSw; (simp only [Holds] at hSw); go_simp <;> with_reducible rfl)
      simp only [Act.put, List.setIfInBounds_toArray, List.set_cons_zero, List.set_cons_succ]
      have q7 := HV2.out.car.c7
      have f7 := HV2.out.car.free 7
      refine until_ready (rs := [16]) (by kernel_rfl) (by simp) ?_
      refine (NextU.late (o := ?oz140) ?iz140 (by first | exact Or.inl rfl | exact Or.inr (by kernel_rfl)) (fun K hK => ?kz140) NextU.nil)
      case iz140 => (simp only [List.getElem?_toArray, List.getElem?_cons_zero, List.getElem?_cons_succ]; rfl)
      go_simp
      refine hK.out _ _ ?_
      refine until_done (by kernel_rfl) ?_ _
      go_wp2_with fail
      go_meet
      case rel => exact HV2.out.put 7 _ (HV2.out.car.setLoad _)
    case rest =>
      clear HV1
      have HV1 := Lib.hid hcut
      clear hcut e1 e2
      go_wp2_with fail
      obtain ⟨s, hss⟩ : ∃ s, stp I k = s := ⟨_, rfl⟩
      have HSS := Lib.hid hss
      rw [hss] at HV1
      clear hss
      go_cut [] from 5 (fun wx => VJ w0 b z I sv k t.leave (g + d) (h + s.d) (S.set k true) tv lv tv lv T Q t wx)
      case first =>
        have HV2 := Lib.hid (HV1.out.later ((Below.refl _ wc).drew))
        have hki : (k : Int) < 33 := by omega
        have hSn : Holds (cellsZ z t) wc.drew := HV2.out.holdsZ
        refine wp_until (S := Holds (cellsZ z t)) (m := 16) (by kernel_rfl) ?_
        generalize wc.drew = wd at *
        unfold cellsZ at *
        refine until_take (i := 0) (oi := ?oz141) (v := ?vz141) ?iz141 (by kernel_rfl) (by kernel_rfl) (by kernel_rfl) (by kernel_rfl) (by kernel_rfl) ?qz141 (Or.inl ⟨?gz141, ?hz141⟩) (by assumption) ?rz141
        case iz141 => (simp only [List.getElem?_toArray, List.getElem?_cons_zero]; rfl)
        case qz141 => exact fun _ _ _ h => h
        case gz141 => rfl
        case hz141 => (intro w hSw; (simp only [Holds] at hSw); go_simp <;> with_reducible rfl)
        simp only [Act.put, List.setIfInBounds_toArray, List.set_cons_zero, List.set_cons_succ]
        refine until_take (i := 1) (oi := ?oz142) (v := ?vz142) ?iz142 (by kernel_rfl) (by kernel_rfl) (by kernel_rfl) (by kernel_rfl) (by kernel_rfl) ?qz142 (Or.inl ⟨?gz142, ?hz142⟩) (by assumption) ?rz142
        case iz142 => (simp only [List.getElem?_toArray, List.getElem?_cons_zero, List.getElem?_cons_succ]; rfl)
        case qz142 => exact fun _ _ _ h => h
        case gz142 => rfl
        case hz142 => (intro w hSw; (simp only [Holds] at hSw); go_simp <;> with_reducible rfl)
        simp only [Act.put, List.setIfInBounds_toArray, List.set_cons_zero, List.set_cons_succ]
        refine until_take (i := 2) (oi := ?oz143) (v := ?vz143) ?iz143 (by kernel_rfl) (by kernel_rfl) (by kernel_rfl) (by kernel_rfl) (by kernel_rfl) ?qz143 (Or.inl ⟨?gz143, ?hz143⟩) (by assumption) ?rz143
        case iz143 => (simp only [List.getElem?_toArray, List.getElem?_cons_zero, List.getElem?_cons_succ]; rfl)
        case qz143 => exact fun _ _ _ h => h
        case gz143 => rfl
        case hz143 => (intro w hSw; (simp only [Holds] at hSw); go_simp <;> with_reducible rfl)
        simp only [Act.put, List.setIfInBounds_toArray, List.set_cons_zero, List.set_cons_succ]
        refine until_take (i := 3) (oi := ?oz144) (v := ?vz144) ?iz144 (by kernel_rfl) (by kernel_rfl) (by kernel_rfl) (by kernel_rfl) (by kernel_rfl) ?qz144 (Or.inl ⟨?gz144, ?hz144⟩) (by assumption) ?rz144
        case iz144 => (simp only [List.getElem?_toArray, List.getElem?_cons_zero, List.getElem?_cons_succ]; rfl)
        case qz144 => exact fun _ _ _ h => h
        case gz144 => rfl
        case hz144 => (intro w hSw; (simp only [Holds] at hSw); go_simp <;> with_reducible rfl)
        simp only [Act.put, List.setIfInBounds_toArray, List.set_cons_zero, List.set_cons_succ]
        refine until_take (i := 4) (oi := ?oz145) (v := ?vz145) ?iz145 (by kernel_rfl) (by kernel_rfl) (by kernel_rfl) (by kernel_rfl) (by kernel_rfl) ?qz145 (Or.inl ⟨?gz145, ?hz145⟩) (by assumption) ?rz145
        case iz145 => (simp only [List.getElem?_toArray, List.getElem?_cons_zero, List.getElem?_cons_succ]; rfl)
        case qz145 => exact fun _ _ _ h => h
        case gz145 => rfl
        case hz145 => (intro w hSw; (simp only [Holds] at hSw); go_simp <;> with_reducible rfl)
        simp only [Act.put, List.setIfInBounds_toArray, List.set_cons_zero, List.set_cons_succ]
        refine until_take (i := 5) (oi := ?oz146) (v := ?vz146) ?iz146 (by kernel_rfl) (by kernel_rfl) (by kernel_rfl) (by kernel_rfl) (by kernel_rfl) ?qz146 (Or.inl ⟨?gz146, ?hz146⟩) (by assumption) ?rz146
        case iz146 => (simp only [List.getElem?_toArray, List.getElem?_cons_zero, List.getElem?_cons_succ]; rfl)
        case qz146 => exact fun _ _ _ h => h
        case gz146 => rfl
        case hz146 => (intro w hSw; (simp only [Holds] at hSw); go_simp <;> with_reducible rfl)
        simp only [Act.put, List.setIfInBounds_toArray, List.set_cons_zero, List.set_cons_succ]
        refine until_take (i := 6) (oi := ?oz147) (v := ?vz147) ?iz147 (by kernel_rfl) (by kernel_rfl) (by kernel_rfl) (by kernel_rfl) (by kernel_rfl) ?qz147 (Or.inl ⟨?gz147, ?hz147⟩) (by assumption) ?rz147
        case iz147 => (simp only [List.getElem?_toArray, List.getElem?_cons_zero, List.getElem?_cons_succ]; rfl)
        case qz147 => exact fun _ _ _ h => h
        case gz147 => rfl
        case hz147 => (intro w hSw; (simp only [Holds] at hSw); go_simp <;> with_reducible rfl)
        simp only [Act.put, List.setIfInBounds_toArray, List.set_cons_zero, List.set_cons_succ]
        refine anyhow_take (i := 7) (oi := ?oz148) (v := ?vz148) ?iz148 (by kernel_rfl) (by kernel_rfl) (by kernel_rfl) (by decide) ?qz148 (Or.inl ⟨?gz148, ?hz148⟩) (Or.inr (by assumption)) ?rz148
        case iz148 => (simp only [List.getElem?_toArray, List.getElem?_cons_zero, List.getElem?_cons_succ]; rfl)
        case qz148 => exact fun _ _ _ h => h
        case gz148 => rfl
        case hz148 => (intro w hSw; clear hSw; go_simp <;> with_reducible rfl)
        simp only [Act.put, List.setIfInBounds_toArray, List.set_cons_zero, List.set_cons_succ]
        refine anyhow_take (i := 8) (oi := ?oz149) (v := ?vz149) ?iz149 (by kernel_rfl) (by kernel_rfl) (by kernel_rfl) (by decide) ?qz149 (Or.inl ⟨?gz149, ?hz149⟩) (Or.inr (by assumption)) ?rz149
        case iz149 => (simp only [List.getElem?_toArray, List.getElem?_cons_zero, List.getElem?_cons_succ]; rfl)
        case qz149 => exact fun _ _ _ h => h
        case gz149 => rfl
        case hz149 => (intro w hSw; clear hSw; go_simp <;> with_reducible rfl)
        simp only [Act.put, List.setIfInBounds_toArray, List.set_cons_zero, List.set_cons_succ]
        refine anyhow_take (i := 13) (oi := ?oz150) (v := ?vz150) ?iz150 (by kernel_rfl) (by kernel_rfl) (by kernel_rfl) (by decide) ?qz150 (Or.inl ⟨?gz150, ?hz150⟩) (Or.inr (by assumption)) ?rz150
        case iz150 => (simp only [List.getElem?_toArray, List.getElem?_cons_zero, List.getElem?_cons_succ]; rfl)
        case qz150 => exact fun _ _ _ h => h
        case gz150 => rfl
        case hz150 => (intro w hSw; clear hSw; go_simp <;> with_reducible rfl)
        simp only [Act.put, List.setIfInBounds_toArray, List.set_cons_zero, List.set_cons_succ]
        refine anyhow_take (i := 14) (oi := ?oz151) (v := ?vz151) ?iz151 (by kernel_rfl) (by kernel_rfl) (by kernel_rfl) (by decide) ?qz151 (Or.inl ⟨?gz151, ?hz151⟩) (Or.inr (by assumption)) ?rz151
        case iz151 => (simp only [List.getElem?_toArray, List.getElem?_cons_zero, List.getElem?_cons_succ]; rfl)
        case qz151 => exact fun _ _ _ h => h
        case gz151 => rfl
        case hz151 => (intro w hSw; clear hSw; go_simp <;> with_reducible rfl)
        simp only [Act.put, List.setIfInBounds_toArray, List.set_cons_zero, List.set_cons_succ]
        have q4 := HV2.out.car.c4
        have f4 := HV2.out.car.free 4
        refine until_ready (rs := [9]) (by kernel_rfl) (by simp) ?_
        refine (NextU.cons (o := ?oz152) ?iz152 (fun K hK => ?kz152) NextU.nil)
        case iz152 => (simp only [List.getElem?_toArray, List.getElem?_cons_zero, List.getElem?_cons_succ]; rfl)
        go_simp
        have HV3 := Lib.hid (HV2.out.put 4 _ (HV2.out.car.setAt k))
        generalize wd.setCell ⟨b, 4, none⟩ (.int .i64 k) = w4 at *
        refine hK.out _ _ HV3.out.holdsZ (fun hSn => ?_)
        clear hK q4 f4
        unfold cellsZ at *
        refine anyhow_take (i := 10) (oi := ?oz153) (v := ?vz153) ?iz153 (by kernel_rfl) (by kernel_rfl) (by kernel_rfl) (by decide) ?qz153 (Or.inl ⟨?gz153, ?hz153⟩) (Or.inr (by assumption)) ?rz153
        case iz153 => (simp only [List.getElem?_toArray, List.getElem?_cons_zero, List.getElem?_cons_succ]; rfl)
        case qz153 => exact fun _ _ _ h => h
        case gz153 => rfl
        case hz153 => (intro w hSw; clear hSw; go_simp <;> with_reducible rfl)
        simp only [Act.put, List.setIfInBounds_toArray, List.set_cons_zero, List.set_cons_succ]
        refine anyhow_take (i := 11) (oi := ?oz154) (v := ?vz154) ?iz154 (by kernel_rfl) (by kernel_rfl) (by kernel_rfl) (by decide) ?qz154 (Or.inl ⟨?gz154, ?hz154⟩) (Or.inr (by assumption)) ?rz154
        case iz154 => (simp only [List.getElem?_toArray, List.getElem?_cons_zero, List.getElem?_cons_succ]; rfl)
        case qz154 => exact fun _ _ _ h => h
        case gz154 => rfl
        case hz154 => (intro w hSw; clear hSw; go_simp <;> with_reducible rfl)
        simp only [Act.put, List.setIfInBounds_toArray, List.set_cons_zero, List.set_cons_succ]
        have q5 := HV3.out.car.c5
        have f5 := HV3.out.car.free 5
        refine until_ready (rs := [12]) (by kernel_rfl) (by simp) ?_
        refine (NextU.cons (o := ?oz155) ?iz155 (fun K hK => ?kz155) NextU.nil)
        case iz155 => (simp only [List.getElem?_toArray, List.getElem?_cons_zero, List.getElem?_cons_succ]; rfl)
        go_simp
        have HV4 := Lib.hid (HV3.out.put 5 _ (HV3.out.car.setLeft t.leave))
        generalize w4.setCell ⟨b, 5, none⟩ (.int .i64 t.leave) = w5 at *
        refine hK.out _ _ HV4.out.holdsZ (fun hSn => ?_)
        clear hK q5 f5
        unfold cellsZ at *
        refine until_take (i := 15) (oi := ?oz156) (v := ?vz156) ?iz156 (by kernel_rfl) (by kernel_rfl) (by kernel_rfl) (by kernel_rfl) (by kernel_rfl) ?qz156 (Or.inl ⟨?gz156, ?hz156⟩) (by assumption) ?rz156
        case iz156 => (simp only [List.getElem?_toArray, List.getElem?_cons_zero, List.getElem?_cons_succ]; rfl)
        case qz156 => exact fun _ _ _ h => h
        case gz156 => rfl
        case hz156 => (intro w hSw; (simp only [Holds] at hSw); go_simp <;> with_reducible rfl)
        simp only [Act.put, List.setIfInBounds_toArray, List.set_cons_zero, List.set_cons_succ]
        have q8 := HV4.out.car.cs k hk33
        have f8 := HV4.out.car.free (8 + k)
        refine until_ready (rs := [16]) (by kernel_rfl) (by simp) ?_
        refine (NextU.late (o := ?oz157) ?iz157 (by first | exact Or.inl rfl | exact Or.inr (by kernel_rfl)) (fun K hK => ?kz157) NextU.nil)
        case iz157 => (simp only [List.getElem?_toArray, List.getElem?_cons_zero, List.getElem?_cons_succ]; rfl)
        go_simp
        refine hK.out _ _ ?_
        refine until_done (by kernel_rfl) ?_ _
        go_wp2_with fail
        go_meet
        case rel => exact HV4.out.put (8 + k) _ (HV4.out.car.setSeen k hk33)
      case rest =>
        clear HV1
        have HV1 := Lib.hid hcut
        clear hcut
        go_wp2_with fail
        obtain ⟨i0, hi, hz0, hz1, hz2⟩ := info_parts infoTime
        obtain ⟨j0, hj, hy0, hy1, hy2⟩ := info_parts infoInt
        have HV2 := Lib.hid (HV1.out.later ((Below.refl _ wc).drew))
        have hSn : Holds (cellsV b z (h + s.d) tv lv t) wc.drew := HV2.out.holdsV
        refine wp_until (S := Holds (cellsV b z (h + s.d) tv lv t)) (m := 21) (by kernel_rfl) ?_
        generalize wc.drew = wd at *
        unfold cellsV at *
        refine until_take (i := 0) (oi := ?oz158) (v := ?vz158) ?iz158 (by kernel_rfl) (by kernel_rfl) (by kernel_rfl) (by kernel_rfl) (by kernel_rfl) ?qz158 (Or.inl ⟨?gz158, ?hz158⟩) (by assumption) ?rz158
        case iz158 => (simp only [List.getElem?_toArray, List.getElem?_cons_zero]; rfl)
        case qz158 => exact fun _ _ _ h => h
        case gz158 => rfl
        case hz158 => (intro w hSw; (simp only [Holds] at hSw); go_simp <;> with_reducible rfl)
        simp only [Act.put, List.setIfInBounds_toArray, List.set_cons_zero, List.set_cons_succ]
        refine until_take (i := 2) (oi := ?oz159) (v := ?vz159) ?iz159 (by kernel_rfl) (by kernel_rfl) (by kernel_rfl) (by kernel_rfl) (by kernel_rfl) ?qz159 (Or.inl ⟨?gz159, ?hz159⟩) (by assumption) ?rz159
        case iz159 => (simp only [List.getElem?_toArray, List.getElem?_cons_zero, List.getElem?_cons_succ]; rfl)
        case qz159 => exact fun _ _ _ h => h
        case gz159 => rfl
        case hz159 => (intro w hSw; (simp only [Holds] at hSw); go_simp <;> with_reducible rfl)
        simp only [Act.put, List.setIfInBounds_toArray, List.set_cons_zero, List.set_cons_succ]
        refine until_take (i := 3) (oi := ?oz160) (v := ?vz160) ?iz160 (by kernel_rfl) (by kernel_rfl) (by kernel_rfl) (by kernel_rfl) (by kernel_rfl) ?qz160 (Or.inl ⟨?gz160, ?hz160⟩) (by assumption) ?rz160
        case iz160 => (simp only [List.getElem?_toArray, List.getElem?_cons_zero, List.getElem?_cons_succ]; rfl)
        case qz160 => exact fun _ _ _ h => h
        case gz160 => rfl
        case hz160 => (intro w hSw; (simp only [Holds] at hSw); go_simp <;> with_reducible rfl)
        simp only [Act.put, List.setIfInBounds_toArray, List.set_cons_zero, List.set_cons_succ]
        refine until_take (i := 4) (oi := ?oz161) (v := ?vz161) ?iz161 (by kernel_rfl) (by kernel_rfl) (by kernel_rfl) (by kernel_rfl) (by kernel_rfl) ?qz161 (Or.inl ⟨?gz161, ?hz161⟩) (by assumption) ?rz161
        case iz161 => (simp only [List.getElem?_toArray, List.getElem?_cons_zero, List.getElem?_cons_succ]; rfl)
        case qz161 => exact fun _ _ _ h => h
        case gz161 => rfl
        case hz161 => (intro w hSw; (simp only [Holds] at hSw); go_simp <;> with_reducible rfl)
        simp only [Act.put, List.setIfInBounds_toArray, List.set_cons_zero, List.set_cons_succ]
        refine until_take (i := 5) (oi := ?oz162) (v := ?vz162) ?iz162 (by kernel_rfl) (by kernel_rfl) (by kernel_rfl) (by kernel_rfl) (by kernel_rfl) ?qz162 (Or.inl ⟨?gz162, ?hz162⟩) (by assumption) ?rz162
        case iz162 => (simp only [List.getElem?_toArray, List.getElem?_cons_zero, List.getElem?_cons_succ]; rfl)
        case qz162 => exact fun _ _ _ h => h
        case gz162 => rfl
        case hz162 => (intro w hSw; (simp only [Holds] at hSw); go_simp <;> with_reducible rfl)
        simp only [Act.put, List.setIfInBounds_toArray, List.set_cons_zero, List.set_cons_succ]
        refine until_take (i := 6) (oi := ?oz163) (v := ?vz163) ?iz163 (by kernel_rfl) (by kernel_rfl) (by kernel_rfl) (by kernel_rfl) (by kernel_rfl) ?qz163 (Or.inl ⟨?gz163, ?hz163⟩) (by assumption) ?rz163
        case iz163 => (simp only [List.getElem?_toArray, List.getElem?_cons_zero, List.getElem?_cons_succ]; rfl)
        case qz163 => exact fun _ _ _ h => h
        case gz163 => rfl
        case hz163 => (intro w hSw; (simp only [Holds] at hSw); go_simp <;> with_reducible rfl)
        simp only [Act.put, List.setIfInBounds_toArray, List.set_cons_zero, List.set_cons_succ]
        refine anyhow_take (i := 1) (oi := ?oz164) (v := ?vz164) ?iz164 (by kernel_rfl) (by kernel_rfl) (by kernel_rfl) (by decide) ?qz164 (Or.inl ⟨?gz164, ?hz164⟩) (Or.inr (by assumption)) ?rz164
        case iz164 => (simp only [List.getElem?_toArray, List.getElem?_cons_zero, List.getElem?_cons_succ]; rfl)
        case qz164 => exact fun _ _ _ h => h
        case gz164 => rfl
        case hz164 => (intro w hSw; clear hSw; go_simp <;> with_reducible rfl)
        simp only [Act.put, List.setIfInBounds_toArray, List.set_cons_zero, List.set_cons_succ]
        refine anyhow_take (i := 9) (oi := ?oz165) (v := ?vz165) ?iz165 (by kernel_rfl) (by kernel_rfl) (by kernel_rfl) (by decide) ?qz165 (Or.inl ⟨?gz165, ?hz165⟩) (Or.inr (by assumption)) ?rz165
        case iz165 => (simp only [List.getElem?_toArray, List.getElem?_cons_zero, List.getElem?_cons_succ]; rfl)
        case qz165 => exact fun _ _ _ h => h
        case gz165 => rfl
        case hz165 => (intro w hSw; clear hSw; go_simp <;> with_reducible rfl)
        simp only [Act.put, List.setIfInBounds_toArray, List.set_cons_zero, List.set_cons_succ]
        refine anyhow_take (i := 10) (oi := ?oz166) (v := ?vz166) ?iz166 (by kernel_rfl) (by kernel_rfl) (by kernel_rfl) (by decide) ?qz166 (Or.inl ⟨?gz166, ?hz166⟩) (Or.inr (by assumption)) ?rz166
        case iz166 => (simp only [List.getElem?_toArray, List.getElem?_cons_zero, List.getElem?_cons_succ]; rfl)
        case qz166 => exact fun _ _ _ h => h
        case gz166 => rfl
        case hz166 => (intro w hSw; clear hSw; go_simp <;> with_reducible rfl)
        simp only [Act.put, List.setIfInBounds_toArray, List.set_cons_zero, List.set_cons_succ]
        refine anyhow_take (i := 11) (oi := ?oz167) (v := ?vz167) ?iz167 (by kernel_rfl) (by kernel_rfl) (by kernel_rfl) (by decide) ?qz167 (Or.inl ⟨?gz167, ?hz167⟩) (Or.inr (by assumption)) ?rz167
        case iz167 => (simp only [List.getElem?_toArray, List.getElem?_cons_zero, List.getElem?_cons_succ]; rfl)
        case qz167 => exact fun _ _ _ h => h
        case gz167 => rfl
        case hz167 => (intro w hSw; clear hSw; go_simp <;> with_reducible rfl)
        simp only [Act.put, List.setIfInBounds_toArray, List.set_cons_zero, List.set_cons_succ]
        refine anyhow_take (i := 13) (oi := ?oz168) (v := ?vz168) ?iz168 (by kernel_rfl) (by kernel_rfl) (by kernel_rfl) (by decide) ?qz168 (Or.inl ⟨?gz168, ?hz168⟩) (Or.inr (by assumption)) ?rz168
        case iz168 => (simp only [List.getElem?_toArray, List.getElem?_cons_zero, List.getElem?_cons_succ]; rfl)
        case qz168 => exact fun _ _ _ h => h
        case gz168 => rfl
        case hz168 => (intro w hSw; clear hSw; go_simp <;> with_reducible rfl)
        simp only [Act.put, List.setIfInBounds_toArray, List.set_cons_zero, List.set_cons_succ]
        refine anyhow_take (i := 14) (oi := ?oz169) (v := ?vz169) ?iz169 (by kernel_rfl) (by kernel_rfl) (by kernel_rfl) (by decide) ?qz169 (Or.inl ⟨?gz169, ?hz169⟩) (Or.inr (by assumption)) ?rz169
        case iz169 => (simp only [List.getElem?_toArray, List.getElem?_cons_zero, List.getElem?_cons_succ]; rfl)
        case qz169 => exact fun _ _ _ h => h
        case gz169 => rfl
        case hz169 => (intro w hSw; clear hSw; go_simp <;> with_reducible rfl)
        simp only [Act.put, List.setIfInBounds_toArray, List.set_cons_zero, List.set_cons_succ]
        refine anyhow_take (i := 15) (oi := ?oz170) (v := ?vz170) ?iz170 (by kernel_rfl) (by kernel_rfl) (by kernel_rfl) (by decide) ?qz170 (Or.inl ⟨?gz170, ?hz170⟩) (Or.inr (by assumption)) ?rz170
        case iz170 => (simp only [List.getElem?_toArray, List.getElem?_cons_zero, List.getElem?_cons_succ]; rfl)
        case qz170 => exact fun _ _ _ h => h
        case gz170 => rfl
        case hz170 => (intro w hSw; clear hSw; go_simp <;> with_reducible rfl)
        simp only [Act.put, List.setIfInBounds_toArray, List.set_cons_zero, List.set_cons_succ]
        refine until_take (i := 12) (oi := ?oz171) (v := ?vz171) ?iz171 (by kernel_rfl) (by kernel_rfl) (by kernel_rfl) (by kernel_rfl) (by kernel_rfl) ?qz171 (Or.inl ⟨?gz171, ?hz171⟩) (by assumption) ?rz171
        case iz171 => (simp only [List.getElem?_toArray, List.getElem?_cons_zero, List.getElem?_cons_succ]; rfl)
        case qz171 => exact fun _ _ _ h => h
        case gz171 => rfl
        case hz171 => (intro w hSw; (simp only [Holds] at hSw); go_simp <;> with_reducible rfl)
        simp only [Act.put, List.setIfInBounds_toArray, List.set_cons_zero, List.set_cons_succ]
        refine until_take (i := 16) (oi := ?oz172) (v := ?vz172) ?iz172 (by kernel_rfl) (by kernel_rfl) (by kernel_rfl) (by kernel_rfl) (by kernel_rfl) ?qz172 (Or.inl ⟨?gz172, ?hz172⟩) (by assumption) ?rz172
        case iz172 => (simp only [List.getElem?_toArray, List.getElem?_cons_zero, List.getElem?_cons_succ]; rfl)
        case qz172 => exact fun _ _ _ h => h
        case gz172 => rfl
        case hz172 => (intro w hSw; (simp only [Holds] at hSw); go_simp <;> with_reducible rfl)
        simp only [Act.put, List.setIfInBounds_toArray, List.set_cons_zero, List.set_cons_succ]
        refine until_ready (rs := [7, 17]) (by kernel_rfl) (by simp) ?_
        refine (NextU.cons (o := ?oz173) ?iz173 (fun K hK => ?kz173) (NextU.cons (o := ?oz174) ?iz174 (fun K hK => ?kz174) NextU.nil))
        case iz173 => (simp only [List.getElem?_toArray, List.getElem?_cons_zero, List.getElem?_cons_succ]; rfl)
        case iz174 => (simp only [List.getElem?_toArray, List.getElem?_cons_zero, List.getElem?_cons_succ]; rfl)
        · go_simp
          have HV3 := Lib.hid (HV2.out.later ((Below.refl _ wd).alloc (Nat.le_refl _) (.cells #[.int .i64 t.come, .int .i64 t.begn, .int .i64 t.leave] 82)))
          have N7 := Lib.hid (heap_alloc_new wd (.cells #[.int .i64 t.come, .int .i64 t.begn, .int .i64 t.leave] 82))
          generalize wd.alloc (.cells #[.int .i64 t.come, .int .i64 t.begn, .int .i64 t.leave] 82) = w3 at *
          generalize wd.heap.size = s7 at *
          refine hK.out _ _ HV3.out.holdsV (fun hSn => ?_)
          clear hK
          refine until_ready (rs := [8, 17]) (by kernel_rfl) (by simp) ?_
          refine (NextU.cons (o := ?oz175) ?iz175 (fun K hK => ?kz175) (NextU.cons (o := ?oz176) ?iz176 (fun K hK => ?kz176) NextU.nil))
          case iz175 => (simp only [List.getElem?_toArray, List.getElem?_cons_zero, List.getElem?_cons_succ]; rfl)
          case iz176 => (simp only [List.getElem?_toArray, List.getElem?_cons_zero, List.getElem?_cons_succ]; rfl)
          · skip
            simp only [Act.put, List.setIfInBounds_toArray, List.set_cons_zero, List.set_cons_succ]
            rw [if_pos (by rfl)]
            refine wp_append_lies _ _ _ _ (by rfl) w0.heap.size 82 i0 _ 3 24 Tryd.underlying44 hi hz0 hz1 hz2 rfl (by decide) tv T.length (flatT T) (by rfl) HV3.out.ts ⟨s7, 0, none⟩ 1 1 (rowT t) (by rfl) rfl (World.news_of_block N7.out) (rowT_one t) (by decide) (by unfold maxLen; omega) (by omega) HV3.out.bel.size _ rfl ?_
            intro g2 cp2 wt hown hgrow hgg _
            have HV4 := Lib.hid (HV3.out.moreT (ownT_more hown) hgrow (hgg.elim (fun e => .inl e.symm) (fun e => .inr (by rw [e]; rfl))))
            clear hown hgrow hgg
            refine hK.out _ _ HV4.out.holdsV (fun hSn => ?_)
            clear hK
            refine until_ready (rs := [17]) (by kernel_rfl) (by simp) ?_
            refine (NextU.cons (o := ?oz177) ?iz177 (fun K hK => ?kz177) NextU.nil)
            case iz177 => (simp only [List.getElem?_toArray, List.getElem?_cons_zero, List.getElem?_cons_succ]; rfl)
            go_simp
            have HV5 := Lib.hid (HV4.out.later ((Below.refl _ wt).alloc (Nat.le_refl _) (.cells #[.int .i64 (h + s.d)] 3)))
            have N17 := Lib.hid (heap_alloc_new wt (.cells #[.int .i64 (h + s.d)] 3))
            generalize wt.alloc (.cells #[.int .i64 (h + s.d)] 3) = w5 at *
            generalize wt.heap.size = s17 at *
            refine hK.out _ _ HV5.out.holdsV (fun hSn => ?_)
            clear hK
            refine until_ready (rs := [18]) (by kernel_rfl) (by simp) ?_
            refine (NextU.cons (o := ?oz178) ?iz178 (fun K hK => ?kz178) NextU.nil)
            case iz178 => (simp only [List.getElem?_toArray, List.getElem?_cons_zero, List.getElem?_cons_succ]; rfl)
            simp only [Act.put, List.setIfInBounds_toArray, List.set_cons_zero, List.set_cons_succ]
            rw [if_pos (by rfl)]
            refine wp_append_lies _ _ _ _ (by rfl) w0.heap.size 3 j0 _ 1 8 Tryd.underlying42 hj hy0 hy1 hy2 rfl (by decide) lv Q.length (ints Q) (by rfl) HV5.out.ls ⟨s17, 0, none⟩ 1 1 [.int .i64 (h + s.d)] (by rfl) rfl (World.news_of_block N17.out) (by simp; rfl) (by decide) (by unfold maxLen; omega) (by omega) HV5.out.bel.size _ rfl ?_
            intro g3 cp3 wi hown hgrow _ _
            have HV6 := Lib.hid (HV5.out.moreI (ownI_more hown) hgrow)
            clear hown hgrow
            refine hK.out _ _ HV6.out.holdsV (fun hSn => ?_)
            clear hK
            refine anyhow_take (i := 19) (oi := ?oz179) (v := ?vz179) ?iz179 (by kernel_rfl) (by kernel_rfl) (by kernel_rfl) (by decide) ?qz179 (Or.inl ⟨?gz179, ?hz179⟩) (Or.inr (by assumption)) ?rz179
            case iz179 => (simp only [List.getElem?_toArray, List.getElem?_cons_zero, List.getElem?_cons_succ]; rfl)
            case qz179 => exact fun _ _ _ h => h
            case gz179 => rfl
            case hz179 => (intro w hSw; clear hSw; go_simp <;> with_reducible rfl)
            simp only [Act.put, List.setIfInBounds_toArray, List.set_cons_zero, List.set_cons_succ]
            refine until_take (i := 20) (oi := ?oz180) (v := ?vz180) ?iz180 (by kernel_rfl) (by kernel_rfl) (by kernel_rfl) (by kernel_rfl) (by kernel_rfl) ?qz180 (Or.inl ⟨?gz180, ?hz180⟩) (by assumption) ?rz180
            case iz180 => (simp only [List.getElem?_toArray, List.getElem?_cons_zero, List.getElem?_cons_succ]; rfl)
            case qz180 => exact fun _ _ _ h => h
            case gz180 => rfl
            case hz180 => (intro w hSw; (simp only [Holds] at hSw); go_simp <;> with_reducible rfl)
            simp only [Act.put, List.setIfInBounds_toArray, List.set_cons_zero, List.set_cons_succ]
            have q41 := HV6.out.car.ct
            have f41 := HV6.out.car.free 41
            refine until_ready (rs := [21]) (by kernel_rfl) (by simp) ?_
            refine (NextU.late (o := ?oz181) ?iz181 (by first | exact Or.inl rfl | exact Or.inr (by kernel_rfl)) (fun K hK => ?kz181) NextU.nil)
            case iz181 => (simp only [List.getElem?_toArray, List.getElem?_cons_zero, List.getElem?_cons_succ]; rfl)
            go_simp
            have HV7 := Lib.hid (HV6.out.put 41 _ (HV6.out.car.setTimes (.slice (some ⟨g2, 0, none⟩) (T.length + 1) cp2)))
            generalize wi.setCell ⟨b, 41, none⟩ (.slice (some ⟨g2, 0, none⟩) (T.length + 1) cp2) = wj at *
            refine hK.out _ _ ?_
            clear hK q41 f41 hSn
            refine anyhow_take (i := 22) (oi := ?oz182) (v := ?vz182) ?iz182 (by kernel_rfl) (by kernel_rfl) (by kernel_rfl) (by decide) ?qz182 (Or.inl ⟨?gz182, ?hz182⟩) (Or.inl (by kernel_rfl)) ?rz182
            case iz182 => (simp only [List.getElem?_toArray, List.getElem?_cons_zero, List.getElem?_cons_succ]; rfl)
            case qz182 => exact fun _ _ _ h => h
            case gz182 => rfl
            case hz182 => (intro w hSw; clear hSw; go_simp <;> with_reducible rfl)
            simp only [Act.put, List.setIfInBounds_toArray, List.set_cons_zero, List.set_cons_succ]
            refine anyhow_take (i := 23) (oi := ?oz183) (v := ?vz183) ?iz183 (by kernel_rfl) (by kernel_rfl) (by kernel_rfl) (by decide) ?qz183 (Or.inl ⟨?gz183, ?hz183⟩) (Or.inl (by kernel_rfl)) ?rz183
            case iz183 => (simp only [List.getElem?_toArray, List.getElem?_cons_zero, List.getElem?_cons_succ]; rfl)
            case qz183 => exact fun _ _ _ h => h
            case gz183 => rfl
            case hz183 => (intro w hSw; clear hSw; go_simp <;> with_reducible rfl)
            simp only [Act.put, List.setIfInBounds_toArray, List.set_cons_zero, List.set_cons_succ]
            have q42 := HV7.out.car.cl
            have f42 := HV7.out.car.free 42
            refine until_ready (rs := [24]) (by kernel_rfl) (by simp) ?_
            refine (NextU.late (o := ?oz184) ?iz184 (by first | exact Or.inl rfl | exact Or.inr (by kernel_rfl)) (fun K hK => ?kz184) NextU.nil)
            case iz184 => (simp only [List.getElem?_toArray, List.getElem?_cons_zero, List.getElem?_cons_succ]; rfl)
            go_simp
            have HV8 := Lib.hid (HV7.out.put 42 _ (HV7.out.car.setLoads (.slice (some ⟨g3, 0, none⟩) (Q.length + 1) cp3)))
            generalize wj.setCell ⟨b, 42, none⟩ (.slice (some ⟨g3, 0, none⟩) (Q.length + 1) cp3) = wl at *
            refine hK.out _ _ ?_
            clear hK
            refine until_done (by kernel_rfl) ?_ _
            go_wp2
            exact bodyPost_end (v := .tuple #[]) (by simp [results, Tryd.results68, go_sem]) rfl ⟨rfl, _, _, by rw [HT.out, HD.out, HSS.out]; exact ⟨HV8.out.car, HV8.out.ts, HV8.out.ls, HV8.out.bel⟩⟩
          · go_simp
            have HV4 := Lib.hid (HV3.out.later ((Below.refl _ w3).alloc (Nat.le_refl _) (.cells #[.int .i64 (h + s.d)] 3)))
            have N17 := Lib.hid (heap_alloc_new w3 (.cells #[.int .i64 (h + s.d)] 3))
            have hs7 : s7 < w3.heap.size := (Array.getElem?_eq_some_iff.1 N7.out).1
            have N7 := Lib.hid ((heap_alloc_old w3 (.cells #[.int .i64 (h + s.d)] 3) hs7).trans N7.out)
            generalize w3.alloc (.cells #[.int .i64 (h + s.d)] 3) = w4 at *
            generalize w3.heap.size = s17 at *
            refine hK.out _ _ HV4.out.holdsV (fun hSn => ?_)
            clear hK
            refine until_ready (rs := [8]) (by kernel_rfl) (by simp) ?_
            refine (NextU.cons (o := ?oz185) ?iz185 (fun K hK => ?kz185) NextU.nil)
            case iz185 => (simp only [List.getElem?_toArray, List.getElem?_cons_zero, List.getElem?_cons_succ]; rfl)
            simp only [Act.put, List.setIfInBounds_toArray, List.set_cons_zero, List.set_cons_succ]
            rw [if_pos (by rfl)]
            refine wp_append_lies _ _ _ _ (by rfl) w0.heap.size 82 i0 _ 3 24 Tryd.underlying44 hi hz0 hz1 hz2 rfl (by decide) tv T.length (flatT T) (by rfl) HV4.out.ts ⟨s7, 0, none⟩ 1 1 (rowT t) (by rfl) rfl (World.news_of_block N7.out) (rowT_one t) (by decide) (by unfold maxLen; omega) (by omega) HV4.out.bel.size _ rfl ?_
            intro g2 cp2 wt hown hgrow hgg _
            have HV5 := Lib.hid (HV4.out.moreT (ownT_more hown) hgrow (hgg.elim (fun e => .inl e.symm) (fun e => .inr (by rw [e]; rfl))))
            have N17 := Lib.hid (show wt.heap[s17]? = some (.cells #[.int .i64 (h + s.d)] 3 (0, 0)) by rw [hgrow.block s17 ((Array.getElem?_eq_some_iff.1 N17.out).1) (fun e => own_ne (show OwnT w4 w0.heap.size tv T from HV4.out.ts) N17.out (by decide) e.symm)]; exact N17.out)
            clear hown hgrow hgg
            refine hK.out _ _ HV5.out.holdsV (fun hSn => ?_)
            clear hK
            refine until_ready (rs := [18]) (by kernel_rfl) (by simp) ?_
            refine (NextU.cons (o := ?oz186) ?iz186 (fun K hK => ?kz186) NextU.nil)
            case iz186 => (simp only [List.getElem?_toArray, List.getElem?_cons_zero, List.getElem?_cons_succ]; rfl)
            simp only [Act.put, List.setIfInBounds_toArray, List.set_cons_zero, List.set_cons_succ]
            rw [if_pos (by rfl)]
            refine wp_append_lies _ _ _ _ (by rfl) w0.heap.size 3 j0 _ 1 8 Tryd.underlying42 hj hy0 hy1 hy2 rfl (by decide) lv Q.length (ints Q) (by rfl) HV5.out.ls ⟨s17, 0, none⟩ 1 1 [.int .i64 (h + s.d)] (by rfl) rfl (World.news_of_block N17.out) (by simp; rfl) (by decide) (by unfold maxLen; omega) (by omega) HV5.out.bel.size _ rfl ?_
            intro g3 cp3 wi hown hgrow _ _
            have HV6 := Lib.hid (HV5.out.moreI (ownI_more hown) hgrow)
            clear hown hgrow
            refine hK.out _ _ HV6.out.holdsV (fun hSn => ?_)
            clear hK
            refine anyhow_take (i := 19) (oi := ?oz187) (v := ?vz187) ?iz187 (by kernel_rfl) (by kernel_rfl) (by kernel_rfl) (by decide) ?qz187 (Or.inl ⟨?gz187, ?hz187⟩) (Or.inr (by assumption)) ?rz187
            case iz187 => (simp only [List.getElem?_toArray, List.getElem?_cons_zero, List.getElem?_cons_succ]; rfl)
            case qz187 => exact fun _ _ _ h => h
            case gz187 => rfl
            case hz187 => (intro w hSw; clear hSw; go_simp <;> with_reducible rfl)
            simp only [Act.put, List.setIfInBounds_toArray, List.set_cons_zero, List.set_cons_succ]
            refine until_take (i := 20) (oi := ?oz188) (v := ?vz188) ?iz188 (by kernel_rfl) (by kernel_rfl) (by kernel_rfl) (by kernel_rfl) (by kernel_rfl) ?qz188 (Or.inl ⟨?gz188, ?hz188⟩) (by assumption) ?rz188
            case iz188 => (simp only [List.getElem?_toArray, List.getElem?_cons_zero, List.getElem?_cons_succ]; rfl)
            case qz188 => exact fun _ _ _ h => h
            case gz188 => rfl
            case hz188 => (intro w hSw; (simp only [Holds] at hSw); go_simp <;> with_reducible rfl)
            simp only [Act.put, List.setIfInBounds_toArray, List.set_cons_zero, List.set_cons_succ]
            have q41 := HV6.out.car.ct
            have f41 := HV6.out.car.free 41
            refine until_ready (rs := [21]) (by kernel_rfl) (by simp) ?_
            refine (NextU.late (o := ?oz189) ?iz189 (by first | exact Or.inl rfl | exact Or.inr (by kernel_rfl)) (fun K hK => ?kz189) NextU.nil)
            case iz189 => (simp only [List.getElem?_toArray, List.getElem?_cons_zero, List.getElem?_cons_succ]; rfl)
            go_simp
            have HV7 := Lib.hid (HV6.out.put 41 _ (HV6.out.car.setTimes (.slice (some ⟨g2, 0, none⟩) (T.length + 1) cp2)))
            generalize wi.setCell ⟨b, 41, none⟩ (.slice (some ⟨g2, 0, none⟩) (T.length + 1) cp2) = wj at *
            refine hK.out _ _ ?_
            clear hK q41 f41 hSn
            refine anyhow_take (i := 22) (oi := ?oz190) (v := ?vz190) ?iz190 (by kernel_rfl) (by kernel_rfl) (by kernel_rfl) (by decide) ?qz190 (Or.inl ⟨?gz190, ?hz190⟩) (Or.inl (by kernel_rfl)) ?rz190
            case iz190 => (simp only [List.getElem?_toArray, List.getElem?_cons_zero, List.getElem?_cons_succ]; rfl)
            case qz190 => exact fun _ _ _ h => h
            case gz190 => rfl
            case hz190 => (intro w hSw; clear hSw; go_simp <;> with_reducible rfl)
            simp only [Act.put, List.setIfInBounds_toArray, List.set_cons_zero, List.set_cons_succ]
            refine anyhow_take (i := 23) (oi := ?oz191) (v := ?vz191) ?iz191 (by kernel_rfl) (by kernel_rfl) (by kernel_rfl) (by decide) ?qz191 (Or.inl ⟨?gz191, ?hz191⟩) (Or.inl (by kernel_rfl)) ?rz191
            case iz191 => (simp only [List.getElem?_toArray, List.getElem?_cons_zero, List.getElem?_cons_succ]; rfl)
            case qz191 => exact fun _ _ _ h => h
            case gz191 => rfl
            case hz191 => (intro w hSw; clear hSw; go_simp <;> with_reducible rfl)
            simp only [Act.put, List.setIfInBounds_toArray, List.set_cons_zero, List.set_cons_succ]
            have q42 := HV7.out.car.cl
            have f42 := HV7.out.car.free 42
            refine until_ready (rs := [24]) (by kernel_rfl) (by simp) ?_
            refine (NextU.late (o := ?oz192) ?iz192 (by first | exact Or.inl rfl | exact Or.inr (by kernel_rfl)) (fun K hK => ?kz192) NextU.nil)
            case iz192 => (simp only [List.getElem?_toArray, List.getElem?_cons_zero, List.getElem?_cons_succ]; rfl)
            go_simp
            have HV8 := Lib.hid (HV7.out.put 42 _ (HV7.out.car.setLoads (.slice (some ⟨g3, 0, none⟩) (Q.length + 1) cp3)))
            generalize wj.setCell ⟨b, 42, none⟩ (.slice (some ⟨g3, 0, none⟩) (Q.length + 1) cp3) = wl at *
            refine hK.out _ _ ?_
            clear hK
            refine until_done (by kernel_rfl) ?_ _
            go_wp2
            exact bodyPost_end (v := .tuple #[]) (by simp [results, Tryd.results68, go_sem]) rfl ⟨rfl, _, _, by rw [HT.out, HD.out, HSS.out]; exact ⟨HV8.out.car, HV8.out.ts, HV8.out.ls, HV8.out.bel⟩⟩
        · go_simp
          have HV3 := Lib.hid (HV2.out.later ((Below.refl _ wd).alloc (Nat.le_refl _) (.cells #[.int .i64 (h + s.d)] 3)))
          have N17 := Lib.hid (heap_alloc_new wd (.cells #[.int .i64 (h + s.d)] 3))
          generalize wd.alloc (.cells #[.int .i64 (h + s.d)] 3) = w3 at *
          generalize wd.heap.size = s17 at *
          refine hK.out _ _ HV3.out.holdsV (fun hSn => ?_)
          clear hK
          refine until_ready (rs := [7]) (by kernel_rfl) (by simp) ?_
          refine (NextU.cons (o := ?oz193) ?iz193 (fun K hK => ?kz193) NextU.nil)
          case iz193 => (simp only [List.getElem?_toArray, List.getElem?_cons_zero, List.getElem?_cons_succ]; rfl)
          go_simp
          have HV4 := Lib.hid (HV3.out.later ((Below.refl _ w3).alloc (Nat.le_refl _) (.cells #[.int .i64 t.come, .int .i64 t.begn, .int .i64 t.leave] 82)))
          have N7 := Lib.hid (heap_alloc_new w3 (.cells #[.int .i64 t.come, .int .i64 t.begn, .int .i64 t.leave] 82))
          have hs17 : s17 < w3.heap.size := (Array.getElem?_eq_some_iff.1 N17.out).1
          have N17 := Lib.hid ((heap_alloc_old w3 (.cells #[.int .i64 t.come, .int .i64 t.begn, .int .i64 t.leave] 82) hs17).trans N17.out)
          generalize w3.alloc (.cells #[.int .i64 t.come, .int .i64 t.begn, .int .i64 t.leave] 82) = w4 at *
          generalize w3.heap.size = s7 at *
          refine hK.out _ _ HV4.out.holdsV (fun hSn => ?_)
          clear hK
          refine until_ready (rs := [8]) (by kernel_rfl) (by simp) ?_
          refine (NextU.cons (o := ?oz194) ?iz194 (fun K hK => ?kz194) NextU.nil)
          case iz194 => (simp only [List.getElem?_toArray, List.getElem?_cons_zero, List.getElem?_cons_succ]; rfl)
          simp only [Act.put, List.setIfInBounds_toArray, List.set_cons_zero, List.set_cons_succ]
          rw [if_pos (by rfl)]
          refine wp_append_lies _ _ _ _ (by rfl) w0.heap.size 82 i0 _ 3 24 Tryd.underlying44 hi hz0 hz1 hz2 rfl (by decide) tv T.length (flatT T) (by rfl) HV4.out.ts ⟨s7, 0, none⟩ 1 1 (rowT t) (by rfl) rfl (World.news_of_block N7.out) (rowT_one t) (by decide) (by unfold maxLen; omega) (by omega) HV4.out.bel.size _ rfl ?_
          intro g2 cp2 wt hown hgrow hgg _
          have HV5 := Lib.hid (HV4.out.moreT (ownT_more hown) hgrow (hgg.elim (fun e => .inl e.symm) (fun e => .inr (by rw [e]; rfl))))
          have N17 := Lib.hid (show wt.heap[s17]? = some (.cells #[.int .i64 (h + s.d)] 3 (0, 0)) by rw [hgrow.block s17 ((Array.getElem?_eq_some_iff.1 N17.out).1) (fun e => own_ne (show OwnT w4 w0.heap.size tv T from HV4.out.ts) N17.out (by decide) e.symm)]; exact N17.out)
          clear hown hgrow hgg
          refine hK.out _ _ HV5.out.holdsV (fun hSn => ?_)
          clear hK
          refine until_ready (rs := [18]) (by kernel_rfl) (by simp) ?_
          refine (NextU.cons (o := ?oz195) ?iz195 (fun K hK => ?kz195) NextU.nil)
          case iz195 => (simp only [List.getElem?_toArray, List.getElem?_cons_zero, List.getElem?_cons_succ]; rfl)
          simp only [Act.put, List.setIfInBounds_toArray, List.set_cons_zero, List.set_cons_succ]
          rw [if_pos (by rfl)]
          refine wp_append_lies _ _ _ _ (by rfl) w0.heap.size 3 j0 _ 1 8 Tryd.underlying42 hj hy0 hy1 hy2 rfl (by decide) lv Q.length (ints Q) (by rfl) HV5.out.ls ⟨s17, 0, none⟩ 1 1 [.int .i64 (h + s.d)] (by rfl) rfl (World.news_of_block N17.out) (by simp; rfl) (by decide) (by unfold maxLen; omega) (by omega) HV5.out.bel.size _ rfl ?_
          intro g3 cp3 wi hown hgrow _ _
          have HV6 := Lib.hid (HV5.out.moreI (ownI_more hown) hgrow)
          clear hown hgrow
          refine hK.out _ _ HV6.out.holdsV (fun hSn => ?_)
          clear hK
          refine anyhow_take (i := 19) (oi := ?oz196) (v := ?vz196) ?iz196 (by kernel_rfl) (by kernel_rfl) (by kernel_rfl) (by decide) ?qz196 (Or.inl ⟨?gz196, ?hz196⟩) (Or.inr (by assumption)) ?rz196
          case iz196 => (simp only [List.getElem?_toArray, List.getElem?_cons_zero, List.getElem?_cons_succ]; rfl)
          case qz196 => exact fun _ _ _ h => h
          case gz196 => rfl
          case hz196 => (intro w hSw; clear hSw; go_simp <;> with_reducible rfl)
          simp only [Act.put, List.setIfInBounds_toArray, List.set_cons_zero, List.set_cons_succ]
          refine until_take (i := 20) (oi := ?oz197) (v := ?vz197) ?iz197 (by kernel_rfl) (by kernel_rfl) (by kernel_rfl) (by kernel_rfl) (by kernel_rfl) ?qz197 (Or.inl ⟨?gz197, ?hz197⟩) (by assumption) ?rz197
          case iz197 => (simp only [List.getElem?_toArray, List.getElem?_cons_zero, List.getElem?_cons_succ]; rfl)
          case qz197 => exact fun _ _ _ h => h
          case gz197 => rfl
          case hz197 => (intro w hSw; (simp only [Holds] at hSw); go_simp <;> with_reducible rfl)
          simp only [Act.put, List.setIfInBounds_toArray, List.set_cons_zero, List.set_cons_succ]
          have q41 := HV6.out.car.ct
          have f41 := HV6.out.car.free 41
          refine until_ready (rs := [21]) (by kernel_rfl) (by simp) ?_
          refine (NextU.late (o := ?oz198) ?iz198 (by first | exact Or.inl rfl | exact Or.inr (by kernel_rfl)) (fun K hK => ?kz198) NextU.nil)
          case iz198 => (simp only [List.getElem?_toArray, List.getElem?_cons_zero, List.getElem?_cons_succ]; rfl)
          go_simp
          have HV7 := Lib.hid (HV6.out.put 41 _ (HV6.out.car.setTimes (.slice (some ⟨g2, 0, none⟩) (T.length + 1) cp2)))
          generalize wi.setCell ⟨b, 41, none⟩ (.slice (some ⟨g2, 0, none⟩) (T.length + 1) cp2) = wj at *
          refine hK.out _ _ ?_
          clear hK q41 f41 hSn
          refine anyhow_take (i := 22) (oi := ?oz199) (v := ?vz199) ?iz199 (by kernel_rfl) (by kernel_rfl) (by kernel_rfl) (by decide) ?qz199 (Or.inl ⟨?gz199, ?hz199⟩) (Or.inl (by kernel_rfl)) ?rz199
          case iz199 => (simp only [List.getElem?_toArray, List.getElem?_cons_zero, List.getElem?_cons_succ]; rfl)
          case qz199 => exact fun _ _ _ h => h
          case gz199 => rfl
          case hz199 => (intro w hSw; clear hSw; go_simp <;> with_reducible rfl)
          simp only [Act.put, List.setIfInBounds_toArray, List.set_cons_zero, List.set_cons_succ]
          refine anyhow_take (i := 23) (oi := ?oz200) (v := ?vz200) ?iz200 (by kernel_rfl) (by kernel_rfl) (by kernel_rfl) (by decide) ?qz200 (Or.inl ⟨?gz200, ?hz200⟩) (Or.inl (by kernel_rfl)) ?rz200
          case iz200 => (simp only [List.getElem?_toArray, List.getElem?_cons_zero, List.getElem?_cons_succ]; rfl)
          case qz200 => exact fun _ _ _ h => h
          case gz200 => rfl
          case hz200 => (intro w hSw; clear hSw; go_simp <;> with_reducible rfl)
          simp only [Act.put, List.setIfInBounds_toArray, List.set_cons_zero, List.set_cons_succ]
          have q42 := HV7.out.car.cl
          have f42 := HV7.out.car.free 42
          refine until_ready (rs := [24]) (by kernel_rfl) (by simp) ?_
          refine (NextU.late (o := ?oz201) ?iz201 (by first | exact Or.inl rfl | exact Or.inr (by kernel_rfl)) (fun K hK => ?kz201) NextU.nil)
          case iz201 => (simp only [List.getElem?_toArray, List.getElem?_cons_zero, List.getElem?_cons_succ]; rfl)
          go_simp
          have HV8 := Lib.hid (HV7.out.put 42 _ (HV7.out.car.setLoads (.slice (some ⟨g3, 0, none⟩) (Q.length + 1) cp3)))
          generalize wj.setCell ⟨b, 42, none⟩ (.slice (some ⟨g3, 0, none⟩) (Q.length + 1) cp3) = wl at *
          refine hK.out _ _ ?_
          clear hK
          refine until_done (by kernel_rfl) ?_ _
          go_wp2
          exact bodyPost_end (v := .tuple #[]) (by simp [results, Tryd.results68, go_sem]) rfl ⟨rfl, _, _, by rw [HT.out, HD.out, HSS.out]; exact ⟨HV8.out.car, HV8.out.ts, HV8.out.ls, HV8.out.bel⟩⟩
end Go.Proofs.YtjpdhicpkcmjgaaDoor
