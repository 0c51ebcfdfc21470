/- What a car's visit leaves. -/
import Derived.Test.YtgplajofemencaaGreatXTCar
import Derived.Deep.Cut
import Derived.Deep.AppendLies
namespace Go.Proofs.YtgplajofemencaaGreat
open Go.ChangeShapes Go.WideShapes Go.ChangeAt Go.RowKit

/-- A car on its way: its box, the rows that it owns (what its box says of them may be older), and a time in a box of its own. -/
structure VJ (w0 : World) (b z : Nat) (I : Ins) (sv : Value) (a n g h : Int) (S : List Bool) (tb lb tv lv : Value) (T : List Tm) (Q : List Int) (t : Tm) (w : World) : Prop where
  base : w0.heap.size ≤ b ∧ w0.heap.size ≤ z ∧ z ≠ b
  car : CarB w b I sv a n g h S tb lb
  tim : w.heap[z]? = some (.cells #[.int .i64 t.come, .int .i64 t.begn, .int .i64 t.leave] 179 (0, 0))
  ts : OwnT w w0.heap.size tv T
  ls : OwnI w w0.heap.size lv Q
  ap : tv.ownBlock ≠ some z
  bel : Below w0.heap.size w0 w
def cellsZ (z : Nat) (t : Tm) : List (Addr × Value) := [(⟨z, 0, none⟩, .int .i64 t.come), (⟨z, 1, none⟩, .int .i64 t.begn), (⟨z, 2, none⟩, .int .i64 t.leave)]
section
variable {w0 w w' : World} {b z : Nat} {I : Ins} {sv : Value} {a n g h : Int} {S : List Bool} {tb lb tv lv : Value} {T : List Tm} {Q : List Int} {t : Tm}
theorem VJ.ltz (k : VJ w0 b z I sv a n g h S tb lb tv lv T Q t w) : z < w.heap.size := (Array.getElem?_eq_some_iff.1 k.tim).1
theorem VJ.holdsZ (k : VJ w0 b z I sv a n g h S tb lb tv lv T Q t w) : Holds (cellsZ z t) w := by
  have hc : ∀ i, w.cell? ⟨z, i, none⟩ = [Value.int .i64 t.come, .int .i64 t.begn, .int .i64 t.leave][i]? := fun i => by rw [cell_of_row w z i _ _ _ k.tim]; simp
  exact ⟨hc 0, hc 1, hc 2, trivial⟩
def cellsV (b z : Nat) (h : Int) (tb lb : Value) (t : Tm) : List (Addr × Value) := [(⟨b, 7, none⟩, .int .i64 h), (⟨b, 41, none⟩, tb), (⟨b, 42, none⟩, lb), (⟨z, 0, none⟩, .int .i64 t.come), (⟨z, 1, none⟩, .int .i64 t.begn), (⟨z, 2, none⟩, .int .i64 t.leave)]
theorem VJ.holdsV (k : VJ w0 b z I sv a n g h S tb lb tv lv T Q t w) : Holds (cellsV b z h tb lb t) w := ⟨k.car.c7, k.car.ct, k.car.cl, k.holdsZ⟩
theorem VJ.later (k : VJ w0 b z I sv a n g h S tb lb tv lv T Q t w) (hb : Below w.heap.size w w') : VJ w0 b z I sv a n g h S tb lb tv lv T Q t w' :=
  ⟨k.base, k.car.later hb, by rw [hb.block z k.ltz]; exact k.tim, k.ts.below hb, k.ls.below hb, k.ap, k.bel.trans (hb.mono k.bel.size)⟩
theorem own_car {e : TypeId} {s m : Nat} {u : Value} {xs : List Value} {B : Nat} (k : CarB w b I sv a n g h S tb lb) (ho : w.ownsRow B e s u m xs) (he : e ≠ 125) : u.ownBlock ≠ some b := own_ne ho k.2 he
/-- A cell of its box is stored. -/
theorem VJ.put (k : VJ w0 b z I sv a n g h S tb lb tv lv T Q t w) (i : Nat) (u : Value) {a2 n2 g2 h2 : Int} {S2 : List Bool} {tb2 lb2 : Value} (hc : CarB (w.setCell ⟨b, i, none⟩ u) b I sv a2 n2 g2 h2 S2 tb2 lb2) :
    VJ w0 b z I sv a2 n2 g2 h2 S2 tb2 lb2 tv lv T Q t (w.setCell ⟨b, i, none⟩ u) := by
  have hg : w.grownBy (w.setCell ⟨b, i, none⟩ u) (some b) := ⟨rfl, rfl, rfl, by simp [World.setCell], fun j _ hj => heap_setCell_other w ⟨b, i, none⟩ j _ (fun e => hj (by rw [e]))⟩
  refine ⟨k.base, hc, ?_, k.ts.kept hg (.inr (own_car k.car k.ts (by decide))), ?_, k.ap, k.bel.setCell k.base.1 u⟩
  · rw [heap_setCell_other w ⟨b, i, none⟩ z u (fun e => k.base.2.2 e)]; exact k.tim
  · have h1 : w.ownsRow w0.heap.size 3 1 lv Q.length (ints Q) := k.ls
    exact h1.kept hg (.inr (own_car k.car h1 (by decide)))
/-- The times have grown. -/
theorem VJ.moreT (k : VJ w0 b z I sv a n g h S tb lb tv lv T Q t w) {tv2 : Value} {T2 : List Tm} (ho : OwnT w' w0.heap.size tv2 T2) (hg : w.grownBy w' tv.ownBlock) (hn : tv2.ownBlock = tv.ownBlock ∨ tv2.ownBlock = some w.heap.size) :
    VJ w0 b z I sv a n g h S tb lb tv2 lv T2 Q t w' := by
  have h1 : w.ownsRow w0.heap.size 3 1 lv Q.length (ints Q) := k.ls
  have h2 : w.ownsRow w0.heap.size 179 3 tv T.length (flatT T) := k.ts
  refine ⟨k.base, k.car.grown hg (own_car k.car k.ts (by decide)), ?_, ho, h1.kept hg (own_diff h1 h2 (by decide)), ?_, k.bel.grown hg k.bel.size (fun j hj => (World.ownsRow.lt h2 j hj).1)⟩
  · rw [hg.block z k.ltz (fun e => k.ap e.symm)]; exact k.tim
  · rcases hn with e | e
    · rw [e]; exact k.ap
    · rw [e]; intro e2; simp at e2; have := k.ltz; omega
/-- The loads have grown. -/
theorem VJ.moreI (k : VJ w0 b z I sv a n g h S tb lb tv lv T Q t w) {lv2 : Value} {Q2 : List Int} (ho : OwnI w' w0.heap.size lv2 Q2) (hg : w.grownBy w' lv.ownBlock) :
    VJ w0 b z I sv a n g h S tb lb tv lv2 T Q2 t w' := by
  have h1 : w.ownsRow w0.heap.size 3 1 lv Q.length (ints Q) := k.ls
  have h2 : w.ownsRow w0.heap.size 179 3 tv T.length (flatT T) := k.ts
  refine ⟨k.base, k.car.grown hg (own_car k.car h1 (by decide)), ?_, k.ts.kept hg (own_diff h2 h1 (by decide)), ho, k.ap, k.bel.grown hg k.bel.size (fun j hj => (World.ownsRow.lt h1 j hj).1)⟩
  rw [hg.block z k.ltz (fun e => own_ne h1 k.tim (by decide) e.symm)]; exact k.tim
end
theorem ownT_more {w : World} {B g n cp : Nat} {l : List Tm} {t : Tm} (h : w.ownsRow B 179 3 (.slice (some ⟨g, 0, none⟩) n cp) (l.length + 1) (flatT l ++ rowT t)) : OwnT w B (.slice (some ⟨g, 0, none⟩) n cp) (l ++ [t]) := by
  unfold OwnT
  rw [List.length_append, flatT_append]
  simpa [flatT] using h
theorem ownI_more {w : World} {B g n cp : Nat} {l : List Int} {x : Int} (h : w.ownsRow B 3 1 (.slice (some ⟨g, 0, none⟩) n cp) (l.length + 1) (ints l ++ [.int .i64 x])) : OwnI w B (.slice (some ⟨g, 0, none⟩) n cp) (l ++ [x]) := by
  unfold OwnI
  rw [List.length_append, show ints (l ++ [x]) = ints l ++ [.int .i64 x] by simp [ints]]
  exact h
theorem rowT_one (t : Tm) : ∀ u ∈ rowT t, u.oneCell' = true := fun u hu => flatT_one [t] u (by rw [flatT]; simp [hu])
end Go.Proofs.YtgplajofemencaaGreat
/- What a car's visit leaves: the walk. -/
namespace Go.Proofs.YtgplajofemencaaGreat
open Go.ChangeShapes Go.WideShapes Go.ChangeAt Go.RowKit

set_option maxRecDepth 1000000 in
set_option maxHeartbeats 4000000 in
theorem visit_any {w0 w : World} {b : Nat} {I : Ins} {sv : Value} {a k : Nat} {n g h : Int} {S : List Bool} {tv lv : Value} {T : List Tm} {Q : List Int} (hc : CarB w b I sv a n g h S tv lv) (hb0 : w0.heap.size ≤ b) (hT : OwnT w w0.heap.size tv T) (hQ : OwnI w w0.heap.size lv Q)
    (hbel : Below w0.heap.size w0 w) (hr : SRow w0 sv I.l) (ha : a < I.l.length) (hk : k < I.l.length) (hk33 : k < 33) (hn : 0 ≤ n ∧ n ≤ 2000000) (hs : stopOk (stp I k) = true) (hg : 0 ≤ g ∧ g ≤ 1000000000) (hh : -1000000 ≤ h + (stp I k).d ∧ h + (stp I k).d ≤ 1000000) (hTl : T.length ≤ 1000) (hQl : Q.length ≤ 1000) :
    Calls Tryz.prog 114 #[.pointer (some ⟨b, 0, none⟩), .int .i64 k] w fun e w' => e = .returned (.tuple #[]) ∧ ∃ tv' lv', CarB w' b I sv k (tmN n (stp I a) (stp I k)).leave (g + farF (stp I a) (stp I k)) (h + (stp I k).d) (S.set k true) tv' lv' ∧
      OwnT w' w0.heap.size tv' (T ++ [tmN n (stp I a) (stp I k)]) ∧ OwnI w' w0.heap.size lv' (Q ++ [h + (stp I k).d]) ∧ Below w0.heap.size w0 w' := by
  have HC := Lib.hid hc
  have HR := Lib.hid hr
  have HQ := Lib.hid hQ
  have HTm := Lib.hid hT
  have HBL := Lib.hid hbel
  obtain ⟨t, ht⟩ : ∃ t, tmN n (stp I a) (stp I k) = t := ⟨_, rfl⟩
  have HT := Lib.hid ht
  have hfb := farF_bd (stp I a) (stp I k)
  obtain ⟨d, hd⟩ : ∃ d, farF (stp I a) (stp I k) = d := ⟨_, rfl⟩
  have HD := Lib.hid hd
  rw [hd] at hfb
  have e1 : IntKind.i64.wrap (g + d) = g + d := IntWalk.i64_in _ (by omega)
  have e2 : IntKind.i64.wrap (h + (stp I k).d) = h + (stp I k).d := IntWalk.i64_in _ (by omega)
  clear hc hr hQ hT hbel ht hd hfb hg hh
  go_enter Tryz.func114, Tryz.ntmps114
  go_wp2_with fail
  refine (timeAt_any HC.out (HR.out.below HBL.out) ha hk hn hs).mono ?_
  rw [HT.out]
  rintro e w1 ⟨rfl, hb⟩
  have HV1 := Lib.hid (show VJ w0 b w1.heap.size I sv a n g h S tv lv tv lv T Q t (w1.alloc (.cells #[.int .i64 t.come, .int .i64 t.begn, .int .i64 t.leave] 179)) from by
    have hlt := HC.out.lt
    have hsz := hb.size
    have h2 : w.ownsRow w0.heap.size 179 3 tv T.length (flatT T) := HTm.out
    have hall := hb.trans (((Below.refl _ w1).alloc (Nat.le_refl _) (.cells #[.int .i64 t.come, .int .i64 t.begn, .int .i64 t.leave] 179)).mono hsz)
    exact ⟨⟨hb0, by have := HBL.out.size; omega, by omega⟩, HC.out.later hall, heap_alloc_new w1 _, HTm.out.below hall, HQ.out.below hall, fun e => by have := (World.ownsRow.lt h2 _ e).2; omega, HBL.out.trans (hall.mono HBL.out.size)⟩)
  unfold timeV
  go_wp2_with fail
  clear hb
  generalize w1.alloc (.cells #[.int .i64 t.come, .int .i64 t.begn, .int .i64 t.leave] 179) = W at *
  generalize w1.heap.size = z at *
  go_cut [] from 5 (fun wx => VJ w0 b z I sv a n (g + d) h S tv lv tv lv T Q t wx)
  case first =>
    have HV2 := Lib.hid (HV1.out.later ((Below.refl _ W).drew))
    have hSn : Holds [(⟨b, 6, none⟩, .int .i64 g)] W.drew := ⟨HV2.out.car.c6, trivial⟩
    refine wp_until (S := Holds [(⟨b, 6, none⟩, .int .i64 g)]) (m := 10) (by kernel_rfl) ?_
    refine until_take (i := 0) (oi := ?oz45) (v := ?vz45) ?iz45 (by kernel_rfl) (by kernel_rfl) (by kernel_rfl) (by kernel_rfl) (by kernel_rfl) ?qz45 (Or.inl ⟨?gz45, ?hz45⟩) (by assumption) ?rz45
    case iz45 => (simp only [List.getElem?_toArray, List.getElem?_cons_zero]; rfl)
    case qz45 => exact fun _ _ _ h => h
    case gz45 => rfl
    case hz45 => (intro w hSw; (simp only [Holds] at hSw); go_simp <;> with_reducible rfl)
    simp only [Act.put, List.setIfInBounds_toArray, List.set_cons_zero, List.set_cons_succ]
    refine until_take (i := 1) (oi := ?oz46) (v := ?vz46) ?iz46 (by kernel_rfl) (by kernel_rfl) (by kernel_rfl) (by kernel_rfl) (by kernel_rfl) ?qz46 (Or.inl ⟨?gz46, ?hz46⟩) (by assumption) ?rz46
    case iz46 => (simp only [List.getElem?_toArray, List.getElem?_cons_zero, List.getElem?_cons_succ]; rfl)
    case qz46 => exact fun _ _ _ h => h
    case gz46 => rfl
    case hz46 => (intro w hSw; (simp only [Holds] at hSw); go_simp <;> with_reducible rfl)
    simp only [Act.put, List.setIfInBounds_toArray, List.set_cons_zero, List.set_cons_succ]
    refine until_take (i := 2) (oi := ?oz47) (v := ?vz47) ?iz47 (by kernel_rfl) (by kernel_rfl) (by kernel_rfl) (by kernel_rfl) (by kernel_rfl) ?qz47 (Or.inl ⟨?gz47, ?hz47⟩) (by assumption) ?rz47
    case iz47 => (simp only [List.getElem?_toArray, List.getElem?_cons_zero, List.getElem?_cons_succ]; rfl)
    case qz47 => exact fun _ _ _ h => h
    case gz47 => rfl
    case hz47 => (intro w hSw; (simp only [Holds] at hSw); go_simp <;> with_reducible rfl)
    simp only [Act.put, List.setIfInBounds_toArray, List.set_cons_zero, List.set_cons_succ]
    refine until_take (i := 3) (oi := ?oz48) (v := ?vz48) ?iz48 (by kernel_rfl) (by kernel_rfl) (by kernel_rfl) (by kernel_rfl) (by kernel_rfl) ?qz48 (Or.inl ⟨?gz48, ?hz48⟩) (by assumption) ?rz48
    case iz48 => (simp only [List.getElem?_toArray, List.getElem?_cons_zero, List.getElem?_cons_succ]; rfl)
    case qz48 => exact fun _ _ _ h => h
    case gz48 => rfl
    case hz48 => (intro w hSw; (simp only [Holds] at hSw); go_simp <;> with_reducible rfl)
    simp only [Act.put, List.setIfInBounds_toArray, List.set_cons_zero, List.set_cons_succ]
    refine until_take (i := 4) (oi := ?oz49) (v := ?vz49) ?iz49 (by kernel_rfl) (by kernel_rfl) (by kernel_rfl) (by kernel_rfl) (by kernel_rfl) ?qz49 (Or.inl ⟨?gz49, ?hz49⟩) (by assumption) ?rz49
    case iz49 => (simp only [List.getElem?_toArray, List.getElem?_cons_zero, List.getElem?_cons_succ]; rfl)
    case qz49 => exact fun _ _ _ h => h
    case gz49 => rfl
    case hz49 => (intro w hSw; (simp only [Holds] at hSw); go_simp <;> with_reducible rfl)
    simp only [Act.put, List.setIfInBounds_toArray, List.set_cons_zero, List.set_cons_succ]
    refine until_take (i := 5) (oi := ?oz50) (v := ?vz50) ?iz50 (by kernel_rfl) (by kernel_rfl) (by kernel_rfl) (by kernel_rfl) (by kernel_rfl) ?qz50 (Or.inl ⟨?gz50, ?hz50⟩) (by assumption) ?rz50
    case iz50 => (simp only [List.getElem?_toArray, List.getElem?_cons_zero, List.getElem?_cons_succ]; rfl)
    case qz50 => exact fun _ _ _ h => h
    case gz50 => rfl
    case hz50 => (intro w hSw; (simp only [Holds] at hSw); go_simp <;> with_reducible rfl)
    simp only [Act.put, List.setIfInBounds_toArray, List.set_cons_zero, List.set_cons_succ]
    refine until_ready (rs := [6]) (by kernel_rfl) (by simp) ?_
    refine (NextU.cons (o := ?oz51) ?iz51 (fun K hK => ?kz51) NextU.nil)
    case iz51 => (simp only [List.getElem?_toArray, List.getElem?_cons_zero, List.getElem?_cons_succ]; rfl)
    go_simp
    refine (farTo_any HV2.out.car (HR.out.below HV2.out.bel) ha hk).mono ?_
    rw [HD.out]
    rintro e w2 ⟨rfl, hb⟩
    have HV3 := Lib.hid (HV2.out.later hb)
    clear hb hSn
    refine hK.out _ _ ⟨HV3.out.car.c6, trivial⟩ (fun hSn => ?_)
    clear hK
    refine until_take (i := 7) (oi := ?oz52) (v := ?vz52) ?iz52 (by kernel_rfl) (by kernel_rfl) (by kernel_rfl) (by kernel_rfl) (by kernel_rfl) ?qz52 (Or.inl ⟨?gz52, ?hz52⟩) (by assumption) ?rz52
    case iz52 => (simp only [List.getElem?_toArray, List.getElem?_cons_zero, List.getElem?_cons_succ]; rfl)
    case qz52 => exact fun _ _ _ h => h
    case gz52 => rfl
    case hz52 => (intro w hSw; (simp only [Holds] at hSw); go_simp <;> with_reducible rfl)
    simp only [Act.put, List.setIfInBounds_toArray, List.set_cons_zero, List.set_cons_succ]
    refine anyhow_take (i := 8) (oi := ?oz53) (v := ?vz53) ?iz53 (by kernel_rfl) (by kernel_rfl) (by kernel_rfl) (by decide) ?qz53 (Or.inl ⟨?gz53, ?hz53⟩) (Or.inr (by assumption)) ?rz53
    case iz53 => (simp only [List.getElem?_toArray, List.getElem?_cons_zero, List.getElem?_cons_succ]; rfl)
    case qz53 => exact fun _ _ _ h => h
    case gz53 => rfl
    case hz53 => (intro w hSw; clear hSw; go_simp <;> with_reducible rfl)
    simp only [Act.put, List.setIfInBounds_toArray, List.set_cons_zero, List.set_cons_succ]
    refine until_take (i := 9) (oi := ?oz54) (v := ?vz54) ?iz54 (by kernel_rfl) (by kernel_rfl) (by kernel_rfl) (by kernel_rfl) (by kernel_rfl) ?qz54 (Or.inl ⟨?gz54, ?hz54⟩) (by assumption) ?rz54
    case iz54 => (simp only [List.getElem?_toArray, List.getElem?_cons_zero, List.getElem?_cons_succ]; rfl)
    case qz54 => exact fun _ _ _ h => h
    case gz54 => rfl
    case hz54 => (intro w hSw; (simp only [Holds] at hSw); go_simp <;> with_reducible rfl)
    simp only [Act.put, List.setIfInBounds_toArray, List.set_cons_zero, List.set_cons_succ]
    have q6 := HV3.out.car.c6
    have f6 := HV3.out.car.free 6
    refine until_ready (rs := [10]) (by kernel_rfl) (by simp) ?_
    refine (NextU.late (o := ?oz55) ?iz55 (by first | exact Or.inl rfl | exact Or.inr (by kernel_rfl)) (fun K hK => ?kz55) NextU.nil)
    case iz55 => (simp only [List.getElem?_toArray, List.getElem?_cons_zero, List.getElem?_cons_succ]; rfl)
    go_simp
    refine hK.out _ _ ?_
    refine until_done (by kernel_rfl) ?_ _
    go_wp2_with fail
    go_meet
    case rel => exact HV3.out.put 6 _ (HV3.out.car.setGone _)
  case rest =>
    clear HV1
    have HV1 := Lib.hid hcut
    clear hcut
    go_wp2_with fail
    go_cut [] from 5 (fun wx => VJ w0 b z I sv a n (g + d) (h + (stp I k).d) S tv lv tv lv T Q t wx)
    case first =>
      have HV2 := Lib.hid (HV1.out.later ((Below.refl _ wc).drew))
      have HR2 := Lib.hid (HR.out.below HV2.out.bel)
      obtain ⟨ad, cap, rfl, _⟩ := HR.out.form
      obtain ⟨tb, off, rfl, hkt, hlt0⟩ := srow_at HR2.out k hk
      have HKT := Lib.hid (show At wc.drew tb (off + k * 6) (stp I k) from hkt)
      have hki : (k : Int) < (I.l.length : Int) := by omega
      clear hkt
      generalize stp I k = s at *
      have hSn : Holds ([(⟨b, 3, none⟩, .slice (some ⟨tb, off, none⟩) I.l.length cap), (⟨b, 7, none⟩, .int .i64 h)] ++ cellsF tb (off + k * 6) s) wc.drew := Holds.app.2 ⟨⟨HV2.out.car.c3, HV2.out.car.c7, trivial⟩, holds_at HKT.out⟩
      refine wp_until (S := Holds ([(⟨b, 3, none⟩, .slice (some ⟨tb, off, none⟩) I.l.length cap), (⟨b, 7, none⟩, .int .i64 h)] ++ cellsF tb (off + k * 6) s)) (m := 16) (by kernel_rfl) ?_
      simp only [cellsF, List.cons_append, List.nil_append] at *
      refine until_take (i := 0) (oi := ?oz56) (v := ?vz56) ?iz56 (by kernel_rfl) (by kernel_rfl) (by kernel_rfl) (by kernel_rfl) (by kernel_rfl) ?qz56 (Or.inl ⟨?gz56, ?hz56⟩) (by assumption) ?rz56
      case iz56 => (simp only [List.getElem?_toArray, List.getElem?_cons_zero]; rfl)
      case qz56 => exact fun _ _ _ h => h
      case gz56 => rfl
      case hz56 => (intro w hSw; (simp only [Holds] at hSw); go_simp <;> with_reducible rfl)
      simp only [Act.put, List.setIfInBounds_toArray, List.set_cons_zero, List.set_cons_succ]
      refine until_take (i := 1) (oi := ?oz57) (v := ?vz57) ?iz57 (by kernel_rfl) (by kernel_rfl) (by kernel_rfl) (by kernel_rfl) (by kernel_rfl) ?qz57 (Or.inl ⟨?gz57, ?hz57⟩) (by assumption) ?rz57
      case iz57 => (simp only [List.getElem?_toArray, List.getElem?_cons_zero, List.getElem?_cons_succ]; rfl)
      case qz57 => exact fun _ _ _ h => h
      case gz57 => rfl
      case hz57 => (intro w hSw; (simp only [Holds] at hSw); go_simp <;> with_reducible rfl)
      simp only [Act.put, List.setIfInBounds_toArray, List.set_cons_zero, List.set_cons_succ]
      refine until_take (i := 2) (oi := ?oz58) (v := ?vz58) ?iz58 (by kernel_rfl) (by kernel_rfl) (by kernel_rfl) (by kernel_rfl) (by kernel_rfl) ?qz58 (Or.inl ⟨?gz58, ?hz58⟩) (by assumption) ?rz58
      case iz58 => (simp only [List.getElem?_toArray, List.getElem?_cons_zero, List.getElem?_cons_succ]; rfl)
      case qz58 => exact fun _ _ _ h => h
      case gz58 => rfl
      case hz58 => (intro w hSw; (simp only [Holds] at hSw); go_simp <;> with_reducible rfl)
      simp only [Act.put, List.setIfInBounds_toArray, List.set_cons_zero, List.set_cons_succ]
      refine until_take (i := 3) (oi := ?oz59) (v := ?vz59) ?iz59 (by kernel_rfl) (by kernel_rfl) (by kernel_rfl) (by kernel_rfl) (by kernel_rfl) ?qz59 (Or.inl ⟨?gz59, ?hz59⟩) (by assumption) ?rz59
      case iz59 => (simp only [List.getElem?_toArray, List.getElem?_cons_zero, List.getElem?_cons_succ]; rfl)
      case qz59 => exact fun _ _ _ h => h
      case gz59 => rfl
      case hz59 => (intro w hSw; (simp only [Holds] at hSw); go_simp <;> with_reducible rfl)
      simp only [Act.put, List.setIfInBounds_toArray, List.set_cons_zero, List.set_cons_succ]
      refine until_take (i := 4) (oi := ?oz60) (v := ?vz60) ?iz60 (by kernel_rfl) (by kernel_rfl) (by kernel_rfl) (by kernel_rfl) (by kernel_rfl) ?qz60 (Or.inl ⟨?gz60, ?hz60⟩) (by assumption) ?rz60
      case iz60 => (simp only [List.getElem?_toArray, List.getElem?_cons_zero, List.getElem?_cons_succ]; rfl)
      case qz60 => exact fun _ _ _ h => h
      case gz60 => rfl
      case hz60 => (intro w hSw; (simp only [Holds] at hSw); go_simp <;> with_reducible rfl)
      simp only [Act.put, List.setIfInBounds_toArray, List.set_cons_zero, List.set_cons_succ]
      refine until_take (i := 5) (oi := ?oz61) (v := ?vz61) ?iz61 (by kernel_rfl) (by kernel_rfl) (by kernel_rfl) (by kernel_rfl) (by kernel_rfl) ?qz61 (Or.inl ⟨?gz61, ?hz61⟩) (by assumption) ?rz61
      case iz61 => (simp only [List.getElem?_toArray, List.getElem?_cons_zero, List.getElem?_cons_succ]; rfl)
      case qz61 => exact fun _ _ _ h => h
      case gz61 => rfl
      case hz61 => (intro w hSw; (simp only [Holds] at hSw); go_simp <;> with_reducible rfl)
      simp only [Act.put, List.setIfInBounds_toArray, List.set_cons_zero, List.set_cons_succ]
      refine until_take (i := 6) (oi := ?oz62) (v := ?vz62) ?iz62 (by kernel_rfl) (by kernel_rfl) (by kernel_rfl) (by kernel_rfl) (by kernel_rfl) ?qz62 (Or.inl ⟨?gz62, ?hz62⟩) (by assumption) ?rz62
      case iz62 => (simp only [List.getElem?_toArray, List.getElem?_cons_zero, List.getElem?_cons_succ]; rfl)
      case qz62 => exact fun _ _ _ h => h
      case gz62 => rfl
      case hz62 => (intro w hSw; (simp only [Holds] at hSw); go_simp <;> with_reducible rfl)
      simp only [Act.put, List.setIfInBounds_toArray, List.set_cons_zero, List.set_cons_succ]
      refine until_take (i := 7) (oi := ?oz63) (v := ?vz63) ?iz63 (by kernel_rfl) (by kernel_rfl) (by kernel_rfl) (by kernel_rfl) (by kernel_rfl) ?qz63 (Or.inl ⟨?gz63, ?hz63⟩) (by assumption) ?rz63
      case iz63 => (simp only [List.getElem?_toArray, List.getElem?_cons_zero, List.getElem?_cons_succ]; rfl)
      case qz63 => exact fun _ _ _ h => h
      case gz63 => rfl
      case hz63 => (intro w hSw; (simp only [Holds] at hSw); go_simp <;> with_reducible rfl)
      simp only [Act.put, List.setIfInBounds_toArray, List.set_cons_zero, List.set_cons_succ]
      refine until_take (i := 8) (oi := ?oz64) (v := ?vz64) ?iz64 (by kernel_rfl) (by kernel_rfl) (by kernel_rfl) (by kernel_rfl) (by kernel_rfl) ?qz64 (Or.inl ⟨?gz64, ?hz64⟩) (by assumption) ?rz64
      case iz64 => (simp only [List.getElem?_toArray, List.getElem?_cons_zero, List.getElem?_cons_succ]; rfl)
      case qz64 => exact fun _ _ _ h => h
      case gz64 => rfl
      case hz64 => (intro w hSw; (simp only [Holds] at hSw); go_simp <;> with_reducible rfl)
      simp only [Act.put, List.setIfInBounds_toArray, List.set_cons_zero, List.set_cons_succ]
      refine until_take (i := 9) (oi := ?oz65) (v := ?vz65) ?iz65 (by kernel_rfl) (by kernel_rfl) (by kernel_rfl) (by kernel_rfl) (by kernel_rfl) ?qz65 (Or.inl ⟨?gz65, ?hz65⟩) (by assumption) ?rz65
      case iz65 => (simp only [List.getElem?_toArray, List.getElem?_cons_zero, List.getElem?_cons_succ]; rfl)
      case qz65 => exact fun _ _ _ h => h
      case gz65 => rfl
      case hz65 => (intro w hSw; (simp only [Holds] at hSw); go_simp <;> with_reducible rfl)
      simp only [Act.put, List.setIfInBounds_toArray, List.set_cons_zero, List.set_cons_succ]
      refine until_take (i := 10) (oi := ?oz66) (v := ?vz66) ?iz66 (by kernel_rfl) (by kernel_rfl) (by kernel_rfl) (by kernel_rfl) (by kernel_rfl) ?qz66 (Or.inl ⟨?gz66, ?hz66⟩) (by assumption) ?rz66
      case iz66 => (simp only [List.getElem?_toArray, List.getElem?_cons_zero, List.getElem?_cons_succ]; rfl)
      case qz66 => exact fun _ _ _ h => h
      case gz66 => rfl
      case hz66 => (intro w hSw; (simp only [Holds] at hSw); go_simp <;> with_reducible rfl)
      simp only [Act.put, List.setIfInBounds_toArray, List.set_cons_zero, List.set_cons_succ]
      refine until_take (i := 11) (oi := ?oz67) (v := ?vz67) ?iz67 (by kernel_rfl) (by kernel_rfl) (by kernel_rfl) (by kernel_rfl) (by kernel_rfl) ?qz67 (Or.inl ⟨?gz67, ?hz67⟩) (by assumption) ?rz67
      case iz67 => (simp only [List.getElem?_toArray, List.getElem?_cons_zero, List.getElem?_cons_succ]; rfl)
      case qz67 => exact fun _ _ _ h => h
      case gz67 => rfl
      case hz67 => (intro w hSw; (simp only [Holds] at hSw); go_simp <;> with_reducible rfl)
      simp only [Act.put, List.setIfInBounds_toArray, List.set_cons_zero, List.set_cons_succ]
      refine until_take (i := 12) (oi := ?oz68) (v := ?vz68) ?iz68 (by kernel_rfl) (by kernel_rfl) (by kernel_rfl) (by kernel_rfl) (by kernel_rfl) ?qz68 (Or.inl ⟨?gz68, ?hz68⟩) (by assumption) ?rz68
      case iz68 => (simp only [List.getElem?_toArray, List.getElem?_cons_zero, List.getElem?_cons_succ]; rfl)
      case qz68 => exact fun _ _ _ h => h
      case gz68 => rfl
      case hz68 => (intro w hSw; (simp only [Holds] at hSw); go_simp <;> with_reducible rfl)
      simp only [Act.put, List.setIfInBounds_toArray, List.set_cons_zero, List.set_cons_succ]
      refine until_take (i := 13) (oi := ?oz69) (v := ?vz69) ?iz69 (by kernel_rfl) (by kernel_rfl) (by kernel_rfl) (by kernel_rfl) (by kernel_rfl) ?qz69 (Or.inl ⟨?gz69, ?hz69⟩) (by assumption) ?rz69
      case iz69 => (simp only [List.getElem?_toArray, List.getElem?_cons_zero, List.getElem?_cons_succ]; rfl)
      case qz69 => exact fun _ _ _ h => h
      case gz69 => rfl
      case hz69 => (intro w hSw; (simp only [Holds] at hSw); go_simp <;> with_reducible rfl)
      simp only [Act.put, List.setIfInBounds_toArray, List.set_cons_zero, List.set_cons_succ]
      refine anyhow_take (i := 14) (oi := ?oz70) (v := ?vz70) ?iz70 (by kernel_rfl) (by kernel_rfl) (by kernel_rfl) (by decide) ?qz70 (Or.inl ⟨?gz70, ?hz70⟩) (Or.inr (by assumption)) ?rz70
      case iz70 => (simp only [List.getElem?_toArray, List.getElem?_cons_zero, List.getElem?_cons_succ]; rfl)
      case qz70 => exact fun _ _ _ h => h
      case gz70 => rfl
      case hz70 => (intro w hSw; clear hSw; go_simp <;> with_reducible rfl)
      simp only [Act.put, List.setIfInBounds_toArray, List.set_cons_zero, List.set_cons_succ]
      refine until_take (i := 15) (oi := ?oz71) (v := ?vz71) ?iz71 (by kernel_rfl) (by kernel_rfl) (by kernel_rfl) (by kernel_rfl) (by kernel_rfl) ?qz71 (Or.inl ⟨?gz71, ?hz71⟩) (by assumption) ?rz71
      case iz71 => (simp only [List.getElem?_toArray, List.getElem?_cons_zero, List.getElem?_cons_succ]; rfl)
      case qz71 => exact fun _ _ _ h => h
      case gz71 => rfl
      case hz71 => (intro w hSw; (simp only [Holds] at hSw); go_simp <;> with_reducible rfl)
      simp only [Act.put, List.setIfInBounds_toArray, List.set_cons_zero, List.set_cons_succ]
      have q7 := HV2.out.car.c7
      have f7 := HV2.out.car.free 7
      refine until_ready (rs := [16]) (by kernel_rfl) (by simp) ?_
      refine (NextU.late (o := ?oz72) ?iz72 (by first | exact Or.inl rfl | exact Or.inr (by kernel_rfl)) (fun K hK => ?kz72) NextU.nil)
      case iz72 => (simp only [List.getElem?_toArray, List.getElem?_cons_zero, List.getElem?_cons_succ]; rfl)
      go_simp
      refine hK.out _ _ ?_
      refine until_done (by kernel_rfl) ?_ _
      go_wp2_with fail
      go_meet
      case rel => exact HV2.out.put 7 _ (HV2.out.car.setLoad _)
    case rest =>
      clear HV1
      have HV1 := Lib.hid hcut
      clear hcut e1 e2
      go_wp2_with fail
      obtain ⟨s, hss⟩ : ∃ s, stp I k = s := ⟨_, rfl⟩
      have HSS := Lib.hid hss
      rw [hss] at HV1
      clear hss
      go_cut [] from 5 (fun wx => VJ w0 b z I sv k t.leave (g + d) (h + s.d) (S.set k true) tv lv tv lv T Q t wx)
      case first =>
        have HV2 := Lib.hid (HV1.out.later ((Below.refl _ wc).drew))
        have hki : (k : Int) < 33 := by omega
        have hSn : Holds (cellsZ z t) wc.drew := HV2.out.holdsZ
        refine wp_until (S := Holds (cellsZ z t)) (m := 16) (by kernel_rfl) ?_
        generalize wc.drew = wd at *
        unfold cellsZ at *
        refine until_take (i := 0) (oi := ?oz73) (v := ?vz73) ?iz73 (by kernel_rfl) (by kernel_rfl) (by kernel_rfl) (by kernel_rfl) (by kernel_rfl) ?qz73 (Or.inl ⟨?gz73, ?hz73⟩) (by assumption) ?rz73
        case iz73 => (simp only [List.getElem?_toArray, List.getElem?_cons_zero]; rfl)
        case qz73 => exact fun _ _ _ h => h
        case gz73 => rfl
        case hz73 => (intro w hSw; (simp only [Holds] at hSw); go_simp <;> with_reducible rfl)
        simp only [Act.put, List.setIfInBounds_toArray, List.set_cons_zero, List.set_cons_succ]
        refine until_take (i := 1) (oi := ?oz74) (v := ?vz74) ?iz74 (by kernel_rfl) (by kernel_rfl) (by kernel_rfl) (by kernel_rfl) (by kernel_rfl) ?qz74 (Or.inl ⟨?gz74, ?hz74⟩) (by assumption) ?rz74
        case iz74 => (simp only [List.getElem?_toArray, List.getElem?_cons_zero, List.getElem?_cons_succ]; rfl)
        case qz74 => exact fun _ _ _ h => h
        case gz74 => rfl
        case hz74 => (intro w hSw; (simp only [Holds] at hSw); go_simp <;> with_reducible rfl)
        simp only [Act.put, List.setIfInBounds_toArray, List.set_cons_zero, List.set_cons_succ]
        refine until_take (i := 2) (oi := ?oz75) (v := ?vz75) ?iz75 (by kernel_rfl) (by kernel_rfl) (by kernel_rfl) (by kernel_rfl) (by kernel_rfl) ?qz75 (Or.inl ⟨?gz75, ?hz75⟩) (by assumption) ?rz75
        case iz75 => (simp only [List.getElem?_toArray, List.getElem?_cons_zero, List.getElem?_cons_succ]; rfl)
        case qz75 => exact fun _ _ _ h => h
        case gz75 => rfl
        case hz75 => (intro w hSw; (simp only [Holds] at hSw); go_simp <;> with_reducible rfl)
        simp only [Act.put, List.setIfInBounds_toArray, List.set_cons_zero, List.set_cons_succ]
        refine until_take (i := 3) (oi := ?oz76) (v := ?vz76) ?iz76 (by kernel_rfl) (by kernel_rfl) (by kernel_rfl) (by kernel_rfl) (by kernel_rfl) ?qz76 (Or.inl ⟨?gz76, ?hz76⟩) (by assumption) ?rz76
        case iz76 => (simp only [List.getElem?_toArray, List.getElem?_cons_zero, List.getElem?_cons_succ]; rfl)
        case qz76 => exact fun _ _ _ h => h
        case gz76 => rfl
        case hz76 => (intro w hSw; (simp only [Holds] at hSw); go_simp <;> with_reducible rfl)
        simp only [Act.put, List.setIfInBounds_toArray, List.set_cons_zero, List.set_cons_succ]
        refine until_take (i := 4) (oi := ?oz77) (v := ?vz77) ?iz77 (by kernel_rfl) (by kernel_rfl) (by kernel_rfl) (by kernel_rfl) (by kernel_rfl) ?qz77 (Or.inl ⟨?gz77, ?hz77⟩) (by assumption) ?rz77
        case iz77 => (simp only [List.getElem?_toArray, List.getElem?_cons_zero, List.getElem?_cons_succ]; rfl)
        case qz77 => exact fun _ _ _ h => h
        case gz77 => rfl
        case hz77 => (intro w hSw; (simp only [Holds] at hSw); go_simp <;> with_reducible rfl)
        simp only [Act.put, List.setIfInBounds_toArray, List.set_cons_zero, List.set_cons_succ]
        refine until_take (i := 5) (oi := ?oz78) (v := ?vz78) ?iz78 (by kernel_rfl) (by kernel_rfl) (by kernel_rfl) (by kernel_rfl) (by kernel_rfl) ?qz78 (Or.inl ⟨?gz78, ?hz78⟩) (by assumption) ?rz78
        case iz78 => (simp only [List.getElem?_toArray, List.getElem?_cons_zero, List.getElem?_cons_succ]; rfl)
        case qz78 => exact fun _ _ _ h => h
        case gz78 => rfl
        case hz78 => (intro w hSw; (simp only [Holds] at hSw); go_simp <;> with_reducible rfl)
        simp only [Act.put, List.setIfInBounds_toArray, List.set_cons_zero, List.set_cons_succ]
        refine until_take (i := 6) (oi := ?oz79) (v := ?vz79) ?iz79 (by kernel_rfl) (by kernel_rfl) (by kernel_rfl) (by kernel_rfl) (by kernel_rfl) ?qz79 (Or.inl ⟨?gz79, ?hz79⟩) (by assumption) ?rz79
        case iz79 => (simp only [List.getElem?_toArray, List.getElem?_cons_zero, List.getElem?_cons_succ]; rfl)
        case qz79 => exact fun _ _ _ h => h
        case gz79 => rfl
        case hz79 => (intro w hSw; (simp only [Holds] at hSw); go_simp <;> with_reducible rfl)
        simp only [Act.put, List.setIfInBounds_toArray, List.set_cons_zero, List.set_cons_succ]
        refine anyhow_take (i := 7) (oi := ?oz80) (v := ?vz80) ?iz80 (by kernel_rfl) (by kernel_rfl) (by kernel_rfl) (by decide) ?qz80 (Or.inl ⟨?gz80, ?hz80⟩) (Or.inr (by assumption)) ?rz80
        case iz80 => (simp only [List.getElem?_toArray, List.getElem?_cons_zero, List.getElem?_cons_succ]; rfl)
        case qz80 => exact fun _ _ _ h => h
        case gz80 => rfl
        case hz80 => (intro w hSw; clear hSw; go_simp <;> with_reducible rfl)
        simp only [Act.put, List.setIfInBounds_toArray, List.set_cons_zero, List.set_cons_succ]
        refine anyhow_take (i := 8) (oi := ?oz81) (v := ?vz81) ?iz81 (by kernel_rfl) (by kernel_rfl) (by kernel_rfl) (by decide) ?qz81 (Or.inl ⟨?gz81, ?hz81⟩) (Or.inr (by assumption)) ?rz81
        case iz81 => (simp only [List.getElem?_toArray, List.getElem?_cons_zero, List.getElem?_cons_succ]; rfl)
        case qz81 => exact fun _ _ _ h => h
        case gz81 => rfl
        case hz81 => (intro w hSw; clear hSw; go_simp <;> with_reducible rfl)
        simp only [Act.put, List.setIfInBounds_toArray, List.set_cons_zero, List.set_cons_succ]
        refine anyhow_take (i := 13) (oi := ?oz82) (v := ?vz82) ?iz82 (by kernel_rfl) (by kernel_rfl) (by kernel_rfl) (by decide) ?qz82 (Or.inl ⟨?gz82, ?hz82⟩) (Or.inr (by assumption)) ?rz82
        case iz82 => (simp only [List.getElem?_toArray, List.getElem?_cons_zero, List.getElem?_cons_succ]; rfl)
        case qz82 => exact fun _ _ _ h => h
        case gz82 => rfl
        case hz82 => (intro w hSw; clear hSw; go_simp <;> with_reducible rfl)
        simp only [Act.put, List.setIfInBounds_toArray, List.set_cons_zero, List.set_cons_succ]
        refine anyhow_take (i := 14) (oi := ?oz83) (v := ?vz83) ?iz83 (by kernel_rfl) (by kernel_rfl) (by kernel_rfl) (by decide) ?qz83 (Or.inl ⟨?gz83, ?hz83⟩) (Or.inr (by assumption)) ?rz83
        case iz83 => (simp only [List.getElem?_toArray, List.getElem?_cons_zero, List.getElem?_cons_succ]; rfl)
        case qz83 => exact fun _ _ _ h => h
        case gz83 => rfl
        case hz83 => (intro w hSw; clear hSw; go_simp <;> with_reducible rfl)
        simp only [Act.put, List.setIfInBounds_toArray, List.set_cons_zero, List.set_cons_succ]
        have q4 := HV2.out.car.c4
        have f4 := HV2.out.car.free 4
        refine until_ready (rs := [9]) (by kernel_rfl) (by simp) ?_
        refine (NextU.cons (o := ?oz84) ?iz84 (fun K hK => ?kz84) NextU.nil)
        case iz84 => (simp only [List.getElem?_toArray, List.getElem?_cons_zero, List.getElem?_cons_succ]; rfl)
        go_simp
        have HV3 := Lib.hid (HV2.out.put 4 _ (HV2.out.car.setAt k))
        generalize wd.setCell ⟨b, 4, none⟩ (.int .i64 k) = w4 at *
        refine hK.out _ _ HV3.out.holdsZ (fun hSn => ?_)
        clear hK q4 f4
        unfold cellsZ at *
        refine anyhow_take (i := 10) (oi := ?oz85) (v := ?vz85) ?iz85 (by kernel_rfl) (by kernel_rfl) (by kernel_rfl) (by decide) ?qz85 (Or.inl ⟨?gz85, ?hz85⟩) (Or.inr (by assumption)) ?rz85
        case iz85 => (simp only [List.getElem?_toArray, List.getElem?_cons_zero, List.getElem?_cons_succ]; rfl)
        case qz85 => exact fun _ _ _ h => h
        case gz85 => rfl
        case hz85 => (intro w hSw; clear hSw; go_simp <;> with_reducible rfl)
        simp only [Act.put, List.setIfInBounds_toArray, List.set_cons_zero, List.set_cons_succ]
        refine anyhow_take (i := 11) (oi := ?oz86) (v := ?vz86) ?iz86 (by kernel_rfl) (by kernel_rfl) (by kernel_rfl) (by decide) ?qz86 (Or.inl ⟨?gz86, ?hz86⟩) (Or.inr (by assumption)) ?rz86
        case iz86 => (simp only [List.getElem?_toArray, List.getElem?_cons_zero, List.getElem?_cons_succ]; rfl)
        case qz86 => exact fun _ _ _ h => h
        case gz86 => rfl
        case hz86 => (intro w hSw; clear hSw; go_simp <;> with_reducible rfl)
        simp only [Act.put, List.setIfInBounds_toArray, List.set_cons_zero, List.set_cons_succ]
        have q5 := HV3.out.car.c5
        have f5 := HV3.out.car.free 5
        refine until_ready (rs := [12]) (by kernel_rfl) (by simp) ?_
        refine (NextU.cons (o := ?oz87) ?iz87 (fun K hK => ?kz87) NextU.nil)
        case iz87 => (simp only [List.getElem?_toArray, List.getElem?_cons_zero, List.getElem?_cons_succ]; rfl)
        go_simp
        have HV4 := Lib.hid (HV3.out.put 5 _ (HV3.out.car.setLeft t.leave))
        generalize w4.setCell ⟨b, 5, none⟩ (.int .i64 t.leave) = w5 at *
        refine hK.out _ _ HV4.out.holdsZ (fun hSn => ?_)
        clear hK q5 f5
        unfold cellsZ at *
        refine until_take (i := 15) (oi := ?oz88) (v := ?vz88) ?iz88 (by kernel_rfl) (by kernel_rfl) (by kernel_rfl) (by kernel_rfl) (by kernel_rfl) ?qz88 (Or.inl ⟨?gz88, ?hz88⟩) (by assumption) ?rz88
        case iz88 => (simp only [List.getElem?_toArray, List.getElem?_cons_zero, List.getElem?_cons_succ]; rfl)
        case qz88 => exact fun _ _ _ h => h
        case gz88 => rfl
        case hz88 => (intro w hSw; (simp only [Holds] at hSw); go_simp <;> with_reducible rfl)
        simp only [Act.put, List.setIfInBounds_toArray, List.set_cons_zero, List.set_cons_succ]
        have q8 := HV4.out.car.cs k hk33
        have f8 := HV4.out.car.free (8 + k)
        refine until_ready (rs := [16]) (by kernel_rfl) (by simp) ?_
        refine (NextU.late (o := ?oz89) ?iz89 (by first | exact Or.inl rfl | exact Or.inr (by kernel_rfl)) (fun K hK => ?kz89) NextU.nil)
        case iz89 => (simp only [List.getElem?_toArray, List.getElem?_cons_zero, List.getElem?_cons_succ]; rfl)
        go_simp
        refine hK.out _ _ ?_
        refine until_done (by kernel_rfl) ?_ _
        go_wp2_with fail
        go_meet
        case rel => exact HV4.out.put (8 + k) _ (HV4.out.car.setSeen k hk33)
      case rest =>
        clear HV1
        have HV1 := Lib.hid hcut
        clear hcut
        go_wp2_with fail
        obtain ⟨i0, hi, hz0, hz1, hz2⟩ := info_parts infoTime
        obtain ⟨j0, hj, hy0, hy1, hy2⟩ := info_parts infoInt
        have HV2 := Lib.hid (HV1.out.later ((Below.refl _ wc).drew))
        have hSn : Holds (cellsV b z (h + s.d) tv lv t) wc.drew := HV2.out.holdsV
        refine wp_until (S := Holds (cellsV b z (h + s.d) tv lv t)) (m := 21) (by kernel_rfl) ?_
        generalize wc.drew = wd at *
        unfold cellsV at *
        refine until_take (i := 0) (oi := ?oz90) (v := ?vz90) ?iz90 (by kernel_rfl) (by kernel_rfl) (by kernel_rfl) (by kernel_rfl) (by kernel_rfl) ?qz90 (Or.inl ⟨?gz90, ?hz90⟩) (by assumption) ?rz90
        case iz90 => (simp only [List.getElem?_toArray, List.getElem?_cons_zero]; rfl)
        case qz90 => exact fun _ _ _ h => h
        case gz90 => rfl
        case hz90 => (intro w hSw; (simp only [Holds] at hSw); go_simp <;> with_reducible rfl)
        simp only [Act.put, List.setIfInBounds_toArray, List.set_cons_zero, List.set_cons_succ]
        refine until_take (i := 2) (oi := ?oz91) (v := ?vz91) ?iz91 (by kernel_rfl) (by kernel_rfl) (by kernel_rfl) (by kernel_rfl) (by kernel_rfl) ?qz91 (Or.inl ⟨?gz91, ?hz91⟩) (by assumption) ?rz91
        case iz91 => (simp only [List.getElem?_toArray, List.getElem?_cons_zero, List.getElem?_cons_succ]; rfl)
        case qz91 => exact fun _ _ _ h => h
        case gz91 => rfl
        case hz91 => (intro w hSw; (simp only [Holds] at hSw); go_simp <;> with_reducible rfl)
        simp only [Act.put, List.setIfInBounds_toArray, List.set_cons_zero, List.set_cons_succ]
        refine until_take (i := 3) (oi := ?oz92) (v := ?vz92) ?iz92 (by kernel_rfl) (by kernel_rfl) (by kernel_rfl) (by kernel_rfl) (by kernel_rfl) ?qz92 (Or.inl ⟨?gz92, ?hz92⟩) (by assumption) ?rz92
        case iz92 => (simp only [List.getElem?_toArray, List.getElem?_cons_zero, List.getElem?_cons_succ]; rfl)
        case qz92 => exact fun _ _ _ h => h
        case gz92 => rfl
        case hz92 => (intro w hSw; (simp only [Holds] at hSw); go_simp <;> with_reducible rfl)
        simp only [Act.put, List.setIfInBounds_toArray, List.set_cons_zero, List.set_cons_succ]
        refine until_take (i := 4) (oi := ?oz93) (v := ?vz93) ?iz93 (by kernel_rfl) (by kernel_rfl) (by kernel_rfl) (by kernel_rfl) (by kernel_rfl) ?qz93 (Or.inl ⟨?gz93, ?hz93⟩) (by assumption) ?rz93
        case iz93 => (simp only [List.getElem?_toArray, List.getElem?_cons_zero, List.getElem?_cons_succ]; rfl)
        case qz93 => exact fun _ _ _ h => h
        case gz93 => rfl
        case hz93 => (intro w hSw; (simp only [Holds] at hSw); go_simp <;> with_reducible rfl)
        simp only [Act.put, List.setIfInBounds_toArray, List.set_cons_zero, List.set_cons_succ]
        refine until_take (i := 5) (oi := ?oz94) (v := ?vz94) ?iz94 (by kernel_rfl) (by kernel_rfl) (by kernel_rfl) (by kernel_rfl) (by kernel_rfl) ?qz94 (Or.inl ⟨?gz94, ?hz94⟩) (by assumption) ?rz94
        case iz94 => (simp only [List.getElem?_toArray, List.getElem?_cons_zero, List.getElem?_cons_succ]; rfl)
        case qz94 => exact fun _ _ _ h => h
        case gz94 => rfl
        case hz94 => (intro w hSw; (simp only [Holds] at hSw); go_simp <;> with_reducible rfl)
        simp only [Act.put, List.setIfInBounds_toArray, List.set_cons_zero, List.set_cons_succ]
        refine until_take (i := 6) (oi := ?oz95) (v := ?vz95) ?iz95 (by kernel_rfl) (by kernel_rfl) (by kernel_rfl) (by kernel_rfl) (by kernel_rfl) ?qz95 (Or.inl ⟨?gz95, ?hz95⟩) (by assumption) ?rz95
        case iz95 => (simp only [List.getElem?_toArray, List.getElem?_cons_zero, List.getElem?_cons_succ]; rfl)
        case qz95 => exact fun _ _ _ h => h
        case gz95 => rfl
        case hz95 => (intro w hSw; (simp only [Holds] at hSw); go_simp <;> with_reducible rfl)
        simp only [Act.put, List.setIfInBounds_toArray, List.set_cons_zero, List.set_cons_succ]
        refine anyhow_take (i := 1) (oi := ?oz96) (v := ?vz96) ?iz96 (by kernel_rfl) (by kernel_rfl) (by kernel_rfl) (by decide) ?qz96 (Or.inl ⟨?gz96, ?hz96⟩) (Or.inr (by assumption)) ?rz96
        case iz96 => (simp only [List.getElem?_toArray, List.getElem?_cons_zero, List.getElem?_cons_succ]; rfl)
        case qz96 => exact fun _ _ _ h => h
        case gz96 => rfl
        case hz96 => (intro w hSw; clear hSw; go_simp <;> with_reducible rfl)
        simp only [Act.put, List.setIfInBounds_toArray, List.set_cons_zero, List.set_cons_succ]
        refine anyhow_take (i := 9) (oi := ?oz97) (v := ?vz97) ?iz97 (by kernel_rfl) (by kernel_rfl) (by kernel_rfl) (by decide) ?qz97 (Or.inl ⟨?gz97, ?hz97⟩) (Or.inr (by assumption)) ?rz97
        case iz97 => (simp only [List.getElem?_toArray, List.getElem?_cons_zero, List.getElem?_cons_succ]; rfl)
        case qz97 => exact fun _ _ _ h => h
        case gz97 => rfl
        case hz97 => (intro w hSw; clear hSw; go_simp <;> with_reducible rfl)
        simp only [Act.put, List.setIfInBounds_toArray, List.set_cons_zero, List.set_cons_succ]
        refine anyhow_take (i := 10) (oi := ?oz98) (v := ?vz98) ?iz98 (by kernel_rfl) (by kernel_rfl) (by kernel_rfl) (by decide) ?qz98 (Or.inl ⟨?gz98, ?hz98⟩) (Or.inr (by assumption)) ?rz98
        case iz98 => (simp only [List.getElem?_toArray, List.getElem?_cons_zero, List.getElem?_cons_succ]; rfl)
        case qz98 => exact fun _ _ _ h => h
        case gz98 => rfl
        case hz98 => (intro w hSw; clear hSw; go_simp <;> with_reducible rfl)
        simp only [Act.put, List.setIfInBounds_toArray, List.set_cons_zero, List.set_cons_succ]
        refine anyhow_take (i := 11) (oi := ?oz99) (v := ?vz99) ?iz99 (by kernel_rfl) (by kernel_rfl) (by kernel_rfl) (by decide) ?qz99 (Or.inl ⟨?gz99, ?hz99⟩) (Or.inr (by assumption)) ?rz99
        case iz99 => (simp only [List.getElem?_toArray, List.getElem?_cons_zero, List.getElem?_cons_succ]; rfl)
        case qz99 => exact fun _ _ _ h => h
        case gz99 => rfl
        case hz99 => (intro w hSw; clear hSw; go_simp <;> with_reducible rfl)
        simp only [Act.put, List.setIfInBounds_toArray, List.set_cons_zero, List.set_cons_succ]
        refine anyhow_take (i := 13) (oi := ?oz100) (v := ?vz100) ?iz100 (by kernel_rfl) (by kernel_rfl) (by kernel_rfl) (by decide) ?qz100 (Or.inl ⟨?gz100, ?hz100⟩) (Or.inr (by assumption)) ?rz100
        case iz100 => (simp only [List.getElem?_toArray, List.getElem?_cons_zero, List.getElem?_cons_succ]; rfl)
        case qz100 => exact fun _ _ _ h => h
        case gz100 => rfl
        case hz100 => (intro w hSw; clear hSw; go_simp <;> with_reducible rfl)
        simp only [Act.put, List.setIfInBounds_toArray, List.set_cons_zero, List.set_cons_succ]
        refine anyhow_take (i := 14) (oi := ?oz101) (v := ?vz101) ?iz101 (by kernel_rfl) (by kernel_rfl) (by kernel_rfl) (by decide) ?qz101 (Or.inl ⟨?gz101, ?hz101⟩) (Or.inr (by assumption)) ?rz101
        case iz101 => (simp only [List.getElem?_toArray, List.getElem?_cons_zero, List.getElem?_cons_succ]; rfl)
        case qz101 => exact fun _ _ _ h => h
        case gz101 => rfl
        case hz101 => (intro w hSw; clear hSw; go_simp <;> with_reducible rfl)
        simp only [Act.put, List.setIfInBounds_toArray, List.set_cons_zero, List.set_cons_succ]
        refine anyhow_take (i := 15) (oi := ?oz102) (v := ?vz102) ?iz102 (by kernel_rfl) (by kernel_rfl) (by kernel_rfl) (by decide) ?qz102 (Or.inl ⟨?gz102, ?hz102⟩) (Or.inr (by assumption)) ?rz102
        case iz102 => (simp only [List.getElem?_toArray, List.getElem?_cons_zero, List.getElem?_cons_succ]; rfl)
        case qz102 => exact fun _ _ _ h => h
        case gz102 => rfl
        case hz102 => (intro w hSw; clear hSw; go_simp <;> with_reducible rfl)
        simp only [Act.put, List.setIfInBounds_toArray, List.set_cons_zero, List.set_cons_succ]
        refine until_take (i := 12) (oi := ?oz103) (v := ?vz103) ?iz103 (by kernel_rfl) (by kernel_rfl) (by kernel_rfl) (by kernel_rfl) (by kernel_rfl) ?qz103 (Or.inl ⟨?gz103, ?hz103⟩) (by assumption) ?rz103
        case iz103 => (simp only [List.getElem?_toArray, List.getElem?_cons_zero, List.getElem?_cons_succ]; rfl)
        case qz103 => exact fun _ _ _ h => h
        case gz103 => rfl
        case hz103 => (intro w hSw; (simp only [Holds] at hSw); go_simp <;> with_reducible rfl)
        simp only [Act.put, List.setIfInBounds_toArray, List.set_cons_zero, List.set_cons_succ]
        refine until_take (i := 16) (oi := ?oz104) (v := ?vz104) ?iz104 (by kernel_rfl) (by kernel_rfl) (by kernel_rfl) (by kernel_rfl) (by kernel_rfl) ?qz104 (Or.inl ⟨?gz104, ?hz104⟩) (by assumption) ?rz104
        case iz104 => (simp only [List.getElem?_toArray, List.getElem?_cons_zero, List.getElem?_cons_succ]; rfl)
        case qz104 => exact fun _ _ _ h => h
        case gz104 => rfl
        case hz104 => (intro w hSw; (simp only [Holds] at hSw); go_simp <;> with_reducible rfl)
        simp only [Act.put, List.setIfInBounds_toArray, List.set_cons_zero, List.set_cons_succ]
        refine until_ready (rs := [7, 17]) (by kernel_rfl) (by simp) ?_
        refine (NextU.cons (o := ?oz105) ?iz105 (fun K hK => ?kz105) (NextU.cons (o := ?oz106) ?iz106 (fun K hK => ?kz106) NextU.nil))
        case iz105 => (simp only [List.getElem?_toArray, List.getElem?_cons_zero, List.getElem?_cons_succ]; rfl)
        case iz106 => (simp only [List.getElem?_toArray, List.getElem?_cons_zero, List.getElem?_cons_succ]; rfl)
        · go_simp
          have HV3 := Lib.hid (HV2.out.later ((Below.refl _ wd).alloc (Nat.le_refl _) (.cells #[.int .i64 t.come, .int .i64 t.begn, .int .i64 t.leave] 179)))
          have N7 := Lib.hid (heap_alloc_new wd (.cells #[.int .i64 t.come, .int .i64 t.begn, .int .i64 t.leave] 179))
          generalize wd.alloc (.cells #[.int .i64 t.come, .int .i64 t.begn, .int .i64 t.leave] 179) = w3 at *
          generalize wd.heap.size = s7 at *
          refine hK.out _ _ HV3.out.holdsV (fun hSn => ?_)
          clear hK
          refine until_ready (rs := [8, 17]) (by kernel_rfl) (by simp) ?_
          refine (NextU.cons (o := ?oz107) ?iz107 (fun K hK => ?kz107) (NextU.cons (o := ?oz108) ?iz108 (fun K hK => ?kz108) NextU.nil))
          case iz107 => (simp only [List.getElem?_toArray, List.getElem?_cons_zero, List.getElem?_cons_succ]; rfl)
          case iz108 => (simp only [List.getElem?_toArray, List.getElem?_cons_zero, List.getElem?_cons_succ]; rfl)
          · skip
            simp only [Act.put, List.setIfInBounds_toArray, List.set_cons_zero, List.set_cons_succ]
            rw [if_pos (by rfl)]
            refine wp_append_lies _ _ _ _ (by rfl) w0.heap.size 179 i0 _ 3 24 Tryz.underlying93 hi hz0 hz1 hz2 rfl (by decide) tv T.length (flatT T) (by rfl) HV3.out.ts ⟨s7, 0, none⟩ 1 1 (rowT t) (by rfl) rfl (World.news_of_block N7.out) (rowT_one t) (by decide) (by unfold maxLen; omega) (by omega) HV3.out.bel.size _ rfl ?_
            intro g2 cp2 wt hown hgrow hgg _
            have HV4 := Lib.hid (HV3.out.moreT (ownT_more hown) hgrow (hgg.elim (fun e => .inl e.symm) (fun e => .inr (by rw [e]; rfl))))
            clear hown hgrow hgg
            refine hK.out _ _ HV4.out.holdsV (fun hSn => ?_)
            clear hK
            refine until_ready (rs := [17]) (by kernel_rfl) (by simp) ?_
            refine (NextU.cons (o := ?oz109) ?iz109 (fun K hK => ?kz109) NextU.nil)
            case iz109 => (simp only [List.getElem?_toArray, List.getElem?_cons_zero, List.getElem?_cons_succ]; rfl)
            go_simp
            have HV5 := Lib.hid (HV4.out.later ((Below.refl _ wt).alloc (Nat.le_refl _) (.cells #[.int .i64 (h + s.d)] 3)))
            have N17 := Lib.hid (heap_alloc_new wt (.cells #[.int .i64 (h + s.d)] 3))
            generalize wt.alloc (.cells #[.int .i64 (h + s.d)] 3) = w5 at *
            generalize wt.heap.size = s17 at *
            refine hK.out _ _ HV5.out.holdsV (fun hSn => ?_)
            clear hK
            refine until_ready (rs := [18]) (by kernel_rfl) (by simp) ?_
            refine (NextU.cons (o := ?oz110) ?iz110 (fun K hK => ?kz110) NextU.nil)
            case iz110 => (simp only [List.getElem?_toArray, List.getElem?_cons_zero, List.getElem?_cons_succ]; rfl)
            simp only [Act.put, List.setIfInBounds_toArray, List.set_cons_zero, List.set_cons_succ]
            rw [if_pos (by rfl)]
            refine wp_append_lies _ _ _ _ (by rfl) w0.heap.size 3 j0 _ 1 8 Tryz.underlying28 hj hy0 hy1 hy2 rfl (by decide) lv Q.length (ints Q) (by rfl) HV5.out.ls ⟨s17, 0, none⟩ 1 1 [.int .i64 (h + s.d)] (by rfl) rfl (World.news_of_block N17.out) (by simp; rfl) (by decide) (by unfold maxLen; omega) (by omega) HV5.out.bel.size _ rfl ?_
            intro g3 cp3 wi hown hgrow _ _
            have HV6 := Lib.hid (HV5.out.moreI (ownI_more hown) hgrow)
            clear hown hgrow
            refine hK.out _ _ HV6.out.holdsV (fun hSn => ?_)
            clear hK
            refine anyhow_take (i := 19) (oi := ?oz111) (v := ?vz111) ?iz111 (by kernel_rfl) (by kernel_rfl) (by kernel_rfl) (by decide) ?qz111 (Or.inl ⟨?gz111, ?hz111⟩) (Or.inr (by assumption)) ?rz111
            case iz111 => (simp only [List.getElem?_toArray, List.getElem?_cons_zero, List.getElem?_cons_succ]; rfl)
            case qz111 => exact fun _ _ _ h => h
            case gz111 => rfl
            case hz111 => (intro w hSw; clear hSw; go_simp <;> with_reducible rfl)
            simp only [Act.put, List.setIfInBounds_toArray, List.set_cons_zero, List.set_cons_succ]
            refine until_take (i := 20) (oi := ?oz112) (v := ?vz112) ?iz112 (by kernel_rfl) (by kernel_rfl) (by kernel_rfl) (by kernel_rfl) (by kernel_rfl) ?qz112 (Or.inl ⟨?gz112, ?hz112⟩) (by assumption) ?rz112
            case iz112 => (simp only [List.getElem?_toArray, List.getElem?_cons_zero, List.getElem?_cons_succ]; rfl)
            case qz112 => exact fun _ _ _ h => h
            case gz112 => rfl
            case hz112 => (intro w hSw; (simp only [Holds] at hSw); go_simp <;> with_reducible rfl)
            simp only [Act.put, List.setIfInBounds_toArray, List.set_cons_zero, List.set_cons_succ]
            have q41 := HV6.out.car.ct
            have f41 := HV6.out.car.free 41
            refine until_ready (rs := [21]) (by kernel_rfl) (by simp) ?_
            refine (NextU.late (o := ?oz113) ?iz113 (by first | exact Or.inl rfl | exact Or.inr (by kernel_rfl)) (fun K hK => ?kz113) NextU.nil)
            case iz113 => (simp only [List.getElem?_toArray, List.getElem?_cons_zero, List.getElem?_cons_succ]; rfl)
            go_simp
            have HV7 := Lib.hid (HV6.out.put 41 _ (HV6.out.car.setTimes (.slice (some ⟨g2, 0, none⟩) (T.length + 1) cp2)))
            generalize wi.setCell ⟨b, 41, none⟩ (.slice (some ⟨g2, 0, none⟩) (T.length + 1) cp2) = wj at *
            refine hK.out _ _ ?_
            clear hK q41 f41 hSn
            refine anyhow_take (i := 22) (oi := ?oz114) (v := ?vz114) ?iz114 (by kernel_rfl) (by kernel_rfl) (by kernel_rfl) (by decide) ?qz114 (Or.inl ⟨?gz114, ?hz114⟩) (Or.inl (by kernel_rfl)) ?rz114
            case iz114 => (simp only [List.getElem?_toArray, List.getElem?_cons_zero, List.getElem?_cons_succ]; rfl)
            case qz114 => exact fun _ _ _ h => h
            case gz114 => rfl
            case hz114 => (intro w hSw; clear hSw; go_simp <;> with_reducible rfl)
            simp only [Act.put, List.setIfInBounds_toArray, List.set_cons_zero, List.set_cons_succ]
            refine anyhow_take (i := 23) (oi := ?oz115) (v := ?vz115) ?iz115 (by kernel_rfl) (by kernel_rfl) (by kernel_rfl) (by decide) ?qz115 (Or.inl ⟨?gz115, ?hz115⟩) (Or.inl (by kernel_rfl)) ?rz115
            case iz115 => (simp only [List.getElem?_toArray, List.getElem?_cons_zero, List.getElem?_cons_succ]; rfl)
            case qz115 => exact fun _ _ _ h => h
            case gz115 => rfl
            case hz115 => (intro w hSw; clear hSw; go_simp <;> with_reducible rfl)
            simp only [Act.put, List.setIfInBounds_toArray, List.set_cons_zero, List.set_cons_succ]
            have q42 := HV7.out.car.cl
            have f42 := HV7.out.car.free 42
            refine until_ready (rs := [24]) (by kernel_rfl) (by simp) ?_
            refine (NextU.late (o := ?oz116) ?iz116 (by first | exact Or.inl rfl | exact Or.inr (by kernel_rfl)) (fun K hK => ?kz116) NextU.nil)
            case iz116 => (simp only [List.getElem?_toArray, List.getElem?_cons_zero, List.getElem?_cons_succ]; rfl)
            go_simp
            have HV8 := Lib.hid (HV7.out.put 42 _ (HV7.out.car.setLoads (.slice (some ⟨g3, 0, none⟩) (Q.length + 1) cp3)))
            generalize wj.setCell ⟨b, 42, none⟩ (.slice (some ⟨g3, 0, none⟩) (Q.length + 1) cp3) = wl at *
            refine hK.out _ _ ?_
            clear hK
            refine until_done (by kernel_rfl) ?_ _
            go_wp2
            exact bodyPost_end (v := .tuple #[]) (by simp [results, Tryz.results114, go_sem]) rfl ⟨rfl, _, _, by rw [HT.out, HD.out, HSS.out]; exact ⟨HV8.out.car, HV8.out.ts, HV8.out.ls, HV8.out.bel⟩⟩
          · go_simp
            have HV4 := Lib.hid (HV3.out.later ((Below.refl _ w3).alloc (Nat.le_refl _) (.cells #[.int .i64 (h + s.d)] 3)))
            have N17 := Lib.hid (heap_alloc_new w3 (.cells #[.int .i64 (h + s.d)] 3))
            have hs7 : s7 < w3.heap.size := (Array.getElem?_eq_some_iff.1 N7.out).1
            have N7 := Lib.hid ((heap_alloc_old w3 (.cells #[.int .i64 (h + s.d)] 3) hs7).trans N7.out)
            generalize w3.alloc (.cells #[.int .i64 (h + s.d)] 3) = w4 at *
            generalize w3.heap.size = s17 at *
            refine hK.out _ _ HV4.out.holdsV (fun hSn => ?_)
            clear hK
            refine until_ready (rs := [8]) (by kernel_rfl) (by simp) ?_
            refine (NextU.cons (o := ?oz117) ?iz117 (fun K hK => ?kz117) NextU.nil)
            case iz117 => (simp only [List.getElem?_toArray, List.getElem?_cons_zero, List.getElem?_cons_succ]; rfl)
            simp only [Act.put, List.setIfInBounds_toArray, List.set_cons_zero, List.set_cons_succ]
            rw [if_pos (by rfl)]
            refine wp_append_lies _ _ _ _ (by rfl) w0.heap.size 179 i0 _ 3 24 Tryz.underlying93 hi hz0 hz1 hz2 rfl (by decide) tv T.length (flatT T) (by rfl) HV4.out.ts ⟨s7, 0, none⟩ 1 1 (rowT t) (by rfl) rfl (World.news_of_block N7.out) (rowT_one t) (by decide) (by unfold maxLen; omega) (by omega) HV4.out.bel.size _ rfl ?_
            intro g2 cp2 wt hown hgrow hgg _
            have HV5 := Lib.hid (HV4.out.moreT (ownT_more hown) hgrow (hgg.elim (fun e => .inl e.symm) (fun e => .inr (by rw [e]; rfl))))
            have N17 := Lib.hid (show wt.heap[s17]? = some (.cells #[.int .i64 (h + s.d)] 3 (0, 0)) by rw [hgrow.block s17 ((Array.getElem?_eq_some_iff.1 N17.out).1) (fun e => own_ne (show OwnT w4 w0.heap.size tv T from HV4.out.ts) N17.out (by decide) e.symm)]; exact N17.out)
            clear hown hgrow hgg
            refine hK.out _ _ HV5.out.holdsV (fun hSn => ?_)
            clear hK
            refine until_ready (rs := [18]) (by kernel_rfl) (by simp) ?_
            refine (NextU.cons (o := ?oz118) ?iz118 (fun K hK => ?kz118) NextU.nil)
            case iz118 => (simp only [List.getElem?_toArray, List.getElem?_cons_zero, List.getElem?_cons_succ]; rfl)
            simp only [Act.put, List.setIfInBounds_toArray, List.set_cons_zero, List.set_cons_succ]
            rw [if_pos (by rfl)]
            refine wp_append_lies _ _ _ _ (by rfl) w0.heap.size 3 j0 _ 1 8 Tryz.underlying28 hj hy0 hy1 hy2 rfl (by decide) lv Q.length (ints Q) (by rfl) HV5.out.ls ⟨s17, 0, none⟩ 1 1 [.int .i64 (h + s.d)] (by rfl) rfl (World.news_of_block N17.out) (by simp; rfl) (by decide) (by unfold maxLen; omega) (by omega) HV5.out.bel.size _ rfl ?_
            intro g3 cp3 wi hown hgrow _ _
            have HV6 := Lib.hid (HV5.out.moreI (ownI_more hown) hgrow)
            clear hown hgrow
            refine hK.out _ _ HV6.out.holdsV (fun hSn => ?_)
            clear hK
            refine anyhow_take (i := 19) (oi := ?oz119) (v := ?vz119) ?iz119 (by kernel_rfl) (by kernel_rfl) (by kernel_rfl) (by decide) ?qz119 (Or.inl ⟨?gz119, ?hz119⟩) (Or.inr (by assumption)) ?rz119
            case iz119 => (simp only [List.getElem?_toArray, List.getElem?_cons_zero, List.getElem?_cons_succ]; rfl)
            case qz119 => exact fun _ _ _ h => h
            case gz119 => rfl
            case hz119 => (intro w hSw; clear hSw; go_simp <;> with_reducible rfl)
            simp only [Act.put, List.setIfInBounds_toArray, List.set_cons_zero, List.set_cons_succ]
            refine until_take (i := 20) (oi := ?oz120) (v := ?vz120) ?iz120 (by kernel_rfl) (by kernel_rfl) (by kernel_rfl) (by kernel_rfl) (by kernel_rfl) ?qz120 (Or.inl ⟨?gz120, ?hz120⟩) (by assumption) ?rz120
            case iz120 => (simp only [List.getElem?_toArray, List.getElem?_cons_zero, List.getElem?_cons_succ]; rfl)
            case qz120 => exact fun _ _ _ h => h
            case gz120 => rfl
            case hz120 => (intro w hSw; (simp only [Holds] at hSw); go_simp <;> with_reducible rfl)
            simp only [Act.put, List.setIfInBounds_toArray, List.set_cons_zero, List.set_cons_succ]
            have q41 := HV6.out.car.ct
            have f41 := HV6.out.car.free 41
            refine until_ready (rs := [21]) (by kernel_rfl) (by simp) ?_
            refine (NextU.late (o := ?oz121) ?iz121 (by first | exact Or.inl rfl | exact Or.inr (by kernel_rfl)) (fun K hK => ?kz121) NextU.nil)
            case iz121 => (simp only [List.getElem?_toArray, List.getElem?_cons_zero, List.getElem?_cons_succ]; rfl)
            go_simp
            have HV7 := Lib.hid (HV6.out.put 41 _ (HV6.out.car.setTimes (.slice (some ⟨g2, 0, none⟩) (T.length + 1) cp2)))
            generalize wi.setCell ⟨b, 41, none⟩ (.slice (some ⟨g2, 0, none⟩) (T.length + 1) cp2) = wj at *
            refine hK.out _ _ ?_
            clear hK q41 f41 hSn
            refine anyhow_take (i := 22) (oi := ?oz122) (v := ?vz122) ?iz122 (by kernel_rfl) (by kernel_rfl) (by kernel_rfl) (by decide) ?qz122 (Or.inl ⟨?gz122, ?hz122⟩) (Or.inl (by kernel_rfl)) ?rz122
            case iz122 => (simp only [List.getElem?_toArray, List.getElem?_cons_zero, List.getElem?_cons_succ]; rfl)
            case qz122 => exact fun _ _ _ h => h
            case gz122 => rfl
            case hz122 => (intro w hSw; clear hSw; go_simp <;> with_reducible rfl)
            simp only [Act.put, List.setIfInBounds_toArray, List.set_cons_zero, List.set_cons_succ]
            refine anyhow_take (i := 23) (oi := ?oz123) (v := ?vz123) ?iz123 (by kernel_rfl) (by kernel_rfl) (by kernel_rfl) (by decide) ?qz123 (Or.inl ⟨?gz123, ?hz123⟩) (Or.inl (by kernel_rfl)) ?rz123
            case iz123 => (simp only [List.getElem?_toArray, List.getElem?_cons_zero, List.getElem?_cons_succ]; rfl)
            case qz123 => exact fun _ _ _ h => h
            case gz123 => rfl
            case hz123 => (intro w hSw; clear hSw; go_simp <;> with_reducible rfl)
            simp only [Act.put, List.setIfInBounds_toArray, List.set_cons_zero, List.set_cons_succ]
            have q42 := HV7.out.car.cl
            have f42 := HV7.out.car.free 42
            refine until_ready (rs := [24]) (by kernel_rfl) (by simp) ?_
            refine (NextU.late (o := ?oz124) ?iz124 (by first | exact Or.inl rfl | exact Or.inr (by kernel_rfl)) (fun K hK => ?kz124) NextU.nil)
            case iz124 => (simp only [List.getElem?_toArray, List.getElem?_cons_zero, List.getElem?_cons_succ]; rfl)
            go_simp
            have HV8 := Lib.hid (HV7.out.put 42 _ (HV7.out.car.setLoads (.slice (some ⟨g3, 0, none⟩) (Q.length + 1) cp3)))
            generalize wj.setCell ⟨b, 42, none⟩ (.slice (some ⟨g3, 0, none⟩) (Q.length + 1) cp3) = wl at *
            refine hK.out _ _ ?_
            clear hK
            refine until_done (by kernel_rfl) ?_ _
            go_wp2
            exact bodyPost_end (v := .tuple #[]) (by simp [results, Tryz.results114, go_sem]) rfl ⟨rfl, _, _, by rw [HT.out, HD.out, HSS.out]; exact ⟨HV8.out.car, HV8.out.ts, HV8.out.ls, HV8.out.bel⟩⟩
        · go_simp
          have HV3 := Lib.hid (HV2.out.later ((Below.refl _ wd).alloc (Nat.le_refl _) (.cells #[.int .i64 (h + s.d)] 3)))
          have N17 := Lib.hid (heap_alloc_new wd (.cells #[.int .i64 (h + s.d)] 3))
          generalize wd.alloc (.cells #[.int .i64 (h + s.d)] 3) = w3 at *
          generalize wd.heap.size = s17 at *
          refine hK.out _ _ HV3.out.holdsV (fun hSn => ?_)
          clear hK
          refine until_ready (rs := [7]) (by kernel_rfl) (by simp) ?_
          refine (NextU.cons (o := ?oz125) ?iz125 (fun K hK => ?kz125) NextU.nil)
          case iz125 => (simp only [List.getElem?_toArray, List.getElem?_cons_zero, List.getElem?_cons_succ]; rfl)
          go_simp
          have HV4 := Lib.hid (HV3.out.later ((Below.refl _ w3).alloc (Nat.le_refl _) (.cells #[.int .i64 t.come, .int .i64 t.begn, .int .i64 t.leave] 179)))
          have N7 := Lib.hid (heap_alloc_new w3 (.cells #[.int .i64 t.come, .int .i64 t.begn, .int .i64 t.leave] 179))
          have hs17 : s17 < w3.heap.size := (Array.getElem?_eq_some_iff.1 N17.out).1
          have N17 := Lib.hid ((heap_alloc_old w3 (.cells #[.int .i64 t.come, .int .i64 t.begn, .int .i64 t.leave] 179) hs17).trans N17.out)
          generalize w3.alloc (.cells #[.int .i64 t.come, .int .i64 t.begn, .int .i64 t.leave] 179) = w4 at *
          generalize w3.heap.size = s7 at *
          refine hK.out _ _ HV4.out.holdsV (fun hSn => ?_)
          clear hK
          refine until_ready (rs := [8]) (by kernel_rfl) (by simp) ?_
          refine (NextU.cons (o := ?oz126) ?iz126 (fun K hK => ?kz126) NextU.nil)
          case iz126 => (simp only [List.getElem?_toArray, List.getElem?_cons_zero, List.getElem?_cons_succ]; rfl)
          simp only [Act.put, List.setIfInBounds_toArray, List.set_cons_zero, List.set_cons_succ]
          rw [if_pos (by rfl)]
          refine wp_append_lies _ _ _ _ (by rfl) w0.heap.size 179 i0 _ 3 24 Tryz.underlying93 hi hz0 hz1 hz2 rfl (by decide) tv T.length (flatT T) (by rfl) HV4.out.ts ⟨s7, 0, none⟩ 1 1 (rowT t) (by rfl) rfl (World.news_of_block N7.out) (rowT_one t) (by decide) (by unfold maxLen; omega) (by omega) HV4.out.bel.size _ rfl ?_
          intro g2 cp2 wt hown hgrow hgg _
          have HV5 := Lib.hid (HV4.out.moreT (ownT_more hown) hgrow (hgg.elim (fun e => .inl e.symm) (fun e => .inr (by rw [e]; rfl))))
          have N17 := Lib.hid (show wt.heap[s17]? = some (.cells #[.int .i64 (h + s.d)] 3 (0, 0)) by rw [hgrow.block s17 ((Array.getElem?_eq_some_iff.1 N17.out).1) (fun e => own_ne (show OwnT w4 w0.heap.size tv T from HV4.out.ts) N17.out (by decide) e.symm)]; exact N17.out)
          clear hown hgrow hgg
          refine hK.out _ _ HV5.out.holdsV (fun hSn => ?_)
          clear hK
          refine until_ready (rs := [18]) (by kernel_rfl) (by simp) ?_
          refine (NextU.cons (o := ?oz127) ?iz127 (fun K hK => ?kz127) NextU.nil)
          case iz127 => (simp only [List.getElem?_toArray, List.getElem?_cons_zero, List.getElem?_cons_succ]; rfl)
          simp only [Act.put, List.setIfInBounds_toArray, List.set_cons_zero, List.set_cons_succ]
          rw [if_pos (by rfl)]
          refine wp_append_lies _ _ _ _ (by rfl) w0.heap.size 3 j0 _ 1 8 Tryz.underlying28 hj hy0 hy1 hy2 rfl (by decide) lv Q.length (ints Q) (by rfl) HV5.out.ls ⟨s17, 0, none⟩ 1 1 [.int .i64 (h + s.d)] (by rfl) rfl (World.news_of_block N17.out) (by simp; rfl) (by decide) (by unfold maxLen; omega) (by omega) HV5.out.bel.size _ rfl ?_
          intro g3 cp3 wi hown hgrow _ _
          have HV6 := Lib.hid (HV5.out.moreI (ownI_more hown) hgrow)
          clear hown hgrow
          refine hK.out _ _ HV6.out.holdsV (fun hSn => ?_)
          clear hK
          refine anyhow_take (i := 19) (oi := ?oz128) (v := ?vz128) ?iz128 (by kernel_rfl) (by kernel_rfl) (by kernel_rfl) (by decide) ?qz128 (Or.inl ⟨?gz128, ?hz128⟩) (Or.inr (by assumption)) ?rz128
          case iz128 => (simp only [List.getElem?_toArray, List.getElem?_cons_zero, List.getElem?_cons_succ]; rfl)
          case qz128 => exact fun _ _ _ h => h
          case gz128 => rfl
          case hz128 => (intro w hSw; clear hSw; go_simp <;> with_reducible rfl)
          simp only [Act.put, List.setIfInBounds_toArray, List.set_cons_zero, List.set_cons_succ]
          refine until_take (i := 20) (oi := ?oz129) (v := ?vz129) ?iz129 (by kernel_rfl) (by kernel_rfl) (by kernel_rfl) (by kernel_rfl) (by kernel_rfl) ?qz129 (Or.inl ⟨?gz129, ?hz129⟩) (by assumption) ?rz129
          case iz129 => (simp only [List.getElem?_toArray, List.getElem?_cons_zero, List.getElem?_cons_succ]; rfl)
          case qz129 => exact fun _ _ _ h => h
          case gz129 => rfl
          case hz129 => (intro w hSw; (simp only [Holds] at hSw); go_simp <;> with_reducible rfl)
          simp only [Act.put, List.setIfInBounds_toArray, List.set_cons_zero, List.set_cons_succ]
          have q41 := HV6.out.car.ct
          have f41 := HV6.out.car.free 41
          refine until_ready (rs := [21]) (by kernel_rfl) (by simp) ?_
          refine (NextU.late (o := ?oz130) ?iz130 (by first | exact Or.inl rfl | exact Or.inr (by kernel_rfl)) (fun K hK => ?kz130) NextU.nil)
          case iz130 => (simp only [List.getElem?_toArray, List.getElem?_cons_zero, List.getElem?_cons_succ]; rfl)
          go_simp
          have HV7 := Lib.hid (HV6.out.put 41 _ (HV6.out.car.setTimes (.slice (some ⟨g2, 0, none⟩) (T.length + 1) cp2)))
          generalize wi.setCell ⟨b, 41, none⟩ (.slice (some ⟨g2, 0, none⟩) (T.length + 1) cp2) = wj at *
          refine hK.out _ _ ?_
          clear hK q41 f41 hSn
          refine anyhow_take (i := 22) (oi := ?oz131) (v := ?vz131) ?iz131 (by kernel_rfl) (by kernel_rfl) (by kernel_rfl) (by decide) ?qz131 (Or.inl ⟨?gz131, ?hz131⟩) (Or.inl (by kernel_rfl)) ?rz131
          case iz131 => (simp only [List.getElem?_toArray, List.getElem?_cons_zero, List.getElem?_cons_succ]; rfl)
          case qz131 => exact fun _ _ _ h => h
          case gz131 => rfl
          case hz131 => (intro w hSw; clear hSw; go_simp <;> with_reducible rfl)
          simp only [Act.put, List.setIfInBounds_toArray, List.set_cons_zero, List.set_cons_succ]
          refine anyhow_take (i := 23) (oi := ?oz132) (v := ?vz132) ?iz132 (by kernel_rfl) (by kernel_rfl) (by kernel_rfl) (by decide) ?qz132 (Or.inl ⟨?gz132, ?hz132⟩) (Or.inl (by kernel_rfl)) ?rz132
          case iz132 => (simp only [List.getElem?_toArray, List.getElem?_cons_zero, List.getElem?_cons_succ]; rfl)
          case qz132 => exact fun _ _ _ h => h
          case gz132 => rfl
          case hz132 => (intro w hSw; clear hSw; go_simp <;> with_reducible rfl)
          simp only [Act.put, List.setIfInBounds_toArray, List.set_cons_zero, List.set_cons_succ]
          have q42 := HV7.out.car.cl
          have f42 := HV7.out.car.free 42
          refine until_ready (rs := [24]) (by kernel_rfl) (by simp) ?_
          refine (NextU.late (o := ?oz133) ?iz133 (by first | exact Or.inl rfl | exact Or.inr (by kernel_rfl)) (fun K hK => ?kz133) NextU.nil)
          case iz133 => (simp only [List.getElem?_toArray, List.getElem?_cons_zero, List.getElem?_cons_succ]; rfl)
          go_simp
          have HV8 := Lib.hid (HV7.out.put 42 _ (HV7.out.car.setLoads (.slice (some ⟨g3, 0, none⟩) (Q.length + 1) cp3)))
          generalize wj.setCell ⟨b, 42, none⟩ (.slice (some ⟨g3, 0, none⟩) (Q.length + 1) cp3) = wl at *
          refine hK.out _ _ ?_
          clear hK
          refine until_done (by kernel_rfl) ?_ _
          go_wp2
          exact bodyPost_end (v := .tuple #[]) (by simp [results, Tryz.results114, go_sem]) rfl ⟨rfl, _, _, by rw [HT.out, HD.out, HSS.out]; exact ⟨HV8.out.car, HV8.out.ts, HV8.out.ls, HV8.out.bel⟩⟩
end Go.Proofs.YtgplajofemencaaGreat
