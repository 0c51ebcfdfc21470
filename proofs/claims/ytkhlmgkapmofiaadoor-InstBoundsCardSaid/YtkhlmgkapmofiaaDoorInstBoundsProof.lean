/- InstBounds holds for every instance and any number, where the library's tables start as its text lays them (the card ties that); there is no further condition. -/
import Derived.Test.YtkhlmgkapmofiaaDoorRows
import Derived.Test.YtkhlmgkapmofiaaDoorTie
import Derived.Test.YtkhlmgkapmofiaaDoorCards
import Derived.Test.YtkhlmgkapmofiaaDoorLaid
import Derived.SevenTiedAt
import Derived.Test.YtkhlmgkapmofiaaDoorIOwn
namespace Go.Proofs.YtkhlmgkapmofiaaDoor.instBounds
open Go.ChangeShapes Go.WideShapes Go.ChangeAt Go.RowKit

theorem SRow.head {w : World} {ad : Option Addr} {n cap : Nat} {l : List Stp} (h : SRow w (.slice ad n cap) l) : SRow w (.slice ad (l.length - 1) cap) (l.take (l.length - 1)) := by
  obtain ⟨hm, a', cap', hv, hc, hc2, hcell⟩ := h
  simp at hv
  obtain ⟨rfl, rfl, rfl⟩ := hv
  have hl : (l.take (l.length - 1)).length = l.length - 1 := by simp
  refine ⟨by omega, ad, cap, by rw [hl], by omega, hc2, ?_⟩
  rcases hcell with rfl | ⟨b, off, ha, hcc⟩
  · exact .inl (by simp)
  · refine .inr ⟨b, off, ha, fun i hi => ?_⟩
    rw [hl] at hi
    rw [nth_take _ _ _ hi]
    exact hcc i (by omega)
theorem no_len {I : Ins} (h : ¬ (I.l.length : Int) = 2 * I.p + 1) : mayB I = false := by
  cases hm : mayB I with
  | false => rfl
  | true => exact absurd (may_len hm).2.2.2 h
theorem no_cars (I : Ins) (h : I.c = 0) : mayB I = false := by
  cases hm : mayB I with
  | false => rfl
  | true => have := (may_len hm).2.1; omega
theorem no_dem {I : Ins} (h : mayB I = true) {i : Nat} (h1 : 1 ≤ i) (hi : i < I.l.length) (t : Stp) (ht : nth I.l i = t) : mayB ⟨I.p, I.c, I.r, I.l.set i ⟨t.x, t.y, t.d + 1, t.r, t.u, t.s⟩⟩ = false := by
  cases hm : mayB ⟨I.p, I.c, I.r, I.l.set i ⟨t.x, t.y, t.d + 1, t.r, t.u, t.s⟩⟩ with
  | false => rfl
  | true =>
    have hp := may_len h
    have k1 := ((may_iff _).1 h).2.2.2.2
    have k2 := ((may_iff _).1 hm).2.2.2.2
    simp only [List.length_set] at k2
    by_cases c : i ≤ I.p.toNat
    · have a := (k1 (I.p.toNat + i) (by omega)).2.2.2 (by omega)
      have b := (k2 (I.p.toNat + i) (by omega)).2.2.2 (by omega)
      rw [show I.p.toNat + i - I.p.toNat = i by omega] at a b
      rw [nth_set _ _ _ _ hi, nth_set _ _ _ _ hi, if_neg (by omega), if_pos rfl] at b
      rw [ht] at a
      simp only at b
      omega
    · have a := (k1 i hi).2.2.2 (by omega)
      have b := (k2 i hi).2.2.2 (by omega)
      rw [nth_set _ _ _ _ hi, nth_set _ _ _ _ hi, if_pos rfl, if_neg (by omega)] at b
      rw [ht] at a
      simp only at b
      omega
theorem no_due {I : Ins} {i : Nat} (hi : i < I.l.length) (t : Stp) : mayB ⟨I.p, I.c, I.r, I.l.set i ⟨t.x, t.y, t.d, t.r, t.r - 1, t.s⟩⟩ = false := by
  cases hm : mayB ⟨I.p, I.c, I.r, I.l.set i ⟨t.x, t.y, t.d, t.r, t.r - 1, t.s⟩⟩ with
  | false => rfl
  | true =>
    have k2 := (((may_iff _).1 hm).2.2.2.2 i (by simpa using hi)).1
    simp only [nth_set _ _ _ _ hi, if_pos] at k2
    have := stop_in k2
    simp only at this
    omega
theorem four (w : World) (I1 I2 I3 I4 : Ins) (u1 u2 u3 u4 : Value) :
    YBox ((((w.alloc (boxI I1 u1)).alloc (boxI I2 u2)).alloc (boxI I3 u3)).alloc (boxI I4 u4)) w.heap.size I1 u1 ∧ YBox ((((w.alloc (boxI I1 u1)).alloc (boxI I2 u2)).alloc (boxI I3 u3)).alloc (boxI I4 u4)) (w.heap.size + 1) I2 u2 ∧
    YBox ((((w.alloc (boxI I1 u1)).alloc (boxI I2 u2)).alloc (boxI I3 u3)).alloc (boxI I4 u4)) (w.heap.size + 1 + 1) I3 u3 ∧ YBox ((((w.alloc (boxI I1 u1)).alloc (boxI I2 u2)).alloc (boxI I3 u3)).alloc (boxI I4 u4)) (w.heap.size + 1 + 1 + 1) I4 u4 := by
  have one : ∀ (w : World) (N : Nat) (I J : Ins) (u v : Value), YBox w N I u → YBox (w.alloc (boxI J v)) N I u := fun w N I J u v h => h.later ((Below.refl _ w).alloc (Nat.le_refl _) _)
  have h2 := ybox_new (w.alloc (boxI I1 u1)) I2 u2
  have h3 := ybox_new ((w.alloc (boxI I1 u1)).alloc (boxI I2 u2)) I3 u3
  have h4 := ybox_new (((w.alloc (boxI I1 u1)).alloc (boxI I2 u2)).alloc (boxI I3 u3)) I4 u4
  rw [show (w.alloc (boxI I1 u1)).heap.size = w.heap.size + 1 by simp] at h2
  rw [show ((w.alloc (boxI I1 u1)).alloc (boxI I2 u2)).heap.size = w.heap.size + 1 + 1 by simp] at h3
  rw [show (((w.alloc (boxI I1 u1)).alloc (boxI I2 u2)).alloc (boxI I3 u3)).heap.size = w.heap.size + 1 + 1 + 1 by simp] at h4
  exact ⟨one _ _ _ _ _ _ (one _ _ _ _ _ _ (one _ _ _ _ _ _ (ybox_new w I1 u1))), one _ _ _ _ _ _ (one _ _ _ _ _ _ h2), one _ _ _ _ _ _ h3, h4⟩
set_option maxRecDepth 1000000 in
set_option maxHeartbeats 1000000 in
theorem walk (I0 : Ins) (v0 : Value) (a1 : Int) (w : World) (e0 : SRow w v0 I0.l) (hT : Tab w.heap.size w) :
    Calls Tryd.prog 7 #[insV I0 v0, .int .i64 a1] w fun e w' => e = .returned (.bool true) ∧ Below w.heap.size w w' := by
  have HT := Lib.hid hT
  have HE := Lib.hid e0
  obtain ⟨a, cap, rfl, hm, hcap, _⟩ := e0.form
  have hm1 : I0.l.length ≤ 9223372036854775807 := by unfold maxLen at hm; omega
  clear hT e0 hm
  unfold insV
  go_enter Tryd.func7, Tryd.ntmps7
  go_wp2_with fail
  change Calls _ _ _ (w.alloc (boxI I0 (.slice a I0.l.length cap))) _
  have HB0 := Lib.hid ((Below.refl _ w).alloc (Nat.le_refl _) (boxI I0 (.slice a I0.l.length cap)))
  have HX := Lib.hid (ybox_new w I0 (.slice a I0.l.length cap))
  have HE0 := Lib.hid (HE.out.below HB0.out)
  generalize w.alloc (boxI I0 (.slice a I0.l.length cap)) = W at *
  refine (iawake_any _ ((HT.out.on HB0.out).up HB0.out.size)).mono ?_
  rintro e w1 ⟨rfl, hb⟩
  have HX1 := Lib.hid (HX.out.later hb)
  have HW1 := Lib.hid hb
  have HB1 := Lib.hid (HB0.out.trans (hb.mono HB0.out.size))
  clear hb
  obtain ⟨c0, c1, c2, c3⟩ := HX1.out.cells
  by_cases h33 : 33 < I0.l.length
  · have d1 : decide ((33 : Int) < (I0.l.length : Int)) = true := decide_eq_true (by omega)
    go_wp2
    go_ret
    exact ⟨rfl, HB1.out⟩
  have d1 : decide ((33 : Int) < (I0.l.length : Int)) = false := decide_eq_false (by omega)
  go_wp2_with fail
  change Calls _ _ #[insV I0 (.slice a I0.l.length cap)] _ _
  refine (may_any (HE0.out.below HW1.out)).mono ?_
  rintro e w2 ⟨rfl, hb⟩
  have HX2 := Lib.hid (HX1.out.later hb)
  have HW2 := Lib.hid (HW1.out.trans (hb.mono HW1.out.size))
  have HB2 := Lib.hid (HB1.out.trans (hb.mono HB1.out.size))
  clear hb c0 c1 c2 c3
  obtain ⟨c0, c1, c2, c3⟩ := HX2.out.cells
  cases hmay : mayB I0
  · go_wp2
    go_ret
    exact ⟨rfl, HB2.out⟩
  have hl := may_len hmay
  have hml := hl.2.2.2
  have HM := Lib.hid hmay
  have z1 : ((I0.l.length : Int) == 0) = false := by rw [beq_eq_false_iff_ne]; omega
  have z2 : (0 : Int) < (I0.l.length : Int) := by omega
  have z3 : (0 : Int) ≤ (I0.l.length : Int) - 1 := by omega
  have HML := Lib.hid hml
  have hpb := hl.1
  clear hmay hml hl
  by_cases h1 : a1 < 1
  · have d2 : decide (a1 < 1) = true := decide_eq_true h1
    go_wp2
    go_ret
    exact ⟨rfl, HB2.out⟩
  have d2 : decide (a1 < 1) = false := decide_eq_false h1
  by_cases h2 : (I0.l.length : Int) ≤ a1
  · have d3 : decide ((I0.l.length : Int) ≤ a1) = true := decide_eq_true h2
    go_wp2
    go_ret
    exact ⟨rfl, HB2.out⟩
  have d3 : decide ((I0.l.length : Int) ≤ a1) = false := decide_eq_false h2
  obtain ⟨i, rfl⟩ : ∃ i : Nat, a1 = i := ⟨a1.toNat, by omega⟩
  have hil : i < I0.l.length := by omega
  have hii : (i : Int) < (I0.l.length : Int) := by omega
  have hi1 : 1 ≤ i := by omega
  have e1 : IntKind.i64.wrap (I0.p + 1) = I0.p + 1 := IntWalk.i64_in _ (by omega)
  have HE2 := Lib.hid (HE0.out.below HW2.out)
  have hz := HX2.out.lt
  have hsW := HW2.out.size
  have d4 : decide (I0.l.length ≤ i) = false := decide_eq_false (by omega)
  have hz1 : w.heap.size < w2.heap.size + 1 := by omega
  have hz2 : w.heap.size < w2.heap.size + 1 + 1 := by omega
  have hz3 : w.heap.size < w2.heap.size + 1 + 1 + 1 := by omega
  obtain ⟨t, ht⟩ : ∃ t, nth I0.l i = t := ⟨_, rfl⟩
  have hdem := dem_in HM.out i hil
  have hsto := stop_in (((may_iff _).1 HM.out).2.2.2.2 i hil).1
  rw [ht] at hdem hsto
  have HTT := Lib.hid ht
  have HNA := Lib.hid (no_len (I := ⟨I0.p, I0.c, I0.r, I0.l.take (I0.l.length - 1)⟩) (by have := HML.out; simp only [List.length_take]; omega))
  have HNB := Lib.hid (no_len (I := ⟨I0.p + 1, I0.c, I0.r, I0.l⟩) (by have := HML.out; simp only; omega))
  have HNC := Lib.hid (no_cars ⟨I0.p, 0, I0.r, I0.l⟩ rfl)
  have HND := Lib.hid (no_dem HM.out hi1 hil t ht)
  have HNE := Lib.hid (no_due (I := I0) hil t)
  have e2 : IntKind.i64.wrap (t.d + 1) = t.d + 1 := IntWalk.i64_in _ (by omega)
  have e3 : IntKind.i64.wrap (t.r - 1) = t.r - 1 := IntWalk.i64_in _ (by omega)
  have E2 := Lib.hid e2
  have E3 := Lib.hid e3
  clear ht e2 e3
  go_wp2_with (first | (at_builtin; refine app_stops rfl _ _ rfl (w2.heap.size + 4) (.slice none 0 0) [] rfl (ownS_nil _ _) _ I0.l rfl (HE2.out.below (by repeat' (first | exact Below.refl _ _ | (refine Below.alloc ?_ ?_ _) | (refine Below.setCell ?_ ?_ _) | (simp; omega) | simp))) (by simp; omega) (by simp) ?_))
  intro v' w' hown hgrow _
  have HO := Lib.hid hown
  have HG := Lib.hid (grown_below hgrow (Nat.le_refl _) (fun q hq => by simp [Value.ownBlock] at hq))
  obtain ⟨hA, hB, hC, hD⟩ := four w2 ⟨I0.p, I0.c, I0.r, I0.l.take (I0.l.length - 1)⟩ ⟨I0.p + 1, I0.c, I0.r, I0.l⟩ ⟨I0.p, 0, I0.r, I0.l⟩ I0 (.slice a (I0.l.length - 1) cap) (.slice a I0.l.length cap) (.slice a I0.l.length cap) (.slice a I0.l.length cap)
  have HA := Lib.hid (hA.later HG.out)
  have HB := Lib.hid (hB.later HG.out)
  have HC := Lib.hid (hC.later HG.out)
  have HD := Lib.hid (hD.later HG.out)
  have HW3 := Lib.hid (show Below w2.heap.size w2 w' from (((((Below.refl _ w2).alloc (Nat.le_refl _) _).alloc (by simp) _).alloc (by simp; omega) _).alloc (by simp; omega) _).trans (HG.out.mono (by simp; omega)))
  have HX3 := Lib.hid (HX2.out.later HW3.out)
  clear hown hgrow hA hB hC hD c0 c1 c2 c3
  obtain ⟨g, vc, rfl⟩ := HO.out.form (by omega)
  obtain ⟨y0, y1, y2, y3⟩ := HD.out.cells
  have f3 := HD.out.free 3
  have HA4 := Lib.hid (HA.out.other ⟨w2.heap.size + 1 + 1 + 1, 3, none⟩ (.slice (some ⟨g, 0, none⟩) I0.l.length vc) (by first | (simp; done) | (simp; omega)))
  have HB4 := Lib.hid (HB.out.other ⟨w2.heap.size + 1 + 1 + 1, 3, none⟩ (.slice (some ⟨g, 0, none⟩) I0.l.length vc) (by first | (simp; done) | (simp; omega)))
  have HC4 := Lib.hid (HC.out.other ⟨w2.heap.size + 1 + 1 + 1, 3, none⟩ (.slice (some ⟨g, 0, none⟩) I0.l.length vc) (by first | (simp; done) | (simp; omega)))
  have HD4 := Lib.hid (HD.out.stops (.slice (some ⟨g, 0, none⟩) I0.l.length vc))
  have HX4 := Lib.hid (HX3.out.other ⟨w2.heap.size + 1 + 1 + 1, 3, none⟩ (.slice (some ⟨g, 0, none⟩) I0.l.length vc) (by first | (simp; done) | (simp; omega)))
  have HO4 := Lib.hid (show OwnS (w'.setCell ⟨w2.heap.size + 1 + 1 + 1, 3, none⟩ (.slice (some ⟨g, 0, none⟩) I0.l.length vc)) (w2.heap.size + 4) (.slice (some ⟨g, 0, none⟩) I0.l.length vc) I0.l from ownsRow_setCell_below HO.out (by simp) _)
  have HW4 := Lib.hid (HW3.out.setCell (p := ⟨w2.heap.size + 1 + 1 + 1, 3, none⟩) (by simp; omega) (.slice (some ⟨g, 0, none⟩) I0.l.length vc))
  go_wp2_with fail
  generalize w'.setCell ⟨w2.heap.size + 1 + 1 + 1, 3, none⟩ (.slice (some ⟨g, 0, none⟩) I0.l.length vc) = W3 at *
  have HDr := Lib.hid ((Below.refl W3.heap.size W3).drew)
  have HA5 := Lib.hid (HA4.out.later HDr.out)
  have HB5 := Lib.hid (HB4.out.later HDr.out)
  have HC5 := Lib.hid (HC4.out.later HDr.out)
  have HD5 := Lib.hid (HD4.out.later HDr.out)
  have HX5 := Lib.hid (HX4.out.later HDr.out)
  have HO5 := Lib.hid (HO4.out.below HDr.out)
  have HW5 := Lib.hid (HW4.out.drew)
  obtain ⟨hat, hfr, hgl, hgb⟩ := HO5.out.at i hil
  rw [HTT.out] at hat
  have m2 := hat.2.2.1
  have fr2 := hfr (i * 6 + 2)
  have hdl := HD5.out.lt
  have HS0 := Lib.hid (show Holds [(⟨w2.heap.size + 1 + 1 + 1, 3, none⟩, .slice (some ⟨g, 0, none⟩) I0.l.length vc)] W3.drew from ⟨HD5.out.cells.2.2.2, trivial⟩)
  have hlt := Lib.hid (show Lows W3.drew.heap.size [((⟨w2.heap.size + 1 + 1 + 1, 3, none⟩ : Addr), (.slice (some ⟨g, 0, none⟩) I0.l.length vc : Value))] from ⟨hdl, trivial⟩)
  refine wp_region_held_drew (S := Holds [(⟨w2.heap.size + 1 + 1 + 1, 3, none⟩, .slice (some ⟨g, 0, none⟩) I0.l.length vc)]) (by kernel_rfl) HS0.out (fun hSn => ?_)
  clear HA HB HC HD HX3 HO HW3 HG HA4 HB4 HC4 HD4 HX4 HO4 HW4 HDr y0 y1 y2 y3 f3 hat hfr
  generalize W3.drew = Wd at *
  have Bc := Lib.hid (Below.refl Wd.heap.size Wd)
  have e2 := E2.out
  refine wpAnyH_take (i := 0) (oi := ?oz1) (v := ?vz1) ?iz1 (by kernel_rfl) (by kernel_rfl) (by kernel_rfl) ?qz1 (Or.inl ⟨?gz1, ?hz1⟩) (by assumption) ?rz1
  case iz1 => (simp only [List.getElem?_toArray, List.getElem?_cons_zero]; rfl)
  case qz1 => exact fun _ _ _ h => h
  case gz1 => rfl
  case hz1 => (intro w hSw; (simp only [Holds] at hSw); go_simp <;> with_reducible rfl)
  simp only [Act.put, List.setIfInBounds_toArray, List.set_cons_zero, List.set_cons_succ]
  refine wpAnyH_take (i := 1) (oi := ?oz2) (v := ?vz2) ?iz2 (by kernel_rfl) (by kernel_rfl) (by kernel_rfl) ?qz2 (Or.inl ⟨?gz2, ?hz2⟩) (by assumption) ?rz2
  case iz2 => (simp only [List.getElem?_toArray, List.getElem?_cons_zero, List.getElem?_cons_succ]; rfl)
  case qz2 => exact fun _ _ _ h => h
  case gz2 => rfl
  case hz2 => (intro w hSw; (simp only [Holds] at hSw); go_simp <;> with_reducible rfl)
  simp only [Act.put, List.setIfInBounds_toArray, List.set_cons_zero, List.set_cons_succ]
  refine wpAnyH_take (i := 2) (oi := ?oz3) (v := ?vz3) ?iz3 (by kernel_rfl) (by kernel_rfl) (by kernel_rfl) ?qz3 (Or.inl ⟨?gz3, ?hz3⟩) (by assumption) ?rz3
  case iz3 => (simp only [List.getElem?_toArray, List.getElem?_cons_zero, List.getElem?_cons_succ]; rfl)
  case qz3 => exact fun _ _ _ h => h
  case gz3 => rfl
  case hz3 => (intro w hSw; (simp only [Holds] at hSw); go_simp <;> with_reducible rfl)
  simp only [Act.put, List.setIfInBounds_toArray, List.set_cons_zero, List.set_cons_succ]
  refine wpAnyH_take (i := 3) (oi := ?oz4) (v := ?vz4) ?iz4 (by kernel_rfl) (by kernel_rfl) (by kernel_rfl) ?qz4 (Or.inl ⟨?gz4, ?hz4⟩) (by assumption) ?rz4
  case iz4 => (simp only [List.getElem?_toArray, List.getElem?_cons_zero, List.getElem?_cons_succ]; rfl)
  case qz4 => exact fun _ _ _ h => h
  case gz4 => rfl
  case hz4 => (intro w hSw; (simp only [Holds] at hSw); go_simp <;> with_reducible rfl)
  simp only [Act.put, List.setIfInBounds_toArray, List.set_cons_zero, List.set_cons_succ]
  refine wpAnyH_take (i := 4) (oi := ?oz5) (v := ?vz5) ?iz5 (by kernel_rfl) (by kernel_rfl) (by kernel_rfl) ?qz5 (Or.inl ⟨?gz5, ?hz5⟩) (by assumption) ?rz5
  case iz5 => (simp only [List.getElem?_toArray, List.getElem?_cons_zero, List.getElem?_cons_succ]; rfl)
  case qz5 => exact fun _ _ _ h => h
  case gz5 => rfl
  case hz5 => (intro w hSw; (simp only [Holds] at hSw); go_simp <;> with_reducible rfl)
  simp only [Act.put, List.setIfInBounds_toArray, List.set_cons_zero, List.set_cons_succ]
  refine wpAnyH_take (i := 5) (oi := ?oz6) (v := ?vz6) ?iz6 (by kernel_rfl) (by kernel_rfl) (by kernel_rfl) ?qz6 (Or.inl ⟨?gz6, ?hz6⟩) (by assumption) ?rz6
  case iz6 => (simp only [List.getElem?_toArray, List.getElem?_cons_zero, List.getElem?_cons_succ]; rfl)
  case qz6 => exact fun _ _ _ h => h
  case gz6 => rfl
  case hz6 => (intro w hSw; (simp only [Holds] at hSw); go_simp <;> with_reducible rfl)
  simp only [Act.put, List.setIfInBounds_toArray, List.set_cons_zero, List.set_cons_succ]
  refine wpAnyH_take (i := 6) (oi := ?oz7) (v := ?vz7) ?iz7 (by kernel_rfl) (by kernel_rfl) (by kernel_rfl) ?qz7 (Or.inl ⟨?gz7, ?hz7⟩) (by assumption) ?rz7
  case iz7 => (simp only [List.getElem?_toArray, List.getElem?_cons_zero, List.getElem?_cons_succ]; rfl)
  case qz7 => exact fun _ _ _ h => h
  case gz7 => rfl
  case hz7 => (intro w hSw; (simp only [Holds] at hSw); go_simp <;> with_reducible rfl)
  simp only [Act.put, List.setIfInBounds_toArray, List.set_cons_zero, List.set_cons_succ]
  refine wpAnyH_take (i := 7) (oi := ?oz8) (v := ?vz8) ?iz8 (by kernel_rfl) (by kernel_rfl) (by kernel_rfl) ?qz8 (Or.inl ⟨?gz8, ?hz8⟩) (by assumption) ?rz8
  case iz8 => (simp only [List.getElem?_toArray, List.getElem?_cons_zero, List.getElem?_cons_succ]; rfl)
  case qz8 => exact fun _ _ _ h => h
  case gz8 => rfl
  case hz8 => (intro w hSw; (simp only [Holds] at hSw); go_simp <;> with_reducible rfl)
  simp only [Act.put, List.setIfInBounds_toArray, List.set_cons_zero, List.set_cons_succ]
  refine wpAnyH_ready (rs := [8]) (by kernel_rfl) (by simp) ?_
  refine (AllReadyH.cons (o := ?oz9) ?iz9 (fun K hK => ?kz9) AllReadyH.nil)
  case iz9 => (simp only [List.getElem?_toArray, List.getElem?_cons_zero, List.getElem?_cons_succ]; rfl)
  go_simp
  refine held_more hK HS0.out hlt Bc.out (fun Bc hSn => ?_)
  refine wpAnyH_take (i := 9) (oi := ?oz10) (v := ?vz10) ?iz10 (by kernel_rfl) (by kernel_rfl) (by kernel_rfl) ?qz10 (Or.inl ⟨?gz10, ?hz10⟩) (by assumption) ?rz10
  case iz10 => (simp only [List.getElem?_toArray, List.getElem?_cons_zero, List.getElem?_cons_succ]; rfl)
  case qz10 => exact fun _ _ _ h => h
  case gz10 => rfl
  case hz10 => (intro w hSw; (simp only [Holds] at hSw); go_simp <;> with_reducible rfl)
  simp only [Act.put, List.setIfInBounds_toArray, List.set_cons_zero, List.set_cons_succ]
  refine wpAnyH_take (i := 10) (oi := ?oz11) (v := ?vz11) ?iz11 (by kernel_rfl) (by kernel_rfl) (by kernel_rfl) ?qz11 (Or.inl ⟨?gz11, ?hz11⟩) (by assumption) ?rz11
  case iz11 => (simp only [List.getElem?_toArray, List.getElem?_cons_zero, List.getElem?_cons_succ]; rfl)
  case qz11 => exact fun _ _ _ h => h
  case gz11 => rfl
  case hz11 => (intro w hSw; (simp only [Holds] at hSw); go_simp <;> with_reducible rfl)
  simp only [Act.put, List.setIfInBounds_toArray, List.set_cons_zero, List.set_cons_succ]
  refine wpAnyH_take (i := 11) (oi := ?oz12) (v := ?vz12) ?iz12 (by kernel_rfl) (by kernel_rfl) (by kernel_rfl) ?qz12 (Or.inl ⟨?gz12, ?hz12⟩) (by assumption) ?rz12
  case iz12 => (simp only [List.getElem?_toArray, List.getElem?_cons_zero, List.getElem?_cons_succ]; rfl)
  case qz12 => exact fun _ _ _ h => h
  case gz12 => rfl
  case hz12 => (intro w hSw; (simp only [Holds] at hSw); go_simp <;> with_reducible rfl)
  simp only [Act.put, List.setIfInBounds_toArray, List.set_cons_zero, List.set_cons_succ]
  clear e2
  refine wpAnyH_ready (rs := [12]) (by kernel_rfl) (by simp) ?_
  refine (AllReadyH.cons (o := ?oz13) ?iz13 (fun K hK => ?kz13) AllReadyH.nil)
  case iz13 => (simp only [List.getElem?_toArray, List.getElem?_cons_zero, List.getElem?_cons_succ]; rfl)
  go_simp
  refine hK.out _ _ (Holds.set (M := w2.heap.size + 4) (by simp; omega) hSn ⟨by first | (simp; done) | (simp; omega), trivial⟩) (fun hSn => ?_)
  refine wpAnyH_done (by kernel_rfl) ?_ _
  have HA6 := Lib.hid (HA5.out.other ⟨g, i * 6 + 2, none⟩ (.int .i64 (t.d + 1)) (by first | (simp; done) | (simp; omega)))
  have HB6 := Lib.hid (HB5.out.other ⟨g, i * 6 + 2, none⟩ (.int .i64 (t.d + 1)) (by first | (simp; done) | (simp; omega)))
  have HC6 := Lib.hid (HC5.out.other ⟨g, i * 6 + 2, none⟩ (.int .i64 (t.d + 1)) (by first | (simp; done) | (simp; omega)))
  have HD6 := Lib.hid (HD5.out.other ⟨g, i * 6 + 2, none⟩ (.int .i64 (t.d + 1)) (by first | (simp; done) | (simp; omega)))
  have HX6 := Lib.hid (HX5.out.other ⟨g, i * 6 + 2, none⟩ (.int .i64 (t.d + 1)) (by first | (simp; done) | (simp; omega)))
  have HO6 := Lib.hid ((HO5.out.stored i 2 ⟨t.x, t.y, t.d + 1, t.r, t.u, t.s⟩ (.int .i64 (t.d + 1)) hil (by omega) (by rw [HTT.out]; rfl) ⟨g, i * 6 + 2, none⟩ rfl).1)
  have HW6 := Lib.hid (HW5.out.setCell (p := ⟨g, i * 6 + 2, none⟩) (by simp; omega) (.int .i64 (t.d + 1)))
  generalize HH : Wd.setCell ⟨g, i * 6 + 2, none⟩ (.int .i64 (t.d + 1)) = W5 at *
  clear HH HA5 HB5 HC5 HD5 HX5 HO5 HW5 hSn HS0 hlt Bc m2 fr2 hdl hgl
  have HE6 := Lib.hid (HE2.out.below HW6.out)
  have hz5 : w.heap.size < W5.heap.size := HX6.out.lt
  have hd5 : w2.heap.size + 1 + 1 + 1 < W5.heap.size := HD6.out.lt
  obtain ⟨c0, c1, c2, c3⟩ := HX6.out.cells
  go_wp2_with (first | (at_builtin; refine app_stops rfl _ _ rfl (W5.heap.size + 1) (.slice none 0 0) [] rfl (ownS_nil _ _) _ I0.l rfl (HE6.out.below ((Below.refl _ W5).alloc (Nat.le_refl _) _)) (by simp; omega) (by simp) ?_))
  intro v' w' hown hgrow _
  have HP := Lib.hid hown
  have HG := Lib.hid (grown_below hgrow (Nat.le_refl _) (fun q hq => by simp [Value.ownBlock] at hq))
  have HW7 := Lib.hid (show Below W5.heap.size W5 w' from ((Below.refl _ W5).alloc (Nat.le_refl _) _).trans (HG.out.mono (by simp)))
  have HF := Lib.hid ((ybox_new W5 I0 (.slice a I0.l.length cap)).later HG.out)
  have HA := Lib.hid (HA6.out.later HW7.out)
  have HB := Lib.hid (HB6.out.later HW7.out)
  have HC := Lib.hid (HC6.out.later HW7.out)
  have HD := Lib.hid (HD6.out.later HW7.out)
  have HO := Lib.hid (HO6.out.below HW7.out)
  clear hown hgrow c0 c1 c2 c3
  obtain ⟨g2, vc2, rfl⟩ := HP.out.form (by omega)
  obtain ⟨y0, y1, y2, y3⟩ := HF.out.cells
  have f3 := HF.out.free 3
  have hgo := HO.out.at i (by simpa using hil)
  have HA4 := Lib.hid (HA.out.other ⟨W5.heap.size, 3, none⟩ (.slice (some ⟨g2, 0, none⟩) I0.l.length vc2) (by first | (simp; done) | (simp; omega)))
  have HB4 := Lib.hid (HB.out.other ⟨W5.heap.size, 3, none⟩ (.slice (some ⟨g2, 0, none⟩) I0.l.length vc2) (by first | (simp; done) | (simp; omega)))
  have HC4 := Lib.hid (HC.out.other ⟨W5.heap.size, 3, none⟩ (.slice (some ⟨g2, 0, none⟩) I0.l.length vc2) (by first | (simp; done) | (simp; omega)))
  have HD4 := Lib.hid (HD.out.other ⟨W5.heap.size, 3, none⟩ (.slice (some ⟨g2, 0, none⟩) I0.l.length vc2) (by first | (simp; done) | (simp; omega)))
  have HF4 := Lib.hid (HF.out.stops (.slice (some ⟨g2, 0, none⟩) I0.l.length vc2))
  have HP4 := Lib.hid (show OwnS (w'.setCell ⟨W5.heap.size, 3, none⟩ (.slice (some ⟨g2, 0, none⟩) I0.l.length vc2)) (W5.heap.size + 1) (.slice (some ⟨g2, 0, none⟩) I0.l.length vc2) I0.l from ownsRow_setCell_below HP.out (by simp) _)
  have HW8 := Lib.hid (HW7.out.setCell (p := ⟨W5.heap.size, 3, none⟩) (Nat.le_refl _) (.slice (some ⟨g2, 0, none⟩) I0.l.length vc2))
  go_wp2_with fail
  generalize w'.setCell ⟨W5.heap.size, 3, none⟩ (.slice (some ⟨g2, 0, none⟩) I0.l.length vc2) = W3 at *
  have HDr := Lib.hid ((Below.refl W3.heap.size W3).drew)
  have HA5 := Lib.hid (HA4.out.later HDr.out)
  have HB5 := Lib.hid (HB4.out.later HDr.out)
  have HC5 := Lib.hid (HC4.out.later HDr.out)
  have HD5 := Lib.hid (HD4.out.later HDr.out)
  have HF5 := Lib.hid (HF4.out.later HDr.out)
  have HP5 := Lib.hid (HP4.out.below HDr.out)
  have HW9 := Lib.hid (HW8.out.drew)
  obtain ⟨hat, hfr, hgl, hgb2⟩ := HP5.out.at i hil
  rw [HTT.out] at hat
  have m3 := hat.2.2.2.1
  have m4 := hat.2.2.2.2.1
  have fr4 := hfr (i * 6 + 4)
  have hdl := HF5.out.lt
  have HS0 := Lib.hid (show Holds [(⟨W5.heap.size, 3, none⟩, .slice (some ⟨g2, 0, none⟩) I0.l.length vc2)] W3.drew from ⟨HF5.out.cells.2.2.2, trivial⟩)
  have hlt := Lib.hid (show Lows W3.drew.heap.size [((⟨W5.heap.size, 3, none⟩ : Addr), (.slice (some ⟨g2, 0, none⟩) I0.l.length vc2 : Value))] from ⟨hdl, trivial⟩)
  refine wp_region_held_drew (S := Holds [(⟨W5.heap.size, 3, none⟩, .slice (some ⟨g2, 0, none⟩) I0.l.length vc2)]) (by kernel_rfl) HS0.out (fun hSn => ?_)
  clear HA HB HC HD HF HP HO HW7 HG HA4 HB4 HC4 HD4 HF4 HP4 HW8 HDr y0 y1 y2 y3 f3 hat hfr hgo
  generalize W3.drew = Wd at *
  have Bc := Lib.hid (Below.refl Wd.heap.size Wd)
  have e3 := E3.out
  refine wpAnyH_take (i := 0) (oi := ?oz14) (v := ?vz14) ?iz14 (by kernel_rfl) (by kernel_rfl) (by kernel_rfl) ?qz14 (Or.inl ⟨?gz14, ?hz14⟩) (by assumption) ?rz14
  case iz14 => (simp only [List.getElem?_toArray, List.getElem?_cons_zero]; rfl)
  case qz14 => exact fun _ _ _ h => h
  case gz14 => rfl
  case hz14 => (intro w hSw; (simp only [Holds] at hSw); go_simp <;> with_reducible rfl)
  simp only [Act.put, List.setIfInBounds_toArray, List.set_cons_zero, List.set_cons_succ]
  refine wpAnyH_take (i := 1) (oi := ?oz15) (v := ?vz15) ?iz15 (by kernel_rfl) (by kernel_rfl) (by kernel_rfl) ?qz15 (Or.inl ⟨?gz15, ?hz15⟩) (by assumption) ?rz15
  case iz15 => (simp only [List.getElem?_toArray, List.getElem?_cons_zero, List.getElem?_cons_succ]; rfl)
  case qz15 => exact fun _ _ _ h => h
  case gz15 => rfl
  case hz15 => (intro w hSw; (simp only [Holds] at hSw); go_simp <;> with_reducible rfl)
  simp only [Act.put, List.setIfInBounds_toArray, List.set_cons_zero, List.set_cons_succ]
  refine wpAnyH_take (i := 2) (oi := ?oz16) (v := ?vz16) ?iz16 (by kernel_rfl) (by kernel_rfl) (by kernel_rfl) ?qz16 (Or.inl ⟨?gz16, ?hz16⟩) (by assumption) ?rz16
  case iz16 => (simp only [List.getElem?_toArray, List.getElem?_cons_zero, List.getElem?_cons_succ]; rfl)
  case qz16 => exact fun _ _ _ h => h
  case gz16 => rfl
  case hz16 => (intro w hSw; (simp only [Holds] at hSw); go_simp <;> with_reducible rfl)
  simp only [Act.put, List.setIfInBounds_toArray, List.set_cons_zero, List.set_cons_succ]
  refine wpAnyH_take (i := 3) (oi := ?oz17) (v := ?vz17) ?iz17 (by kernel_rfl) (by kernel_rfl) (by kernel_rfl) ?qz17 (Or.inl ⟨?gz17, ?hz17⟩) (by assumption) ?rz17
  case iz17 => (simp only [List.getElem?_toArray, List.getElem?_cons_zero, List.getElem?_cons_succ]; rfl)
  case qz17 => exact fun _ _ _ h => h
  case gz17 => rfl
  case hz17 => (intro w hSw; (simp only [Holds] at hSw); go_simp <;> with_reducible rfl)
  simp only [Act.put, List.setIfInBounds_toArray, List.set_cons_zero, List.set_cons_succ]
  refine wpAnyH_take (i := 4) (oi := ?oz18) (v := ?vz18) ?iz18 (by kernel_rfl) (by kernel_rfl) (by kernel_rfl) ?qz18 (Or.inl ⟨?gz18, ?hz18⟩) (by assumption) ?rz18
  case iz18 => (simp only [List.getElem?_toArray, List.getElem?_cons_zero, List.getElem?_cons_succ]; rfl)
  case qz18 => exact fun _ _ _ h => h
  case gz18 => rfl
  case hz18 => (intro w hSw; (simp only [Holds] at hSw); go_simp <;> with_reducible rfl)
  simp only [Act.put, List.setIfInBounds_toArray, List.set_cons_zero, List.set_cons_succ]
  refine wpAnyH_take (i := 5) (oi := ?oz19) (v := ?vz19) ?iz19 (by kernel_rfl) (by kernel_rfl) (by kernel_rfl) ?qz19 (Or.inl ⟨?gz19, ?hz19⟩) (by assumption) ?rz19
  case iz19 => (simp only [List.getElem?_toArray, List.getElem?_cons_zero, List.getElem?_cons_succ]; rfl)
  case qz19 => exact fun _ _ _ h => h
  case gz19 => rfl
  case hz19 => (intro w hSw; (simp only [Holds] at hSw); go_simp <;> with_reducible rfl)
  simp only [Act.put, List.setIfInBounds_toArray, List.set_cons_zero, List.set_cons_succ]
  refine wpAnyH_take (i := 6) (oi := ?oz20) (v := ?vz20) ?iz20 (by kernel_rfl) (by kernel_rfl) (by kernel_rfl) ?qz20 (Or.inl ⟨?gz20, ?hz20⟩) (by assumption) ?rz20
  case iz20 => (simp only [List.getElem?_toArray, List.getElem?_cons_zero, List.getElem?_cons_succ]; rfl)
  case qz20 => exact fun _ _ _ h => h
  case gz20 => rfl
  case hz20 => (intro w hSw; (simp only [Holds] at hSw); go_simp <;> with_reducible rfl)
  simp only [Act.put, List.setIfInBounds_toArray, List.set_cons_zero, List.set_cons_succ]
  refine wpAnyH_take (i := 7) (oi := ?oz21) (v := ?vz21) ?iz21 (by kernel_rfl) (by kernel_rfl) (by kernel_rfl) ?qz21 (Or.inl ⟨?gz21, ?hz21⟩) (by assumption) ?rz21
  case iz21 => (simp only [List.getElem?_toArray, List.getElem?_cons_zero, List.getElem?_cons_succ]; rfl)
  case qz21 => exact fun _ _ _ h => h
  case gz21 => rfl
  case hz21 => (intro w hSw; (simp only [Holds] at hSw); go_simp <;> with_reducible rfl)
  simp only [Act.put, List.setIfInBounds_toArray, List.set_cons_zero, List.set_cons_succ]
  refine wpAnyH_ready (rs := [8]) (by kernel_rfl) (by simp) ?_
  refine (AllReadyH.cons (o := ?oz22) ?iz22 (fun K hK => ?kz22) AllReadyH.nil)
  case iz22 => (simp only [List.getElem?_toArray, List.getElem?_cons_zero, List.getElem?_cons_succ]; rfl)
  go_simp
  refine held_more hK HS0.out hlt Bc.out (fun Bc hSn => ?_)
  refine wpAnyH_take (i := 9) (oi := ?oz23) (v := ?vz23) ?iz23 (by kernel_rfl) (by kernel_rfl) (by kernel_rfl) ?qz23 (Or.inl ⟨?gz23, ?hz23⟩) (by assumption) ?rz23
  case iz23 => (simp only [List.getElem?_toArray, List.getElem?_cons_zero, List.getElem?_cons_succ]; rfl)
  case qz23 => exact fun _ _ _ h => h
  case gz23 => rfl
  case hz23 => (intro w hSw; (simp only [Holds] at hSw); go_simp <;> with_reducible rfl)
  simp only [Act.put, List.setIfInBounds_toArray, List.set_cons_zero, List.set_cons_succ]
  refine wpAnyH_take (i := 10) (oi := ?oz24) (v := ?vz24) ?iz24 (by kernel_rfl) (by kernel_rfl) (by kernel_rfl) ?qz24 (Or.inl ⟨?gz24, ?hz24⟩) (by assumption) ?rz24
  case iz24 => (simp only [List.getElem?_toArray, List.getElem?_cons_zero, List.getElem?_cons_succ]; rfl)
  case qz24 => exact fun _ _ _ h => h
  case gz24 => rfl
  case hz24 => (intro w hSw; (simp only [Holds] at hSw); go_simp <;> with_reducible rfl)
  simp only [Act.put, List.setIfInBounds_toArray, List.set_cons_zero, List.set_cons_succ]
  refine wpAnyH_take (i := 11) (oi := ?oz25) (v := ?vz25) ?iz25 (by kernel_rfl) (by kernel_rfl) (by kernel_rfl) ?qz25 (Or.inl ⟨?gz25, ?hz25⟩) (by assumption) ?rz25
  case iz25 => (simp only [List.getElem?_toArray, List.getElem?_cons_zero, List.getElem?_cons_succ]; rfl)
  case qz25 => exact fun _ _ _ h => h
  case gz25 => rfl
  case hz25 => (intro w hSw; (simp only [Holds] at hSw); go_simp <;> with_reducible rfl)
  simp only [Act.put, List.setIfInBounds_toArray, List.set_cons_zero, List.set_cons_succ]
  clear e3
  refine wpAnyH_ready (rs := [12]) (by kernel_rfl) (by simp) ?_
  refine (AllReadyH.cons (o := ?oz26) ?iz26 (fun K hK => ?kz26) AllReadyH.nil)
  case iz26 => (simp only [List.getElem?_toArray, List.getElem?_cons_zero, List.getElem?_cons_succ]; rfl)
  go_simp
  refine hK.out _ _ (Holds.set (M := W5.heap.size + 1) (by simp; omega) hSn ⟨by simp, trivial⟩) (fun hSn => ?_)
  refine wpAnyH_done (by kernel_rfl) ?_ _
  have HA6' := Lib.hid (HA5.out.other ⟨g2, i * 6 + 4, none⟩ (.int .i64 (t.r - 1)) (by first | (simp; done) | (simp; omega)))
  have HB6' := Lib.hid (HB5.out.other ⟨g2, i * 6 + 4, none⟩ (.int .i64 (t.r - 1)) (by first | (simp; done) | (simp; omega)))
  have HC6' := Lib.hid (HC5.out.other ⟨g2, i * 6 + 4, none⟩ (.int .i64 (t.r - 1)) (by first | (simp; done) | (simp; omega)))
  have HD6' := Lib.hid (HD5.out.other ⟨g2, i * 6 + 4, none⟩ (.int .i64 (t.r - 1)) (by first | (simp; done) | (simp; omega)))
  have HF6 := Lib.hid (HF5.out.other ⟨g2, i * 6 + 4, none⟩ (.int .i64 (t.r - 1)) (by first | (simp; done) | (simp; omega)))
  have HP6 := Lib.hid ((HP5.out.stored i 4 ⟨t.x, t.y, t.d, t.r, t.r - 1, t.s⟩ (.int .i64 (t.r - 1)) hil (by omega) (by rw [HTT.out]; rfl) ⟨g2, i * 6 + 4, none⟩ rfl).1)
  have HW10 := Lib.hid (HW9.out.setCell (p := ⟨g2, i * 6 + 4, none⟩) (by simp; omega) (.int .i64 (t.r - 1)))
  have HO7 := Lib.hid (HO6.out.below HW10.out)
  generalize HH : Wd.setCell ⟨g2, i * 6 + 4, none⟩ (.int .i64 (t.r - 1)) = V0 at *
  have HWV := Lib.hid (HW6.out.trans (HW10.out.mono HW6.out.size))
  have HEV := Lib.hid (HE2.out.below HWV.out)
  clear HH HA5 HB5 HC5 HD5 HF5 HP5 HW9 hSn HS0 hlt Bc m3 m4 fr4 hdl hgl HA6 HB6 HC6 HD6 HX6 HO6 HW6 HE6
  obtain ⟨c0, c1, c2, c3⟩ := HA6'.out.cells
  go_wp2_with fail
  change Calls _ _ #[insV ⟨I0.p, I0.c, I0.r, I0.l.take (I0.l.length - 1)⟩ (.slice a (I0.l.length - 1) cap)] _ _
  refine (may_any (I := ⟨I0.p, I0.c, I0.r, I0.l.take (I0.l.length - 1)⟩) (SRow.head HEV.out)).mono ?_
  rw [HNA.out]
  rintro e V1 ⟨rfl, hb⟩
  have K1 := Lib.hid hb
  obtain ⟨c0, c1, c2, c3⟩ := (HB6'.out.later K1.out).cells
  clear hb
  go_wp2_with fail
  change Calls _ _ #[insV ⟨I0.p + 1, I0.c, I0.r, I0.l⟩ (.slice a I0.l.length cap)] _ _
  refine (may_any (I := ⟨I0.p + 1, I0.c, I0.r, I0.l⟩) (HEV.out.below K1.out)).mono ?_
  rw [HNB.out]
  rintro e V2 ⟨rfl, hb⟩
  have K2 := Lib.hid (K1.out.trans (hb.mono K1.out.size))
  clear hb c0 c1 c2 c3
  obtain ⟨c0, c1, c2, c3⟩ := (HC6'.out.later K2.out).cells
  go_wp2_with fail
  change Calls _ _ #[insV ⟨I0.p, 0, I0.r, I0.l⟩ (.slice a I0.l.length cap)] _ _
  refine (may_any (I := ⟨I0.p, 0, I0.r, I0.l⟩) (HEV.out.below K2.out)).mono ?_
  rw [HNC.out]
  rintro e V3 ⟨rfl, hb⟩
  have K3 := Lib.hid (K2.out.trans (hb.mono K2.out.size))
  clear hb c0 c1 c2 c3
  obtain ⟨c0, c1, c2, c3⟩ := (HD6'.out.later K3.out).cells
  go_wp2_with fail
  change Calls _ _ #[insV ⟨I0.p, I0.c, I0.r, I0.l.set i ⟨t.x, t.y, t.d + 1, t.r, t.u, t.s⟩⟩ (.slice (some ⟨g, 0, none⟩) I0.l.length vc)] _ _
  refine (may_any (I := ⟨I0.p, I0.c, I0.r, I0.l.set i ⟨t.x, t.y, t.d + 1, t.r, t.u, t.s⟩⟩) (HO7.out.below K3.out).row).mono ?_
  rw [HND.out]
  rintro e V4 ⟨rfl, hb⟩
  have K4 := Lib.hid (K3.out.trans (hb.mono K3.out.size))
  clear hb c0 c1 c2 c3
  obtain ⟨c0, c1, c2, c3⟩ := (HF6.out.later K4.out).cells
  go_wp2_with fail
  change Calls _ _ #[insV ⟨I0.p, I0.c, I0.r, I0.l.set i ⟨t.x, t.y, t.d, t.r, t.r - 1, t.s⟩⟩ (.slice (some ⟨g2, 0, none⟩) I0.l.length vc2)] _ _
  refine (may_any (I := ⟨I0.p, I0.c, I0.r, I0.l.set i ⟨t.x, t.y, t.d, t.r, t.r - 1, t.s⟩⟩) (HP6.out.below K4.out).row).mono ?_
  rw [HNE.out]
  rintro e V5 ⟨rfl, hb⟩
  have K5 := Lib.hid (K4.out.trans (hb.mono K4.out.size))
  clear hb c0 c1 c2 c3
  go_wp2
  go_ret
  exact ⟨rfl, HB2.out.trans ((HWV.out.trans (K5.out.mono HWV.out.size)).mono HB2.out.size)⟩

set_option maxRecDepth 100000 in
theorem lifted (os : Os) (started : os.Started) (H : Type) (enc : TypeId × Value → H) :
    ReturnsInHanded {} Tryd.checked os 7 .any (fun w args => (Rows.instBoundsSpec.pre enc Tryd.prog Tryd.f7 [] false w args ∧ laidMetH Tryd.prog Rows.instBoundsRow.laid w) ∧ sizedMet enc Tryd.prog Tryd.f7 (OpenSpec.ofChange Rows.instBoundsSpec) false w args)
      (Rows.instBoundsSpec.post enc Tryd.prog Tryd.f7 false true false false) := by
  refine returnsInHanded_of_change_and (C := Tryd.checked) (X := fun w _ => laidMetH Tryd.prog Rows.instBoundsRow.laid w) (fun _ _ _ hh h => h.of_heap hh) own started (by kernel_rfl) Tryd.func7
    (ChangeSpec.witness_shaped (enc := enc) (C := Tryd.checked) (os := os) (X := fun w _ => laidMetH Tryd.prog Rows.instBoundsRow.laid w) false (World.doorLaid Tryd.prog 24 os) #[.agg #[.int .i64 0, .int .i64 0, .int .i64 0, .slice none 0 0], .int .i64 0] 8 rfl (World.shaped_of_RefB (by kernel_rfl) (by kernel_rfl)) (by kernel_rfl) (by kernel_rfl) (by kernel_rfl) (door_met os _)) ?_
  intro W base args ds gs before hval0 hW _ _ hL _
  have hval : ∀ (j : Nat) t v, Tryd.f7.params[j]? = some t → args[j]? = some v → Value.okWide Tryd.prog W .any base t v := hval0
  have hW' := hW
  obtain ⟨p, q, hA0, hV, rfl, hfz, hnd⟩ := hW
  have hA : DataW.TrodAll enc Tryd.prog W 0 (fun _ => true) true Tryd.f7.params.toList args.toList ds p := hA0
  rw [Tryd.params7] at hA hval
  obtain ⟨v0, vs0, d0, ds0, p0, q0, hargs, rfl, rfl, h0, r0⟩ := trodAll_cons hA
  obtain ⟨v1, vs1, d1, ds1, p1, q1, rfl, rfl, rfl, h1, r1⟩ := trodAll_cons r0
  obtain ⟨rfl, rfl, rfl⟩ := trodAll_nil r1
  obtain rfl : args = #[v0, v1] := by cases args; simp_all
  obtain ⟨rfl, rfl⟩ := trodVars_none hV
  have k0 := h0
  have lt0 : ∀ x ∈ p0, x.block < W.heap.size := by obtain ⟨m, hm⟩ := k0; exact DataW.trod_lt m _ _ _ hm
  have k1 := h1
  have lt1 : ∀ x ∈ p1, x.block < W.heap.size := by obtain ⟨m, hm⟩ := k1; exact DataW.trod_lt m _ _ _ hm
  obtain ⟨I0, u0, rfl, e0, _⟩ := open_inst (hval 0 26 v0 rfl rfl) h0
  obtain ⟨a1, rfl, rfl, rfl, i1⟩ := open_int Tryd.underlying3 (hval 1 3 v1 rfl rfl) h1
  have hT := tab_of_laid hL
  clear hA0 hval0
  refine (walk I0 _ a1 W e0 hT).mono fun e W' ⟨he, bel⟩ => ?_
  subst he
  exact ⟨_, rfl, _, _, _, [], _, [], hW', trodAll_mk1 (shut_bool Tryd.underlying4 _), (trodAll_cons_mk (Below.trod laidOut (by kernel_rfl) (of_decide_eq_true (by kernel_rfl)) k0 bel lt0) (trodAll_cons_mk (Below.trod laidOut (by kernel_rfl) (of_decide_eq_true (by kernel_rfl)) k1 bel lt1) trodAll_mk0)), rfl, bel.frame _, fun h => by cases h⟩

theorem over : Rows.InstBoundsSaid :=
  OpenClaim.holds_of_wide 7 Tryd.f7 rfl rfl rfl rfl rfl rfl rfl ⟨rfl, rfl, rfl, rfl, rfl⟩ rfl rfl rfl rfl rfl (by kernel_rfl) Tryd.func7 (by kernel_rfl)
    (of_decide_eq_true (by kernel_rfl)) (by unfold Func.isWrapper; first | (rw [if_pos (by decide +kernel)]; kernel_rfl) | (rw [if_neg (by decide +kernel)]; exact ⟨rfl, rfl⟩))
    (fun os started H enc _ => lifted os started H enc)

theorem proved : Rows.InstBoundsCardSaid :=
  Claim7.holds_tied_plain_at .later [] [.data, .data, .data] true Rows.instBoundsCard.stood.harness false
    over (fun _ h => by cases h) (by kernel_rfl) (fun _ h => by cases h) instBounds_row_tie rfl ⟨rfl, rfl⟩ (by kernel_rfl) rfl
    (fun f fn hf hfn => by
      obtain rfl : f = 7 := Option.some.inj ((show Tryd.prog.funcNamed Rows.instBoundsRow.func = some 7 by kernel_rfl).symm.trans hf) |>.symm
      obtain rfl : fn = Tryd.f7 := (Option.some.inj (Tryd.func7.symm.trans hfn)).symm
      refine ⟨by kernel_rfl, fun j t ht => ?_⟩
      rw [Tryd.params7] at ht
      rcases j with _ | _ | j
      · obtain rfl : t = 26 := by simpa using ht.symm
        exact (show Tryd.prog.wantsStandIn 26 = false by kernel_rfl)
      · obtain rfl : t = 3 := by simpa using ht.symm
        exact (show Tryd.prog.wantsStandIn 3 = false by kernel_rfl)
      · simp at ht)
    (by kernel_rfl)
#print axioms proved
end Go.Proofs.YtkhlmgkapmofiaaDoor.instBounds
