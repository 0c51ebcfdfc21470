/- SchedWider holds for every instance, every list of stops and all numbers; there is no further condition. -/
import Derived.Test.YtpgbbnmflnhlbaaOrd
import Derived.Test.YtpgbbnmflnhlbaaRows
import Derived.Test.YtpgbbnmflnhlbaaXTSched
namespace Go.Proofs.Ytpgbbnmflnhlbaa.schedWider
open Go.ChangeShapes Go.WideShapes Go.ChangeAt Go.RowKit

theorem nthT_get {l : List Tm} {k : Nat} (h : k < l.length) : nthT l k = l[k] := by unfold nthT; simp [List.getD_eq_getElem?_getD, h]
def widerS (s : Stp) (e la : Int) : Stp := ⟨s.x, s.y, s.d, s.r - e, s.u + la, s.s⟩
theorem wider_of {I : Ins} {j : Nat} {e la ro : Int} (h1 : 1 ≤ j) (hj : j < I.l.length) (he : 0 ≤ e) (hl : 0 ≤ la) (hr : 0 ≤ ro) : Wider I ⟨I.p, I.c, I.r + ro, I.l.set j (widerS (nth I.l j) e la)⟩ := by
  refine ⟨rfl, by show I.r ≤ I.r + ro; omega, ?_, fun i _ _ => ?_⟩
  · show nth (I.l.set j _) 0 = _
    rw [nth_set _ _ _ _ hj, if_neg (by omega)]
  · unfold stp
    show (nth (I.l.set j _) i.toNat).x = _ ∧ _
    rw [nth_set _ _ _ _ hj]
    by_cases c : i.toNat = j
    · rw [if_pos c, c]
      exact ⟨rfl, rfl, rfl, rfl, by show (nth I.l j).r - e ≤ _; omega, by show _ ≤ (nth I.l j).u + la; omega⟩
    · rw [if_neg c]
      exact ⟨rfl, rfl, rfl, rfl, Int.le_refl _, Int.le_refl _⟩
theorem own_kept {w : World} {B g : Nat} {v : Value} {l : List Stp} {I : Ins} {u : Value} (h : OwnS w B v l) (hy : YBox w g I u) (i : Nat) (x : Value) : OwnS (w.setCell ⟨g, i, none⟩ x) B v l := by
  have hg : w.grownBy (w.setCell ⟨g, i, none⟩ x) (some g) := ⟨rfl, rfl, rfl, by simp [World.setCell], fun k _ hk => heap_setCell_other w ⟨g, i, none⟩ k _ (fun e => hk (by rw [e]))⟩
  exact h.kept hg (.inr (own_ne (show w.ownsRow B 23 6 v l.length (flat l) from h) hy (by decide)))
set_option maxRecDepth 1000000 in
set_option maxHeartbeats 4000000 in
theorem walk (I0 : Ins) (v0 : Value) (v1 : Value) (l1 : List Int) (a2 : Int) (a3 : Int) (a4 : Int) (a5 : Int) (w : World) (e0 : SRow w v0 I0.l) (e1 : Row w v1 (ints l1)) :
    Calls Try.prog 14 #[insV I0 v0, v1, .int .i64 a2, .int .i64 a3, .int .i64 a4, .int .i64 a5] w fun e w' => e = .returned (.bool true) ∧ Below w.heap.size w w' := by
  have HE := Lib.hid e0
  have HR := Lib.hid e1
  obtain ⟨a, cap, rfl, hm, _⟩ := e0.form
  obtain ⟨a1, cap1, rfl, hm1⟩ := e1.form
  simp only [ints_len] at *
  have hx0 : I0.l.length ≤ 9223372036854775807 := by unfold maxLen at hm; omega
  have hx1 : l1.length ≤ 9223372036854775807 := by unfold maxLen at hm1; omega
  clear e0 e1 hm hm1
  unfold insV
  go_enter Try.func14, Try.ntmps14
  go_wp2_with fail
  change Calls _ _ _ (w.alloc (boxI I0 (.slice a I0.l.length cap))) _
  have HB0 := Lib.hid ((Below.refl _ w).alloc (Nat.le_refl _) (boxI I0 (.slice a I0.l.length cap)))
  have HXB := Lib.hid (ybox_new w I0 (.slice a I0.l.length cap))
  generalize w.alloc (boxI I0 (.slice a I0.l.length cap)) = W at *
  refine (tawake_any _).mono ?_
  rintro e w1 ⟨rfl, hb⟩
  have HB1 := Lib.hid (HB0.out.trans (hb.mono HB0.out.size))
  have HX1 := Lib.hid ((show YBox W w.heap.size I0 (.slice a I0.l.length cap) from HXB.out).later hb)
  clear hb
  obtain ⟨c0, c1, c2, c3⟩ := HX1.out.cells
  go_wp2_with fail
  change Calls _ _ #[insV I0 (.slice a I0.l.length cap), .slice a1 l1.length cap1] _ _
  refine (times_any (HE.out.below HB1.out) (HR.out.below HB1.out)).mono ?_
  rintro e w2 ⟨u, rfl, ht, hb⟩
  have HB2 := Lib.hid (HB1.out.trans (hb.mono HB1.out.size))
  have HX2 := Lib.hid (HX1.out.later hb)
  have HTR := Lib.hid ht.row
  obtain ⟨ua, uc, rfl⟩ := ht.shape
  clear hb ht c0 c1 c2 c3
  obtain ⟨c0, c1, c2, c3⟩ := HX2.out.cells
  obtain ⟨er, her⟩ : ∃ er, errT I0 l1 = er := ⟨_, rfl⟩
  have HER := Lib.hid her
  rw [her]
  clear her
  by_cases q1 : (33 : Int) < (I0.l.length : Int)
  · have d1 := decide_eq_true q1
    clear q1
    go_wp2
    go_ret
    exact ⟨rfl, HB2.out⟩
  have d1 := decide_eq_false q1
  clear q1
  by_cases q2 : (100 : Int) < (l1.length : Int)
  · have d2 := decide_eq_true q2
    clear q2
    go_wp2
    go_ret
    exact ⟨rfl, HB2.out⟩
  have d2 := decide_eq_false q2
  clear q2
  by_cases q3 : er = 0
  rotate_left
  · have d3 : (er != 0) = true := by simp [q3]
    clear q3
    go_wp2
    go_ret
    exact ⟨rfl, HB2.out⟩
  subst q3
  obtain ⟨s, hts⟩ := errT_zero HER.out
  have HTS := Lib.hid hts
  clear hts
  by_cases q4 : a2 < 1
  · have d4 := decide_eq_true q4
    clear q4
    go_wp2
    go_ret
    exact ⟨rfl, HB2.out⟩
  have d4 := decide_eq_false q4
  by_cases q5 : (I0.l.length : Int) ≤ a2
  · have d5 := decide_eq_true q5
    clear q4 q5
    go_wp2
    go_ret
    exact ⟨rfl, HB2.out⟩
  have d5 := decide_eq_false q5
  by_cases q6 : a3 < 0
  · have d6 := decide_eq_true q6
    clear q4 q5 q6
    go_wp2
    go_ret
    exact ⟨rfl, HB2.out⟩
  have d6 := decide_eq_false q6
  by_cases q7 : (1000 : Int) < a3
  · have d7 := decide_eq_true q7
    clear q4 q5 q6 q7
    go_wp2
    go_ret
    exact ⟨rfl, HB2.out⟩
  have d7 := decide_eq_false q7
  by_cases q8 : a4 < 0
  · have d8 := decide_eq_true q8
    clear q4 q5 q6 q7 q8
    go_wp2
    go_ret
    exact ⟨rfl, HB2.out⟩
  have d8 := decide_eq_false q8
  by_cases q9 : (1000 : Int) < a4
  · have d9 := decide_eq_true q9
    clear q4 q5 q6 q7 q8 q9
    go_wp2
    go_ret
    exact ⟨rfl, HB2.out⟩
  have d9 := decide_eq_false q9
  by_cases q10 : a5 < 0
  · have d10 := decide_eq_true q10
    clear q4 q5 q6 q7 q8 q9 q10
    go_wp2
    go_ret
    exact ⟨rfl, HB2.out⟩
  have d10 := decide_eq_false q10
  by_cases q11 : (1000 : Int) < a5
  · have d11 := decide_eq_true q11
    clear q4 q5 q6 q7 q8 q9 q10 q11
    go_wp2
    go_ret
    exact ⟨rfl, HB2.out⟩
  have d11 := decide_eq_false q11
  have q5' : a2 < (I0.l.length : Int) := by omega
  go_upto_region 5 with fail
  clear d1 d2 d4 d5 d6 d7 d8 d9 d10 d11
  obtain ⟨j, rfl⟩ : ∃ j : Nat, a2 = (j : Int) := ⟨a2.toNat, by omega⟩
  have hj1 : 1 ≤ j := by omega
  have hjl : j < I0.l.length := by omega
  have hmy := (timesE_ok HTS.out).1
  have hst := stop_in ((fine_of hmy).ok (j : Int) (by omega) (by have := (fine_of hmy).len; omega))
  rw [show stp I0 (j : Int) = nth I0.l j from rfl] at hst
  have hroom := (fine_of hmy).room
  have hlen33 : I0.l.length ≤ 33 := by have := (fine_of hmy).len; have := (fine_of hmy).p1; omega
  have e1 : IntKind.i64.wrap ((nth I0.l j).r - a3) = (nth I0.l j).r - a3 := IntWalk.i64_in _ (by omega)
  have e2 : IntKind.i64.wrap ((nth I0.l j).u + a4) = (nth I0.l j).u + a4 := IntWalk.i64_in _ (by omega)
  have e3 : IntKind.i64.wrap (I0.r + a5) = I0.r + a5 := IntWalk.i64_in _ (by omega)
  have HWI := Lib.hid (wider_of (I := I0) (e := a3) (la := a4) (ro := a5) hj1 hjl (by omega) (by omega) (by omega))
  obtain ⟨xb, xo, rfl, _, hxb⟩ := srow_at HE.out j hjl
  have HAX := Lib.hid (show ∀ w', Below w.heap.size w w' → At w' xb (xo + j * 6) (nth I0.l j) from fun w' hb' => (srow_here HE.out j hjl).below hxb hb')
  clear hst hroom hmy q4 q5 q5' q6 q7 q8 q9 q10 q11
  have hxl : w.heap.size < w2.heap.size := HX2.out.lt
  go_wp2_with (at_builtin; refine app_stops rfl _ _ rfl w2.heap.size (.slice none 0 0) [] rfl (ownS_nil _ _) _ I0.l rfl ((HE.out.below HB2.out).below ((Below.refl _ w2).alloc (Nat.le_refl _) (boxI I0 _))) (by simp; omega) (by simp) ?_)
  intro v3 w4 own4 grow4 _
  change World.grownBy (w2.alloc (boxI I0 (.slice (some ⟨xb, xo, none⟩) I0.l.length cap))) w4 none at grow4
  have hb4 := grown_below grow4 (Nat.le_refl _) (fun q hq => by simp at hq)
  have HO4 := Lib.hid (show OwnS w4 w2.heap.size v3 I0.l by simpa using own4)
  have hsz3 : (w2.alloc (boxI I0 (.slice (some ⟨xb, xo, none⟩) I0.l.length cap))).heap.size = w2.heap.size + 1 := by simp
  have HY4 := Lib.hid ((ybox_new w2 I0 (.slice (some ⟨xb, xo, none⟩) I0.l.length cap)).later hb4)
  have HB24 := Lib.hid (((Below.refl w2.heap.size w2).alloc (Nat.le_refl _) (boxI I0 (.slice (some ⟨xb, xo, none⟩) I0.l.length cap))).trans (hb4.mono (by omega)))
  have HX4 := Lib.hid (HX2.out.later HB24.out)
  have hxlt : w.heap.size ≠ w2.heap.size := by have := HX2.out.lt; omega
  obtain ⟨g, cap3, rfl⟩ := HO4.out.form (by omega)
  clear own4 grow4 hb4 hsz3 c0 c1 c2 c3
  obtain ⟨y0, y1, y2, y3⟩ := HY4.out.cells
  have fy3 := HY4.out.free 3
  obtain ⟨c0, c1, c2, c3⟩ := HX4.out.cells
  go_wp2_with fail
  have HO5 := Lib.hid (own_kept HO4.out HY4.out 3 (.slice (some ⟨g, 0, none⟩) I0.l.length cap3))
  have HY5 := Lib.hid (HY4.out.stops (.slice (some ⟨g, 0, none⟩) I0.l.length cap3))
  have HX5 := Lib.hid (HX4.out.other ⟨w2.heap.size, 3, none⟩ (.slice (some ⟨g, 0, none⟩) I0.l.length cap3) (fun e => hxlt e.symm))
  have HB5 := Lib.hid (HB24.out.setCell (p := ⟨w2.heap.size, 3, none⟩) (Nat.le_refl _) (.slice (some ⟨g, 0, none⟩) I0.l.length cap3))
  generalize w4.setCell ⟨w2.heap.size, 3, none⟩ (.slice (some ⟨g, 0, none⟩) I0.l.length cap3) = w5 at *
  clear y0 y1 y2 y3 fy3 c0 c1 c2 c3
  have hjli : (j : Int) < (I0.l.length : Int) := by omega
  go_cut [] from 88 (fun wx => OwnS wx w2.heap.size (.slice (some ⟨g, 0, none⟩) I0.l.length cap3) (I0.l.set j ⟨(nth I0.l j).x, (nth I0.l j).y, (nth I0.l j).d, (nth I0.l j).r - a3, (nth I0.l j).u, (nth I0.l j).s⟩) ∧ YBox wx w2.heap.size I0 (.slice (some ⟨g, 0, none⟩) I0.l.length cap3) ∧ YBox wx w.heap.size I0 (.slice (some ⟨xb, xo, none⟩) I0.l.length cap) ∧ Below w2.heap.size w2 wx)
  case first =>
    have HOd := Lib.hid (HO5.out.below ((Below.refl _ w5).drew))
    have HYd := Lib.hid (HY5.out.later ((Below.refl _ w5).drew))
    have HXd := Lib.hid (HX5.out.later ((Below.refl _ w5).drew))
    have HBd := Lib.hid (HB5.out.drew)
    obtain ⟨hy_at, hfr, hglt, hgB⟩ := HOd.out.at j hjl
    have HAT := Lib.hid hy_at
    have HAXd := Lib.hid (HAX.out _ (HB2.out.trans (HBd.out.mono HB2.out.size)))
    have HTT := Lib.hid (HOd.out.stored j 3 ⟨(nth I0.l j).x, (nth I0.l j).y, (nth I0.l j).d, (nth I0.l j).r - a3, (nth I0.l j).u, (nth I0.l j).s⟩ (.int .i64 ((nth I0.l j).r - a3)) hjl (by omega) rfl ⟨g, j * 6 + 3, none⟩ rfl)
    have HGN := Lib.hid (show g ≠ w2.heap.size ∧ g ≠ w.heap.size from ⟨fun e => own_ne (show w5.drew.ownsRow w2.heap.size 23 6 (.slice (some ⟨g, 0, none⟩) I0.l.length cap3) I0.l.length (flat I0.l) from HOd.out) HYd.out (by decide) (by rw [e]; rfl), fun e => own_ne (show w5.drew.ownsRow w2.heap.size 23 6 (.slice (some ⟨g, 0, none⟩) I0.l.length cap3) I0.l.length (flat I0.l) from HOd.out) HXd.out (by decide) (by rw [e]; rfl)⟩)
    clear hy_at
    generalize nth I0.l j = s at *
    have hSn : Holds ([(⟨w2.heap.size, 3, none⟩, .slice (some ⟨g, 0, none⟩) I0.l.length cap3), (⟨w.heap.size, 3, none⟩, .slice (some ⟨xb, xo, none⟩) I0.l.length cap)] ++ cellsF xb (xo + j * 6) s) w5.drew := Holds.app.2 ⟨⟨HYd.out.cells.2.2.2, HXd.out.cells.2.2.2, trivial⟩, holds_at HAXd.out⟩
    refine wp_until (S := Holds ([(⟨w2.heap.size, 3, none⟩, .slice (some ⟨g, 0, none⟩) I0.l.length cap3), (⟨w.heap.size, 3, none⟩, .slice (some ⟨xb, xo, none⟩) I0.l.length cap)] ++ cellsF xb (xo + j * 6) s)) (m := 13) (by kernel_rfl) ?_
    generalize w5.drew = wd at *
    simp only [cellsF, List.cons_append, List.nil_append] at *
    refine until_take (i := 0) (oi := ?oz192) (v := ?vz192) ?iz192 (by kernel_rfl) (by kernel_rfl) (by kernel_rfl) (by kernel_rfl) (by kernel_rfl) ?qz192 (Or.inl ⟨?gz192, ?hz192⟩) (by assumption) ?rz192
    case iz192 => (simp only [List.getElem?_toArray, List.getElem?_cons_zero]; rfl)
    case qz192 => exact fun _ _ _ h => h
    case gz192 => rfl
    case hz192 => (intro w hSw; (simp only [Holds] at hSw); go_simp <;> with_reducible rfl)
    simp only [Act.put, List.setIfInBounds_toArray, List.set_cons_zero, List.set_cons_succ]
    refine until_take (i := 1) (oi := ?oz193) (v := ?vz193) ?iz193 (by kernel_rfl) (by kernel_rfl) (by kernel_rfl) (by kernel_rfl) (by kernel_rfl) ?qz193 (Or.inl ⟨?gz193, ?hz193⟩) (by assumption) ?rz193
    case iz193 => (simp only [List.getElem?_toArray, List.getElem?_cons_zero, List.getElem?_cons_succ]; rfl)
    case qz193 => exact fun _ _ _ h => h
    case gz193 => rfl
    case hz193 => (intro w hSw; (simp only [Holds] at hSw); go_simp <;> with_reducible rfl)
    simp only [Act.put, List.setIfInBounds_toArray, List.set_cons_zero, List.set_cons_succ]
    refine until_take (i := 2) (oi := ?oz194) (v := ?vz194) ?iz194 (by kernel_rfl) (by kernel_rfl) (by kernel_rfl) (by kernel_rfl) (by kernel_rfl) ?qz194 (Or.inl ⟨?gz194, ?hz194⟩) (by assumption) ?rz194
    case iz194 => (simp only [List.getElem?_toArray, List.getElem?_cons_zero, List.getElem?_cons_succ]; rfl)
    case qz194 => exact fun _ _ _ h => h
    case gz194 => rfl
    case hz194 => (intro w hSw; (simp only [Holds] at hSw); go_simp <;> with_reducible rfl)
    simp only [Act.put, List.setIfInBounds_toArray, List.set_cons_zero, List.set_cons_succ]
    refine until_take (i := 3) (oi := ?oz195) (v := ?vz195) ?iz195 (by kernel_rfl) (by kernel_rfl) (by kernel_rfl) (by kernel_rfl) (by kernel_rfl) ?qz195 (Or.inl ⟨?gz195, ?hz195⟩) (by assumption) ?rz195
    case iz195 => (simp only [List.getElem?_toArray, List.getElem?_cons_zero, List.getElem?_cons_succ]; rfl)
    case qz195 => exact fun _ _ _ h => h
    case gz195 => rfl
    case hz195 => (intro w hSw; (simp only [Holds] at hSw); go_simp <;> with_reducible rfl)
    simp only [Act.put, List.setIfInBounds_toArray, List.set_cons_zero, List.set_cons_succ]
    refine until_take (i := 4) (oi := ?oz196) (v := ?vz196) ?iz196 (by kernel_rfl) (by kernel_rfl) (by kernel_rfl) (by kernel_rfl) (by kernel_rfl) ?qz196 (Or.inl ⟨?gz196, ?hz196⟩) (by assumption) ?rz196
    case iz196 => (simp only [List.getElem?_toArray, List.getElem?_cons_zero, List.getElem?_cons_succ]; rfl)
    case qz196 => exact fun _ _ _ h => h
    case gz196 => rfl
    case hz196 => (intro w hSw; (simp only [Holds] at hSw); go_simp <;> with_reducible rfl)
    simp only [Act.put, List.setIfInBounds_toArray, List.set_cons_zero, List.set_cons_succ]
    refine until_take (i := 5) (oi := ?oz197) (v := ?vz197) ?iz197 (by kernel_rfl) (by kernel_rfl) (by kernel_rfl) (by kernel_rfl) (by kernel_rfl) ?qz197 (Or.inl ⟨?gz197, ?hz197⟩) (by assumption) ?rz197
    case iz197 => (simp only [List.getElem?_toArray, List.getElem?_cons_zero, List.getElem?_cons_succ]; rfl)
    case qz197 => exact fun _ _ _ h => h
    case gz197 => rfl
    case hz197 => (intro w hSw; (simp only [Holds] at hSw); go_simp <;> with_reducible rfl)
    simp only [Act.put, List.setIfInBounds_toArray, List.set_cons_zero, List.set_cons_succ]
    refine until_take (i := 6) (oi := ?oz198) (v := ?vz198) ?iz198 (by kernel_rfl) (by kernel_rfl) (by kernel_rfl) (by kernel_rfl) (by kernel_rfl) ?qz198 (Or.inl ⟨?gz198, ?hz198⟩) (by assumption) ?rz198
    case iz198 => (simp only [List.getElem?_toArray, List.getElem?_cons_zero, List.getElem?_cons_succ]; rfl)
    case qz198 => exact fun _ _ _ h => h
    case gz198 => rfl
    case hz198 => (intro w hSw; (simp only [Holds] at hSw); go_simp <;> with_reducible rfl)
    simp only [Act.put, List.setIfInBounds_toArray, List.set_cons_zero, List.set_cons_succ]
    refine until_take (i := 7) (oi := ?oz199) (v := ?vz199) ?iz199 (by kernel_rfl) (by kernel_rfl) (by kernel_rfl) (by kernel_rfl) (by kernel_rfl) ?qz199 (Or.inl ⟨?gz199, ?hz199⟩) (by assumption) ?rz199
    case iz199 => (simp only [List.getElem?_toArray, List.getElem?_cons_zero, List.getElem?_cons_succ]; rfl)
    case qz199 => exact fun _ _ _ h => h
    case gz199 => rfl
    case hz199 => (intro w hSw; (simp only [Holds] at hSw); go_simp <;> with_reducible rfl)
    simp only [Act.put, List.setIfInBounds_toArray, List.set_cons_zero, List.set_cons_succ]
    refine until_take (i := 8) (oi := ?oz200) (v := ?vz200) ?iz200 (by kernel_rfl) (by kernel_rfl) (by kernel_rfl) (by kernel_rfl) (by kernel_rfl) ?qz200 (Or.inl ⟨?gz200, ?hz200⟩) (by assumption) ?rz200
    case iz200 => (simp only [List.getElem?_toArray, List.getElem?_cons_zero, List.getElem?_cons_succ]; rfl)
    case qz200 => exact fun _ _ _ h => h
    case gz200 => rfl
    case hz200 => (intro w hSw; (simp only [Holds] at hSw); go_simp <;> with_reducible rfl)
    simp only [Act.put, List.setIfInBounds_toArray, List.set_cons_zero, List.set_cons_succ]
    refine until_take (i := 9) (oi := ?oz201) (v := ?vz201) ?iz201 (by kernel_rfl) (by kernel_rfl) (by kernel_rfl) (by kernel_rfl) (by kernel_rfl) ?qz201 (Or.inl ⟨?gz201, ?hz201⟩) (by assumption) ?rz201
    case iz201 => (simp only [List.getElem?_toArray, List.getElem?_cons_zero, List.getElem?_cons_succ]; rfl)
    case qz201 => exact fun _ _ _ h => h
    case gz201 => rfl
    case hz201 => (intro w hSw; (simp only [Holds] at hSw); go_simp <;> with_reducible rfl)
    simp only [Act.put, List.setIfInBounds_toArray, List.set_cons_zero, List.set_cons_succ]
    refine until_take (i := 10) (oi := ?oz202) (v := ?vz202) ?iz202 (by kernel_rfl) (by kernel_rfl) (by kernel_rfl) (by kernel_rfl) (by kernel_rfl) ?qz202 (Or.inl ⟨?gz202, ?hz202⟩) (by assumption) ?rz202
    case iz202 => (simp only [List.getElem?_toArray, List.getElem?_cons_zero, List.getElem?_cons_succ]; rfl)
    case qz202 => exact fun _ _ _ h => h
    case gz202 => rfl
    case hz202 => (intro w hSw; (simp only [Holds] at hSw); go_simp <;> with_reducible rfl)
    simp only [Act.put, List.setIfInBounds_toArray, List.set_cons_zero, List.set_cons_succ]
    refine anyhow_take (i := 11) (oi := ?oz203) (v := ?vz203) ?iz203 (by kernel_rfl) (by kernel_rfl) (by kernel_rfl) (by decide) ?qz203 (Or.inl ⟨?gz203, ?hz203⟩) (Or.inr (by assumption)) ?rz203
    case iz203 => (simp only [List.getElem?_toArray, List.getElem?_cons_zero, List.getElem?_cons_succ]; rfl)
    case qz203 => exact fun _ _ _ h => h
    case gz203 => rfl
    case hz203 => (intro w hSw; clear hSw; go_simp <;> with_reducible rfl)
    simp only [Act.put, List.setIfInBounds_toArray, List.set_cons_zero, List.set_cons_succ]
    refine until_take (i := 12) (oi := ?oz204) (v := ?vz204) ?iz204 (by kernel_rfl) (by kernel_rfl) (by kernel_rfl) (by kernel_rfl) (by kernel_rfl) ?qz204 (Or.inl ⟨?gz204, ?hz204⟩) (by assumption) ?rz204
    case iz204 => (simp only [List.getElem?_toArray, List.getElem?_cons_zero, List.getElem?_cons_succ]; rfl)
    case qz204 => exact fun _ _ _ h => h
    case gz204 => rfl
    case hz204 => (intro w hSw; (simp only [Holds] at hSw); go_simp <;> with_reducible rfl)
    simp only [Act.put, List.setIfInBounds_toArray, List.set_cons_zero, List.set_cons_succ]
    obtain ⟨z0, z1, z2, z3, z4, z5⟩ := HAT.out
    have zf := hfr (j * 6 + 3)
    refine until_ready (rs := [13]) (by kernel_rfl) (by simp) ?_
    refine (NextU.late (o := ?oz205) ?iz205 (by first | exact Or.inl rfl | exact Or.inr (by kernel_rfl)) (fun K hK => ?kz205) NextU.nil)
    case iz205 => (simp only [List.getElem?_toArray, List.getElem?_cons_zero, List.getElem?_cons_succ]; rfl)
    go_simp
    refine hK.out _ _ ?_
    refine until_done (by kernel_rfl) ?_ _
    go_wp2_with fail
    go_meet
    case rel => exact ⟨HTT.out.1, HYd.out.other ⟨g, j * 6 + 3, none⟩ _ HGN.out.1, HXd.out.other ⟨g, j * 6 + 3, none⟩ _ HGN.out.2, HBd.out.setCell (p := ⟨g, j * 6 + 3, none⟩) hgB _⟩
  case rest =>
    obtain ⟨ho6, hy6, hx6, hb6⟩ := hcut
    have HO6 := Lib.hid ho6
    have HY6 := Lib.hid hy6
    have HX6 := Lib.hid hx6
    have HB6 := Lib.hid hb6
    clear ho6 hy6 hx6 hb6 HO5 HY5 HX5 HB5
    go_wp2_with fail
    go_cut [] from 88 (fun wx => OwnS wx w2.heap.size (.slice (some ⟨g, 0, none⟩) I0.l.length cap3) (I0.l.set j (widerS (nth I0.l j) a3 a4)) ∧ YBox wx w2.heap.size I0 (.slice (some ⟨g, 0, none⟩) I0.l.length cap3) ∧ YBox wx w.heap.size I0 (.slice (some ⟨xb, xo, none⟩) I0.l.length cap) ∧ Below w2.heap.size w2 wx)
    case first =>
      have HOd := Lib.hid (HO6.out.below ((Below.refl _ wc).drew))
      have HYd := Lib.hid (HY6.out.later ((Below.refl _ wc).drew))
      have HXd := Lib.hid (HX6.out.later ((Below.refl _ wc).drew))
      have HBd := Lib.hid (HB6.out.drew)
      have hset : ∀ t1 t2 : Stp, (I0.l.set j t1).set j t2 = I0.l.set j t2 := fun _ _ => List.set_set ..
      have hnth : ∀ t1 : Stp, nth (I0.l.set j t1) j = t1 := fun t1 => by rw [nth_set _ _ _ _ hjl, if_pos rfl]
      obtain ⟨hy_at, hfr, hglt, hgB⟩ := HOd.out.at j (by rw [List.length_set]; exact hjl)
      rw [hnth] at hy_at
      have HAT := Lib.hid hy_at
      have HAXd := Lib.hid (HAX.out _ (HB2.out.trans (HBd.out.mono HB2.out.size)))
      have HTT := Lib.hid (HOd.out.stored j 4 (widerS (nth I0.l j) a3 a4) (.int .i64 ((nth I0.l j).u + a4)) (by rw [List.length_set]; exact hjl) (by omega) (by rw [hnth]; rfl) ⟨g, j * 6 + 4, none⟩ rfl)
      rw [hset] at HTT
      have HGN := Lib.hid (show g ≠ w2.heap.size ∧ g ≠ w.heap.size from ⟨fun e => own_ne (World.ownsRow.kept HOd.out ⟨rfl, rfl, rfl, Nat.le_refl _, fun _ _ _ => rfl⟩ (row := none) (by cases (Value.slice (some ⟨g, 0, none⟩) I0.l.length cap3).ownBlock <;> simp)) HYd.out (by decide) (by rw [e]; rfl), fun e => own_ne (World.ownsRow.kept HOd.out ⟨rfl, rfl, rfl, Nat.le_refl _, fun _ _ _ => rfl⟩ (row := none) (by cases (Value.slice (some ⟨g, 0, none⟩) I0.l.length cap3).ownBlock <;> simp)) HXd.out (by decide) (by rw [e]; rfl)⟩)
      clear hy_at hset hnth
      generalize nth I0.l j = s at *
      have hSn : Holds ([(⟨w2.heap.size, 3, none⟩, .slice (some ⟨g, 0, none⟩) I0.l.length cap3), (⟨w.heap.size, 3, none⟩, .slice (some ⟨xb, xo, none⟩) I0.l.length cap)] ++ cellsF xb (xo + j * 6) s) wc.drew := Holds.app.2 ⟨⟨HYd.out.cells.2.2.2, HXd.out.cells.2.2.2, trivial⟩, holds_at HAXd.out⟩
      refine wp_until (S := Holds ([(⟨w2.heap.size, 3, none⟩, .slice (some ⟨g, 0, none⟩) I0.l.length cap3), (⟨w.heap.size, 3, none⟩, .slice (some ⟨xb, xo, none⟩) I0.l.length cap)] ++ cellsF xb (xo + j * 6) s)) (m := 13) (by kernel_rfl) ?_
      generalize wc.drew = wd at *
      simp only [cellsF, List.cons_append, List.nil_append] at *
      refine until_take (i := 0) (oi := ?oz206) (v := ?vz206) ?iz206 (by kernel_rfl) (by kernel_rfl) (by kernel_rfl) (by kernel_rfl) (by kernel_rfl) ?qz206 (Or.inl ⟨?gz206, ?hz206⟩) (by assumption) ?rz206
      case iz206 => (simp only [List.getElem?_toArray, List.getElem?_cons_zero]; rfl)
      case qz206 => exact fun _ _ _ h => h
      case gz206 => rfl
      case hz206 => (intro w hSw; (simp only [Holds] at hSw); go_simp <;> with_reducible rfl)
      simp only [Act.put, List.setIfInBounds_toArray, List.set_cons_zero, List.set_cons_succ]
      refine until_take (i := 1) (oi := ?oz207) (v := ?vz207) ?iz207 (by kernel_rfl) (by kernel_rfl) (by kernel_rfl) (by kernel_rfl) (by kernel_rfl) ?qz207 (Or.inl ⟨?gz207, ?hz207⟩) (by assumption) ?rz207
      case iz207 => (simp only [List.getElem?_toArray, List.getElem?_cons_zero, List.getElem?_cons_succ]; rfl)
      case qz207 => exact fun _ _ _ h => h
      case gz207 => rfl
      case hz207 => (intro w hSw; (simp only [Holds] at hSw); go_simp <;> with_reducible rfl)
      simp only [Act.put, List.setIfInBounds_toArray, List.set_cons_zero, List.set_cons_succ]
      refine until_take (i := 2) (oi := ?oz208) (v := ?vz208) ?iz208 (by kernel_rfl) (by kernel_rfl) (by kernel_rfl) (by kernel_rfl) (by kernel_rfl) ?qz208 (Or.inl ⟨?gz208, ?hz208⟩) (by assumption) ?rz208
      case iz208 => (simp only [List.getElem?_toArray, List.getElem?_cons_zero, List.getElem?_cons_succ]; rfl)
      case qz208 => exact fun _ _ _ h => h
      case gz208 => rfl
      case hz208 => (intro w hSw; (simp only [Holds] at hSw); go_simp <;> with_reducible rfl)
      simp only [Act.put, List.setIfInBounds_toArray, List.set_cons_zero, List.set_cons_succ]
      refine until_take (i := 3) (oi := ?oz209) (v := ?vz209) ?iz209 (by kernel_rfl) (by kernel_rfl) (by kernel_rfl) (by kernel_rfl) (by kernel_rfl) ?qz209 (Or.inl ⟨?gz209, ?hz209⟩) (by assumption) ?rz209
      case iz209 => (simp only [List.getElem?_toArray, List.getElem?_cons_zero, List.getElem?_cons_succ]; rfl)
      case qz209 => exact fun _ _ _ h => h
      case gz209 => rfl
      case hz209 => (intro w hSw; (simp only [Holds] at hSw); go_simp <;> with_reducible rfl)
      simp only [Act.put, List.setIfInBounds_toArray, List.set_cons_zero, List.set_cons_succ]
      refine until_take (i := 4) (oi := ?oz210) (v := ?vz210) ?iz210 (by kernel_rfl) (by kernel_rfl) (by kernel_rfl) (by kernel_rfl) (by kernel_rfl) ?qz210 (Or.inl ⟨?gz210, ?hz210⟩) (by assumption) ?rz210
      case iz210 => (simp only [List.getElem?_toArray, List.getElem?_cons_zero, List.getElem?_cons_succ]; rfl)
      case qz210 => exact fun _ _ _ h => h
      case gz210 => rfl
      case hz210 => (intro w hSw; (simp only [Holds] at hSw); go_simp <;> with_reducible rfl)
      simp only [Act.put, List.setIfInBounds_toArray, List.set_cons_zero, List.set_cons_succ]
      refine until_take (i := 5) (oi := ?oz211) (v := ?vz211) ?iz211 (by kernel_rfl) (by kernel_rfl) (by kernel_rfl) (by kernel_rfl) (by kernel_rfl) ?qz211 (Or.inl ⟨?gz211, ?hz211⟩) (by assumption) ?rz211
      case iz211 => (simp only [List.getElem?_toArray, List.getElem?_cons_zero, List.getElem?_cons_succ]; rfl)
      case qz211 => exact fun _ _ _ h => h
      case gz211 => rfl
      case hz211 => (intro w hSw; (simp only [Holds] at hSw); go_simp <;> with_reducible rfl)
      simp only [Act.put, List.setIfInBounds_toArray, List.set_cons_zero, List.set_cons_succ]
      refine until_take (i := 6) (oi := ?oz212) (v := ?vz212) ?iz212 (by kernel_rfl) (by kernel_rfl) (by kernel_rfl) (by kernel_rfl) (by kernel_rfl) ?qz212 (Or.inl ⟨?gz212, ?hz212⟩) (by assumption) ?rz212
      case iz212 => (simp only [List.getElem?_toArray, List.getElem?_cons_zero, List.getElem?_cons_succ]; rfl)
      case qz212 => exact fun _ _ _ h => h
      case gz212 => rfl
      case hz212 => (intro w hSw; (simp only [Holds] at hSw); go_simp <;> with_reducible rfl)
      simp only [Act.put, List.setIfInBounds_toArray, List.set_cons_zero, List.set_cons_succ]
      refine until_take (i := 7) (oi := ?oz213) (v := ?vz213) ?iz213 (by kernel_rfl) (by kernel_rfl) (by kernel_rfl) (by kernel_rfl) (by kernel_rfl) ?qz213 (Or.inl ⟨?gz213, ?hz213⟩) (by assumption) ?rz213
      case iz213 => (simp only [List.getElem?_toArray, List.getElem?_cons_zero, List.getElem?_cons_succ]; rfl)
      case qz213 => exact fun _ _ _ h => h
      case gz213 => rfl
      case hz213 => (intro w hSw; (simp only [Holds] at hSw); go_simp <;> with_reducible rfl)
      simp only [Act.put, List.setIfInBounds_toArray, List.set_cons_zero, List.set_cons_succ]
      refine until_take (i := 8) (oi := ?oz214) (v := ?vz214) ?iz214 (by kernel_rfl) (by kernel_rfl) (by kernel_rfl) (by kernel_rfl) (by kernel_rfl) ?qz214 (Or.inl ⟨?gz214, ?hz214⟩) (by assumption) ?rz214
      case iz214 => (simp only [List.getElem?_toArray, List.getElem?_cons_zero, List.getElem?_cons_succ]; rfl)
      case qz214 => exact fun _ _ _ h => h
      case gz214 => rfl
      case hz214 => (intro w hSw; (simp only [Holds] at hSw); go_simp <;> with_reducible rfl)
      simp only [Act.put, List.setIfInBounds_toArray, List.set_cons_zero, List.set_cons_succ]
      refine until_take (i := 9) (oi := ?oz215) (v := ?vz215) ?iz215 (by kernel_rfl) (by kernel_rfl) (by kernel_rfl) (by kernel_rfl) (by kernel_rfl) ?qz215 (Or.inl ⟨?gz215, ?hz215⟩) (by assumption) ?rz215
      case iz215 => (simp only [List.getElem?_toArray, List.getElem?_cons_zero, List.getElem?_cons_succ]; rfl)
      case qz215 => exact fun _ _ _ h => h
      case gz215 => rfl
      case hz215 => (intro w hSw; (simp only [Holds] at hSw); go_simp <;> with_reducible rfl)
      simp only [Act.put, List.setIfInBounds_toArray, List.set_cons_zero, List.set_cons_succ]
      refine until_take (i := 10) (oi := ?oz216) (v := ?vz216) ?iz216 (by kernel_rfl) (by kernel_rfl) (by kernel_rfl) (by kernel_rfl) (by kernel_rfl) ?qz216 (Or.inl ⟨?gz216, ?hz216⟩) (by assumption) ?rz216
      case iz216 => (simp only [List.getElem?_toArray, List.getElem?_cons_zero, List.getElem?_cons_succ]; rfl)
      case qz216 => exact fun _ _ _ h => h
      case gz216 => rfl
      case hz216 => (intro w hSw; (simp only [Holds] at hSw); go_simp <;> with_reducible rfl)
      simp only [Act.put, List.setIfInBounds_toArray, List.set_cons_zero, List.set_cons_succ]
      refine anyhow_take (i := 11) (oi := ?oz217) (v := ?vz217) ?iz217 (by kernel_rfl) (by kernel_rfl) (by kernel_rfl) (by decide) ?qz217 (Or.inl ⟨?gz217, ?hz217⟩) (Or.inr (by assumption)) ?rz217
      case iz217 => (simp only [List.getElem?_toArray, List.getElem?_cons_zero, List.getElem?_cons_succ]; rfl)
      case qz217 => exact fun _ _ _ h => h
      case gz217 => rfl
      case hz217 => (intro w hSw; clear hSw; go_simp <;> with_reducible rfl)
      simp only [Act.put, List.setIfInBounds_toArray, List.set_cons_zero, List.set_cons_succ]
      refine until_take (i := 12) (oi := ?oz218) (v := ?vz218) ?iz218 (by kernel_rfl) (by kernel_rfl) (by kernel_rfl) (by kernel_rfl) (by kernel_rfl) ?qz218 (Or.inl ⟨?gz218, ?hz218⟩) (by assumption) ?rz218
      case iz218 => (simp only [List.getElem?_toArray, List.getElem?_cons_zero, List.getElem?_cons_succ]; rfl)
      case qz218 => exact fun _ _ _ h => h
      case gz218 => rfl
      case hz218 => (intro w hSw; (simp only [Holds] at hSw); go_simp <;> with_reducible rfl)
      simp only [Act.put, List.setIfInBounds_toArray, List.set_cons_zero, List.set_cons_succ]
      obtain ⟨z0, z1, z2, z3, z4, z5⟩ := HAT.out
      have zf := hfr (j * 6 + 4)
      refine until_ready (rs := [13]) (by kernel_rfl) (by simp) ?_
      refine (NextU.late (o := ?oz219) ?iz219 (by first | exact Or.inl rfl | exact Or.inr (by kernel_rfl)) (fun K hK => ?kz219) NextU.nil)
      case iz219 => (simp only [List.getElem?_toArray, List.getElem?_cons_zero, List.getElem?_cons_succ]; rfl)
      go_simp
      refine hK.out _ _ ?_
      refine until_done (by kernel_rfl) ?_ _
      go_wp2_with fail
      go_meet
      case rel => exact ⟨HTT.out.1, HYd.out.other ⟨g, j * 6 + 4, none⟩ _ HGN.out.1, HXd.out.other ⟨g, j * 6 + 4, none⟩ _ HGN.out.2, HBd.out.setCell (p := ⟨g, j * 6 + 4, none⟩) hgB _⟩
    case rest =>
      obtain ⟨ho7, hy7, hx7, hb7⟩ := hcut
      have HO7 := Lib.hid ho7
      have HY7 := Lib.hid hy7
      have HX7 := Lib.hid hx7
      have HB7 := Lib.hid hb7
      clear ho7 hy7 hx7 hb7 HO6 HY6 HX6 HB6
      obtain ⟨c0, c1, c2, c3⟩ := HX7.out.cells
      obtain ⟨y0, y1, y2, y3⟩ := HY7.out.cells
      have fy2 := HY7.out.free 2
      have hxne : w2.heap.size ≠ w.heap.size := fun e => hxlt e.symm
      obtain ⟨L2, hL2⟩ : ∃ L2, I0.l.set j (widerS (nth I0.l j) a3 a4) = L2 := ⟨_, rfl⟩
      have hLl : L2.length = I0.l.length := by rw [← hL2, List.length_set]
      rw [hL2] at HO7 HWI
      have HO8 := Lib.hid (own_kept HO7.out HY7.out 2 (.int .i64 (I0.r + a5)))
      have HY8 := Lib.hid (HY7.out.room (I0.r + a5))
      have HX8 := Lib.hid (HX7.out.other ⟨w2.heap.size, 2, none⟩ (.int .i64 (I0.r + a5)) hxne)
      have HB8 := Lib.hid (HB7.out.setCell (p := ⟨w2.heap.size, 2, none⟩) (Nat.le_refl _) (.int .i64 (I0.r + a5)))
      obtain ⟨W8, hW8⟩ : ∃ W8, wc.setCell ⟨w2.heap.size, 2, none⟩ (.int .i64 (I0.r + a5)) = W8 := ⟨_, rfl⟩
      rw [hW8] at HO8 HY8 HX8 HB8
      obtain ⟨p0, p1, p2, p3⟩ := HY8.out.cells
      have hSR := Lib.hid (HO8.out.row)
      clear hL2
      go_wp2_with fail
      change Calls _ _ #[insV ⟨I0.p, I0.c, I0.r + a5, L2⟩ (.slice (some ⟨g, 0, none⟩) I0.l.length cap3)] _ _
      refine (may_any hSR.out).mono ?_
      rintro e w9 ⟨rfl, hb⟩
      have HB9 := Lib.hid (HB8.out.trans (hb.mono HB8.out.size))
      have HY9 := Lib.hid (HY8.out.later hb)
      have hSR9 := Lib.hid (hSR.out.below hb)
      have HTR9 := Lib.hid (HTR.out.below HB9.out)
      clear hb c0 c1 c2 c3 y0 y1 y2 y3 p0 p1 p2 p3 fy2 hW8
      cases hmk : mayB ⟨I0.p, I0.c, I0.r + a5, L2⟩
      · clear hmk
        go_wp2
        go_ret
        exact ⟨rfl, HB2.out.trans (HB9.out.mono HB2.out.size)⟩
      obtain ⟨s', h's, hfar, hno⟩ := wider_times HWI.out hmk HTS.out
      obtain ⟨p0, p1, p2, p3⟩ := HY9.out.cells
      clear hmk
      go_wp2_with fail
      change Calls _ _ #[insV ⟨I0.p, I0.c, I0.r + a5, L2⟩ (.slice (some ⟨g, 0, none⟩) I0.l.length cap3), _] _ _
      refine (times_any (I := ⟨I0.p, I0.c, I0.r + a5, L2⟩) hSR9.out (HR.out.below (HB2.out.trans (HB9.out.mono HB2.out.size)))).mono ?_
      obtain ⟨t1, t2, t3, _⟩ := ok_of HTS.out
      obtain ⟨k1, k2, k3, _⟩ := ok_of h's
      rw [← t3, ← k3] at hfar
      rw [← t2, ← k2] at hno
      rw [k1, hfar]
      rintro e w10 ⟨m, rfl, hm10, hb⟩
      have HB10 := Lib.hid ((HB2.out.trans (HB9.out.mono HB2.out.size)).trans (hb.mono (by have := HB2.out.size; have := HB9.out.size; omega)))
      have HM10 := Lib.hid hm10.row
      have HV10 := Lib.hid (HTR9.out.below hb)
      obtain ⟨ma, mc, rfl⟩ := hm10.shape
      have HNO := Lib.hid hno
      have hnl := hno.1
      clear hb hm10 hno k1 k2 k3 t1 t2 t3 hfar p0 p1 p2 p3
      obtain ⟨M, hM⟩ : ∃ M, outT ⟨I0.p, I0.c, I0.r + a5, L2⟩ l1 = M := ⟨_, rfl⟩
      obtain ⟨V, hV⟩ : ∃ V, outT I0 l1 = V := ⟨_, rfl⟩
      rw [hM] at HM10 HNO hnl ⊢
      rw [hV] at HV10 HNO hnl ⊢
      have d20 : ((M.length : Int) != (V.length : Int)) = false := by simp [hnl]
      have d21 : (M.length != V.length) = false := by simp [hnl]
      have d22 : (farT I0 l1 != farT I0 l1) = false := by simp
      have hxM : V.length ≤ 9223372036854775807 := by obtain ⟨_, _, _, hq, _⟩ := HV10.out.form; unfold maxLen at hq; omega
      have HML := Lib.hid hnl
      clear hnl hM hV
      go_wp2_with fail
      go_loopw [21] (fun i wr => ∃ k : Nat, k ≤ V.length ∧ i = .int .i64 k ∧ Below w10.heap.size w10 wr) (fun i _ => V.length - (intOf i).toNat)
      case atStart => exact ⟨0, Nat.zero_le _, rfl, Below.refl _ _⟩
      case round =>
        obtain ⟨q, hq, rfl, hbv⟩ := hrel
        have HBV := Lib.hid hbv
        clear hbv
        by_cases hlt : q < V.length
        · have hji : (q : Int) < (V.length : Int) := by omega
          have hjv : q < M.length := by have := HML.out; omega
          have hjw : (q : Int) < (M.length : Int) := by omega
          obtain ⟨mb, mo, rfl, ⟨x0, x1, x2⟩, _⟩ := trow_at (HM10.out.below HBV.out) q hjv
          obtain ⟨vb, vo, rfl, ⟨y0, y1, y2⟩, _⟩ := trow_at (HV10.out.below HBV.out) q hlt
          have hnn := HNO.out.2 q hjv hlt
          rw [← nthT_get hlt, ← nthT_get hjv] at hnn
          generalize nthT M q = tm at *
          generalize nthT V q = tv at *
          have d8 : decide (tv.begn < tm.begn) = false := decide_eq_false (by omega)
          clear hnn
          go_wp2_with fail
          go_quiet (fail)
          have HW6 := Lib.hid (below_drewN HBV.out nq)
          go_wp2
          go_roundw
          case rel => exact ⟨q + 1, by omega, by go_num, HW6.out⟩
          case measure => simp [intOf]; omega
        · obtain rfl : q = V.length := by omega
          clear hlt hq
          go_wp2
          go_ret
          exact ⟨rfl, HB10.out.trans (HBV.out.mono HB10.out.size)⟩

set_option maxRecDepth 100000 in
theorem lifted (os : Os) (started : os.Started) (H : Type) (enc : TypeId × Value → H) :
    ReturnsInHanded {} Try.checked os 14 .any (Rows.schedWiderSpec.pre6 enc Try.prog Try.f14 Rows.schedWiderRow.domain false) (Rows.schedWiderSpec.post enc Try.prog Try.f14 false true false false) := by
  refine returnsInHanded_of_change (C := Try.checked) own started (by kernel_rfl) Try.func14
    (ChangeSpec.witness6 (enc := enc) (C := Try.checked) false ⟨#[], #[.agg #[.int .i64 0, .int .i64 0, .int .i64 0, .slice none 0 0], .slice none 0 0, .int .i64 0, .int .i64 0, .int .i64 0, .int .i64 0], []⟩ 8 (by kernel_rfl) (by kernel_rfl) (by kernel_rfl) (by kernel_rfl)) ?_
  intro W base args ds gs before hval0 hW hcnd _
  have hval : ∀ (j : Nat) t v, Try.f14.params[j]? = some t → args[j]? = some v → Value.okWide Try.prog W .any base t v := hval0
  have hW' := hW
  obtain ⟨p, q, hA0, hV, rfl, hfz, hnd⟩ := hW
  have hA : DataW.TrodAll enc Try.prog W 0 (fun _ => true) true Try.f14.params.toList args.toList ds p := hA0
  rw [Try.params14] at hA hval
  obtain ⟨v0, vs0, d0, ds0, p0, q0, hargs, rfl, rfl, h0, r0⟩ := trodAll_cons hA
  obtain ⟨v1, vs1, d1, ds1, p1, q1, rfl, rfl, rfl, h1, r1⟩ := trodAll_cons r0
  obtain ⟨v2, vs2, d2, ds2, p2, q2, rfl, rfl, rfl, h2, r2⟩ := trodAll_cons r1
  obtain ⟨v3, vs3, d3, ds3, p3, q3, rfl, rfl, rfl, h3, r3⟩ := trodAll_cons r2
  obtain ⟨v4, vs4, d4, ds4, p4, q4, rfl, rfl, rfl, h4, r4⟩ := trodAll_cons r3
  obtain ⟨v5, vs5, d5, ds5, p5, q5, rfl, rfl, rfl, h5, r5⟩ := trodAll_cons r4
  obtain ⟨rfl, rfl, rfl⟩ := trodAll_nil r5
  obtain rfl : args = #[v0, v1, v2, v3, v4, v5] := by cases args; simp_all
  obtain ⟨rfl, rfl⟩ := trodVars_none hV
  have k0 := h0
  have lt0 : ∀ x ∈ p0, x.block < W.heap.size := by obtain ⟨m, hm⟩ := k0; exact DataW.trod_lt m _ _ _ hm
  have k1 := h1
  have lt1 : ∀ x ∈ p1, x.block < W.heap.size := by obtain ⟨m, hm⟩ := k1; exact DataW.trod_lt m _ _ _ hm
  have k2 := h2
  have lt2 : ∀ x ∈ p2, x.block < W.heap.size := by obtain ⟨m, hm⟩ := k2; exact DataW.trod_lt m _ _ _ hm
  have k3 := h3
  have lt3 : ∀ x ∈ p3, x.block < W.heap.size := by obtain ⟨m, hm⟩ := k3; exact DataW.trod_lt m _ _ _ hm
  have k4 := h4
  have lt4 : ∀ x ∈ p4, x.block < W.heap.size := by obtain ⟨m, hm⟩ := k4; exact DataW.trod_lt m _ _ _ hm
  have k5 := h5
  have lt5 : ∀ x ∈ p5, x.block < W.heap.size := by obtain ⟨m, hm⟩ := k5; exact DataW.trod_lt m _ _ _ hm
  obtain ⟨I0, u0, rfl, e0, _⟩ := open_inst (hval 0 26 v0 rfl rfl) h0
  obtain ⟨a1, len1, cap1, rfl⟩ := okWide_slice Try.underlying32 (hval 1 32 v1 rfl rfl)
  obtain ⟨l1, e1, _⟩ := open_row h1
  obtain ⟨a2, rfl, rfl, rfl, i2⟩ := open_int Try.underlying3 (hval 2 3 v2 rfl rfl) h2
  obtain ⟨a3, rfl, rfl, rfl, i3⟩ := open_int Try.underlying3 (hval 3 3 v3 rfl rfl) h3
  obtain ⟨a4, rfl, rfl, rfl, i4⟩ := open_int Try.underlying3 (hval 4 3 v4 rfl rfl) h4
  obtain ⟨a5, rfl, rfl, rfl, i5⟩ := open_int Try.underlying3 (hval 5 3 v5 rfl rfl) h5
  clear hA0 hval0
  refine (walk I0 _ _ l1 a2 a3 a4 a5 W e0 e1).mono fun e W' ⟨he, bel⟩ => ?_
  subst he
  exact ⟨_, rfl, _, _, _, [], _, [], hW', trodAll_mk1 (shut_bool Try.underlying4 _), (trodAll_cons_mk (Below.trod laidOut (by kernel_rfl) (of_decide_eq_true (by kernel_rfl)) k0 bel lt0) (trodAll_cons_mk (Below.trod laidOut (by kernel_rfl) (of_decide_eq_true (by kernel_rfl)) k1 bel lt1) (trodAll_cons_mk (Below.trod laidOut (by kernel_rfl) (of_decide_eq_true (by kernel_rfl)) k2 bel lt2) (trodAll_cons_mk (Below.trod laidOut (by kernel_rfl) (of_decide_eq_true (by kernel_rfl)) k3 bel lt3) (trodAll_cons_mk (Below.trod laidOut (by kernel_rfl) (of_decide_eq_true (by kernel_rfl)) k4 bel lt4) (trodAll_cons_mk (Below.trod laidOut (by kernel_rfl) (of_decide_eq_true (by kernel_rfl)) k5 bel lt5) trodAll_mk0)))))), rfl, bel.frame _, fun h => by cases h⟩

theorem over : Rows.schedWiderRow.holds Try.pinned (OpenSpec.ofChange Rows.schedWiderSpec) :=
  OpenClaim.holds_of_wide 14 Try.f14 rfl rfl rfl rfl rfl rfl rfl ⟨rfl, rfl, rfl, rfl, rfl⟩ rfl rfl rfl rfl rfl (by kernel_rfl) Try.func14 (by show joinedFacts Try.checked.prog _ _ _ _ = true; unfold joinedFacts; rw [ord_may, ord_lifts, ord_make]; kernel_rfl)
    (of_decide_eq_true (by kernel_rfl)) (by unfold Func.isWrapper; first | (rw [if_pos (by decide +kernel)]; kernel_rfl) | (rw [if_neg (by decide +kernel)]; exact ⟨rfl, rfl⟩))
    (fun os started H enc _ => lifted os started H enc)

theorem proved : Rows.SchedWiderSaid := over
#print axioms proved
end Go.Proofs.Ytpgbbnmflnhlbaa.schedWider
