/- PlaneSame holds for every instance and any two numbers; there is no further condition. -/
import Derived.Test.YtpgbbnmflnhlbaaOrd
import Derived.Test.YtpgbbnmflnhlbaaRows
import Derived.Test.YtpgbbnmflnhlbaaPNear
namespace Go.Proofs.Ytpgbbnmflnhlbaa.planeSame
open Go.ChangeShapes Go.WideShapes Go.ChangeAt Go.RowKit

theorem matF_set (l : List Stp) (i : Nat) (t : Stp) (hi : i < l.length) (hx : t.x = (nth l i).x) (hy : t.y = (nth l i).y) : matF (l.set i t) = matF l := by
  have hn : ∀ j, (nth (l.set i t) j).x = (nth l j).x ∧ (nth (l.set i t) j).y = (nth l j).y := fun j => by
    rw [nth_set l i j t hi]
    split
    · next e => subst e; exact ⟨hx, hy⟩
    · exact ⟨rfl, rfl⟩
  unfold matF rowF
  rw [List.length_set]
  refine List.map_congr_left (fun a _ => List.map_congr_left (fun b _ => farF_eq (hn a).1 (hn a).2 (hn b).1 (hn b).2))
set_option maxRecDepth 1000000 in
set_option maxHeartbeats 4000000 in
theorem walk (I0 : Ins) (v0 : Value) (a1 : Int) (a2 : Int) (w : World) (e0 : SRow w v0 I0.l) :
    Calls Try.prog 7 #[insV I0 v0, .int .i64 a1, .int .i64 a2] w fun e w' => e = .returned (.bool true) ∧ Below w.heap.size w w' := by
  have HE := Lib.hid e0
  obtain ⟨a, cap, rfl, hm, _⟩ := e0.form
  have hm1 : I0.l.length ≤ 9223372036854775807 := by unfold maxLen at hm; omega
  clear e0 hm
  unfold insV
  go_enter Try.func7, Try.ntmps7
  go_wp2_with fail
  change Calls _ _ _ (w.alloc (boxI I0 (.slice a I0.l.length cap))) _
  have HB0 := Lib.hid ((Below.refl _ w).alloc (Nat.le_refl _) (boxI I0 (.slice a I0.l.length cap)))
  have HE0 := Lib.hid (HE.out.below HB0.out)
  have HXB := Lib.hid (ybox_new w I0 (.slice a I0.l.length cap))
  generalize w.alloc (boxI I0 (.slice a I0.l.length cap)) = W at *
  refine (pawake_any _).mono ?_
  rintro e w1 ⟨rfl, hb⟩
  have HB1 := Lib.hid (HB0.out.trans (hb.mono HB0.out.size))
  have HX1 := Lib.hid ((show YBox W w.heap.size I0 (.slice a I0.l.length cap) from HXB.out).later hb)
  clear hb
  obtain ⟨c0, c1, c2, c3⟩ := HX1.out.cells
  go_wp2_with fail
  change Calls _ _ #[insV I0 (.slice a I0.l.length cap)] _ _
  refine (may_any (HE.out.below HB1.out)).mono ?_
  rintro e w2 ⟨rfl, hb⟩
  have HB2 := Lib.hid (HB1.out.trans (hb.mono HB1.out.size))
  have HX2 := Lib.hid (HX1.out.later hb)
  clear hb c0 c1 c2 c3
  obtain ⟨c0, c1, c2, c3⟩ := HX2.out.cells
  have hz : w.heap.size < w2.heap.size := HX2.out.lt
  cases hmy : mayB I0
  · clear hmy
    go_wp2
    go_ret
    exact ⟨rfl, HB2.out⟩
  have HMY := Lib.hid hmy
  have HL33 := Lib.hid (pmay_len hmy).2
  have d0 : decide ((33 : Int) < (I0.l.length : Int)) = false := decide_eq_false (by have := HL33.out; omega)
  clear hmy
  by_cases q1 : a1 < 0
  · have d1 := decide_eq_true q1
    clear q1
    go_wp2
    go_ret
    exact ⟨rfl, HB2.out⟩
  have d1 := decide_eq_false q1
  by_cases q2 : (I0.l.length : Int) ≤ a1
  · have d2 := decide_eq_true q2
    clear q1 q2
    go_wp2
    go_ret
    exact ⟨rfl, HB2.out⟩
  have d2 := decide_eq_false q2
  obtain ⟨i, rfl⟩ : ∃ i : Nat, a1 = i := ⟨a1.toNat, by omega⟩
  have hil : i < I0.l.length := by omega
  have hii : (i : Int) < (I0.l.length : Int) := by omega
  clear q1 q2
  have HE1 := Lib.hid (HE.out.below HB2.out)
  have hsW := HB2.out.size
  go_wp2_with (first | (at_builtin; refine app_stops rfl _ _ rfl (w2.heap.size + 1) (.slice none 0 0) [] rfl (ownS_nil _ _) _ I0.l rfl (HE1.out.below ((Below.refl _ w2).alloc (Nat.le_refl _) _)) (by have := HL33.out; simp; omega) (by simp) ?_))
  intro v' w' hown hgrow _
  have HO := Lib.hid hown
  have HG := Lib.hid (grown_below hgrow (Nat.le_refl _) (fun q hq => by simp [Value.ownBlock] at hq))
  have HG1 := Lib.hid (((Below.refl _ w2).alloc (Nat.le_refl _) (boxI I0 (.slice a I0.l.length cap))).trans (HG.out.mono (by simp)))
  have HY := Lib.hid ((ybox_new w2 I0 (.slice a I0.l.length cap)).later HG.out)
  have HX3 := Lib.hid (HX2.out.later HG1.out)
  clear hown hgrow c0 c1 c2 c3 d0 d1 d2
  obtain ⟨g, vc, rfl⟩ := HO.out.form (by omega)
  obtain ⟨hat, hfr, hgl, hgb⟩ := HO.out.at i hil
  obtain ⟨t, ht⟩ : ∃ t, nth I0.l i = t := ⟨_, rfl⟩
  rw [ht] at hat
  have HTT := Lib.hid ht
  obtain ⟨r', hr'⟩ : ∃ r', IntKind.i64.wrap (I0.r + 1) = r' := ⟨_, rfl⟩
  have hr2 : wrap64 (I0.r + 1) = r' := by rw [← IntWalk.i64_left]; exact hr'
  -- the first store
  obtain ⟨y0, y1, y2, y3⟩ := HY.out.cells
  have f3 := HY.out.free 3
  have HYa := Lib.hid (HY.out.stops (.slice (some ⟨g, 0, none⟩) I0.l.length vc))
  have HXa := Lib.hid (HX3.out.other ⟨w2.heap.size, 3, none⟩ (.slice (some ⟨g, 0, none⟩) I0.l.length vc) (by simp; omega))
  have HOa := Lib.hid (show OwnS (w'.setCell ⟨w2.heap.size, 3, none⟩ (.slice (some ⟨g, 0, none⟩) I0.l.length vc)) (w2.heap.size + 1) _ _ from ownsRow_setCell_below HO.out (by simp) _)
  have HGa := Lib.hid (HG1.out.setCell (p := ⟨w2.heap.size, 3, none⟩) (Nat.le_refl _) (.slice (some ⟨g, 0, none⟩) I0.l.length vc))
  obtain ⟨Wa, hWa⟩ : ∃ W, w'.setCell ⟨w2.heap.size, 3, none⟩ (.slice (some ⟨g, 0, none⟩) I0.l.length vc) = W := ⟨_, rfl⟩
  rw [hWa] at HYa HXa HOa HGa
  -- the second store
  obtain ⟨hata, hfra, _, _⟩ := HOa.out.at i hil
  rw [HTT.out] at hata
  obtain ⟨_, _, _, _, e4, _⟩ := hata
  have fx := hfra (i * 6 + 4)
  obtain ⟨_, _, _, ya3⟩ := HYa.out.cells
  have HOb := Lib.hid ((HOa.out.stored i 4 ⟨t.x, t.y, t.d, t.r, a2, t.s⟩ (.int .i64 a2) hil (by omega) (by rw [HTT.out]; rfl) ⟨g, i * 6 + 4, none⟩ rfl).1)
  have HYb := Lib.hid (HYa.out.other ⟨g, i * 6 + 4, none⟩ (.int .i64 a2) (by simp; omega))
  have HXb := Lib.hid (HXa.out.other ⟨g, i * 6 + 4, none⟩ (.int .i64 a2) (by simp; omega))
  have HGb := Lib.hid (HGa.out.setCell (p := ⟨g, i * 6 + 4, none⟩) (by simp; omega) (.int .i64 a2))
  obtain ⟨Wb, hWb⟩ : ∃ W, Wa.setCell ⟨g, i * 6 + 4, none⟩ (.int .i64 a2) = W := ⟨_, rfl⟩
  rw [hWb] at HOb HYb HXb HGb
  -- the third store
  obtain ⟨_, _, xb2, _⟩ := HXb.out.cells
  obtain ⟨_, _, yb2, _⟩ := HYb.out.cells
  have fb2 := HYb.out.free 2
  have HYc := Lib.hid (show YBox (Wb.setCell ⟨w2.heap.size, 2, none⟩ (.int .i64 r')) w2.heap.size ⟨I0.p, I0.c, r', I0.l.set i ⟨t.x, t.y, t.d, t.r, a2, t.s⟩⟩ (.slice (some ⟨g, 0, none⟩) I0.l.length vc) from HYb.out.room r')
  have HXc := Lib.hid (HXb.out.other ⟨w2.heap.size, 2, none⟩ (.int .i64 r') (by simp; omega))
  have HOc := Lib.hid (show OwnS (Wb.setCell ⟨w2.heap.size, 2, none⟩ (.int .i64 r')) (w2.heap.size + 1) (.slice (some ⟨g, 0, none⟩) I0.l.length vc) (I0.l.set i ⟨t.x, t.y, t.d, t.r, a2, t.s⟩) from ownsRow_setCell_below HOb.out (by simp) _)
  have HGc := Lib.hid (HGb.out.setCell (p := ⟨w2.heap.size, 2, none⟩) (Nat.le_refl _) (.int .i64 r'))
  obtain ⟨Wc, hWc⟩ : ∃ W, Wb.setCell ⟨w2.heap.size, 2, none⟩ (.int .i64 r') = W := ⟨_, rfl⟩
  rw [hWc] at HYc HXc HOc HGc
  obtain ⟨yc0, yc1, yc2, yc3⟩ := HYc.out.cells
  have HSET := Lib.hid (matF_set I0.l i ⟨t.x, t.y, t.d, t.r, a2, t.s⟩ hil (by rw [HTT.out]) (by rw [HTT.out]))
  obtain ⟨L1, hL1⟩ : ∃ L1, I0.l.set i ⟨t.x, t.y, t.d, t.r, a2, t.s⟩ = L1 := ⟨_, rfl⟩
  rw [hL1] at HYc HOc HSET
  have HBc := Lib.hid (HB2.out.trans (HGc.out.mono hsW))
  have HEc := Lib.hid (HE.out.below HBc.out)
  clear hat hfr ht hL1 HY HYa HYb HXa HXb HOa HOb HGa HGb hfra HTT hr'
  go_wp2_with fail
  change Calls _ _ #[insV ⟨I0.p, I0.c, r', L1⟩ (.slice (some ⟨g, 0, none⟩) I0.l.length vc)] _ _
  refine (may_any (I := ⟨I0.p, I0.c, r', L1⟩) HOc.out.row).mono ?_
  rintro e w3 ⟨rfl, hb⟩
  have HXd := Lib.hid (HXc.out.later hb)
  have HYd := Lib.hid (HYc.out.later hb)
  have HOd := Lib.hid (HOc.out.below hb)
  have HEd := Lib.hid (HEc.out.below hb)
  have HBd := Lib.hid (HBc.out.trans (hb.mono HBc.out.size))
  clear hb yc0 yc1 yc2 yc3 xb2 yb2 fb2 e4 fx ya3 y0 y1 y2 y3 f3
  obtain ⟨c0, c1, c2, c3⟩ := HXd.out.cells
  obtain ⟨y0, y1, y2, y3⟩ := HYd.out.cells
  cases hmy : mayB (⟨I0.p, I0.c, r', L1⟩ : Ins)
  · clear hmy
    go_wp2
    go_ret
    exact ⟨rfl, HBd.out⟩
  have HMJ := Lib.hid (show matI (⟨I0.p, I0.c, r', L1⟩ : Ins) = matI I0 by unfold matI; rw [hmy, HMY.out, if_pos rfl, if_pos rfl]; exact HSET.out)
  have HLN := Lib.hid (show (matI I0).length = I0.l.length by unfold matI; rw [HMY.out, if_pos rfl, matF_len])
  clear hmy
  go_wp2_with fail
  change Calls _ _ #[insV I0 (.slice a I0.l.length cap)] _ _
  refine (matrix_any HEd.out).mono ?_
  rintro e w4 ⟨m1, rfl, hx, hb⟩
  have HX4 := Lib.hid (HXd.out.later hb)
  have HY4 := Lib.hid (HYd.out.later hb)
  have HO4 := Lib.hid (HOd.out.below hb)
  have HE4 := Lib.hid (HEd.out.below hb)
  have HB4 := Lib.hid (HBd.out.trans (hb.mono HBd.out.size))
  have HA4 := Lib.hid hx.is
  obtain ⟨ma, mc, rfl⟩ := hx.shape
  clear hb hx c0 c1 c2 c3 y0 y1 y2 y3
  obtain ⟨c0, c1, c2, c3⟩ := HX4.out.cells
  obtain ⟨y0, y1, y2, y3⟩ := HY4.out.cells
  go_wp2_with fail
  change Calls _ _ #[insV ⟨I0.p, I0.c, r', L1⟩ (.slice (some ⟨g, 0, none⟩) I0.l.length vc)] _ _
  refine (matrix_any (I := ⟨I0.p, I0.c, r', L1⟩) HO4.out.row).mono ?_
  rintro e w5 ⟨m2, rfl, hx, hb⟩
  have HX5 := Lib.hid (HX4.out.later hb)
  have HY5 := Lib.hid (HY4.out.later hb)
  have HO5 := Lib.hid (HO4.out.below hb)
  have HE5 := Lib.hid (HE4.out.below hb)
  have HB5 := Lib.hid (HB4.out.trans (hb.mono HB4.out.size))
  have HA5 := Lib.hid (HA4.out.below hb)
  have HC5 := Lib.hid (show IsLL w5 m2 (matI I0) by rw [← HMJ.out]; exact hx.is)
  clear hb hx c0 c1 c2 c3 y0 y1 y2 y3
  obtain ⟨c0, c1, c2, c3⟩ := HX5.out.cells
  obtain ⟨y0, y1, y2, y3⟩ := HY5.out.cells
  go_wp2_with fail
  change Calls _ _ #[insV I0 (.slice a I0.l.length cap)] _ _
  refine (near_any HE5.out).mono ?_
  rintro e w6 ⟨n1, rfl, hx, hb⟩
  have HX6 := Lib.hid (HX5.out.later hb)
  have HY6 := Lib.hid (HY5.out.later hb)
  have HO6 := Lib.hid (HO5.out.below hb)
  have HE6 := Lib.hid (HE5.out.below hb)
  have HB6 := Lib.hid (HB5.out.trans (hb.mono HB5.out.size))
  have HA6 := Lib.hid (HA5.out.below hb)
  have HC6 := Lib.hid (HC5.out.below hb)
  have HN6 := Lib.hid hx.row
  clear hb hx c0 c1 c2 c3 y0 y1 y2 y3
  obtain ⟨c0, c1, c2, c3⟩ := HX6.out.cells
  obtain ⟨y0, y1, y2, y3⟩ := HY6.out.cells
  go_wp2_with fail
  change Calls _ _ #[insV ⟨I0.p, I0.c, r', L1⟩ (.slice (some ⟨g, 0, none⟩) I0.l.length vc)] _ _
  refine (near_any (I := ⟨I0.p, I0.c, r', L1⟩) HO6.out.row).mono ?_
  rintro e w7 ⟨n2, rfl, hx, hb⟩
  have HX7 := Lib.hid (HX6.out.later hb)
  have HY7 := Lib.hid (HY6.out.later hb)
  have HO7 := Lib.hid (HO6.out.below hb)
  have HE7 := Lib.hid (HE6.out.below hb)
  have HB7 := Lib.hid (HB6.out.trans (hb.mono HB6.out.size))
  have HA7 := Lib.hid (HA6.out.below hb)
  have HC7 := Lib.hid (HC6.out.below hb)
  have HN7 := Lib.hid (HN6.out.below hb)
  have HM7 := Lib.hid (show Row w7 n2 (ints (nearM (matI I0))) by rw [← HMJ.out]; exact hx.row)
  clear hb hx c0 c1 c2 c3 y0 y1 y2 y3
  obtain ⟨c0, c1, c2, c3⟩ := HX7.out.cells
  obtain ⟨y0, y1, y2, y3⟩ := HY7.out.cells
  go_wp2_with fail
  refine (same_refl HA7.out HC7.out).mono ?_
  rintro e w8 ⟨rfl, hb⟩
  have HX8 := Lib.hid (HX7.out.later hb)
  have HB8 := Lib.hid (HB7.out.trans (hb.mono HB7.out.size))
  have HN8 := Lib.hid (HN7.out.below hb)
  have HM8 := Lib.hid (HM7.out.below hb)
  clear hb c0 c1 c2 c3 y0 y1 y2 y3
  go_wp2_with fail
  refine (same2_any HN8.out HM8.out).mono ?_
  rw [decide_eq_true (rfl : nearM (matI I0) = nearM (matI I0))]
  rintro e w9 ⟨rfl, hb⟩
  have HX9 := Lib.hid (HX8.out.later hb)
  have HB9 := Lib.hid (HB8.out.trans (hb.mono HB8.out.size))
  clear hb
  obtain ⟨c0, c1, c2, c3⟩ := HX9.out.cells
  have hln := HLN.out
  go_wp2
  go_ret
  exact ⟨rfl, HB9.out⟩

set_option maxRecDepth 100000 in
theorem lifted (os : Os) (started : os.Started) (H : Type) (enc : TypeId × Value → H) :
    ReturnsInHanded {} Try.checked os 7 .any (Rows.planeSameSpec.pre6 enc Try.prog Try.f7 Rows.planeSameRow.domain false) (Rows.planeSameSpec.post enc Try.prog Try.f7 false true false false) := by
  refine returnsInHanded_of_change (C := Try.checked) own started (by kernel_rfl) Try.func7
    (ChangeSpec.witness6 (enc := enc) (C := Try.checked) false ⟨#[], #[.agg #[.int .i64 0, .int .i64 0, .int .i64 0, .slice none 0 0], .int .i64 0, .int .i64 0], []⟩ 8 (by kernel_rfl) (by kernel_rfl) (by kernel_rfl) (by kernel_rfl)) ?_
  intro W base args ds gs before hval0 hW hcnd _
  have hval : ∀ (j : Nat) t v, Try.f7.params[j]? = some t → args[j]? = some v → Value.okWide Try.prog W .any base t v := hval0
  have hW' := hW
  obtain ⟨p, q, hA0, hV, rfl, hfz, hnd⟩ := hW
  have hA : DataW.TrodAll enc Try.prog W 0 (fun _ => true) true Try.f7.params.toList args.toList ds p := hA0
  rw [Try.params7] at hA hval
  obtain ⟨v0, vs0, d0, ds0, p0, q0, hargs, rfl, rfl, h0, r0⟩ := trodAll_cons hA
  obtain ⟨v1, vs1, d1, ds1, p1, q1, rfl, rfl, rfl, h1, r1⟩ := trodAll_cons r0
  obtain ⟨v2, vs2, d2, ds2, p2, q2, rfl, rfl, rfl, h2, r2⟩ := trodAll_cons r1
  obtain ⟨rfl, rfl, rfl⟩ := trodAll_nil r2
  obtain rfl : args = #[v0, v1, v2] := by cases args; simp_all
  obtain ⟨rfl, rfl⟩ := trodVars_none hV
  have k0 := h0
  have lt0 : ∀ x ∈ p0, x.block < W.heap.size := by obtain ⟨m, hm⟩ := k0; exact DataW.trod_lt m _ _ _ hm
  have k1 := h1
  have lt1 : ∀ x ∈ p1, x.block < W.heap.size := by obtain ⟨m, hm⟩ := k1; exact DataW.trod_lt m _ _ _ hm
  have k2 := h2
  have lt2 : ∀ x ∈ p2, x.block < W.heap.size := by obtain ⟨m, hm⟩ := k2; exact DataW.trod_lt m _ _ _ hm
  obtain ⟨I0, u0, rfl, e0, _⟩ := open_inst (hval 0 26 v0 rfl rfl) h0
  obtain ⟨a1, rfl, rfl, rfl, i1⟩ := open_int Try.underlying3 (hval 1 3 v1 rfl rfl) h1
  obtain ⟨a2, rfl, rfl, rfl, i2⟩ := open_int Try.underlying3 (hval 2 3 v2 rfl rfl) h2
  clear hA0 hval0
  refine (walk I0 _ a1 a2 W e0).mono fun e W' ⟨he, bel⟩ => ?_
  subst he
  exact ⟨_, rfl, _, _, _, [], _, [], hW', trodAll_mk1 (shut_bool Try.underlying4 _), (trodAll_cons_mk (Below.trod laidOut (by kernel_rfl) (of_decide_eq_true (by kernel_rfl)) k0 bel lt0) (trodAll_cons_mk (Below.trod laidOut (by kernel_rfl) (of_decide_eq_true (by kernel_rfl)) k1 bel lt1) (trodAll_cons_mk (Below.trod laidOut (by kernel_rfl) (of_decide_eq_true (by kernel_rfl)) k2 bel lt2) trodAll_mk0))), rfl, bel.frame _, fun h => by cases h⟩

theorem over : Rows.planeSameRow.holds Try.pinned (OpenSpec.ofChange Rows.planeSameSpec) :=
  OpenClaim.holds_of_wide 7 Try.f7 rfl rfl rfl rfl rfl rfl rfl ⟨rfl, rfl, rfl, rfl, rfl⟩ rfl rfl rfl rfl rfl (by kernel_rfl) Try.func7 (by show joinedFacts Try.checked.prog _ _ _ _ = true; unfold joinedFacts; rw [ord_may, ord_lifts, ord_make]; kernel_rfl)
    (of_decide_eq_true (by kernel_rfl)) (by unfold Func.isWrapper; first | (rw [if_pos (by decide +kernel)]; kernel_rfl) | (rw [if_neg (by decide +kernel)]; exact ⟨rfl, rfl⟩))
    (fun os started H enc _ => lifted os started H enc)

theorem proved : Rows.PlaneSameSaid := over
#print axioms proved
end Go.Proofs.Ytpgbbnmflnhlbaa.planeSame
