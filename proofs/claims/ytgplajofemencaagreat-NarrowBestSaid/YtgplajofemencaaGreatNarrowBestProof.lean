/- NarrowBest (P16.1, P16.2) -/
import Derived.Test.YtgplajofemencaaGreatOrd
import Derived.Test.YtgplajofemencaaGreatRows
import Derived.Test.YtgplajofemencaaGreatNAwake
import Derived.Test.YtgplajofemencaaGreatEMore
import Derived.Test.YtgplajofemencaaGreatNProg
import Derived.Test.YtgplajofemencaaGreatEProg
import Derived.Test.YtgplajofemencaaGreatEOpen
import Derived.Test.YtgplajofemencaaGreatYL
import Derived.Test.YtgplajofemencaaGreatXIMay
import Derived.Test.YtgplajofemencaaGreatYM
import Derived.Test.YtgplajofemencaaGreatYI
import Derived.Test.YtgplajofemencaaGreatXN
import Derived.Test.YtgplajofemencaaGreatYF
import Derived.Test.YtgplajofemencaaGreatYJ
import Derived.Test.YtgplajofemencaaGreatYG
import Derived.Test.YtgplajofemencaaGreatXU
import Derived.Test.YtgplajofemencaaGreatYE
import Derived.Test.YtgplajofemencaaGreatYD
import Derived.Test.YtgplajofemencaaGreatXSPlan
namespace Go.Proofs.YtgplajofemencaaGreat.narrowBest
open Go.ChangeShapes Go.WideShapes Go.ChangeAt Go.RowKit

set_option maxRecDepth 1000000 in
set_option maxHeartbeats 4000000 in
theorem walk (I0 : Ins) (v0 : Value) (s1 : Sta) (c1 : Int) (v1 : Value) (l1 : List Int) (a2 : Int) (a3 : Int) (w : World) (e0 : SRow w v0 I0.l) (e1 : SetsOk s1) (q1 : FitSt s1) (n1 : Fit c1) (g1 : Row w v1 (ints l1)) :
    Calls Tryz.prog 3 #[insV I0 v0, nodeV s1 c1 v1, .int .i64 a2, .int .i64 a3] w fun e w' => e = .returned (.bool true) ∧ Below w.heap.size w w' := by
  have HR := Lib.hid e0
  have HX := Lib.hid g1
  have HSO := Lib.hid e1
  have HQ := Lib.hid q1
  have HCO := Lib.hid n1
  obtain ⟨ad, cap, rfl, hlm, _⟩ := e0.form
  obtain ⟨xa, xc, rfl, _⟩ := g1.form
  obtain ⟨xn, hxn⟩ : ∃ x, (ints l1).length = x := ⟨_, rfl⟩
  rw [hxn] at HX ⊢
  have HXN := Lib.hid (show xn = l1.length by rw [← hxn]; exact ints_len l1)
  clear e0 e1 q1 n1 g1 hxn
  unfold insV nodeV
  go_enter Tryz.func3, Tryz.ntmps3
  go_upto_region 1 with fail
  obtain ⟨k1, k2, k3⟩ := boxes_in w I0 (.slice ad I0.l.length cap) s1 c1 (.slice xa xn xc)
  have HY := Lib.hid k1
  have HD := Lib.hid k2
  have HB := Lib.hid k3
  clear k1 k2 k3
  change Code.wp _ _ _ _ ((w.alloc (boxI I0 (.slice ad I0.l.length cap))).alloc (boxN s1 c1 (.slice xa xn xc)))
  generalize (w.alloc (boxI I0 (.slice ad I0.l.length cap))).alloc (boxN s1 c1 (.slice xa xn xc)) = W at *
  have HRn := Lib.hid (HR.out.below HB.out)
  clear HR
  have HR := HRn
  clear HRn
  have HXn := Lib.hid (HX.out.below HB.out)
  clear HX
  have HX := HXn
  clear HXn
  go_wp2_with fail
  refine (nawake_any _).mono ?_
  rintro e w1 ⟨rfl, hb⟩
  have HYn := Lib.hid (HY.out.later hb)
  clear HY
  have HY := HYn
  clear HYn
  have HDn := Lib.hid (HD.out.later hb)
  clear HD
  have HD := HDn
  clear HDn
  have HRn := Lib.hid (HR.out.below hb)
  clear HR
  have HR := HRn
  clear HRn
  have HXn := Lib.hid (HX.out.below hb)
  clear HX
  have HX := HXn
  clear HXn
  have HBn := Lib.hid (HB.out.trans (hb.mono HB.out.size))
  clear HB
  have HB := HBn
  clear HBn
  clear hb
  obtain ⟨y0, y1, y2, y3⟩ := HY.out.cells
  have x9 := HD.out.c9
  by_cases g2 : 9 < I0.l.length
  · have d2 : decide ((9 : Int) < (I0.l.length : Int)) = true := decide_eq_true (by omega)
    have f2 := decide_eq_true g2
    clear g2
    go_wp2
    go_ret
    exact ⟨rfl, HB.out⟩
  have d2 : decide ((9 : Int) < (I0.l.length : Int)) = false := decide_eq_false (by omega)
  have f2 := decide_eq_false g2
  by_cases g3 : 40 < a2
  · have d3 : decide (40 < a2) = true := decide_eq_true (by omega)
    have f3 := decide_eq_true g3
    clear g3
    go_wp2
    go_ret
    exact ⟨rfl, HB.out⟩
  have d3 : decide (40 < a2) = false := decide_eq_false (by omega)
  have f3 := decide_eq_false g3
  by_cases g4 : 100 < xn
  · have d4 : decide ((100 : Int) < (xn : Int)) = true := decide_eq_true (by omega)
    have f4 := decide_eq_true g4
    clear g4
    go_wp2
    go_ret
    exact ⟨rfl, HB.out⟩
  have d4 : decide ((100 : Int) < (xn : Int)) = false := decide_eq_false (by omega)
  have f4 := decide_eq_false g4
  have HLEN := Lib.hid g2
  have HM3 := Lib.hid g3
  have HP := Lib.hid (show l1.length ≤ 1000 by have := HXN.out; omega)
  clear g2 g3 g4
  go_upto_region 4 with fail
  clear y0 y1 y2 y3 x9 d2 d3 d4 f2 f3 f4
  obtain ⟨o1, ho1⟩ : ∃ o, (narrowRun I0 (widN a2) 44 [(⟨s1, c1, l1⟩ : Nod)] none a3 0).1 = o := ⟨_, rfl⟩
  obtain ⟨st1, hst1⟩ : ∃ o, (narrowRun I0 (widN a2) 44 [(⟨s1, c1, l1⟩ : Nod)] none a3 0).2 = o := ⟨_, rfl⟩
  obtain ⟨bs1, hbs1⟩ : ∃ b, bestV o1 = b := ⟨_, rfl⟩
  obtain ⟨is1, his1⟩ : ∃ b, o1.isSome = b := ⟨_, rfl⟩
  have HO1 := Lib.hid ho1
  have HST1 := Lib.hid hst1
  have HBS1 := Lib.hid hbs1
  have HIS1 := Lib.hid his1
  clear ho1 hst1 hbs1 his1
  obtain ⟨y0, y1, y2, y3⟩ := HY.out.cells
  have x0 := HD.out.c0
  have x1 := HD.out.c1
  have x2 := HD.out.c2
  have x3 := HD.out.c3
  have x4 := HD.out.c4
  have x5 := HD.out.c5
  have x6 := HD.out.c6
  have x7 := HD.out.c7
  have x8 := HD.out.c8
  have x9 := HD.out.c9
  go_wp2_with fail
  clear y0 y1 y2 y3
  clear x0 x1 x2 x3 x4 x5 x6 x7 x8 x9
  change Calls _ _ #[insV I0 (.slice ad I0.l.length cap), nodeV s1 c1 (.slice xa xn xc), .int .i64 a2, .int .i64 a3] _ _
  refine (nbest_any (I := I0) (n := (⟨s1, c1, l1⟩ : Nod)) (up := a3) (width := a2) HR.out (Below.refl _ _) HSO.out HQ.out HCO.out (.inl HX.out) HP.out (by have := HM3.out; omega)).mono ?_
  rw [HO1.out, HST1.out, HBS1.out, HIS1.out]
  rintro e w3 ⟨pb1, pn1, pc1, rfl, hp, hb⟩
  have HP1 := Lib.hid (hp.row hb)
  clear hp
  have HYn := Lib.hid (HY.out.later hb)
  clear HY
  have HY := HYn
  clear HYn
  have HDn := Lib.hid (HD.out.later hb)
  clear HD
  have HD := HDn
  clear HDn
  have HRn := Lib.hid (HR.out.below hb)
  clear HR
  have HR := HRn
  clear HRn
  have HXn := Lib.hid (HX.out.below hb)
  clear HX
  have HX := HXn
  clear HXn
  have HBn := Lib.hid (HB.out.trans (hb.mono HB.out.size))
  clear HB
  have HB := HBn
  clear HBn
  clear hb
  unfold nodeV
  go_upto_region 5 with fail
  change Code.wp _ _ _ _ (w3.alloc (boxN bs1.s bs1.cost (.slice pb1 pn1 pc1)))
  have hb := (Below.refl w3.heap.size w3).alloc (Nat.le_refl _) (boxN bs1.s bs1.cost (.slice pb1 pn1 pc1))
  have HN1 := Lib.hid (nod_new w3 bs1.s bs1.cost (.slice pb1 pn1 pc1))
  have HYn := Lib.hid (HY.out.later hb)
  clear HY
  have HY := HYn
  clear HYn
  have HDn := Lib.hid (HD.out.later hb)
  clear HD
  have HD := HDn
  clear HDn
  have HRn := Lib.hid (HR.out.below hb)
  clear HR
  have HR := HRn
  clear HRn
  have HXn := Lib.hid (HX.out.below hb)
  clear HX
  have HX := HXn
  clear HXn
  have HP1n := Lib.hid (HP1.out.below hb)
  clear HP1
  have HP1 := HP1n
  clear HP1n
  have HBn := Lib.hid (HB.out.trans (hb.mono HB.out.size))
  clear HB
  have HB := HBn
  clear HBn
  clear hb
  generalize w3.alloc (boxN bs1.s bs1.cost (.slice pb1 pn1 pc1)) = W4 at *
  obtain ⟨bk1, hbk1⟩ : ∃ b, w3.heap.size = b := ⟨_, rfl⟩
  rw [hbk1] at HN1 ⊢
  clear hbk1
  obtain ⟨y0, y1, y2, y3⟩ := HY.out.cells
  have x0 := HD.out.c0
  have x1 := HD.out.c1
  have x2 := HD.out.c2
  have x3 := HD.out.c3
  have x4 := HD.out.c4
  have x5 := HD.out.c5
  have x6 := HD.out.c6
  have x7 := HD.out.c7
  have x8 := HD.out.c8
  have x9 := HD.out.c9
  go_wp2_with fail
  clear y0 y1 y2 y3
  clear x0 x1 x2 x3 x4 x5 x6 x7 x8 x9
  change Calls _ _ #[insV I0 (.slice ad I0.l.length cap), nodeV s1 c1 (.slice xa xn xc), .int .i64 a2, .int .i64 a3] _ _
  refine (dnbest_any (I := I0) (n := (⟨s1, c1, l1⟩ : Nod)) (up := a3) (width := a2) HR.out (Below.refl _ _) HSO.out (.inl HX.out) HP.out (by have := HM3.out; omega)).mono ?_
  rw [HO1.out, HST1.out, HBS1.out, HIS1.out]
  rintro e w4 ⟨pb2, pn2, pc2, rfl, hp, hb⟩
  have HP2 := Lib.hid (hp.row hb)
  clear hp
  have HYn := Lib.hid (HY.out.later hb)
  clear HY
  have HY := HYn
  clear HYn
  have HDn := Lib.hid (HD.out.later hb)
  clear HD
  have HD := HDn
  clear HDn
  have HRn := Lib.hid (HR.out.below hb)
  clear HR
  have HR := HRn
  clear HRn
  have HXn := Lib.hid (HX.out.below hb)
  clear HX
  have HX := HXn
  clear HXn
  have HP1n := Lib.hid (HP1.out.below hb)
  clear HP1
  have HP1 := HP1n
  clear HP1n
  have HN1n := Lib.hid (HN1.out.later hb)
  clear HN1
  have HN1 := HN1n
  clear HN1n
  have HBn := Lib.hid (HB.out.trans (hb.mono HB.out.size))
  clear HB
  have HB := HBn
  clear HBn
  clear hb
  unfold nodeV
  go_upto_region 6 with fail
  change Code.wp _ _ _ _ (w4.alloc (boxN bs1.s bs1.cost (.slice pb2 pn2 pc2)))
  have hb := (Below.refl w4.heap.size w4).alloc (Nat.le_refl _) (boxN bs1.s bs1.cost (.slice pb2 pn2 pc2))
  have HN2 := Lib.hid (nod_new w4 bs1.s bs1.cost (.slice pb2 pn2 pc2))
  have HYn := Lib.hid (HY.out.later hb)
  clear HY
  have HY := HYn
  clear HYn
  have HDn := Lib.hid (HD.out.later hb)
  clear HD
  have HD := HDn
  clear HDn
  have HRn := Lib.hid (HR.out.below hb)
  clear HR
  have HR := HRn
  clear HRn
  have HXn := Lib.hid (HX.out.below hb)
  clear HX
  have HX := HXn
  clear HXn
  have HP1n := Lib.hid (HP1.out.below hb)
  clear HP1
  have HP1 := HP1n
  clear HP1n
  have HN1n := Lib.hid (HN1.out.later hb)
  clear HN1
  have HN1 := HN1n
  clear HN1n
  have HP2n := Lib.hid (HP2.out.below hb)
  clear HP2
  have HP2 := HP2n
  clear HP2n
  have HBn := Lib.hid (HB.out.trans (hb.mono HB.out.size))
  clear HB
  have HB := HBn
  clear HBn
  clear hb
  generalize w4.alloc (boxN bs1.s bs1.cost (.slice pb2 pn2 pc2)) = W5 at *
  obtain ⟨bk2, hbk2⟩ : ∃ b, w4.heap.size = b := ⟨_, rfl⟩
  rw [hbk2] at HN2 ⊢
  clear hbk2
  clear HO1 HST1 HBS1 HIS1
  have x0 := HN1.out.c0
  have q0 := HN2.out.c0
  have x1 := HN1.out.c1
  have q1 := HN2.out.c1
  have x2 := HN1.out.c2
  have q2 := HN2.out.c2
  have x3 := HN1.out.c3
  have q3 := HN2.out.c3
  have x4 := HN1.out.c4
  have q4 := HN2.out.c4
  have x5 := HN1.out.c5
  have q5 := HN2.out.c5
  have x6 := HN1.out.c6
  have q6 := HN2.out.c6
  have x7 := HN1.out.c7
  have q7 := HN2.out.c7
  have x8 := HN1.out.c8
  have q8 := HN2.out.c8
  have x9 := HN1.out.c9
  have q9 := HN2.out.c9
  have hbk2 : bk2 < W5.heap.size := HN2.out.lt
  go_wp2_with fail
  clear x0 q0 x1 q1 x2 q2 x3 q3 x4 q4 x5 q5 x6 q6 x7 q7 x8 q8 x9 q9
  have A1 : NRow (W5.alloc (boxN bs1.s bs1.cost (.slice pb1 pn1 pc1))) (.slice (some ⟨W5.heap.size, 0, none⟩) 1 1) [bs1] := ⟨[⟨bs1.s, bs1.cost, pb1, pn1, pc1⟩], nrow_one (heap_alloc_new W5 _), ⟨rfl, rfl, .inl (HP1.out.below ((Below.refl _ W5).alloc (Nat.le_refl _) _))⟩, trivial⟩
  have hb1 := (Below.refl _ (W5.alloc (boxN bs1.s bs1.cost (.slice pb1 pn1 pc1)))).alloc (Nat.le_refl _) (boxN bs1.s bs1.cost (.slice pb2 pn2 pc2))
  have A2 : NRow ((W5.alloc (boxN bs1.s bs1.cost (.slice pb1 pn1 pc1))).alloc (boxN bs1.s bs1.cost (.slice pb2 pn2 pc2))) (.slice (some ⟨(W5.alloc (boxN bs1.s bs1.cost (.slice pb1 pn1 pc1))).heap.size, 0, none⟩) 1 1) [bs1] := ⟨[⟨bs1.s, bs1.cost, pb2, pn2, pc2⟩], nrow_one (heap_alloc_new _ _), ⟨rfl, rfl, .inl ((HP2.out.below ((Below.refl _ W5).alloc (Nat.le_refl _) _)).below hb1)⟩, trivial⟩
  rw [show (W5.alloc (boxN bs1.s bs1.cost (.slice pb1 pn1 pc1))).heap.size = W5.heap.size + 1 by simp] at A2
  have hb := ((Below.refl W5.heap.size W5).alloc (Nat.le_refl _) (boxN bs1.s bs1.cost (.slice pb1 pn1 pc1))).trans (hb1.mono (by simp))
  have HB6 := Lib.hid (HB.out.trans (hb.mono HB.out.size))
  have HA1 := Lib.hid (A1.below hb1)
  have HA2 := Lib.hid A2
  clear A1 A2 hb hb1
  refine (sameN_any HA1.out HA2.out).mono ?_
  rw [decide_eq_true (rfl : [bs1] = [bs1])]
  rintro e w6 ⟨rfl, hb⟩
  have HB7 := Lib.hid (HB6.out.trans (hb.mono HB6.out.size))
  clear hb
  have b1 : (is1 == is1) = true := by simp
  have b3 : (st1 == st1) = true := by simp
  go_wp2
  go_ret
  exact ⟨by first | rfl | simp, HB7.out⟩

set_option maxRecDepth 100000 in
theorem lifted (os : Os) (started : os.Started) (H : Type) (enc : TypeId × Value → H) :
    ReturnsInHanded {} Tryz.checked os 3 .any (Rows.narrowBestSpec.pre6 enc Tryz.prog Tryz.f3 Rows.narrowBestRow.domain false) (Rows.narrowBestSpec.post enc Tryz.prog Tryz.f3 false true false false) := by
  refine returnsInHanded_of_change (C := Tryz.checked) own started (by kernel_rfl) Tryz.func3
    (ChangeSpec.witness6 (enc := enc) (C := Tryz.checked) false ⟨#[], #[.agg #[.int .i64 0, .int .i64 0, .int .i64 0, .slice none 0 0], .agg #[.int .i64 0, .int .i64 0, .int .i64 0, .int .i64 0, .int .i64 0, .int .u64 0, .int .u64 0, .int .u64 0, .int .i64 0, .slice none 0 0], .int .i64 0, .int .i64 0], []⟩ 8 (by kernel_rfl) (by kernel_rfl) (by kernel_rfl) (by kernel_rfl)) ?_
  intro W base args ds gs before hval0 hW hcnd _
  have hval : ∀ (j : Nat) t v, Tryz.f3.params[j]? = some t → args[j]? = some v → Value.okWide Tryz.prog W .any base t v := hval0
  have hW' := hW
  obtain ⟨p, q, hA0, hV, rfl, hfz, hnd⟩ := hW
  have hA : DataW.TrodAll enc Tryz.prog W 0 (fun _ => true) true Tryz.f3.params.toList args.toList ds p := hA0
  rw [Tryz.params3] at hA hval
  obtain ⟨v0, vs0, d0, ds0, p0, q0, hargs, rfl, rfl, h0, r0⟩ := trodAll_cons hA
  obtain ⟨v1, vs1, d1, ds1, p1, q1, rfl, rfl, rfl, h1, r1⟩ := trodAll_cons r0
  obtain ⟨v2, vs2, d2, ds2, p2, q2, rfl, rfl, rfl, h2, r2⟩ := trodAll_cons r1
  obtain ⟨v3, vs3, d3, ds3, p3, q3, rfl, rfl, rfl, h3, r3⟩ := trodAll_cons r2
  obtain ⟨rfl, rfl, rfl⟩ := trodAll_nil r3
  obtain rfl : args = #[v0, v1, v2, v3] := by cases args; simp_all
  obtain ⟨rfl, rfl⟩ := trodVars_none hV
  have k0 := h0
  have lt0 : ∀ x ∈ p0, x.block < W.heap.size := by obtain ⟨m, hm⟩ := k0; exact DataW.trod_lt m _ _ _ hm
  have k1 := h1
  have lt1 : ∀ x ∈ p1, x.block < W.heap.size := by obtain ⟨m, hm⟩ := k1; exact DataW.trod_lt m _ _ _ hm
  have k2 := h2
  have lt2 : ∀ x ∈ p2, x.block < W.heap.size := by obtain ⟨m, hm⟩ := k2; exact DataW.trod_lt m _ _ _ hm
  have k3 := h3
  have lt3 : ∀ x ∈ p3, x.block < W.heap.size := by obtain ⟨m, hm⟩ := k3; exact DataW.trod_lt m _ _ _ hm
  obtain ⟨I0, u0, rfl, e0, _⟩ := open_inst (hval 0 24 v0 rfl rfl) h0
  obtain ⟨s1, c1, u1, l1, rfl, e1, q1, n1, g1⟩ := open_nodeF (hval 1 30 v1 rfl rfl) h1
  obtain ⟨a2, rfl, rfl, rfl, i2⟩ := open_int Tryz.underlying3 (hval 2 3 v2 rfl rfl) h2
  obtain ⟨a3, rfl, rfl, rfl, i3⟩ := open_int Tryz.underlying3 (hval 3 3 v3 rfl rfl) h3
  clear hA0 hval0
  refine (walk I0 _ s1 c1 _ l1 a2 a3 W e0 e1 q1 n1 g1).mono fun e W' ⟨he, bel⟩ => ?_
  subst he
  exact ⟨_, rfl, _, _, _, [], _, [], hW', trodAll_mk1 (shut_bool Tryz.underlying4 _), (trodAll_cons_mk (Below.trod laidOut (by kernel_rfl) (of_decide_eq_true (by kernel_rfl)) k0 bel lt0) (trodAll_cons_mk (Below.trod laidOut (by kernel_rfl) (of_decide_eq_true (by kernel_rfl)) k1 bel lt1) (trodAll_cons_mk (Below.trod laidOut (by kernel_rfl) (of_decide_eq_true (by kernel_rfl)) k2 bel lt2) (trodAll_cons_mk (Below.trod laidOut (by kernel_rfl) (of_decide_eq_true (by kernel_rfl)) k3 bel lt3) trodAll_mk0)))), rfl, bel.frame _, fun h => by cases h⟩

theorem over : Rows.narrowBestRow.holds Tryz.pinned (OpenSpec.ofChange Rows.narrowBestSpec) :=
  OpenClaim.holds_of_wide 3 Tryz.f3 rfl rfl rfl rfl rfl rfl rfl ⟨rfl, rfl, rfl, rfl, rfl⟩ rfl rfl rfl rfl rfl (by kernel_rfl) Tryz.func3 (by show joinedFacts Tryz.checked.prog _ _ _ _ = true; unfold joinedFacts; rw [ord_may, ord_lifts, ord_make]; kernel_rfl)
    (of_decide_eq_true (by kernel_rfl)) (by unfold Func.isWrapper; first | (rw [if_pos (by decide +kernel)]; kernel_rfl) | (rw [if_neg (by decide +kernel)]; exact ⟨rfl, rfl⟩))
    (fun os started H enc _ => lifted os started H enc)

theorem proved : Rows.NarrowBestSaid := over
#print axioms proved
end Go.Proofs.YtgplajofemencaaGreat.narrowBest
