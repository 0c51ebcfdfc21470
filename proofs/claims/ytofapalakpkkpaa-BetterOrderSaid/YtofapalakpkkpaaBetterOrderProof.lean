/- To leave without use (better.Than) is an order of any three nodes: of itself, of three, and two that do so to each other are alike but for their paths: haulierlaw13.BetterOrder answers true. Condition: none. -/
import Derived.Test.YtofapalakpkkpaaRows
import Derived.Test.YtofapalakpkkpaaGAwake
import Derived.Test.YtofapalakpkkpaaNOpen
import Derived.Test.YtofapalakpkkpaaGSame
import Derived.Test.YtofapalakpkkpaaGProg
namespace Go.Proofs.Ytofapalakpkkpaa.betterOrder
open Go.ChangeShapes Go.WideShapes Go.ChangeAt Go.RowKit

theorem boxes_nnn (w : World) (s t r : Sta) (c d k : Int) (u v x : Value) : NodB (((w.alloc (boxN s c u)).alloc (boxN t d v)).alloc (boxN r k x)) w.heap.size s c u ∧ NodB (((w.alloc (boxN s c u)).alloc (boxN t d v)).alloc (boxN r k x)) (w.heap.size + 1) t d v ∧ NodB (((w.alloc (boxN s c u)).alloc (boxN t d v)).alloc (boxN r k x)) (w.heap.size + 2) r k x ∧ Below w.heap.size w (((w.alloc (boxN s c u)).alloc (boxN t d v)).alloc (boxN r k x)) := by
  obtain ⟨h1, h2, h3⟩ := boxes_nn w s t c d u v
  have e1 : ((w.alloc (boxN s c u)).alloc (boxN t d v)).heap.size = w.heap.size + 2 := by simp
  have a3 := nod_new ((w.alloc (boxN s c u)).alloc (boxN t d v)) r k x
  rw [e1] at a3
  have hb1 : Below ((w.alloc (boxN s c u)).alloc (boxN t d v)).heap.size ((w.alloc (boxN s c u)).alloc (boxN t d v)) (((w.alloc (boxN s c u)).alloc (boxN t d v)).alloc (boxN r k x)) := (Below.refl _ _).alloc (Nat.le_refl _) _
  exact ⟨h1.later hb1, h2.later hb1, a3, h3.alloc (by rw [e1]; omega) _⟩
set_option maxRecDepth 1000000 in
set_option maxHeartbeats 4000000 in
theorem walk (s0 : Sta) (c0 : Int) (v0 : Value) (l0 : List Int) (s1 : Sta) (c1 : Int) (v1 : Value) (l1 : List Int) (s2 : Sta) (c2 : Int) (v2 : Value) (l2 : List Int) (w : World) (e0 : SetsOk s0) (g0 : Row w v0 (ints l0)) (e1 : SetsOk s1) (g1 : Row w v1 (ints l1)) (e2 : SetsOk s2) (g2 : Row w v2 (ints l2)) :
    Calls Try.prog 7 #[nodeV s0 c0 v0, nodeV s1 c1 v1, nodeV s2 c2 v2] w fun e w' => e = .returned (.bool true) ∧ Below w.heap.size w w' := by
  have H0 := Lib.hid e0
  have H1 := Lib.hid e1
  have H2 := Lib.hid e2
  obtain ⟨xa, xc, rfl, _⟩ := g0.form
  obtain ⟨xn, hn0⟩ : ∃ x, (ints l0).length = x := ⟨_, rfl⟩
  rw [hn0]
  clear hn0 g0 e0
  obtain ⟨ya, yc, rfl, _⟩ := g1.form
  obtain ⟨yn, hn1⟩ : ∃ x, (ints l1).length = x := ⟨_, rfl⟩
  rw [hn1]
  clear hn1 g1 e1
  obtain ⟨za, zc, rfl, _⟩ := g2.form
  obtain ⟨zn, hn2⟩ : ∃ x, (ints l2).length = x := ⟨_, rfl⟩
  rw [hn2]
  clear hn2 g2 e2
  unfold nodeV
  go_enter Try.func7, Try.ntmps7
  go_upto_region 1 with fail
  obtain ⟨k1, k2, k3, k4⟩ := boxes_nnn w s0 s1 s2 c0 c1 c2 (.slice xa xn xc) (.slice ya yn yc) (.slice za zn zc)
  have HA := Lib.hid k1
  have HC := Lib.hid k2
  have HD := Lib.hid k3
  have HB := Lib.hid k4
  clear k1 k2 k3 k4
  change Code.wp _ _ _ _ (((w.alloc (boxN s0 c0 (.slice xa xn xc))).alloc (boxN s1 c1 (.slice ya yn yc))).alloc (boxN s2 c2 (.slice za zn zc)))
  generalize (((w.alloc (boxN s0 c0 (.slice xa xn xc))).alloc (boxN s1 c1 (.slice ya yn yc))).alloc (boxN s2 c2 (.slice za zn zc))) = W at *
  go_wp2_with fail
  refine (gawake_any _).mono ?_
  rintro e w1 ⟨rfl, hb⟩
  have HAn := Lib.hid (HA.out.later hb)
  clear HA
  have HA := HAn
  clear HAn
  have HCn := Lib.hid (HC.out.later hb)
  clear HC
  have HC := HCn
  clear HCn
  have HDn := Lib.hid (HD.out.later hb)
  clear HD
  have HD := HDn
  clear HDn
  have HBn := Lib.hid (HB.out.trans (hb.mono HB.out.size))
  clear HB
  have HB := HBn
  clear HBn
  clear hb
  have hrf : Than (⟨s0, c0, l0⟩ : Nod) (⟨s0, c0, l0⟩ : Nod) := than_refl (fits_of H0.out)
  have htr : Than (⟨s0, c0, l0⟩ : Nod) (⟨s1, c1, l1⟩ : Nod) → Than (⟨s1, c1, l1⟩ : Nod) (⟨s2, c2, l2⟩ : Nod) → Than (⟨s0, c0, l0⟩ : Nod) (⟨s2, c2, l2⟩ : Nod) := fun h k => than_trans (a := (⟨s0, c0, l0⟩ : Nod)) (b := (⟨s1, c1, l1⟩ : Nod)) (c := (⟨s2, c2, l2⟩ : Nod)) (fits_of H0.out) (fits_of H1.out) (fits_of H2.out) h k
  have hbo : (Than (⟨s0, c0, l0⟩ : Nod) (⟨s1, c1, l1⟩ : Nod) ∧ Than (⟨s1, c1, l1⟩ : Nod) (⟨s0, c0, l0⟩ : Nod)) ↔ (s0 = s1 ∧ c0 = c1) := than_both (a := (⟨s0, c0, l0⟩ : Nod)) (b := (⟨s1, c1, l1⟩ : Nod)) (fits_of H0.out) (fits_of H1.out)
  obtain ⟨p, hp⟩ : ∃ p, decide (Than (⟨s0, c0, l0⟩ : Nod) (⟨s1, c1, l1⟩ : Nod)) = p := ⟨_, rfl⟩
  obtain ⟨q, hq⟩ : ∃ q, decide (Than (⟨s1, c1, l1⟩ : Nod) (⟨s2, c2, l2⟩ : Nod)) = q := ⟨_, rfl⟩
  have HR := Lib.hid (decide_eq_true hrf)
  have HP := Lib.hid hp
  have HQ := Lib.hid hq
  have HTR := Lib.hid htr
  have HBO := Lib.hid hbo
  clear hrf htr hbo hp hq
  obtain ⟨zz, hzz⟩ : ∃ zz, decide (s0 = s1 ∧ c0 = c1) = zz := ⟨_, rfl⟩
  have HZ := Lib.hid hzz
  clear hzz
  have x0 := HA.out.c0
  have x1 := HA.out.c1
  have x2 := HA.out.c2
  have x3 := HA.out.c3
  have x4 := HA.out.c4
  have x5 := HA.out.c5
  have x6 := HA.out.c6
  have x7 := HA.out.c7
  have x8 := HA.out.c8
  have x9 := HA.out.c9
  have y0 := HC.out.c0
  have y1 := HC.out.c1
  have y2 := HC.out.c2
  have y3 := HC.out.c3
  have y4 := HC.out.c4
  have y5 := HC.out.c5
  have y6 := HC.out.c6
  have y7 := HC.out.c7
  have y8 := HC.out.c8
  have y9 := HC.out.c9
  have z0 := HD.out.c0
  have z1 := HD.out.c1
  have z2 := HD.out.c2
  have z3 := HD.out.c3
  have z4 := HD.out.c4
  have z5 := HD.out.c5
  have z6 := HD.out.c6
  have z7 := HD.out.c7
  have z8 := HD.out.c8
  have z9 := HD.out.c9
  go_wp2_with fail
  clear x0 x1 x2 x3 x4 x5 x6 x7 x8 x9 y0 y1 y2 y3 y4 y5 y6 y7 y8 y9 z0 z1 z2 z3 z4 z5 z6 z7 z8 z9
  change Calls _ _ #[nodeV (⟨s0, c0, l0⟩ : Nod).s (⟨s0, c0, l0⟩ : Nod).cost (.slice xa xn xc), nodeV (⟨s1, c1, l1⟩ : Nod).s (⟨s1, c1, l1⟩ : Nod).cost (.slice ya yn yc)] _ _
  refine (gthan_any _ H0.out H1.out).mono ?_
  rw [HP.out]
  rintro e w2 ⟨rfl, hb⟩
  have HAn := Lib.hid (HA.out.later hb)
  clear HA
  have HA := HAn
  clear HAn
  have HCn := Lib.hid (HC.out.later hb)
  clear HC
  have HC := HCn
  clear HCn
  have HDn := Lib.hid (HD.out.later hb)
  clear HD
  have HD := HDn
  clear HDn
  have HBn := Lib.hid (HB.out.trans (hb.mono HB.out.size))
  clear HB
  have HB := HBn
  clear HBn
  clear hb
  have x0 := HA.out.c0
  have x1 := HA.out.c1
  have x2 := HA.out.c2
  have x3 := HA.out.c3
  have x4 := HA.out.c4
  have x5 := HA.out.c5
  have x6 := HA.out.c6
  have x7 := HA.out.c7
  have x8 := HA.out.c8
  have x9 := HA.out.c9
  have y0 := HC.out.c0
  have y1 := HC.out.c1
  have y2 := HC.out.c2
  have y3 := HC.out.c3
  have y4 := HC.out.c4
  have y5 := HC.out.c5
  have y6 := HC.out.c6
  have y7 := HC.out.c7
  have y8 := HC.out.c8
  have y9 := HC.out.c9
  have z0 := HD.out.c0
  have z1 := HD.out.c1
  have z2 := HD.out.c2
  have z3 := HD.out.c3
  have z4 := HD.out.c4
  have z5 := HD.out.c5
  have z6 := HD.out.c6
  have z7 := HD.out.c7
  have z8 := HD.out.c8
  have z9 := HD.out.c9
  go_wp2_with fail
  clear x0 x1 x2 x3 x4 x5 x6 x7 x8 x9 y0 y1 y2 y3 y4 y5 y6 y7 y8 y9 z0 z1 z2 z3 z4 z5 z6 z7 z8 z9
  change Calls _ _ #[nodeV (⟨s1, c1, l1⟩ : Nod).s (⟨s1, c1, l1⟩ : Nod).cost (.slice ya yn yc), nodeV (⟨s2, c2, l2⟩ : Nod).s (⟨s2, c2, l2⟩ : Nod).cost (.slice za zn zc)] _ _
  refine (gthan_any _ H1.out H2.out).mono ?_
  rw [HQ.out]
  rintro e w3 ⟨rfl, hb⟩
  have HAn := Lib.hid (HA.out.later hb)
  clear HA
  have HA := HAn
  clear HAn
  have HCn := Lib.hid (HC.out.later hb)
  clear HC
  have HC := HCn
  clear HCn
  have HDn := Lib.hid (HD.out.later hb)
  clear HD
  have HD := HDn
  clear HDn
  have HBn := Lib.hid (HB.out.trans (hb.mono HB.out.size))
  clear HB
  have HB := HBn
  clear HBn
  clear hb
  go_upto_region 4 with fail
  go_cut [10] from 18 (fun z' wx => z' = .bool zz ∧ Below w3.heap.size w3 wx)
  case first =>
    cases p with
    | false =>
      have HN := Lib.hid (show zz = false by rw [← HZ.out]; exact decide_eq_false (fun h => of_decide_eq_false HP.out (HBO.out.2 h).1))
      go_wp2_with fail
      go_meet
      exact ⟨by rw [HN.out], Below.refl _ _⟩
    | true =>
      have HN := Lib.hid (show decide (Than (⟨s1, c1, l1⟩ : Nod) (⟨s0, c0, l0⟩ : Nod)) = zz by
        rw [← HZ.out]
        have h := of_decide_eq_true HP.out
        exact decide_eq_decide.2 ⟨fun k => HBO.out.1 ⟨h, k⟩, fun k => (HBO.out.2 k).2⟩)
      have x0 := HA.out.c0
      have x1 := HA.out.c1
      have x2 := HA.out.c2
      have x3 := HA.out.c3
      have x4 := HA.out.c4
      have x5 := HA.out.c5
      have x6 := HA.out.c6
      have x7 := HA.out.c7
      have x8 := HA.out.c8
      have x9 := HA.out.c9
      have y0 := HC.out.c0
      have y1 := HC.out.c1
      have y2 := HC.out.c2
      have y3 := HC.out.c3
      have y4 := HC.out.c4
      have y5 := HC.out.c5
      have y6 := HC.out.c6
      have y7 := HC.out.c7
      have y8 := HC.out.c8
      have y9 := HC.out.c9
      have z0 := HD.out.c0
      have z1 := HD.out.c1
      have z2 := HD.out.c2
      have z3 := HD.out.c3
      have z4 := HD.out.c4
      have z5 := HD.out.c5
      have z6 := HD.out.c6
      have z7 := HD.out.c7
      have z8 := HD.out.c8
      have z9 := HD.out.c9
      go_wp2_with fail
      clear x0 x1 x2 x3 x4 x5 x6 x7 x8 x9 y0 y1 y2 y3 y4 y5 y6 y7 y8 y9 z0 z1 z2 z3 z4 z5 z6 z7 z8 z9
      change Calls _ _ #[nodeV (⟨s1, c1, l1⟩ : Nod).s (⟨s1, c1, l1⟩ : Nod).cost (.slice ya yn yc), nodeV (⟨s0, c0, l0⟩ : Nod).s (⟨s0, c0, l0⟩ : Nod).cost (.slice xa xn xc)] _ _
      refine (gthan_any _ H1.out H0.out).mono ?_
      rw [HN.out]
      rintro e w4 ⟨rfl, hb⟩
      have HX := Lib.hid hb
      clear hb
      go_wp2_with fail
      go_meet
      exact ⟨rfl, HX.out⟩
  case rest =>
  obtain ⟨rfl, hb⟩ := hcut
  have HAn := Lib.hid (HA.out.later hb)
  clear HA
  have HA := HAn
  clear HAn
  have HCn := Lib.hid (HC.out.later hb)
  clear HC
  have HC := HCn
  clear HCn
  have HDn := Lib.hid (HD.out.later hb)
  clear HD
  have HD := HDn
  clear HDn
  have HBn := Lib.hid (HB.out.trans (hb.mono HB.out.size))
  clear HB
  have HB := HBn
  clear HBn
  clear hb
  generalize wc = W5 at *
  have kg := guardSta
  have keq := fun w => equalSta s0 s1 w
  by_cases hs : s0 = s1
  rotate_left
  · obtain rfl : zz = false := by rw [← HZ.out]; exact decide_eq_false (fun h => hs h.1)
    rw [decide_eq_false hs] at keq
    clear hs
    cases p with
    | false =>
      have x0 := HA.out.c0
      have x1 := HA.out.c1
      have x2 := HA.out.c2
      have x3 := HA.out.c3
      have x4 := HA.out.c4
      have x5 := HA.out.c5
      have x6 := HA.out.c6
      have x7 := HA.out.c7
      have x8 := HA.out.c8
      have x9 := HA.out.c9
      have y0 := HC.out.c0
      have y1 := HC.out.c1
      have y2 := HC.out.c2
      have y3 := HC.out.c3
      have y4 := HC.out.c4
      have y5 := HC.out.c5
      have y6 := HC.out.c6
      have y7 := HC.out.c7
      have y8 := HC.out.c8
      have y9 := HC.out.c9
      have z0 := HD.out.c0
      have z1 := HD.out.c1
      have z2 := HD.out.c2
      have z3 := HD.out.c3
      have z4 := HD.out.c4
      have z5 := HD.out.c5
      have z6 := HD.out.c6
      have z7 := HD.out.c7
      have z8 := HD.out.c8
      have z9 := HD.out.c9
      go_wp2_with fail
      clear x0 x1 x2 x3 x4 x5 x6 x7 x8 x9 y0 y1 y2 y3 y4 y5 y6 y7 y8 y9 z0 z1 z2 z3 z4 z5 z6 z7 z8 z9
      change Calls _ _ #[nodeV (⟨s0, c0, l0⟩ : Nod).s (⟨s0, c0, l0⟩ : Nod).cost (.slice xa xn xc), nodeV (⟨s0, c0, l0⟩ : Nod).s (⟨s0, c0, l0⟩ : Nod).cost (.slice xa xn xc)] _ _
      refine (gthan_any _ H0.out H0.out).mono ?_
      rw [HR.out]
      rintro e w6 ⟨rfl, hb⟩
      have HAn := Lib.hid (HA.out.later hb)
      clear HA
      have HA := HAn
      clear HAn
      have HCn := Lib.hid (HC.out.later hb)
      clear HC
      have HC := HCn
      clear HCn
      have HDn := Lib.hid (HD.out.later hb)
      clear HD
      have HD := HDn
      clear HDn
      have HBn := Lib.hid (HB.out.trans (hb.mono HB.out.size))
      clear HB
      have HB := HBn
      clear HBn
      clear hb
      have x0 := HA.out.c0
      have x1 := HA.out.c1
      have x2 := HA.out.c2
      have x3 := HA.out.c3
      have x4 := HA.out.c4
      have x5 := HA.out.c5
      have x6 := HA.out.c6
      have x7 := HA.out.c7
      have x8 := HA.out.c8
      have x9 := HA.out.c9
      have y0 := HC.out.c0
      have y1 := HC.out.c1
      have y2 := HC.out.c2
      have y3 := HC.out.c3
      have y4 := HC.out.c4
      have y5 := HC.out.c5
      have y6 := HC.out.c6
      have y7 := HC.out.c7
      have y8 := HC.out.c8
      have y9 := HC.out.c9
      have z0 := HD.out.c0
      have z1 := HD.out.c1
      have z2 := HD.out.c2
      have z3 := HD.out.c3
      have z4 := HD.out.c4
      have z5 := HD.out.c5
      have z6 := HD.out.c6
      have z7 := HD.out.c7
      have z8 := HD.out.c8
      have z9 := HD.out.c9
      go_wp2
      go_ret
      exact ⟨by first | rfl | simp, HB.out⟩
    | true =>
      cases q with
      | false =>
        have x0 := HA.out.c0
        have x1 := HA.out.c1
        have x2 := HA.out.c2
        have x3 := HA.out.c3
        have x4 := HA.out.c4
        have x5 := HA.out.c5
        have x6 := HA.out.c6
        have x7 := HA.out.c7
        have x8 := HA.out.c8
        have x9 := HA.out.c9
        have y0 := HC.out.c0
        have y1 := HC.out.c1
        have y2 := HC.out.c2
        have y3 := HC.out.c3
        have y4 := HC.out.c4
        have y5 := HC.out.c5
        have y6 := HC.out.c6
        have y7 := HC.out.c7
        have y8 := HC.out.c8
        have y9 := HC.out.c9
        have z0 := HD.out.c0
        have z1 := HD.out.c1
        have z2 := HD.out.c2
        have z3 := HD.out.c3
        have z4 := HD.out.c4
        have z5 := HD.out.c5
        have z6 := HD.out.c6
        have z7 := HD.out.c7
        have z8 := HD.out.c8
        have z9 := HD.out.c9
        go_wp2_with fail
        clear x0 x1 x2 x3 x4 x5 x6 x7 x8 x9 y0 y1 y2 y3 y4 y5 y6 y7 y8 y9 z0 z1 z2 z3 z4 z5 z6 z7 z8 z9
        change Calls _ _ #[nodeV (⟨s0, c0, l0⟩ : Nod).s (⟨s0, c0, l0⟩ : Nod).cost (.slice xa xn xc), nodeV (⟨s0, c0, l0⟩ : Nod).s (⟨s0, c0, l0⟩ : Nod).cost (.slice xa xn xc)] _ _
        refine (gthan_any _ H0.out H0.out).mono ?_
        rw [HR.out]
        rintro e w6 ⟨rfl, hb⟩
        have HAn := Lib.hid (HA.out.later hb)
        clear HA
        have HA := HAn
        clear HAn
        have HCn := Lib.hid (HC.out.later hb)
        clear HC
        have HC := HCn
        clear HCn
        have HDn := Lib.hid (HD.out.later hb)
        clear HD
        have HD := HDn
        clear HDn
        have HBn := Lib.hid (HB.out.trans (hb.mono HB.out.size))
        clear HB
        have HB := HBn
        clear HBn
        clear hb
        have x0 := HA.out.c0
        have x1 := HA.out.c1
        have x2 := HA.out.c2
        have x3 := HA.out.c3
        have x4 := HA.out.c4
        have x5 := HA.out.c5
        have x6 := HA.out.c6
        have x7 := HA.out.c7
        have x8 := HA.out.c8
        have x9 := HA.out.c9
        have y0 := HC.out.c0
        have y1 := HC.out.c1
        have y2 := HC.out.c2
        have y3 := HC.out.c3
        have y4 := HC.out.c4
        have y5 := HC.out.c5
        have y6 := HC.out.c6
        have y7 := HC.out.c7
        have y8 := HC.out.c8
        have y9 := HC.out.c9
        have z0 := HD.out.c0
        have z1 := HD.out.c1
        have z2 := HD.out.c2
        have z3 := HD.out.c3
        have z4 := HD.out.c4
        have z5 := HD.out.c5
        have z6 := HD.out.c6
        have z7 := HD.out.c7
        have z8 := HD.out.c8
        have z9 := HD.out.c9
        go_wp2
        go_ret
        exact ⟨by first | rfl | simp, HB.out⟩
      | true =>
        have x0 := HA.out.c0
        have x1 := HA.out.c1
        have x2 := HA.out.c2
        have x3 := HA.out.c3
        have x4 := HA.out.c4
        have x5 := HA.out.c5
        have x6 := HA.out.c6
        have x7 := HA.out.c7
        have x8 := HA.out.c8
        have x9 := HA.out.c9
        have y0 := HC.out.c0
        have y1 := HC.out.c1
        have y2 := HC.out.c2
        have y3 := HC.out.c3
        have y4 := HC.out.c4
        have y5 := HC.out.c5
        have y6 := HC.out.c6
        have y7 := HC.out.c7
        have y8 := HC.out.c8
        have y9 := HC.out.c9
        have z0 := HD.out.c0
        have z1 := HD.out.c1
        have z2 := HD.out.c2
        have z3 := HD.out.c3
        have z4 := HD.out.c4
        have z5 := HD.out.c5
        have z6 := HD.out.c6
        have z7 := HD.out.c7
        have z8 := HD.out.c8
        have z9 := HD.out.c9
        go_wp2_with fail
        clear x0 x1 x2 x3 x4 x5 x6 x7 x8 x9 y0 y1 y2 y3 y4 y5 y6 y7 y8 y9 z0 z1 z2 z3 z4 z5 z6 z7 z8 z9
        change Calls _ _ #[nodeV (⟨s0, c0, l0⟩ : Nod).s (⟨s0, c0, l0⟩ : Nod).cost (.slice xa xn xc), nodeV (⟨s0, c0, l0⟩ : Nod).s (⟨s0, c0, l0⟩ : Nod).cost (.slice xa xn xc)] _ _
        refine (gthan_any _ H0.out H0.out).mono ?_
        rw [HR.out]
        rintro e w6 ⟨rfl, hb⟩
        have HAn := Lib.hid (HA.out.later hb)
        clear HA
        have HA := HAn
        clear HAn
        have HCn := Lib.hid (HC.out.later hb)
        clear HC
        have HC := HCn
        clear HCn
        have HDn := Lib.hid (HD.out.later hb)
        clear HD
        have HD := HDn
        clear HDn
        have HBn := Lib.hid (HB.out.trans (hb.mono HB.out.size))
        clear HB
        have HB := HBn
        clear HBn
        clear hb
        have HT := Lib.hid (decide_eq_true (HTR.out (of_decide_eq_true HP.out) (of_decide_eq_true HQ.out)))
        have x0 := HA.out.c0
        have x1 := HA.out.c1
        have x2 := HA.out.c2
        have x3 := HA.out.c3
        have x4 := HA.out.c4
        have x5 := HA.out.c5
        have x6 := HA.out.c6
        have x7 := HA.out.c7
        have x8 := HA.out.c8
        have x9 := HA.out.c9
        have y0 := HC.out.c0
        have y1 := HC.out.c1
        have y2 := HC.out.c2
        have y3 := HC.out.c3
        have y4 := HC.out.c4
        have y5 := HC.out.c5
        have y6 := HC.out.c6
        have y7 := HC.out.c7
        have y8 := HC.out.c8
        have y9 := HC.out.c9
        have z0 := HD.out.c0
        have z1 := HD.out.c1
        have z2 := HD.out.c2
        have z3 := HD.out.c3
        have z4 := HD.out.c4
        have z5 := HD.out.c5
        have z6 := HD.out.c6
        have z7 := HD.out.c7
        have z8 := HD.out.c8
        have z9 := HD.out.c9
        go_wp2_with fail
        clear x0 x1 x2 x3 x4 x5 x6 x7 x8 x9 y0 y1 y2 y3 y4 y5 y6 y7 y8 y9 z0 z1 z2 z3 z4 z5 z6 z7 z8 z9
        change Calls _ _ #[nodeV (⟨s0, c0, l0⟩ : Nod).s (⟨s0, c0, l0⟩ : Nod).cost (.slice xa xn xc), nodeV (⟨s2, c2, l2⟩ : Nod).s (⟨s2, c2, l2⟩ : Nod).cost (.slice za zn zc)] _ _
        refine (gthan_any _ H0.out H2.out).mono ?_
        rw [HT.out]
        rintro e w7 ⟨rfl, hb⟩
        have HAn := Lib.hid (HA.out.later hb)
        clear HA
        have HA := HAn
        clear HAn
        have HCn := Lib.hid (HC.out.later hb)
        clear HC
        have HC := HCn
        clear HCn
        have HDn := Lib.hid (HD.out.later hb)
        clear HD
        have HD := HDn
        clear HDn
        have HBn := Lib.hid (HB.out.trans (hb.mono HB.out.size))
        clear HB
        have HB := HBn
        clear HBn
        clear hb
        have x0 := HA.out.c0
        have x1 := HA.out.c1
        have x2 := HA.out.c2
        have x3 := HA.out.c3
        have x4 := HA.out.c4
        have x5 := HA.out.c5
        have x6 := HA.out.c6
        have x7 := HA.out.c7
        have x8 := HA.out.c8
        have x9 := HA.out.c9
        have y0 := HC.out.c0
        have y1 := HC.out.c1
        have y2 := HC.out.c2
        have y3 := HC.out.c3
        have y4 := HC.out.c4
        have y5 := HC.out.c5
        have y6 := HC.out.c6
        have y7 := HC.out.c7
        have y8 := HC.out.c8
        have y9 := HC.out.c9
        have z0 := HD.out.c0
        have z1 := HD.out.c1
        have z2 := HD.out.c2
        have z3 := HD.out.c3
        have z4 := HD.out.c4
        have z5 := HD.out.c5
        have z6 := HD.out.c6
        have z7 := HD.out.c7
        have z8 := HD.out.c8
        have z9 := HD.out.c9
        go_wp2
        go_ret
        exact ⟨by first | rfl | simp, HB.out⟩
  rw [decide_eq_true hs] at keq
  by_cases hc : c0 = c1
  · obtain rfl : zz = true := by rw [← HZ.out]; exact decide_eq_true ⟨hs, hc⟩
    have b1 : (c0 == c1) = true := by simp [hc]
    have HSC := Lib.hid (And.intro hs hc)
    clear hs hc
    cases p with
    | false =>
      have x0 := HA.out.c0
      have x1 := HA.out.c1
      have x2 := HA.out.c2
      have x3 := HA.out.c3
      have x4 := HA.out.c4
      have x5 := HA.out.c5
      have x6 := HA.out.c6
      have x7 := HA.out.c7
      have x8 := HA.out.c8
      have x9 := HA.out.c9
      have y0 := HC.out.c0
      have y1 := HC.out.c1
      have y2 := HC.out.c2
      have y3 := HC.out.c3
      have y4 := HC.out.c4
      have y5 := HC.out.c5
      have y6 := HC.out.c6
      have y7 := HC.out.c7
      have y8 := HC.out.c8
      have y9 := HC.out.c9
      have z0 := HD.out.c0
      have z1 := HD.out.c1
      have z2 := HD.out.c2
      have z3 := HD.out.c3
      have z4 := HD.out.c4
      have z5 := HD.out.c5
      have z6 := HD.out.c6
      have z7 := HD.out.c7
      have z8 := HD.out.c8
      have z9 := HD.out.c9
      go_wp2_with fail
      clear x0 x1 x2 x3 x4 x5 x6 x7 x8 x9 y0 y1 y2 y3 y4 y5 y6 y7 y8 y9 z0 z1 z2 z3 z4 z5 z6 z7 z8 z9
      change Calls _ _ #[nodeV (⟨s0, c0, l0⟩ : Nod).s (⟨s0, c0, l0⟩ : Nod).cost (.slice xa xn xc), nodeV (⟨s0, c0, l0⟩ : Nod).s (⟨s0, c0, l0⟩ : Nod).cost (.slice xa xn xc)] _ _
      refine (gthan_any _ H0.out H0.out).mono ?_
      rw [HR.out]
      rintro e w6 ⟨rfl, hb⟩
      have HAn := Lib.hid (HA.out.later hb)
      clear HA
      have HA := HAn
      clear HAn
      have HCn := Lib.hid (HC.out.later hb)
      clear HC
      have HC := HCn
      clear HCn
      have HDn := Lib.hid (HD.out.later hb)
      clear HD
      have HD := HDn
      clear HDn
      have HBn := Lib.hid (HB.out.trans (hb.mono HB.out.size))
      clear HB
      have HB := HBn
      clear HBn
      clear hb
      have x0 := HA.out.c0
      have x1 := HA.out.c1
      have x2 := HA.out.c2
      have x3 := HA.out.c3
      have x4 := HA.out.c4
      have x5 := HA.out.c5
      have x6 := HA.out.c6
      have x7 := HA.out.c7
      have x8 := HA.out.c8
      have x9 := HA.out.c9
      have y0 := HC.out.c0
      have y1 := HC.out.c1
      have y2 := HC.out.c2
      have y3 := HC.out.c3
      have y4 := HC.out.c4
      have y5 := HC.out.c5
      have y6 := HC.out.c6
      have y7 := HC.out.c7
      have y8 := HC.out.c8
      have y9 := HC.out.c9
      have z0 := HD.out.c0
      have z1 := HD.out.c1
      have z2 := HD.out.c2
      have z3 := HD.out.c3
      have z4 := HD.out.c4
      have z5 := HD.out.c5
      have z6 := HD.out.c6
      have z7 := HD.out.c7
      have z8 := HD.out.c8
      have z9 := HD.out.c9
      go_wp2
      go_ret
      exact ⟨by first | rfl | simp, HB.out⟩
    | true =>
      cases q with
      | false =>
        have x0 := HA.out.c0
        have x1 := HA.out.c1
        have x2 := HA.out.c2
        have x3 := HA.out.c3
        have x4 := HA.out.c4
        have x5 := HA.out.c5
        have x6 := HA.out.c6
        have x7 := HA.out.c7
        have x8 := HA.out.c8
        have x9 := HA.out.c9
        have y0 := HC.out.c0
        have y1 := HC.out.c1
        have y2 := HC.out.c2
        have y3 := HC.out.c3
        have y4 := HC.out.c4
        have y5 := HC.out.c5
        have y6 := HC.out.c6
        have y7 := HC.out.c7
        have y8 := HC.out.c8
        have y9 := HC.out.c9
        have z0 := HD.out.c0
        have z1 := HD.out.c1
        have z2 := HD.out.c2
        have z3 := HD.out.c3
        have z4 := HD.out.c4
        have z5 := HD.out.c5
        have z6 := HD.out.c6
        have z7 := HD.out.c7
        have z8 := HD.out.c8
        have z9 := HD.out.c9
        go_wp2_with fail
        clear x0 x1 x2 x3 x4 x5 x6 x7 x8 x9 y0 y1 y2 y3 y4 y5 y6 y7 y8 y9 z0 z1 z2 z3 z4 z5 z6 z7 z8 z9
        change Calls _ _ #[nodeV (⟨s0, c0, l0⟩ : Nod).s (⟨s0, c0, l0⟩ : Nod).cost (.slice xa xn xc), nodeV (⟨s0, c0, l0⟩ : Nod).s (⟨s0, c0, l0⟩ : Nod).cost (.slice xa xn xc)] _ _
        refine (gthan_any _ H0.out H0.out).mono ?_
        rw [HR.out]
        rintro e w6 ⟨rfl, hb⟩
        have HAn := Lib.hid (HA.out.later hb)
        clear HA
        have HA := HAn
        clear HAn
        have HCn := Lib.hid (HC.out.later hb)
        clear HC
        have HC := HCn
        clear HCn
        have HDn := Lib.hid (HD.out.later hb)
        clear HD
        have HD := HDn
        clear HDn
        have HBn := Lib.hid (HB.out.trans (hb.mono HB.out.size))
        clear HB
        have HB := HBn
        clear HBn
        clear hb
        have x0 := HA.out.c0
        have x1 := HA.out.c1
        have x2 := HA.out.c2
        have x3 := HA.out.c3
        have x4 := HA.out.c4
        have x5 := HA.out.c5
        have x6 := HA.out.c6
        have x7 := HA.out.c7
        have x8 := HA.out.c8
        have x9 := HA.out.c9
        have y0 := HC.out.c0
        have y1 := HC.out.c1
        have y2 := HC.out.c2
        have y3 := HC.out.c3
        have y4 := HC.out.c4
        have y5 := HC.out.c5
        have y6 := HC.out.c6
        have y7 := HC.out.c7
        have y8 := HC.out.c8
        have y9 := HC.out.c9
        have z0 := HD.out.c0
        have z1 := HD.out.c1
        have z2 := HD.out.c2
        have z3 := HD.out.c3
        have z4 := HD.out.c4
        have z5 := HD.out.c5
        have z6 := HD.out.c6
        have z7 := HD.out.c7
        have z8 := HD.out.c8
        have z9 := HD.out.c9
        go_wp2
        go_ret
        exact ⟨by first | rfl | simp, HB.out⟩
      | true =>
        have x0 := HA.out.c0
        have x1 := HA.out.c1
        have x2 := HA.out.c2
        have x3 := HA.out.c3
        have x4 := HA.out.c4
        have x5 := HA.out.c5
        have x6 := HA.out.c6
        have x7 := HA.out.c7
        have x8 := HA.out.c8
        have x9 := HA.out.c9
        have y0 := HC.out.c0
        have y1 := HC.out.c1
        have y2 := HC.out.c2
        have y3 := HC.out.c3
        have y4 := HC.out.c4
        have y5 := HC.out.c5
        have y6 := HC.out.c6
        have y7 := HC.out.c7
        have y8 := HC.out.c8
        have y9 := HC.out.c9
        have z0 := HD.out.c0
        have z1 := HD.out.c1
        have z2 := HD.out.c2
        have z3 := HD.out.c3
        have z4 := HD.out.c4
        have z5 := HD.out.c5
        have z6 := HD.out.c6
        have z7 := HD.out.c7
        have z8 := HD.out.c8
        have z9 := HD.out.c9
        go_wp2_with fail
        clear x0 x1 x2 x3 x4 x5 x6 x7 x8 x9 y0 y1 y2 y3 y4 y5 y6 y7 y8 y9 z0 z1 z2 z3 z4 z5 z6 z7 z8 z9
        change Calls _ _ #[nodeV (⟨s0, c0, l0⟩ : Nod).s (⟨s0, c0, l0⟩ : Nod).cost (.slice xa xn xc), nodeV (⟨s0, c0, l0⟩ : Nod).s (⟨s0, c0, l0⟩ : Nod).cost (.slice xa xn xc)] _ _
        refine (gthan_any _ H0.out H0.out).mono ?_
        rw [HR.out]
        rintro e w6 ⟨rfl, hb⟩
        have HAn := Lib.hid (HA.out.later hb)
        clear HA
        have HA := HAn
        clear HAn
        have HCn := Lib.hid (HC.out.later hb)
        clear HC
        have HC := HCn
        clear HCn
        have HDn := Lib.hid (HD.out.later hb)
        clear HD
        have HD := HDn
        clear HDn
        have HBn := Lib.hid (HB.out.trans (hb.mono HB.out.size))
        clear HB
        have HB := HBn
        clear HBn
        clear hb
        have HT := Lib.hid (decide_eq_true (HTR.out (of_decide_eq_true HP.out) (of_decide_eq_true HQ.out)))
        have x0 := HA.out.c0
        have x1 := HA.out.c1
        have x2 := HA.out.c2
        have x3 := HA.out.c3
        have x4 := HA.out.c4
        have x5 := HA.out.c5
        have x6 := HA.out.c6
        have x7 := HA.out.c7
        have x8 := HA.out.c8
        have x9 := HA.out.c9
        have y0 := HC.out.c0
        have y1 := HC.out.c1
        have y2 := HC.out.c2
        have y3 := HC.out.c3
        have y4 := HC.out.c4
        have y5 := HC.out.c5
        have y6 := HC.out.c6
        have y7 := HC.out.c7
        have y8 := HC.out.c8
        have y9 := HC.out.c9
        have z0 := HD.out.c0
        have z1 := HD.out.c1
        have z2 := HD.out.c2
        have z3 := HD.out.c3
        have z4 := HD.out.c4
        have z5 := HD.out.c5
        have z6 := HD.out.c6
        have z7 := HD.out.c7
        have z8 := HD.out.c8
        have z9 := HD.out.c9
        go_wp2_with fail
        clear x0 x1 x2 x3 x4 x5 x6 x7 x8 x9 y0 y1 y2 y3 y4 y5 y6 y7 y8 y9 z0 z1 z2 z3 z4 z5 z6 z7 z8 z9
        change Calls _ _ #[nodeV (⟨s0, c0, l0⟩ : Nod).s (⟨s0, c0, l0⟩ : Nod).cost (.slice xa xn xc), nodeV (⟨s2, c2, l2⟩ : Nod).s (⟨s2, c2, l2⟩ : Nod).cost (.slice za zn zc)] _ _
        refine (gthan_any _ H0.out H2.out).mono ?_
        rw [HT.out]
        rintro e w7 ⟨rfl, hb⟩
        have HAn := Lib.hid (HA.out.later hb)
        clear HA
        have HA := HAn
        clear HAn
        have HCn := Lib.hid (HC.out.later hb)
        clear HC
        have HC := HCn
        clear HCn
        have HDn := Lib.hid (HD.out.later hb)
        clear HD
        have HD := HDn
        clear HDn
        have HBn := Lib.hid (HB.out.trans (hb.mono HB.out.size))
        clear HB
        have HB := HBn
        clear HBn
        clear hb
        have x0 := HA.out.c0
        have x1 := HA.out.c1
        have x2 := HA.out.c2
        have x3 := HA.out.c3
        have x4 := HA.out.c4
        have x5 := HA.out.c5
        have x6 := HA.out.c6
        have x7 := HA.out.c7
        have x8 := HA.out.c8
        have x9 := HA.out.c9
        have y0 := HC.out.c0
        have y1 := HC.out.c1
        have y2 := HC.out.c2
        have y3 := HC.out.c3
        have y4 := HC.out.c4
        have y5 := HC.out.c5
        have y6 := HC.out.c6
        have y7 := HC.out.c7
        have y8 := HC.out.c8
        have y9 := HC.out.c9
        have z0 := HD.out.c0
        have z1 := HD.out.c1
        have z2 := HD.out.c2
        have z3 := HD.out.c3
        have z4 := HD.out.c4
        have z5 := HD.out.c5
        have z6 := HD.out.c6
        have z7 := HD.out.c7
        have z8 := HD.out.c8
        have z9 := HD.out.c9
        go_wp2
        go_ret
        exact ⟨by first | rfl | simp, HB.out⟩
  · obtain rfl : zz = false := by rw [← HZ.out]; exact decide_eq_false (fun h => hc h.2)
    have b1 : (c0 == c1) = false := by simp [hc]
    have HSC := Lib.hid (And.intro hs hc)
    clear hs hc
    cases p with
    | false =>
      have x0 := HA.out.c0
      have x1 := HA.out.c1
      have x2 := HA.out.c2
      have x3 := HA.out.c3
      have x4 := HA.out.c4
      have x5 := HA.out.c5
      have x6 := HA.out.c6
      have x7 := HA.out.c7
      have x8 := HA.out.c8
      have x9 := HA.out.c9
      have y0 := HC.out.c0
      have y1 := HC.out.c1
      have y2 := HC.out.c2
      have y3 := HC.out.c3
      have y4 := HC.out.c4
      have y5 := HC.out.c5
      have y6 := HC.out.c6
      have y7 := HC.out.c7
      have y8 := HC.out.c8
      have y9 := HC.out.c9
      have z0 := HD.out.c0
      have z1 := HD.out.c1
      have z2 := HD.out.c2
      have z3 := HD.out.c3
      have z4 := HD.out.c4
      have z5 := HD.out.c5
      have z6 := HD.out.c6
      have z7 := HD.out.c7
      have z8 := HD.out.c8
      have z9 := HD.out.c9
      go_wp2_with fail
      clear x0 x1 x2 x3 x4 x5 x6 x7 x8 x9 y0 y1 y2 y3 y4 y5 y6 y7 y8 y9 z0 z1 z2 z3 z4 z5 z6 z7 z8 z9
      change Calls _ _ #[nodeV (⟨s0, c0, l0⟩ : Nod).s (⟨s0, c0, l0⟩ : Nod).cost (.slice xa xn xc), nodeV (⟨s0, c0, l0⟩ : Nod).s (⟨s0, c0, l0⟩ : Nod).cost (.slice xa xn xc)] _ _
      refine (gthan_any _ H0.out H0.out).mono ?_
      rw [HR.out]
      rintro e w6 ⟨rfl, hb⟩
      have HAn := Lib.hid (HA.out.later hb)
      clear HA
      have HA := HAn
      clear HAn
      have HCn := Lib.hid (HC.out.later hb)
      clear HC
      have HC := HCn
      clear HCn
      have HDn := Lib.hid (HD.out.later hb)
      clear HD
      have HD := HDn
      clear HDn
      have HBn := Lib.hid (HB.out.trans (hb.mono HB.out.size))
      clear HB
      have HB := HBn
      clear HBn
      clear hb
      have x0 := HA.out.c0
      have x1 := HA.out.c1
      have x2 := HA.out.c2
      have x3 := HA.out.c3
      have x4 := HA.out.c4
      have x5 := HA.out.c5
      have x6 := HA.out.c6
      have x7 := HA.out.c7
      have x8 := HA.out.c8
      have x9 := HA.out.c9
      have y0 := HC.out.c0
      have y1 := HC.out.c1
      have y2 := HC.out.c2
      have y3 := HC.out.c3
      have y4 := HC.out.c4
      have y5 := HC.out.c5
      have y6 := HC.out.c6
      have y7 := HC.out.c7
      have y8 := HC.out.c8
      have y9 := HC.out.c9
      have z0 := HD.out.c0
      have z1 := HD.out.c1
      have z2 := HD.out.c2
      have z3 := HD.out.c3
      have z4 := HD.out.c4
      have z5 := HD.out.c5
      have z6 := HD.out.c6
      have z7 := HD.out.c7
      have z8 := HD.out.c8
      have z9 := HD.out.c9
      go_wp2
      go_ret
      exact ⟨by first | rfl | simp, HB.out⟩
    | true =>
      cases q with
      | false =>
        have x0 := HA.out.c0
        have x1 := HA.out.c1
        have x2 := HA.out.c2
        have x3 := HA.out.c3
        have x4 := HA.out.c4
        have x5 := HA.out.c5
        have x6 := HA.out.c6
        have x7 := HA.out.c7
        have x8 := HA.out.c8
        have x9 := HA.out.c9
        have y0 := HC.out.c0
        have y1 := HC.out.c1
        have y2 := HC.out.c2
        have y3 := HC.out.c3
        have y4 := HC.out.c4
        have y5 := HC.out.c5
        have y6 := HC.out.c6
        have y7 := HC.out.c7
        have y8 := HC.out.c8
        have y9 := HC.out.c9
        have z0 := HD.out.c0
        have z1 := HD.out.c1
        have z2 := HD.out.c2
        have z3 := HD.out.c3
        have z4 := HD.out.c4
        have z5 := HD.out.c5
        have z6 := HD.out.c6
        have z7 := HD.out.c7
        have z8 := HD.out.c8
        have z9 := HD.out.c9
        go_wp2_with fail
        clear x0 x1 x2 x3 x4 x5 x6 x7 x8 x9 y0 y1 y2 y3 y4 y5 y6 y7 y8 y9 z0 z1 z2 z3 z4 z5 z6 z7 z8 z9
        change Calls _ _ #[nodeV (⟨s0, c0, l0⟩ : Nod).s (⟨s0, c0, l0⟩ : Nod).cost (.slice xa xn xc), nodeV (⟨s0, c0, l0⟩ : Nod).s (⟨s0, c0, l0⟩ : Nod).cost (.slice xa xn xc)] _ _
        refine (gthan_any _ H0.out H0.out).mono ?_
        rw [HR.out]
        rintro e w6 ⟨rfl, hb⟩
        have HAn := Lib.hid (HA.out.later hb)
        clear HA
        have HA := HAn
        clear HAn
        have HCn := Lib.hid (HC.out.later hb)
        clear HC
        have HC := HCn
        clear HCn
        have HDn := Lib.hid (HD.out.later hb)
        clear HD
        have HD := HDn
        clear HDn
        have HBn := Lib.hid (HB.out.trans (hb.mono HB.out.size))
        clear HB
        have HB := HBn
        clear HBn
        clear hb
        have x0 := HA.out.c0
        have x1 := HA.out.c1
        have x2 := HA.out.c2
        have x3 := HA.out.c3
        have x4 := HA.out.c4
        have x5 := HA.out.c5
        have x6 := HA.out.c6
        have x7 := HA.out.c7
        have x8 := HA.out.c8
        have x9 := HA.out.c9
        have y0 := HC.out.c0
        have y1 := HC.out.c1
        have y2 := HC.out.c2
        have y3 := HC.out.c3
        have y4 := HC.out.c4
        have y5 := HC.out.c5
        have y6 := HC.out.c6
        have y7 := HC.out.c7
        have y8 := HC.out.c8
        have y9 := HC.out.c9
        have z0 := HD.out.c0
        have z1 := HD.out.c1
        have z2 := HD.out.c2
        have z3 := HD.out.c3
        have z4 := HD.out.c4
        have z5 := HD.out.c5
        have z6 := HD.out.c6
        have z7 := HD.out.c7
        have z8 := HD.out.c8
        have z9 := HD.out.c9
        go_wp2
        go_ret
        exact ⟨by first | rfl | simp, HB.out⟩
      | true =>
        have x0 := HA.out.c0
        have x1 := HA.out.c1
        have x2 := HA.out.c2
        have x3 := HA.out.c3
        have x4 := HA.out.c4
        have x5 := HA.out.c5
        have x6 := HA.out.c6
        have x7 := HA.out.c7
        have x8 := HA.out.c8
        have x9 := HA.out.c9
        have y0 := HC.out.c0
        have y1 := HC.out.c1
        have y2 := HC.out.c2
        have y3 := HC.out.c3
        have y4 := HC.out.c4
        have y5 := HC.out.c5
        have y6 := HC.out.c6
        have y7 := HC.out.c7
        have y8 := HC.out.c8
        have y9 := HC.out.c9
        have z0 := HD.out.c0
        have z1 := HD.out.c1
        have z2 := HD.out.c2
        have z3 := HD.out.c3
        have z4 := HD.out.c4
        have z5 := HD.out.c5
        have z6 := HD.out.c6
        have z7 := HD.out.c7
        have z8 := HD.out.c8
        have z9 := HD.out.c9
        go_wp2_with fail
        clear x0 x1 x2 x3 x4 x5 x6 x7 x8 x9 y0 y1 y2 y3 y4 y5 y6 y7 y8 y9 z0 z1 z2 z3 z4 z5 z6 z7 z8 z9
        change Calls _ _ #[nodeV (⟨s0, c0, l0⟩ : Nod).s (⟨s0, c0, l0⟩ : Nod).cost (.slice xa xn xc), nodeV (⟨s0, c0, l0⟩ : Nod).s (⟨s0, c0, l0⟩ : Nod).cost (.slice xa xn xc)] _ _
        refine (gthan_any _ H0.out H0.out).mono ?_
        rw [HR.out]
        rintro e w6 ⟨rfl, hb⟩
        have HAn := Lib.hid (HA.out.later hb)
        clear HA
        have HA := HAn
        clear HAn
        have HCn := Lib.hid (HC.out.later hb)
        clear HC
        have HC := HCn
        clear HCn
        have HDn := Lib.hid (HD.out.later hb)
        clear HD
        have HD := HDn
        clear HDn
        have HBn := Lib.hid (HB.out.trans (hb.mono HB.out.size))
        clear HB
        have HB := HBn
        clear HBn
        clear hb
        have HT := Lib.hid (decide_eq_true (HTR.out (of_decide_eq_true HP.out) (of_decide_eq_true HQ.out)))
        have x0 := HA.out.c0
        have x1 := HA.out.c1
        have x2 := HA.out.c2
        have x3 := HA.out.c3
        have x4 := HA.out.c4
        have x5 := HA.out.c5
        have x6 := HA.out.c6
        have x7 := HA.out.c7
        have x8 := HA.out.c8
        have x9 := HA.out.c9
        have y0 := HC.out.c0
        have y1 := HC.out.c1
        have y2 := HC.out.c2
        have y3 := HC.out.c3
        have y4 := HC.out.c4
        have y5 := HC.out.c5
        have y6 := HC.out.c6
        have y7 := HC.out.c7
        have y8 := HC.out.c8
        have y9 := HC.out.c9
        have z0 := HD.out.c0
        have z1 := HD.out.c1
        have z2 := HD.out.c2
        have z3 := HD.out.c3
        have z4 := HD.out.c4
        have z5 := HD.out.c5
        have z6 := HD.out.c6
        have z7 := HD.out.c7
        have z8 := HD.out.c8
        have z9 := HD.out.c9
        go_wp2_with fail
        clear x0 x1 x2 x3 x4 x5 x6 x7 x8 x9 y0 y1 y2 y3 y4 y5 y6 y7 y8 y9 z0 z1 z2 z3 z4 z5 z6 z7 z8 z9
        change Calls _ _ #[nodeV (⟨s0, c0, l0⟩ : Nod).s (⟨s0, c0, l0⟩ : Nod).cost (.slice xa xn xc), nodeV (⟨s2, c2, l2⟩ : Nod).s (⟨s2, c2, l2⟩ : Nod).cost (.slice za zn zc)] _ _
        refine (gthan_any _ H0.out H2.out).mono ?_
        rw [HT.out]
        rintro e w7 ⟨rfl, hb⟩
        have HAn := Lib.hid (HA.out.later hb)
        clear HA
        have HA := HAn
        clear HAn
        have HCn := Lib.hid (HC.out.later hb)
        clear HC
        have HC := HCn
        clear HCn
        have HDn := Lib.hid (HD.out.later hb)
        clear HD
        have HD := HDn
        clear HDn
        have HBn := Lib.hid (HB.out.trans (hb.mono HB.out.size))
        clear HB
        have HB := HBn
        clear HBn
        clear hb
        have x0 := HA.out.c0
        have x1 := HA.out.c1
        have x2 := HA.out.c2
        have x3 := HA.out.c3
        have x4 := HA.out.c4
        have x5 := HA.out.c5
        have x6 := HA.out.c6
        have x7 := HA.out.c7
        have x8 := HA.out.c8
        have x9 := HA.out.c9
        have y0 := HC.out.c0
        have y1 := HC.out.c1
        have y2 := HC.out.c2
        have y3 := HC.out.c3
        have y4 := HC.out.c4
        have y5 := HC.out.c5
        have y6 := HC.out.c6
        have y7 := HC.out.c7
        have y8 := HC.out.c8
        have y9 := HC.out.c9
        have z0 := HD.out.c0
        have z1 := HD.out.c1
        have z2 := HD.out.c2
        have z3 := HD.out.c3
        have z4 := HD.out.c4
        have z5 := HD.out.c5
        have z6 := HD.out.c6
        have z7 := HD.out.c7
        have z8 := HD.out.c8
        have z9 := HD.out.c9
        go_wp2
        go_ret
        exact ⟨by first | rfl | simp, HB.out⟩

set_option maxRecDepth 100000 in
theorem lifted (os : Os) (started : os.Started) (H : Type) (enc : TypeId × Value → H) :
    ReturnsInHanded {} Try.checked os 7 .any (Rows.betterOrderSpec.pre6 enc Try.prog Try.f7 Rows.betterOrderRow.domain false) (Rows.betterOrderSpec.post enc Try.prog Try.f7 false true false false) := by
  refine returnsInHanded_of_change (C := Try.checked) own started (by kernel_rfl) Try.func7
    (ChangeSpec.witness6 (enc := enc) (C := Try.checked) false ⟨#[], #[.agg #[.int .i64 0, .int .i64 0, .int .i64 0, .int .i64 0, .int .i64 0, .int .u64 0, .int .u64 0, .int .u64 0, .int .i64 0, .slice none 0 0], .agg #[.int .i64 0, .int .i64 0, .int .i64 0, .int .i64 0, .int .i64 0, .int .u64 0, .int .u64 0, .int .u64 0, .int .i64 0, .slice none 0 0], .agg #[.int .i64 0, .int .i64 0, .int .i64 0, .int .i64 0, .int .i64 0, .int .u64 0, .int .u64 0, .int .u64 0, .int .i64 0, .slice none 0 0]], []⟩ 8 (by kernel_rfl) (by kernel_rfl) (by kernel_rfl) (by kernel_rfl)) ?_
  intro W base args ds gs before hval0 hW hcnd _
  have hval : ∀ (j : Nat) t v, Try.f7.params[j]? = some t → args[j]? = some v → Value.okWide Try.prog W .any base t v := hval0
  have hW' := hW
  obtain ⟨p, q, hA0, hV, rfl, hfz, hnd⟩ := hW
  have hA : DataW.TrodAll enc Try.prog W 0 (fun _ => true) true Try.f7.params.toList args.toList ds p := hA0
  rw [Try.params7] at hA hval
  obtain ⟨v0, vs0, d0, ds0, p0, q0, hargs, rfl, rfl, h0, r0⟩ := trodAll_cons hA
  obtain ⟨v1, vs1, d1, ds1, p1, q1, rfl, rfl, rfl, h1, r1⟩ := trodAll_cons r0
  obtain ⟨v2, vs2, d2, ds2, p2, q2, rfl, rfl, rfl, h2, r2⟩ := trodAll_cons r1
  obtain ⟨rfl, rfl, rfl⟩ := trodAll_nil r2
  obtain rfl : args = #[v0, v1, v2] := by cases args; simp_all
  obtain ⟨rfl, rfl⟩ := trodVars_none hV
  have k0 := h0
  have lt0 : ∀ x ∈ p0, x.block < W.heap.size := by obtain ⟨m, hm⟩ := k0; exact DataW.trod_lt m _ _ _ hm
  have k1 := h1
  have lt1 : ∀ x ∈ p1, x.block < W.heap.size := by obtain ⟨m, hm⟩ := k1; exact DataW.trod_lt m _ _ _ hm
  have k2 := h2
  have lt2 : ∀ x ∈ p2, x.block < W.heap.size := by obtain ⟨m, hm⟩ := k2; exact DataW.trod_lt m _ _ _ hm
  obtain ⟨s0, c0, u0, l0, rfl, e0, _, g0, _⟩ := open_node (hval 0 27 v0 rfl rfl) h0
  obtain ⟨s1, c1, u1, l1, rfl, e1, _, g1, _⟩ := open_node (hval 1 27 v1 rfl rfl) h1
  obtain ⟨s2, c2, u2, l2, rfl, e2, _, g2, _⟩ := open_node (hval 2 27 v2 rfl rfl) h2
  clear hA0 hval0
  refine (walk s0 c0 _ l0 s1 c1 _ l1 s2 c2 _ l2 W e0 g0 e1 g1 e2 g2).mono fun e W' ⟨he, bel⟩ => ?_
  subst he
  exact ⟨_, rfl, _, _, _, [], _, [], hW', trodAll_mk1 (shut_bool Try.underlying4 _), (trodAll_cons_mk (Below.trod laidOut (by kernel_rfl) (of_decide_eq_true (by kernel_rfl)) k0 bel lt0) (trodAll_cons_mk (Below.trod laidOut (by kernel_rfl) (of_decide_eq_true (by kernel_rfl)) k1 bel lt1) (trodAll_cons_mk (Below.trod laidOut (by kernel_rfl) (of_decide_eq_true (by kernel_rfl)) k2 bel lt2) trodAll_mk0))), rfl, bel.frame _, fun h => by cases h⟩

theorem over : Rows.betterOrderRow.holds Try.pinned (OpenSpec.ofChange Rows.betterOrderSpec) :=
  OpenClaim.holds_of_wide 7 Try.f7 rfl rfl rfl rfl rfl rfl rfl ⟨rfl, rfl, rfl, rfl, rfl⟩ rfl rfl rfl rfl rfl (by kernel_rfl) Try.func7 (by kernel_rfl)
    (of_decide_eq_true (by kernel_rfl)) (by unfold Func.isWrapper; first | (rw [if_pos (by decide +kernel)]; kernel_rfl) | (rw [if_neg (by decide +kernel)]; exact ⟨rfl, rfl⟩))
    (fun os started H enc _ => lifted os started H enc)

theorem proved : Rows.BetterOrderSaid := over
#print axioms proved
end Go.Proofs.Ytofapalakpkkpaa.betterOrder
