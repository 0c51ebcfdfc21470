/- Whatever moves can be made from a node, one behind the other, and ended, can be made from one that leaves it without use (better.Than), and costs no more in the end: haulierlaw13.BetterWays answers true. Condition: none. -/
import Derived.Test.YtaaljploegiihaaOrd
import Derived.Test.YtaaljploegiihaaRows
import Derived.Test.YtaaljploegiihaaGAwake
import Derived.Test.YtaaljploegiihaaXN
import Derived.Test.YtaaljploegiihaaYF
import Derived.Test.YtaaljploegiihaaGProg
import Derived.Test.YtaaljploegiihaaXB
import Derived.Test.YtaaljploegiihaaXSDoc
import Derived.Test.YtaaljploegiihaaYI
import Derived.Test.YtaaljploegiihaaYG
namespace Go.Proofs.Ytaaljploegiihaa.betterWays
open Go.ChangeShapes Go.WideShapes Go.ChangeAt Go.RowKit

theorem boxes_inn (w : World) (I : Ins) (v : Value) (s t : Sta) (c d : Int) (u x : Value) : YBox (((w.alloc (boxI I v)).alloc (boxN s c u)).alloc (boxN t d x)) w.heap.size I v ∧ NodB (((w.alloc (boxI I v)).alloc (boxN s c u)).alloc (boxN t d x)) (w.heap.size + 1) s c u ∧ NodB (((w.alloc (boxI I v)).alloc (boxN s c u)).alloc (boxN t d x)) (w.heap.size + 2) t d x ∧ Below w.heap.size w (((w.alloc (boxI I v)).alloc (boxN s c u)).alloc (boxN t d x)) := by
  obtain ⟨h1, h2, h3⟩ := boxes_in w I v s c u
  have e1 : ((w.alloc (boxI I v)).alloc (boxN s c u)).heap.size = w.heap.size + 2 := by simp
  have a3 := nod_new ((w.alloc (boxI I v)).alloc (boxN s c u)) t d x
  rw [e1] at a3
  have hb1 : Below ((w.alloc (boxI I v)).alloc (boxN s c u)).heap.size ((w.alloc (boxI I v)).alloc (boxN s c u)) (((w.alloc (boxI I v)).alloc (boxN s c u)).alloc (boxN t d x)) := (Below.refl _ _).alloc (Nat.le_refl _) _
  exact ⟨h1.later hb1, h2.later hb1, a3, h3.alloc (by rw [e1]; omega) _⟩
set_option maxRecDepth 1000000 in
set_option maxHeartbeats 4000000 in
theorem walk (I0 : Ins) (v0 : Value) (s1 : Sta) (c1 : Int) (v1 : Value) (l1 : List Int) (s2 : Sta) (c2 : Int) (v2 : Value) (l2 : List Int) (v3 : Value) (l3 : List Int) (w : World) (e0 : SRow w v0 I0.l) (e1 : SetsOk s1) (g1 : Row w v1 (ints l1)) (e2 : SetsOk s2) (g2 : Row w v2 (ints l2)) (e3 : Row w v3 (ints l3)) :
    Calls Try.prog 8 #[insV I0 v0, nodeV s1 c1 v1, nodeV s2 c2 v2, v3] w fun e w' => e = .returned (.bool true) ∧ Below w.heap.size w w' := by
  have HR := Lib.hid e0
  have H1 := Lib.hid e1
  have H2 := Lib.hid e2
  have HL := Lib.hid e3
  obtain ⟨ad, cap, rfl, hlm, _⟩ := e0.form
  obtain ⟨ad3, cap3, rfl, hmx⟩ := e3.form
  obtain ⟨xa, xc, rfl, _⟩ := g1.form
  obtain ⟨ya, yc, rfl, _⟩ := g2.form
  obtain ⟨xn, hxn⟩ : ∃ x, (ints l1).length = x := ⟨_, rfl⟩
  obtain ⟨yn, hyn⟩ : ∃ x, (ints l2).length = x := ⟨_, rfl⟩
  rw [hxn, hyn]
  clear hxn hyn g1 g2
  rw [ints_len] at *
  have hmx2 : l3.length ≤ 9223372036854775807 := by unfold maxLen at hmx; omega
  clear e0 e1 e2 e3 hmx
  unfold insV nodeV
  go_enter Try.func8, Try.ntmps8
  go_upto_region 1 with fail
  obtain ⟨k1, k2, k3, k4⟩ := boxes_inn w I0 (.slice ad I0.l.length cap) s1 s2 c1 c2 (.slice xa xn xc) (.slice ya yn yc)
  have HY := Lib.hid k1
  have HM := Lib.hid k2
  have HO := Lib.hid k3
  have HB := Lib.hid k4
  clear k1 k2 k3 k4
  change Code.wp _ _ _ _ (((w.alloc (boxI I0 (.slice ad I0.l.length cap))).alloc (boxN s1 c1 (.slice xa xn xc))).alloc (boxN s2 c2 (.slice ya yn yc)))
  generalize (((w.alloc (boxI I0 (.slice ad I0.l.length cap))).alloc (boxN s1 c1 (.slice xa xn xc))).alloc (boxN s2 c2 (.slice ya yn yc))) = W at *
  go_wp2_with fail
  refine (gawake_any _).mono ?_
  rintro e w1 ⟨rfl, hb⟩
  have HYn := Lib.hid (HY.out.later hb)
  have HMn := Lib.hid (HM.out.later hb)
  have HOn := Lib.hid (HO.out.later hb)
  have HBn := Lib.hid (HB.out.trans (hb.mono HB.out.size))
  clear hb HY HM HO HB
  have HY := HYn
  have HM := HMn
  have HO := HOn
  have HB := HBn
  clear HYn HMn HOn HBn
  have y3 := HY.out.cells.2.2.2
  have y0 := HY.out.cells.1
  by_cases g1 : 100 < I0.l.length
  · have d1 : decide (100 < (I0.l.length : Int)) = true := decide_eq_true (by omega)
    have d2 := decide_eq_true g1
    clear g1
    go_wp2
    go_ret
    exact ⟨rfl, HB.out⟩
  have d1 : decide (100 < (I0.l.length : Int)) = false := decide_eq_false (by omega)
  have d2 := decide_eq_false g1
  clear g1
  by_cases g2 : 100 < l3.length
  · have d3 : decide (100 < (l3.length : Int)) = true := decide_eq_true (by omega)
    have d4 := decide_eq_true g2
    clear g2
    go_wp2
    go_ret
    exact ⟨rfl, HB.out⟩
  have d3 : decide (100 < (l3.length : Int)) = false := decide_eq_false (by omega)
  have d4 := decide_eq_false g2
  have HG2 := Lib.hid g2
  clear g2
  have x0 := HM.out.c0
  have x1 := HM.out.c1
  have x2 := HM.out.c2
  have x3 := HM.out.c3
  have x4 := HM.out.c4
  have x5 := HM.out.c5
  have x6 := HM.out.c6
  have x7 := HM.out.c7
  have x8 := HM.out.c8
  have x9 := HM.out.c9
  have z0 := HO.out.c0
  have z1 := HO.out.c1
  have z2 := HO.out.c2
  have z3 := HO.out.c3
  have z4 := HO.out.c4
  have z5 := HO.out.c5
  have z6 := HO.out.c6
  have z7 := HO.out.c7
  have z8 := HO.out.c8
  have z9 := HO.out.c9
  go_wp2_with fail
  clear x0 x1 x2 x3 x4 x5 x6 x7 x8 x9 z0 z1 z2 z3 z4 z5 z6 z7 z8 z9
  clear y3 y0
  change Calls _ _ #[nodeV (⟨s1, c1, l1⟩ : Nod).s (⟨s1, c1, l1⟩ : Nod).cost (.slice xa xn xc), nodeV (⟨s2, c2, l2⟩ : Nod).s (⟨s2, c2, l2⟩ : Nod).cost (.slice ya yn yc)] _ _
  refine (gthan_any _ H1.out H2.out).mono ?_
  rintro e w2 ⟨rfl, hb⟩
  have HYn := Lib.hid (HY.out.later hb)
  have HMn := Lib.hid (HM.out.later hb)
  have HOn := Lib.hid (HO.out.later hb)
  have HBn := Lib.hid (HB.out.trans (hb.mono HB.out.size))
  clear hb HY HM HO HB
  have HY := HYn
  have HM := HMn
  have HO := HOn
  have HB := HBn
  clear HYn HMn HOn HBn
  by_cases hth : Than (⟨s1, c1, l1⟩ : Nod) (⟨s2, c2, l2⟩ : Nod)
  rotate_left
  · rw [decide_eq_false hth]
    clear hth
    go_wp2
    go_ret
    exact ⟨rfl, HB.out⟩
  rw [decide_eq_true hth]
  have HCV := Lib.hid (show Covers s1 s2 from hth.2.2.2.1)
  have HCL := Lib.hid (show c1 ≤ c2 from hth.2.2.2.2)
  clear hth
  have y0 := HY.out.cells.1
  have x0 := HM.out.c0
  have x1 := HM.out.c1
  have x2 := HM.out.c2
  have x3 := HM.out.c3
  have x4 := HM.out.c4
  have x5 := HM.out.c5
  have x6 := HM.out.c6
  have x7 := HM.out.c7
  have x8 := HM.out.c8
  have x9 := HM.out.c9
  have z0 := HO.out.c0
  have z1 := HO.out.c1
  have z2 := HO.out.c2
  have z3 := HO.out.c3
  have z4 := HO.out.c4
  have z5 := HO.out.c5
  have z6 := HO.out.c6
  have z7 := HO.out.c7
  have z8 := HO.out.c8
  have z9 := HO.out.c9
  by_cases n0 : s1.car < 1
  · have m0 := decide_eq_true n0
    clear n0
    go_wp2
    go_ret
    exact ⟨rfl, HB.out⟩
  have m0 := decide_eq_false n0
  by_cases n1 : s1.time < 0
  · have m1 := decide_eq_true n1
    clear n1
    go_wp2
    go_ret
    exact ⟨rfl, HB.out⟩
  have m1 := decide_eq_false n1
  by_cases n2 : s1.load < 0
  · have m2 := decide_eq_true n2
    clear n2
    go_wp2
    go_ret
    exact ⟨rfl, HB.out⟩
  have m2 := decide_eq_false n2
  by_cases hp0 : I0.p = 0
  · have b0 : (I0.p == 0) = true := by simp [hp0]
    clear hp0
    go_wp2
    go_ret
    exact ⟨rfl, HB.out⟩
  have b0 : (I0.p == 0) = false := by simp [hp0]
  have HP0 := Lib.hid hp0
  clear hp0
  by_cases n3 : c1 < 0
  · have m3 := decide_eq_true n3
    clear n3
    go_wp2
    go_ret
    exact ⟨rfl, HB.out⟩
  have m3 := decide_eq_false n3
  by_cases n4 : 1152921504606846976 < c2
  · have m4 := decide_eq_true n4
    clear n4
    go_wp2
    go_ret
    exact ⟨rfl, HB.out⟩
  have m4 := decide_eq_false n4
  have HNM := Lib.hid (show NumOk s1 from ⟨by omega, by omega, by omega⟩)
  have HC0 := Lib.hid (show 0 ≤ c1 by omega)
  have HC9 := Lib.hid (show c2 ≤ 1152921504606846976 by omega)
  clear n0 n1 n2 n3 n4
  go_upto_region 4 with fail
  clear m0 m1 m2 m3 m4 d1 d2 d3 d4 b0 y0
  go_upto_region 5 with fail
  clear x0 x1 x2 x3 x4 x5 x6 x7 x8 x9 z0 z1 z2 z3 z4 z5 z6 z7 z8 z9
  have HLT1 := Lib.hid (show w.heap.size + 2 < w2.heap.size from HO.out.lt)
  have HA := Lib.hid (st_new w2 s1)
  have HYn := Lib.hid (HY.out.later ((Below.refl _ w2).alloc (Nat.le_refl _) (boxSt s1)))
  have HMn := Lib.hid (HM.out.later ((Below.refl _ w2).alloc (Nat.le_refl _) (boxSt s1)))
  have HOn := Lib.hid (HO.out.later ((Below.refl _ w2).alloc (Nat.le_refl _) (boxSt s1)))
  have HBn := Lib.hid (HB.out.alloc HB.out.size (boxSt s1))
  clear HY HM HO HB
  have HY := HYn
  have HM := HMn
  have HO := HOn
  have HB := HBn
  clear HYn HMn HOn HBn
  change Code.wp _ _ _ _ (w2.alloc (boxSt s1))
  generalize w2.alloc (boxSt s1) = W3 at *
  generalize w2.heap.size = bs at *
  have z0 := HO.out.c0
  have z1 := HO.out.c1
  have z2 := HO.out.c2
  have z3 := HO.out.c3
  have z4 := HO.out.c4
  have z5 := HO.out.c5
  have z6 := HO.out.c6
  have z7 := HO.out.c7
  have z8 := HO.out.c8
  have z9 := HO.out.c9
  go_upto_region 6 with fail
  clear z0 z1 z2 z3 z4 z5 z6 z7 z8 z9
  have HLT2 := Lib.hid (show bs < W3.heap.size from HA.out.lt)
  have HC := Lib.hid (st_new W3 s2)
  have HYn := Lib.hid (HY.out.later ((Below.refl _ W3).alloc (Nat.le_refl _) (boxSt s2)))
  have HMn := Lib.hid (HM.out.later ((Below.refl _ W3).alloc (Nat.le_refl _) (boxSt s2)))
  have HOn := Lib.hid (HO.out.later ((Below.refl _ W3).alloc (Nat.le_refl _) (boxSt s2)))
  have HAn := Lib.hid (HA.out.later ((Below.refl _ W3).alloc (Nat.le_refl _) (boxSt s2)))
  have HBn := Lib.hid (HB.out.alloc HB.out.size (boxSt s2))
  clear HY HM HO HA HB
  have HY := HYn
  have HM := HMn
  have HO := HOn
  have HA := HAn
  have HB := HBn
  clear HYn HMn HOn HAn HBn
  change Code.wp _ _ _ _ (W3.alloc (boxSt s2))
  generalize W3.alloc (boxSt s2) = W4 at *
  generalize W3.heap.size = bt at *
  have x0 := HM.out.c0
  have x1 := HM.out.c1
  have x2 := HM.out.c2
  have x3 := HM.out.c3
  have x4 := HM.out.c4
  have x5 := HM.out.c5
  have x6 := HM.out.c6
  have x7 := HM.out.c7
  have x8 := HM.out.c8
  have x9 := HM.out.c9
  have z0 := HO.out.c0
  have z1 := HO.out.c1
  have z2 := HO.out.c2
  have z3 := HO.out.c3
  have z4 := HO.out.c4
  have z5 := HO.out.c5
  have z6 := HO.out.c6
  have z7 := HO.out.c7
  have z8 := HO.out.c8
  have z9 := HO.out.c9
  go_wp2_with fail
  clear x0 x1 x2 x3 x4 x5 x6 x7 x8 x9 z0 z1 z2 z3 z4 z5 z6 z7 z8 z9
  clear HM HO
  go_loopw [12, 13, 14] (fun nn mm i wr => ∃ (k : Nat) (c : Int) (qa qb : Sta), k ≤ l3.length ∧ i = .int .i64 k ∧ nn = .int .i64 (c1 + c) ∧ mm = .int .i64 (c2 + c) ∧ (0 ≤ c ∧ c ≤ 20000 * (k : Int)) ∧ (Covers qa qb ∧ NumOk qa ∧ SetsOk qa ∧ SetsOk qb) ∧ YBox wr w.heap.size I0 (.slice ad I0.l.length cap) ∧ StB wr bs qa ∧ StB wr bt qb ∧ Below w.heap.size w wr) (fun _ _ i _ => l3.length - (intOf i).toNat)
  case atStart => exact ⟨0, 0, s1, s2, Nat.zero_le _, rfl, by rw [Int.add_zero], by rw [Int.add_zero], ⟨by omega, by omega⟩, ⟨HCV.out, HNM.out, H1.out, H2.out⟩, HY.out, HA.out, HC.out, HB.out⟩
  case round =>
    obtain ⟨k, c, qa, qb, hk, rfl, rfl, rfl, hc, hq, hy, ha, hcb, hb⟩ := hrel
    clear HY HA HC HB
    have HY := Lib.hid hy
    have HA := Lib.hid ha
    have HC := Lib.hid hcb
    have HB := Lib.hid hb
    have HQ := Lib.hid hq
    have HCC := Lib.hid hc
    clear hy ha hcb hb hq hc
    by_cases hlt : k < l3.length
    rotate_left
    · obtain rfl : k = l3.length := by omega
      clear hlt hk
      obtain ⟨y0, y1, y2, y3⟩ := HY.out.cells
      have x0 := HC.out.c0
      have x1 := HC.out.c1
      have x2 := HC.out.c2
      have x3 := HC.out.c3
      have x4 := HC.out.c4
      have x5 := HC.out.c5
      have x6 := HC.out.c6
      have x7 := HC.out.c7
      go_wp2_with fail
      clear y0 y1 y2 y3
      clear x0 x1 x2 x3 x4 x5 x6 x7
      change Calls _ _ #[insV I0 (.slice ad I0.l.length cap), staV qb] _ _
      refine (send_any (HR.out.below HB.out) HQ.out.2.2.2).mono ?_
      rintro e w4 ⟨rfl, hb⟩
      have HYn := Lib.hid (HY.out.later hb)
      have HAn := Lib.hid (HA.out.later hb)
      have HCn := Lib.hid (HC.out.later hb)
      have HBn := Lib.hid (HB.out.trans (hb.mono HB.out.size))
      clear hb HY HA HC HB
      have HY := HYn
      have HA := HAn
      have HC := HCn
      have HB := HBn
      clear HYn HAn HCn HBn
      obtain ⟨y0, y1, y2, y3⟩ := HY.out.cells
      have z0 := HA.out.c0
      have z1 := HA.out.c1
      have z2 := HA.out.c2
      have z3 := HA.out.c3
      have z4 := HA.out.c4
      have z5 := HA.out.c5
      have z6 := HA.out.c6
      have z7 := HA.out.c7
      go_wp2_with fail
      clear y0 y1 y2 y3
      clear z0 z1 z2 z3 z4 z5 z6 z7
      change Calls _ _ #[insV I0 (.slice ad I0.l.length cap), staV qa] _ _
      refine (send_any (HR.out.below HB.out) HQ.out.2.2.1).mono ?_
      rintro e w5 ⟨rfl, hb⟩
      have HYn := Lib.hid (HY.out.later hb)
      have HAn := Lib.hid (HA.out.later hb)
      have HCn := Lib.hid (HC.out.later hb)
      have HBn := Lib.hid (HB.out.trans (hb.mono HB.out.size))
      clear hb HY HA HC HB
      have HY := HYn
      have HA := HAn
      have HC := HCn
      have HB := HBn
      clear HYn HAn HCn HBn
      by_cases he2 : EndS I0 qb
      rotate_left
      · rw [decide_eq_false he2]
        clear he2
        go_wp2
        go_ret
        exact ⟨rfl, HB.out⟩
      rw [decide_eq_true he2]
      obtain ⟨h1, h2⟩ := covers_end (fits_of HQ.out.2.2.1) (fits_of HQ.out.2.2.2) HQ.out.1 HQ.out.2.1 HP0.out he2
      have h3 := endC_bd I0 qb
      rw [decide_eq_true h1, h2]
      have g2 := HG2.out
      have cc := HCC.out
      have c0 := HC0.out
      have c9 := HC9.out
      have cl := HCL.out
      have e1 : IntKind.i64.wrap (c1 + c + endC I0 qb) = c1 + c + endC I0 qb := IntWalk.i64_in _ (by omega)
      have e2 : IntKind.i64.wrap (c2 + c + endC I0 qb) = c2 + c + endC I0 qb := IntWalk.i64_in _ (by omega)
      have e3 : decide (c1 + c + endC I0 qb ≤ c2 + c + endC I0 qb) = true := decide_eq_true (by omega)
      clear h1 h2 h3 he2 g2 cc c0 c9
      generalize endC I0 qb = en at *
      go_wp2
      go_ret
      exact ⟨by first | rfl | simp [cl], HB.out⟩
    have HK := Lib.hid hlt
    obtain ⟨b1, o1, cc1, he1, hc1, -, hb1⟩ := row_at (p := k) HL.out (by rw [ints_len]; exact hlt)
    rw [ints_at _ k hlt] at hc1
    simp only [ints_len, Value.slice.injEq, true_and] at he1
    obtain ⟨rfl, rfl⟩ := he1
    generalize l3.getD k 0 = j at *
    obtain ⟨sa, hxa⟩ : ∃ x, moveS I0 qa j = x := ⟨_, rfl⟩
    obtain ⟨sb, hxb⟩ : ∃ x, moveS I0 qb j = x := ⟨_, rfl⟩
    obtain ⟨ca, hca⟩ : ∃ x, moveC I0 qa j = x := ⟨_, rfl⟩
    obtain ⟨cb, hcb⟩ : ∃ x, moveC I0 qb j = x := ⟨_, rfl⟩
    obtain ⟨pa, hpa⟩ : ∃ x, decide (Can I0 qa j) = x := ⟨_, rfl⟩
    obtain ⟨pb, hpb⟩ : ∃ x, decide (Can I0 qb j) = x := ⟨_, rfl⟩
    have HXA := Lib.hid hxa
    have HXB := Lib.hid hxb
    have HCA := Lib.hid hca
    have HCB := Lib.hid hcb
    have HPA := Lib.hid hpa
    have HPB := Lib.hid hpb
    clear hxa hxb hca hcb hpa hpb
    have HC1 := Lib.hid (show ∀ w', Below w.heap.size w w' → w'.cell? ⟨b1, o1 + k, none⟩ = some (.int .i64 j) from fun w' hb' => (hb'.cell (p := ⟨b1, o1 + k, none⟩) hb1).trans hc1)
    have HB1 := Lib.hid hb1
    clear hc1 hb1
    have hki : (k : Int) < (l3.length : Int) := by omega
    have HBR := Lib.hid (Below.refl wr.heap.size wr)
    have HTL := Lib.hid HC.out.lt
    clear hk hlt
    go_upto_region 11 with fail
    go_cut [15, 16, 17] from 93 to 126 (fun p c e wx => ∃ bm, p = .pointer (some ⟨bm, 0, none⟩) ∧ c = .int .i64 cb ∧ e = .bool pb ∧ wr.heap.size ≤ bm ∧ StB wx bm sb ∧ YBox wx w.heap.size I0 (.slice ad I0.l.length cap) ∧ StB wx bs qa ∧ StB wx bt qb ∧ Below w.heap.size w wx ∧ Below wr.heap.size wr wx)
    case first =>
      have HBRd := Lib.hid HBR.out.drew
      have HYn := Lib.hid (HY.out.later (Below.refl _ wr).drew)
      have HAn := Lib.hid (HA.out.later (Below.refl _ wr).drew)
      have HCn := Lib.hid (HC.out.later (Below.refl _ wr).drew)
      have HBn := Lib.hid HB.out.drew
      clear HY HA HC HB
      have HY := HYn
      have HA := HAn
      have HC := HCn
      have HB := HBn
      clear HYn HAn HCn HBn
      have HS0 := Lib.hid (show Holds (cellsI w.heap.size I0 (.slice ad I0.l.length cap) ++ (cellsSt bt qb ++ [((⟨b1, o1 + k, none⟩ : Addr), (.int .i64 j : Value))])) wr.drew from (Holds.app.2 ⟨⟨HY.out.cells.1, HY.out.cells.2.1, HY.out.cells.2.2.1, HY.out.cells.2.2.2, trivial⟩, (Holds.app.2 ⟨HC.out.holds, ⟨HC1.out _ HB.out, trivial⟩⟩)⟩))
      refine wp_region_held_drew (S := Holds (cellsI w.heap.size I0 (.slice ad I0.l.length cap) ++ (cellsSt bt qb ++ [((⟨b1, o1 + k, none⟩ : Addr), (.int .i64 j : Value))]))) (by kernel_rfl) HS0.out (fun hSn => ?_)
      generalize wr.drew = V at *
      have hlt := Lib.hid (show Lows V.heap.size (cellsI w.heap.size I0 (.slice ad I0.l.length cap) ++ (cellsSt bt qb ++ [((⟨b1, o1 + k, none⟩ : Addr), (.int .i64 j : Value))])) from (Lows.app (show Lows _ (cellsI w.heap.size I0 (.slice ad I0.l.length cap)) from ⟨HY.out.lt, HY.out.lt, HY.out.lt, HY.out.lt, trivial⟩) (Lows.app (lows_St HC.out.lt) ⟨Nat.lt_of_lt_of_le HB1.out HB.out.size, trivial⟩)))
      have Bc := Lib.hid (Below.refl V.heap.size V)
      simp only [cellsI, cellsSt, List.cons_append, List.nil_append] at HS0 hlt hSn ⊢
      refine tks [0, 1, 2, 3, 4, 5] 6 rfl (by kernel_rfl) (fun _ _ _ _ h => h) (by assumption) (fun KT hKT => ?_)
      iterate 6 (refine tkT (by (simp only [gA, gB, gC]; rfl)) (by rfl) (by (intro w hSw; (simp only [Holds] at hSw); go_simp <;> with_reducible rfl)) ?_; simp only [Act.put, pA, pB, pC])
      refine hKT _ ?_
      clear KT hKT
      refine wpAnyH_ready (rs := [6, 11]) (by kernel_rfl) (by simp) ?_
      refine (AllReadyH.cons (o := ?oz211) ?iz211 (fun K hK => ?kz211) (AllReadyH.cons (o := ?oz212) ?iz212 (fun K hK => ?kz212) AllReadyH.nil))
      case iz211 => (simp only [List.getElem?_toArray, List.getElem?_cons_zero, List.getElem?_cons_succ]; rfl)
      case iz212 => (simp only [List.getElem?_toArray, List.getElem?_cons_zero, List.getElem?_cons_succ]; rfl)
      · skip
        go_simp
        change Calls _ _ #[insV I0 (.slice ad I0.l.length cap), staV qb, .int .i64 j] _ _
        have BCUR := Lib.hid (HB.out.trans (Bc.out.mono HB.out.size))
        refine (smove_any (HR.out.below BCUR.out) HQ.out.2.2.2).mono ?_
        clear BCUR
        rintro e w7 ⟨rfl, hb⟩
        rw [HXB.out, HCB.out, HPB.out]
        rw [show staV sb = .agg #[.int .i64 sb.pos, .int .i64 sb.car, .int .i64 sb.time, .int .i64 sb.load, .int .i64 sb.first, .int .u64 sb.must, .int .u64 sb.may, .int .u64 sb.on] from rfl]
        refine held_more hK HS0.out hlt (Bc.out.trans (hb.mono Bc.out.size)) (fun Bc hSn => ?_)
        clear hb hK
        refine tks [7, 8, 9, 10] 4 rfl (by kernel_rfl) (fun _ _ _ _ h => h) (by assumption) (fun KT hKT => ?_)
        iterate 4 (refine tkT (by (simp only [gA, gB, gC]; rfl)) (by rfl) (by (intro w hSw; (simp only [Holds] at hSw); go_simp <;> with_reducible rfl)) ?_; simp only [Act.put, pA, pB, pC])
        refine hKT _ ?_
        clear KT hKT
        have HSZ := Lib.hid Bc.out.size
        refine wpAnyH_ready (rs := [11]) (by kernel_rfl) (by simp) ?_
        refine AllReadyH.cons (o := ?oz213) ?iz213 (fun K hK => ?kz213) AllReadyH.nil
        case iz213 => (simp only [List.getElem?_toArray, List.getElem?_cons_zero, List.getElem?_cons_succ]; rfl)
        go_simp
        refine held_more hK HS0.out hlt (Bc.out.alloc Bc.out.size _) (fun Bc hSn => ?_)
        have HN := Lib.hid (st_new w7 noughtS)
        change wpAnyH _ _ _ _ _ _ _ _ (w7.alloc (boxSt noughtS))
        have Bc2 := Lib.hid (show Below V.heap.size V (w7.alloc (boxSt noughtS)) from Bc.out)
        clear Bc
        have Bc := Bc2
        clear Bc2
        generalize w7.alloc (boxSt noughtS) = Xn at *
        obtain ⟨bm, hbm⟩ : ∃ bm, bm = w7.heap.size := ⟨_, rfl⟩
        have HLE := Lib.hid (show V.heap.size ≤ bm by rw [hbm]; exact HSZ.out)
        rw [← hbm] at HN ⊢
        clear hbm HSZ
        refine wpAnyH_ready (rs := [12]) (by kernel_rfl) (by simp) ?_
        refine (AllReadyH.cons (o := ?oz214) ?iz214 (fun K hK => ?kz214) AllReadyH.nil)
        case iz214 => (simp only [List.getElem?_toArray, List.getElem?_cons_zero, List.getElem?_cons_succ]; rfl)
        simp only [Act.put]
        rw [if_pos (by rfl)]
        refine wp_store_state (.tmp 15) (.tmp 101) (by rfl) bm _ sb (by rfl) (by rfl) HN.out ?_
        intro wE hE hbE
        refine held_more hK HS0.out hlt (Bc.out.trans (hbE _ HLE.out)) (fun Bc hSn => ?_)
        clear hK
        refine tks [13, 14] 2 rfl (by kernel_rfl) (fun _ _ _ _ h => h) (by assumption) (fun KT hKT => ?_)
        iterate 2 (refine tkT (by (simp only [gA, gB, gC]; rfl)) (by rfl) (by (intro w hSw; (simp only [Holds] at hSw); go_simp <;> with_reducible rfl)) ?_; simp only [Act.put, pA, pB, pC])
        refine hKT _ ?_
        clear KT hKT
        refine wpAnyH_done (by kernel_rfl) ?_ _
        go_wp2_with fail
        go_meet
        exact ⟨bm, rfl, rfl, rfl, Nat.le_trans HBRd.out.size HLE.out, hE, HY.out.later Bc.out, HA.out.later Bc.out, HC.out.later Bc.out, HB.out.trans (Bc.out.mono HB.out.size), HBRd.out.trans (Bc.out.mono HBRd.out.size)⟩
      · skip
        have HSZ := Lib.hid Bc.out.size
        go_simp
        refine held_more hK HS0.out hlt (Bc.out.alloc Bc.out.size _) (fun Bc hSn => ?_)
        clear hK
        have HN := Lib.hid (st_new V noughtS)
        change wpAnyH _ _ _ _ _ _ _ _ (V.alloc (boxSt noughtS))
        have Bc2 := Lib.hid (show Below V.heap.size V (V.alloc (boxSt noughtS)) from Bc.out)
        clear Bc
        have Bc := Bc2
        clear Bc2
        generalize V.alloc (boxSt noughtS) = Xn at *
        obtain ⟨bm, hbm⟩ : ∃ bm, bm = V.heap.size := ⟨_, rfl⟩
        have HLE := Lib.hid (show V.heap.size ≤ bm by rw [hbm]; exact HSZ.out)
        rw [← hbm] at HN ⊢
        clear hbm HSZ
        refine wpAnyH_ready (rs := [6]) (by kernel_rfl) (by simp) ?_
        refine AllReadyH.cons (o := ?oz215) ?iz215 (fun K hK => ?kz215) AllReadyH.nil
        case iz215 => (simp only [List.getElem?_toArray, List.getElem?_cons_zero, List.getElem?_cons_succ]; rfl)
        go_simp
        change Calls _ _ #[insV I0 (.slice ad I0.l.length cap), staV qb, .int .i64 j] _ _
        have BCUR := Lib.hid (HB.out.trans (Bc.out.mono HB.out.size))
        refine (smove_any (HR.out.below BCUR.out) HQ.out.2.2.2).mono ?_
        clear BCUR
        rintro e w7 ⟨rfl, hb⟩
        have HNn := Lib.hid (HN.out.later hb)
        clear HN
        have HN := HNn
        clear HNn
        rw [HXB.out, HCB.out, HPB.out]
        rw [show staV sb = .agg #[.int .i64 sb.pos, .int .i64 sb.car, .int .i64 sb.time, .int .i64 sb.load, .int .i64 sb.first, .int .u64 sb.must, .int .u64 sb.may, .int .u64 sb.on] from rfl]
        refine held_more hK HS0.out hlt (Bc.out.trans (hb.mono Bc.out.size)) (fun Bc hSn => ?_)
        clear hb hK
        refine tks [7, 8, 9, 10] 4 rfl (by kernel_rfl) (fun _ _ _ _ h => h) (by assumption) (fun KT hKT => ?_)
        iterate 4 (refine tkT (by (simp only [gA, gB, gC]; rfl)) (by rfl) (by (intro w hSw; (simp only [Holds] at hSw); go_simp <;> with_reducible rfl)) ?_; simp only [Act.put, pA, pB, pC])
        refine hKT _ ?_
        clear KT hKT
        refine wpAnyH_ready (rs := [12]) (by kernel_rfl) (by simp) ?_
        refine (AllReadyH.cons (o := ?oz216) ?iz216 (fun K hK => ?kz216) AllReadyH.nil)
        case iz216 => (simp only [List.getElem?_toArray, List.getElem?_cons_zero, List.getElem?_cons_succ]; rfl)
        simp only [Act.put]
        rw [if_pos (by rfl)]
        refine wp_store_state (.tmp 15) (.tmp 101) (by rfl) bm _ sb (by rfl) (by rfl) HN.out ?_
        intro wE hE hbE
        refine held_more hK HS0.out hlt (Bc.out.trans (hbE _ HLE.out)) (fun Bc hSn => ?_)
        clear hK
        refine tks [13, 14] 2 rfl (by kernel_rfl) (fun _ _ _ _ h => h) (by assumption) (fun KT hKT => ?_)
        iterate 2 (refine tkT (by (simp only [gA, gB, gC]; rfl)) (by rfl) (by (intro w hSw; (simp only [Holds] at hSw); go_simp <;> with_reducible rfl)) ?_; simp only [Act.put, pA, pB, pC])
        refine hKT _ ?_
        clear KT hKT
        refine wpAnyH_done (by kernel_rfl) ?_ _
        go_wp2_with fail
        go_meet
        exact ⟨bm, rfl, rfl, rfl, Nat.le_trans HBRd.out.size HLE.out, hE, HY.out.later Bc.out, HA.out.later Bc.out, HC.out.later Bc.out, HB.out.trans (Bc.out.mono HB.out.size), HBRd.out.trans (Bc.out.mono HBRd.out.size)⟩
    case rest =>
    obtain ⟨bp, rfl, rfl, rfl, fl, fn, fHY, fHA, fHC, fb, fbr⟩ := hcut
    clear HY HA HC HB HBR
    have HY := Lib.hid fHY
    have HA := Lib.hid fHA
    have HC := Lib.hid fHC
    have HP := Lib.hid fn
    have HPL := Lib.hid fl
    have HB := Lib.hid fb
    have HBR := Lib.hid fbr
    clear fb fbr fn fl fHY fHA fHC
    generalize wc = W8 at *
    go_upto_region 12 with fail
    go_cut [18, 19, 20] from 104 to 126 (fun p c e wx => ∃ bm, p = .pointer (some ⟨bm, 0, none⟩) ∧ c = .int .i64 ca ∧ e = .bool pa ∧ wr.heap.size ≤ bm ∧ StB wx bm sa ∧ YBox wx w.heap.size I0 (.slice ad I0.l.length cap) ∧ StB wx bs qa ∧ StB wx bt qb ∧ StB wx bp sb ∧ Below w.heap.size w wx ∧ Below wr.heap.size wr wx)
    case first =>
      have HBRd := Lib.hid HBR.out.drew
      have HYn := Lib.hid (HY.out.later (Below.refl _ W8).drew)
      have HAn := Lib.hid (HA.out.later (Below.refl _ W8).drew)
      have HCn := Lib.hid (HC.out.later (Below.refl _ W8).drew)
      have HPn := Lib.hid (HP.out.later (Below.refl _ W8).drew)
      have HBn := Lib.hid HB.out.drew
      clear HY HA HC HP HB
      have HY := HYn
      have HA := HAn
      have HC := HCn
      have HP := HPn
      have HB := HBn
      clear HYn HAn HCn HPn HBn
      have HS0 := Lib.hid (show Holds (cellsI w.heap.size I0 (.slice ad I0.l.length cap) ++ (cellsSt bs qa ++ [((⟨b1, o1 + k, none⟩ : Addr), (.int .i64 j : Value))])) W8.drew from (Holds.app.2 ⟨⟨HY.out.cells.1, HY.out.cells.2.1, HY.out.cells.2.2.1, HY.out.cells.2.2.2, trivial⟩, (Holds.app.2 ⟨HA.out.holds, ⟨HC1.out _ HB.out, trivial⟩⟩)⟩))
      refine wp_region_held_drew (S := Holds (cellsI w.heap.size I0 (.slice ad I0.l.length cap) ++ (cellsSt bs qa ++ [((⟨b1, o1 + k, none⟩ : Addr), (.int .i64 j : Value))]))) (by kernel_rfl) HS0.out (fun hSn => ?_)
      generalize W8.drew = V at *
      have hlt := Lib.hid (show Lows V.heap.size (cellsI w.heap.size I0 (.slice ad I0.l.length cap) ++ (cellsSt bs qa ++ [((⟨b1, o1 + k, none⟩ : Addr), (.int .i64 j : Value))])) from (Lows.app (show Lows _ (cellsI w.heap.size I0 (.slice ad I0.l.length cap)) from ⟨HY.out.lt, HY.out.lt, HY.out.lt, HY.out.lt, trivial⟩) (Lows.app (lows_St HA.out.lt) ⟨Nat.lt_of_lt_of_le HB1.out HB.out.size, trivial⟩)))
      have Bc := Lib.hid (Below.refl V.heap.size V)
      simp only [cellsI, cellsSt, List.cons_append, List.nil_append] at HS0 hlt hSn ⊢
      refine tks [0, 1, 2, 3, 4, 5] 6 rfl (by kernel_rfl) (fun _ _ _ _ h => h) (by assumption) (fun KT hKT => ?_)
      iterate 6 (refine tkT (by (simp only [gA, gB, gC]; rfl)) (by rfl) (by (intro w hSw; (simp only [Holds] at hSw); go_simp <;> with_reducible rfl)) ?_; simp only [Act.put, pA, pB, pC])
      refine hKT _ ?_
      clear KT hKT
      refine wpAnyH_ready (rs := [6, 11]) (by kernel_rfl) (by simp) ?_
      refine (AllReadyH.cons (o := ?oz217) ?iz217 (fun K hK => ?kz217) (AllReadyH.cons (o := ?oz218) ?iz218 (fun K hK => ?kz218) AllReadyH.nil))
      case iz217 => (simp only [List.getElem?_toArray, List.getElem?_cons_zero, List.getElem?_cons_succ]; rfl)
      case iz218 => (simp only [List.getElem?_toArray, List.getElem?_cons_zero, List.getElem?_cons_succ]; rfl)
      · skip
        go_simp
        change Calls _ _ #[insV I0 (.slice ad I0.l.length cap), staV qa, .int .i64 j] _ _
        have BCUR := Lib.hid (HB.out.trans (Bc.out.mono HB.out.size))
        refine (smove_any (HR.out.below BCUR.out) HQ.out.2.2.1).mono ?_
        clear BCUR
        rintro e w7 ⟨rfl, hb⟩
        rw [HXA.out, HCA.out, HPA.out]
        rw [show staV sa = .agg #[.int .i64 sa.pos, .int .i64 sa.car, .int .i64 sa.time, .int .i64 sa.load, .int .i64 sa.first, .int .u64 sa.must, .int .u64 sa.may, .int .u64 sa.on] from rfl]
        refine held_more hK HS0.out hlt (Bc.out.trans (hb.mono Bc.out.size)) (fun Bc hSn => ?_)
        clear hb hK
        refine tks [7, 8, 9, 10] 4 rfl (by kernel_rfl) (fun _ _ _ _ h => h) (by assumption) (fun KT hKT => ?_)
        iterate 4 (refine tkT (by (simp only [gA, gB, gC]; rfl)) (by rfl) (by (intro w hSw; (simp only [Holds] at hSw); go_simp <;> with_reducible rfl)) ?_; simp only [Act.put, pA, pB, pC])
        refine hKT _ ?_
        clear KT hKT
        have HSZ := Lib.hid Bc.out.size
        refine wpAnyH_ready (rs := [11]) (by kernel_rfl) (by simp) ?_
        refine AllReadyH.cons (o := ?oz219) ?iz219 (fun K hK => ?kz219) AllReadyH.nil
        case iz219 => (simp only [List.getElem?_toArray, List.getElem?_cons_zero, List.getElem?_cons_succ]; rfl)
        go_simp
        refine held_more hK HS0.out hlt (Bc.out.alloc Bc.out.size _) (fun Bc hSn => ?_)
        have HN := Lib.hid (st_new w7 noughtS)
        change wpAnyH _ _ _ _ _ _ _ _ (w7.alloc (boxSt noughtS))
        have Bc2 := Lib.hid (show Below V.heap.size V (w7.alloc (boxSt noughtS)) from Bc.out)
        clear Bc
        have Bc := Bc2
        clear Bc2
        generalize w7.alloc (boxSt noughtS) = Xn at *
        obtain ⟨bm, hbm⟩ : ∃ bm, bm = w7.heap.size := ⟨_, rfl⟩
        have HLE := Lib.hid (show V.heap.size ≤ bm by rw [hbm]; exact HSZ.out)
        rw [← hbm] at HN ⊢
        clear hbm HSZ
        refine wpAnyH_ready (rs := [12]) (by kernel_rfl) (by simp) ?_
        refine (AllReadyH.cons (o := ?oz220) ?iz220 (fun K hK => ?kz220) AllReadyH.nil)
        case iz220 => (simp only [List.getElem?_toArray, List.getElem?_cons_zero, List.getElem?_cons_succ]; rfl)
        simp only [Act.put]
        rw [if_pos (by rfl)]
        refine wp_store_state (.tmp 18) (.tmp 112) (by rfl) bm _ sa (by rfl) (by rfl) HN.out ?_
        intro wE hE hbE
        refine held_more hK HS0.out hlt (Bc.out.trans (hbE _ HLE.out)) (fun Bc hSn => ?_)
        clear hK
        refine tks [13, 14] 2 rfl (by kernel_rfl) (fun _ _ _ _ h => h) (by assumption) (fun KT hKT => ?_)
        iterate 2 (refine tkT (by (simp only [gA, gB, gC]; rfl)) (by rfl) (by (intro w hSw; (simp only [Holds] at hSw); go_simp <;> with_reducible rfl)) ?_; simp only [Act.put, pA, pB, pC])
        refine hKT _ ?_
        clear KT hKT
        refine wpAnyH_done (by kernel_rfl) ?_ _
        go_wp2_with fail
        go_meet
        exact ⟨bm, rfl, rfl, rfl, Nat.le_trans HBRd.out.size HLE.out, hE, HY.out.later Bc.out, HA.out.later Bc.out, HC.out.later Bc.out, HP.out.later Bc.out, HB.out.trans (Bc.out.mono HB.out.size), HBRd.out.trans (Bc.out.mono HBRd.out.size)⟩
      · skip
        have HSZ := Lib.hid Bc.out.size
        go_simp
        refine held_more hK HS0.out hlt (Bc.out.alloc Bc.out.size _) (fun Bc hSn => ?_)
        clear hK
        have HN := Lib.hid (st_new V noughtS)
        change wpAnyH _ _ _ _ _ _ _ _ (V.alloc (boxSt noughtS))
        have Bc2 := Lib.hid (show Below V.heap.size V (V.alloc (boxSt noughtS)) from Bc.out)
        clear Bc
        have Bc := Bc2
        clear Bc2
        generalize V.alloc (boxSt noughtS) = Xn at *
        obtain ⟨bm, hbm⟩ : ∃ bm, bm = V.heap.size := ⟨_, rfl⟩
        have HLE := Lib.hid (show V.heap.size ≤ bm by rw [hbm]; exact HSZ.out)
        rw [← hbm] at HN ⊢
        clear hbm HSZ
        refine wpAnyH_ready (rs := [6]) (by kernel_rfl) (by simp) ?_
        refine AllReadyH.cons (o := ?oz221) ?iz221 (fun K hK => ?kz221) AllReadyH.nil
        case iz221 => (simp only [List.getElem?_toArray, List.getElem?_cons_zero, List.getElem?_cons_succ]; rfl)
        go_simp
        change Calls _ _ #[insV I0 (.slice ad I0.l.length cap), staV qa, .int .i64 j] _ _
        have BCUR := Lib.hid (HB.out.trans (Bc.out.mono HB.out.size))
        refine (smove_any (HR.out.below BCUR.out) HQ.out.2.2.1).mono ?_
        clear BCUR
        rintro e w7 ⟨rfl, hb⟩
        have HNn := Lib.hid (HN.out.later hb)
        clear HN
        have HN := HNn
        clear HNn
        rw [HXA.out, HCA.out, HPA.out]
        rw [show staV sa = .agg #[.int .i64 sa.pos, .int .i64 sa.car, .int .i64 sa.time, .int .i64 sa.load, .int .i64 sa.first, .int .u64 sa.must, .int .u64 sa.may, .int .u64 sa.on] from rfl]
        refine held_more hK HS0.out hlt (Bc.out.trans (hb.mono Bc.out.size)) (fun Bc hSn => ?_)
        clear hb hK
        refine tks [7, 8, 9, 10] 4 rfl (by kernel_rfl) (fun _ _ _ _ h => h) (by assumption) (fun KT hKT => ?_)
        iterate 4 (refine tkT (by (simp only [gA, gB, gC]; rfl)) (by rfl) (by (intro w hSw; (simp only [Holds] at hSw); go_simp <;> with_reducible rfl)) ?_; simp only [Act.put, pA, pB, pC])
        refine hKT _ ?_
        clear KT hKT
        refine wpAnyH_ready (rs := [12]) (by kernel_rfl) (by simp) ?_
        refine (AllReadyH.cons (o := ?oz222) ?iz222 (fun K hK => ?kz222) AllReadyH.nil)
        case iz222 => (simp only [List.getElem?_toArray, List.getElem?_cons_zero, List.getElem?_cons_succ]; rfl)
        simp only [Act.put]
        rw [if_pos (by rfl)]
        refine wp_store_state (.tmp 18) (.tmp 112) (by rfl) bm _ sa (by rfl) (by rfl) HN.out ?_
        intro wE hE hbE
        refine held_more hK HS0.out hlt (Bc.out.trans (hbE _ HLE.out)) (fun Bc hSn => ?_)
        clear hK
        refine tks [13, 14] 2 rfl (by kernel_rfl) (fun _ _ _ _ h => h) (by assumption) (fun KT hKT => ?_)
        iterate 2 (refine tkT (by (simp only [gA, gB, gC]; rfl)) (by rfl) (by (intro w hSw; (simp only [Holds] at hSw); go_simp <;> with_reducible rfl)) ?_; simp only [Act.put, pA, pB, pC])
        refine hKT _ ?_
        clear KT hKT
        refine wpAnyH_done (by kernel_rfl) ?_ _
        go_wp2_with fail
        go_meet
        exact ⟨bm, rfl, rfl, rfl, Nat.le_trans HBRd.out.size HLE.out, hE, HY.out.later Bc.out, HA.out.later Bc.out, HC.out.later Bc.out, HP.out.later Bc.out, HB.out.trans (Bc.out.mono HB.out.size), HBRd.out.trans (Bc.out.mono HBRd.out.size)⟩
    case rest =>
    obtain ⟨bq, rfl, rfl, rfl, fl, fn, fHY, fHA, fHC, fHP, fb, fbr⟩ := hcut
    clear HY HA HC HP HB HBR
    have HY := Lib.hid fHY
    have HA := Lib.hid fHA
    have HC := Lib.hid fHC
    have HP := Lib.hid fHP
    have HX := Lib.hid fn
    have HXL := Lib.hid fl
    have HB := Lib.hid fb
    have HBR := Lib.hid fbr
    clear fb fbr fn fl fHY fHA fHC fHP
    generalize wc = W9 at *
    cases pb with
    | false =>
      go_wp2
      go_ret
      exact ⟨rfl, HB.out⟩
    | true =>
      have hcb := of_decide_eq_true HPB.out
      have hca := covers_can (fits_of HQ.out.2.2.1) (fits_of HQ.out.2.2.2) HQ.out.1 HQ.out.2.1 hcb
      have hcn := covers_next (I := I0) (fits_of HQ.out.2.2.1) (fits_of HQ.out.2.2.2) HQ.out.1 j
      have hnm := covers_num HQ.out.2.1 hca
      have hcc := (covers_beg (I := I0) HQ.out.1 j).2.2
      have hma := move_yes hca
      have hmb := move_yes hcb
      have hsa := of_fits (fits_next (I := I0) (fits_of HQ.out.2.2.1) j)
      have hsb := of_fits (fits_next (I := I0) (fits_of HQ.out.2.2.2) j)
      have hfb := far1_bd I0 qb j
      rw [← hma.1, HXA.out] at hcn hnm hsa
      rw [← hmb.1, HXB.out] at hcn hsb
      have e1 : ca = cb := by rw [← HCA.out, ← HCB.out, hma.2.1, hmb.2.1, hcc]
      rw [← hmb.2.1, HCB.out] at hfb
      have e2 : pa = true := by rw [← HPA.out]; exact decide_eq_true hca
      subst e1 e2
      have HQ2 := Lib.hid (show Covers sa sb ∧ NumOk sa ∧ SetsOk sa ∧ SetsOk sb from ⟨hcn, hnm, hsa, hsb⟩)
      have HFB := Lib.hid hfb
      have hcc2 := HCC.out
      have hg2 := HG2.out
      have hkk := HK.out
      have hz0 := HC0.out
      have hz9 := HC9.out
      have hzl := HCL.out
      have e3 : IntKind.i64.wrap (c1 + c + ca) = c1 + c + ca := IntWalk.i64_in _ (by omega)
      have e4 : IntKind.i64.wrap (c2 + c + ca) = c2 + c + ca := IntWalk.i64_in _ (by omega)
      clear hcb hca hcn hnm hcc hma hmb hsa hsb hfb hcc2 hg2 hkk hz0 hz9 hzl
      have hl1 := HPL.out
      have hl3 := HTL.out
      have hl4 := HLT1.out
      have hl5 := HLT2.out
      have HN1 := Lib.hid (show bp ≠ bs by omega)
      have HN2 := Lib.hid (show bs ≠ bt by omega)
      have HN3 := Lib.hid (show w.heap.size < bs by omega)
      have HN4 := Lib.hid (show w.heap.size < bt by omega)
      clear hl1 hl3 hl4 hl5
      have z0 := HX.out.c0
      have z1 := HX.out.c1
      have z2 := HX.out.c2
      have z3 := HX.out.c3
      have z4 := HX.out.c4
      have z5 := HX.out.c5
      have z6 := HX.out.c6
      have z7 := HX.out.c7
      go_wp2_with (refine wpList_store_over (by rfl) (.tmp 10) (.tmp 119) (by rfl) bs _ sa (by rfl) (by rfl) HA.out ?_)
      clear z0 z1 z2 z3 z4 z5 z6 z7
      intro wE hE hbE hoE
      have HAE := Lib.hid hE
      have HYE := Lib.hid (HY.out.below HN3.out (hbE _ (Nat.le_refl _)))
      have HCE := Lib.hid (HC.out.same (hoE _ (fun e => HN2.out e.symm)))
      have HPE := Lib.hid (HP.out.same (hoE _ HN1.out))
      have HBE := Lib.hid (HB.out.trans (hbE _ (Nat.le_of_lt HN3.out)))
      clear hE hbE hoE HY HA HC HP HX HB HBR
      have z0 := HPE.out.c0
      have z1 := HPE.out.c1
      have z2 := HPE.out.c2
      have z3 := HPE.out.c3
      have z4 := HPE.out.c4
      have z5 := HPE.out.c5
      have z6 := HPE.out.c6
      have z7 := HPE.out.c7
      go_wp2_with (refine wpList_store_over (by rfl) (.tmp 11) (.tmp 120) (by rfl) bt _ sb (by rfl) (by rfl) HCE.out ?_)
      clear z0 z1 z2 z3 z4 z5 z6 z7
      intro wF hE hbE hoE
      have HCF := Lib.hid hE
      have HYF := Lib.hid (HYE.out.below HN4.out (hbE _ (Nat.le_refl _)))
      have HAF := Lib.hid (HAE.out.same (hoE _ HN2.out))
      have HBF := Lib.hid (HBE.out.trans (hbE _ (Nat.le_of_lt HN4.out)))
      clear hE hbE hoE HYE HAE HCE HPE HBE
      go_wp2
      go_roundw
      case rel => exact ⟨k + 1, c + ca, sa, sb, by have := HK.out; omega, by go_num, by rw [Int.add_assoc], by rw [Int.add_assoc], ⟨by have := HCC.out; have := HFB.out; omega, by have := HCC.out; have := HFB.out; omega⟩, HQ2.out, HYF.out, HAF.out, HCF.out, HBF.out⟩
      case measure => have := HK.out; simp [intOf]; omega

set_option maxRecDepth 100000 in
theorem lifted (os : Os) (started : os.Started) (H : Type) (enc : TypeId × Value → H) :
    ReturnsInHanded {} Try.checked os 8 .any (Rows.betterWaysSpec.pre6 enc Try.prog Try.f8 Rows.betterWaysRow.domain false) (Rows.betterWaysSpec.post enc Try.prog Try.f8 false true false false) := by
  refine returnsInHanded_of_change (C := Try.checked) own started (by kernel_rfl) Try.func8
    (ChangeSpec.witness6 (enc := enc) (C := Try.checked) false ⟨#[], #[.agg #[.int .i64 0, .int .i64 0, .int .i64 0, .slice none 0 0], .agg #[.int .i64 0, .int .i64 0, .int .i64 0, .int .i64 0, .int .i64 0, .int .u64 0, .int .u64 0, .int .u64 0, .int .i64 0, .slice none 0 0], .agg #[.int .i64 0, .int .i64 0, .int .i64 0, .int .i64 0, .int .i64 0, .int .u64 0, .int .u64 0, .int .u64 0, .int .i64 0, .slice none 0 0], .slice none 0 0], []⟩ 8 (by kernel_rfl) (by kernel_rfl) (by kernel_rfl) (by kernel_rfl)) ?_
  intro W base args ds gs before hval0 hW hcnd _
  have hval : ∀ (j : Nat) t v, Try.f8.params[j]? = some t → args[j]? = some v → Value.okWide Try.prog W .any base t v := hval0
  have hW' := hW
  obtain ⟨p, q, hA0, hV, rfl, hfz, hnd⟩ := hW
  have hA : DataW.TrodAll enc Try.prog W 0 (fun _ => true) true Try.f8.params.toList args.toList ds p := hA0
  rw [Try.params8] at hA hval
  obtain ⟨v0, vs0, d0, ds0, p0, q0, hargs, rfl, rfl, h0, r0⟩ := trodAll_cons hA
  obtain ⟨v1, vs1, d1, ds1, p1, q1, rfl, rfl, rfl, h1, r1⟩ := trodAll_cons r0
  obtain ⟨v2, vs2, d2, ds2, p2, q2, rfl, rfl, rfl, h2, r2⟩ := trodAll_cons r1
  obtain ⟨v3, vs3, d3, ds3, p3, q3, rfl, rfl, rfl, h3, r3⟩ := trodAll_cons r2
  obtain ⟨rfl, rfl, rfl⟩ := trodAll_nil r3
  obtain rfl : args = #[v0, v1, v2, v3] := by cases args; simp_all
  obtain ⟨rfl, rfl⟩ := trodVars_none hV
  have k0 := h0
  have lt0 : ∀ x ∈ p0, x.block < W.heap.size := by obtain ⟨m, hm⟩ := k0; exact DataW.trod_lt m _ _ _ hm
  have k1 := h1
  have lt1 : ∀ x ∈ p1, x.block < W.heap.size := by obtain ⟨m, hm⟩ := k1; exact DataW.trod_lt m _ _ _ hm
  have k2 := h2
  have lt2 : ∀ x ∈ p2, x.block < W.heap.size := by obtain ⟨m, hm⟩ := k2; exact DataW.trod_lt m _ _ _ hm
  have k3 := h3
  have lt3 : ∀ x ∈ p3, x.block < W.heap.size := by obtain ⟨m, hm⟩ := k3; exact DataW.trod_lt m _ _ _ hm
  obtain ⟨I0, u0, rfl, e0, _⟩ := open_inst (hval 0 24 v0 rfl rfl) h0
  obtain ⟨s1, c1, u1, l1, rfl, e1, _, g1, _⟩ := open_node (hval 1 30 v1 rfl rfl) h1
  obtain ⟨s2, c2, u2, l2, rfl, e2, _, g2, _⟩ := open_node (hval 2 30 v2 rfl rfl) h2
  obtain ⟨a3, len3, cap3, rfl⟩ := okWide_slice Try.underlying28 (hval 3 28 v3 rfl rfl)
  obtain ⟨l3, e3, _⟩ := uopen_row h3
  clear hA0 hval0
  refine (walk I0 _ s1 c1 _ l1 s2 c2 _ l2 _ l3 W e0 e1 g1 e2 g2 e3).mono fun e W' ⟨he, bel⟩ => ?_
  subst he
  exact ⟨_, rfl, _, _, _, [], _, [], hW', trodAll_mk1 (shut_bool Try.underlying4 _), (trodAll_cons_mk (Below.trod laidOut (by kernel_rfl) (of_decide_eq_true (by kernel_rfl)) k0 bel lt0) (trodAll_cons_mk (Below.trod laidOut (by kernel_rfl) (of_decide_eq_true (by kernel_rfl)) k1 bel lt1) (trodAll_cons_mk (Below.trod laidOut (by kernel_rfl) (of_decide_eq_true (by kernel_rfl)) k2 bel lt2) (trodAll_cons_mk (Below.trod laidOut (by kernel_rfl) (of_decide_eq_true (by kernel_rfl)) k3 bel lt3) trodAll_mk0)))), rfl, bel.frame _, fun h => by cases h⟩

theorem over : Rows.betterWaysRow.holds Try.pinned (OpenSpec.ofChange Rows.betterWaysSpec) :=
  OpenClaim.holds_of_wide 8 Try.f8 rfl rfl rfl rfl rfl rfl rfl ⟨rfl, rfl, rfl, rfl, rfl⟩ rfl rfl rfl rfl rfl (by kernel_rfl) Try.func8 (by show joinedFacts Try.checked.prog _ _ _ _ = true; unfold joinedFacts; rw [ord_may, ord_lifts, ord_make]; kernel_rfl)
    (of_decide_eq_true (by kernel_rfl)) (by unfold Func.isWrapper; first | (rw [if_pos (by decide +kernel)]; kernel_rfl) | (rw [if_neg (by decide +kernel)]; exact ⟨rfl, rfl⟩))
    (fun os started H enc _ => lifted os started H enc)

theorem proved : Rows.BetterWaysSaid := over
#print axioms proved
end Go.Proofs.Ytaaljploegiihaa.betterWays
