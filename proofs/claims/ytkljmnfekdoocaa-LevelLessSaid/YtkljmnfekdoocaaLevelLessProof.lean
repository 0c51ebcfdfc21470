/- With a lesser bound level.Expand answers no more nodes, with a bound of 0 none, and whether a node can be ended does not hang on it, at any instance of at most 33 stops and any 60 nodes of 100 moves: haulierlaw14.LevelLess answers true. Condition: none. -/
import Derived.Test.YtkljmnfekdoocaaRows
import Derived.Test.YtkljmnfekdoocaaLAwake
import Derived.Test.YtkljmnfekdoocaaXN
import Derived.Test.YtkljmnfekdoocaaGSame
import Derived.Test.YtkljmnfekdoocaaGThan
import Derived.Test.YtkljmnfekdoocaaXK
import Derived.Test.YtkljmnfekdoocaaSArgs
import Derived.Test.YtkljmnfekdoocaaXSDoc
import Derived.Test.YtkljmnfekdoocaaBMore
import Derived.Test.YtkljmnfekdoocaaXR3
namespace Go.Proofs.Ytkljmnfekdoocaa.levelLess
open Go.ChangeShapes Go.WideShapes Go.ChangeAt Go.RowKit

set_option maxRecDepth 1000000 in
set_option maxHeartbeats 4000000 in
theorem walk (I0 : Ins) (v0 : Value) (v1 : Value) (l1 : List Nod) (a2 : Int) (a3 : Int) (w : World) (e0 : SRow w v0 I0.l) (e1 : NRow w v1 l1) (f1 : ∀ n ∈ l1, NodFit n) :
    Calls Try.prog 6 #[insV I0 v0, v1, .int .i64 a2, .int .i64 a3] w fun e w' => e = .returned (.bool true) ∧ Below w.heap.size w w' := by
  have HR := Lib.hid e0
  have HL := Lib.hid e1
  have HFT := Lib.hid f1
  obtain ⟨ad, cap, rfl, hlm, _⟩ := e0.form
  obtain ⟨la, lc, rfl, hm, _⟩ := e1.form
  clear e0 e1 f1 hm
  unfold insV
  go_enter Try.func6, Try.ntmps6
  go_upto_region 1 with fail
  have HY := Lib.hid (ybox_new w I0 (.slice ad I0.l.length cap))
  have HB := Lib.hid ((Below.refl w.heap.size w).alloc (Nat.le_refl _) (boxI I0 (.slice ad I0.l.length cap)))
  change Code.wp _ _ _ _ (w.alloc (boxI I0 (.slice ad I0.l.length cap)))
  generalize hW : w.alloc (boxI I0 (.slice ad I0.l.length cap)) = W at *
  have HRn := Lib.hid (HR.out.below HB.out)
  clear HR
  have HR := HRn
  clear HRn
  have HLn := Lib.hid (HL.out.below HB.out)
  clear HL
  have HL := HLn
  clear HLn
  clear hW
  go_wp2_with fail
  refine (lawake_any _).mono ?_
  rintro e w1 ⟨rfl, hb⟩
  have HYn := Lib.hid (HY.out.later hb)
  clear HY
  have HY := HYn
  clear HYn
  have HRn := Lib.hid (HR.out.below hb)
  clear HR
  have HR := HRn
  clear HRn
  have HLn := Lib.hid (HL.out.below hb)
  clear HL
  have HL := HLn
  clear HLn
  have HBn := Lib.hid (HB.out.trans (hb.mono HB.out.size))
  clear HB
  have HB := HBn
  clear HBn
  clear hb
  go_wp2_with fail
  refine (fewN_any HL.out).mono ?_
  rintro e w2 ⟨rfl, rfl⟩
  have y3 := HY.out.cells.2.2.2
  by_cases hf : FewN l1
  rotate_left
  · rw [decide_eq_false hf]
    clear hf
    go_wp2
    go_ret
    exact ⟨rfl, HB.out⟩
  rw [decide_eq_true hf]
  have HF := Lib.hid hf
  clear hf
  by_cases g1 : 33 < I0.l.length
  · have d1 : decide ((33 : Int) < (I0.l.length : Int)) = true := decide_eq_true (by omega)
    have d2 := decide_eq_true g1
    clear g1
    go_wp2
    go_ret
    exact ⟨rfl, HB.out⟩
  have d1 : decide ((33 : Int) < (I0.l.length : Int)) = false := decide_eq_false (by omega)
  have d2 := decide_eq_false g1
  have HG := Lib.hid g1
  have HOK := Lib.hid (NodesOk.of HFT.out HF.out.2)
  have HLE := Lib.hid (show l1.length ≤ 60 from HF.out.1)
  clear g1
  by_cases g2 : a2 < a3
  · have d3 := decide_eq_true g2
    clear g2
    go_wp2
    go_ret
    exact ⟨rfl, HB.out⟩
  have d3 := decide_eq_false g2
  have HLS := Lib.hid (show (expandL I0 a3 l1).length ≤ (expandL I0 a2 l1).length from expand_less (by omega))
  have HNO := Lib.hid (show expandL I0 0 l1 = [] from expand_none (by omega))
  clear g2
  go_upto_region 5 with fail
  clear y3 d1 d2 d3
  obtain ⟨y0, y1, y2, y3⟩ := HY.out.cells
  go_wp2_with fail
  clear y0 y1 y2 y3
  change Calls _ _ #[insV I0 (.slice ad I0.l.length cap), .slice la l1.length lc, .int .i64 a2] _ _
  refine (lexpand_any (up := a2) HR.out HL.out (Below.refl _ _) HOK.out (by have := HLE.out; omega)).mono ?_
  rintro e w3 ⟨z1, pb1, pn1, pc1, rfl, hu, _, hb⟩
  obtain ⟨za1, zc1, rfl⟩ := hu.shape
  clear hu
  have HYn := Lib.hid (HY.out.later hb)
  clear HY
  have HY := HYn
  clear HYn
  have HRn := Lib.hid (HR.out.below hb)
  clear HR
  have HR := HRn
  clear HRn
  have HLn := Lib.hid (HL.out.below hb)
  clear HL
  have HL := HLn
  clear HLn
  have HBn := Lib.hid (HB.out.trans (hb.mono HB.out.size))
  clear HB
  have HB := HBn
  clear HBn
  clear hb
  obtain ⟨bs1, hbs1⟩ : ∃ b, bestV (bestL I0 l1) = b := ⟨_, rfl⟩
  obtain ⟨is1, his1⟩ : ∃ b, (bestL I0 l1).isSome = b := ⟨_, rfl⟩
  rw [hbs1, his1]
  have HIS1 := Lib.hid his1
  clear hbs1 his1
  unfold nodeV
  go_upto_region 6 with fail
  change Code.wp _ _ _ _ (w3.alloc (boxN bs1.s bs1.cost (.slice pb1 pn1 pc1)))
  have hb := (Below.refl w3.heap.size w3).alloc (Nat.le_refl _) (boxN bs1.s bs1.cost (.slice pb1 pn1 pc1))
  have HYn := Lib.hid (HY.out.later hb)
  clear HY
  have HY := HYn
  clear HYn
  have HRn := Lib.hid (HR.out.below hb)
  clear HR
  have HR := HRn
  clear HRn
  have HLn := Lib.hid (HL.out.below hb)
  clear HL
  have HL := HLn
  clear HLn
  have HBn := Lib.hid (HB.out.trans (hb.mono HB.out.size))
  clear HB
  have HB := HBn
  clear HBn
  clear hb
  generalize w3.alloc (boxN bs1.s bs1.cost (.slice pb1 pn1 pc1)) = W1 at *
  obtain ⟨y0, y1, y2, y3⟩ := HY.out.cells
  go_wp2_with fail
  clear y0 y1 y2 y3
  change Calls _ _ #[insV I0 (.slice ad I0.l.length cap), .slice la l1.length lc, .int .i64 a3] _ _
  refine (lexpand_any (up := a3) HR.out HL.out (Below.refl _ _) HOK.out (by have := HLE.out; omega)).mono ?_
  rintro e w4 ⟨z2, pb2, pn2, pc2, rfl, hu, _, hb⟩
  obtain ⟨za2, zc2, rfl⟩ := hu.shape
  clear hu
  have HYn := Lib.hid (HY.out.later hb)
  clear HY
  have HY := HYn
  clear HYn
  have HRn := Lib.hid (HR.out.below hb)
  clear HR
  have HR := HRn
  clear HRn
  have HLn := Lib.hid (HL.out.below hb)
  clear HL
  have HL := HLn
  clear HLn
  have HBn := Lib.hid (HB.out.trans (hb.mono HB.out.size))
  clear HB
  have HB := HBn
  clear HBn
  clear hb
  obtain ⟨bs2, hbs2⟩ : ∃ b, bestV (bestL I0 l1) = b := ⟨_, rfl⟩
  obtain ⟨is2, his2⟩ : ∃ b, (bestL I0 l1).isSome = b := ⟨_, rfl⟩
  rw [hbs2, his2]
  have HIS2 := Lib.hid his2
  clear hbs2 his2
  unfold nodeV
  go_upto_region 7 with fail
  change Code.wp _ _ _ _ (w4.alloc (boxN bs2.s bs2.cost (.slice pb2 pn2 pc2)))
  have hb := (Below.refl w4.heap.size w4).alloc (Nat.le_refl _) (boxN bs2.s bs2.cost (.slice pb2 pn2 pc2))
  have HYn := Lib.hid (HY.out.later hb)
  clear HY
  have HY := HYn
  clear HYn
  have HRn := Lib.hid (HR.out.below hb)
  clear HR
  have HR := HRn
  clear HRn
  have HLn := Lib.hid (HL.out.below hb)
  clear HL
  have HL := HLn
  clear HLn
  have HBn := Lib.hid (HB.out.trans (hb.mono HB.out.size))
  clear HB
  have HB := HBn
  clear HBn
  clear hb
  generalize w4.alloc (boxN bs2.s bs2.cost (.slice pb2 pn2 pc2)) = W2 at *
  obtain ⟨y0, y1, y2, y3⟩ := HY.out.cells
  go_wp2_with fail
  clear y0 y1 y2 y3
  change Calls _ _ #[insV I0 (.slice ad I0.l.length cap), .slice la l1.length lc, .int .i64 0] _ _
  refine (lexpand_any (up := 0) HR.out HL.out (Below.refl _ _) HOK.out (by have := HLE.out; omega)).mono ?_
  rintro e w5 ⟨z3, pb3, pn3, pc3, rfl, hu, _, hb⟩
  obtain ⟨za3, zc3, rfl⟩ := hu.shape
  clear hu
  have HYn := Lib.hid (HY.out.later hb)
  clear HY
  have HY := HYn
  clear HYn
  have HRn := Lib.hid (HR.out.below hb)
  clear HR
  have HR := HRn
  clear HRn
  have HLn := Lib.hid (HL.out.below hb)
  clear HL
  have HL := HLn
  clear HLn
  have HBn := Lib.hid (HB.out.trans (hb.mono HB.out.size))
  clear HB
  have HB := HBn
  clear HBn
  clear hb
  obtain ⟨bs3, hbs3⟩ : ∃ b, bestV (bestL I0 l1) = b := ⟨_, rfl⟩
  obtain ⟨is3, his3⟩ : ∃ b, (bestL I0 l1).isSome = b := ⟨_, rfl⟩
  rw [hbs3, his3]
  have HIS3 := Lib.hid his3
  clear hbs3 his3
  unfold nodeV
  go_upto_region 8 with fail
  change Code.wp _ _ _ _ (w5.alloc (boxN bs3.s bs3.cost (.slice pb3 pn3 pc3)))
  have hb := (Below.refl w5.heap.size w5).alloc (Nat.le_refl _) (boxN bs3.s bs3.cost (.slice pb3 pn3 pc3))
  have HYn := Lib.hid (HY.out.later hb)
  clear HY
  have HY := HYn
  clear HYn
  have HRn := Lib.hid (HR.out.below hb)
  clear HR
  have HR := HRn
  clear HRn
  have HLn := Lib.hid (HL.out.below hb)
  clear HL
  have HL := HLn
  clear HLn
  have HBn := Lib.hid (HB.out.trans (hb.mono HB.out.size))
  clear HB
  have HB := HBn
  clear HBn
  clear hb
  generalize w5.alloc (boxN bs3.s bs3.cost (.slice pb3 pn3 pc3)) = W3 at *
  rw [HNO.out]
  obtain ⟨m1, hm1⟩ : ∃ m, (expandL I0 a2 l1).length = m := ⟨_, rfl⟩
  obtain ⟨m2, hm2⟩ : ∃ m, (expandL I0 a3 l1).length = m := ⟨_, rfl⟩
  rw [hm1, hm2] at HLS ⊢
  have e1 : decide ((m2 : Int) ≤ (m1 : Int)) = true := decide_eq_true (by have := HLS.out; omega)
  have e1' : (m2 : Int) ≤ (m1 : Int) := by have := HLS.out; omega
  obtain rfl : is1 = is2 := by rw [← HIS1.out, ← HIS2.out]
  obtain rfl : is1 = is3 := by rw [← HIS1.out, ← HIS3.out]
  have e2 : (is1 == is1) = true := by simp
  clear hm1 hm2 HIS1 HIS2 HIS3
  go_wp2
  go_ret
  exact ⟨by first | rfl | simp, HB.out⟩

set_option maxRecDepth 100000 in
theorem lifted (os : Os) (started : os.Started) (H : Type) (enc : TypeId × Value → H) :
    ReturnsInHanded {} Try.checked os 6 .any (Rows.levelLessSpec.pre6 enc Try.prog Try.f6 Rows.levelLessRow.domain false) (Rows.levelLessSpec.post enc Try.prog Try.f6 false true false false) := by
  refine returnsInHanded_of_change (C := Try.checked) own started (by kernel_rfl) Try.func6
    (ChangeSpec.witness6 (enc := enc) (C := Try.checked) false ⟨#[], #[.agg #[.int .i64 0, .int .i64 0, .int .i64 0, .slice none 0 0], .slice none 0 0, .int .i64 0, .int .i64 0], []⟩ 8 (by kernel_rfl) (by kernel_rfl) (by kernel_rfl) (by kernel_rfl)) ?_
  intro W base args ds gs before hval0 hW hcnd _
  have hval : ∀ (j : Nat) t v, Try.f6.params[j]? = some t → args[j]? = some v → Value.okWide Try.prog W .any base t v := hval0
  have hW' := hW
  obtain ⟨p, q, hA0, hV, rfl, hfz, hnd⟩ := hW
  have hA : DataW.TrodAll enc Try.prog W 0 (fun _ => true) true Try.f6.params.toList args.toList ds p := hA0
  rw [Try.params6] at hA hval
  obtain ⟨v0, vs0, d0, ds0, p0, q0, hargs, rfl, rfl, h0, r0⟩ := trodAll_cons hA
  obtain ⟨v1, vs1, d1, ds1, p1, q1, rfl, rfl, rfl, h1, r1⟩ := trodAll_cons r0
  obtain ⟨v2, vs2, d2, ds2, p2, q2, rfl, rfl, rfl, h2, r2⟩ := trodAll_cons r1
  obtain ⟨v3, vs3, d3, ds3, p3, q3, rfl, rfl, rfl, h3, r3⟩ := trodAll_cons r2
  obtain ⟨rfl, rfl, rfl⟩ := trodAll_nil r3
  obtain rfl : args = #[v0, v1, v2, v3] := by cases args; simp_all
  obtain ⟨rfl, rfl⟩ := trodVars_none hV
  have k0 := h0
  have lt0 : ∀ x ∈ p0, x.block < W.heap.size := by obtain ⟨m, hm⟩ := k0; exact DataW.trod_lt m _ _ _ hm
  have k1 := h1
  have lt1 : ∀ x ∈ p1, x.block < W.heap.size := by obtain ⟨m, hm⟩ := k1; exact DataW.trod_lt m _ _ _ hm
  have k2 := h2
  have lt2 : ∀ x ∈ p2, x.block < W.heap.size := by obtain ⟨m, hm⟩ := k2; exact DataW.trod_lt m _ _ _ hm
  have k3 := h3
  have lt3 : ∀ x ∈ p3, x.block < W.heap.size := by obtain ⟨m, hm⟩ := k3; exact DataW.trod_lt m _ _ _ hm
  obtain ⟨I0, u0, rfl, e0, _⟩ := open_inst (hval 0 24 v0 rfl rfl) h0
  obtain ⟨a1, len1, cap1, rfl⟩ := okWide_slice Try.underlying26 (hval 1 26 v1 rfl rfl)
  obtain ⟨l1, e1, f1⟩ := open_nodes h1
  obtain ⟨a2, rfl, rfl, rfl, i2⟩ := open_int Try.underlying3 (hval 2 3 v2 rfl rfl) h2
  obtain ⟨a3, rfl, rfl, rfl, i3⟩ := open_int Try.underlying3 (hval 3 3 v3 rfl rfl) h3
  clear hA0 hval0
  refine (walk I0 _ _ l1 a2 a3 W e0 e1 f1).mono fun e W' ⟨he, bel⟩ => ?_
  subst he
  exact ⟨_, rfl, _, _, _, [], _, [], hW', trodAll_mk1 (shut_bool Try.underlying4 _), (trodAll_cons_mk (Below.trod laidOut (by kernel_rfl) (of_decide_eq_true (by kernel_rfl)) k0 bel lt0) (trodAll_cons_mk (Below.trod laidOut (by kernel_rfl) (of_decide_eq_true (by kernel_rfl)) k1 bel lt1) (trodAll_cons_mk (Below.trod laidOut (by kernel_rfl) (of_decide_eq_true (by kernel_rfl)) k2 bel lt2) (trodAll_cons_mk (Below.trod laidOut (by kernel_rfl) (of_decide_eq_true (by kernel_rfl)) k3 bel lt3) trodAll_mk0)))), rfl, bel.frame _, fun h => by cases h⟩

theorem over : Rows.levelLessRow.holds Try.pinned (OpenSpec.ofChange Rows.levelLessSpec) :=
  OpenClaim.holds_of_wide 6 Try.f6 rfl rfl rfl rfl rfl rfl rfl ⟨rfl, rfl, rfl, rfl, rfl⟩ rfl rfl rfl rfl rfl (by kernel_rfl) Try.func6 (by kernel_rfl)
    (of_decide_eq_true (by kernel_rfl)) (by unfold Func.isWrapper; first | (rw [if_pos (by decide +kernel)]; kernel_rfl) | (rw [if_neg (by decide +kernel)]; exact ⟨rfl, rfl⟩))
    (fun os started H enc _ => lifted os started H enc)

theorem proved : Rows.LevelLessSaid := over
#print axioms proved
end Go.Proofs.Ytkljmnfekdoocaa.levelLess
