/- What level.Expand answers, at any instance of at most 100 stops, any 60 nodes of 100 moves and any bound, is what the document says: haulierlaw14.LevelExpands answers true. Condition: none. -/
import Derived.Test.YtkljmnfekdoocaaGreatRows
import Derived.Test.YtkljmnfekdoocaaGreatLAwake
import Derived.Test.YtkljmnfekdoocaaGreatXN
import Derived.Test.YtkljmnfekdoocaaGreatGSame
import Derived.Test.YtkljmnfekdoocaaGreatGThan
import Derived.Test.YtkljmnfekdoocaaGreatXK
import Derived.Test.YtkljmnfekdoocaaGreatSArgs
import Derived.Test.YtkljmnfekdoocaaGreatXSDoc
import Derived.Test.YtkljmnfekdoocaaGreatBMore
import Derived.Test.YtkljmnfekdoocaaGreatXR3
namespace Go.Proofs.YtkljmnfekdoocaaGreat.levelExpands
open Go.ChangeShapes Go.WideShapes Go.ChangeAt Go.RowKit

set_option maxRecDepth 1000000 in
set_option maxHeartbeats 4000000 in
theorem walk (I0 : Ins) (v0 : Value) (v1 : Value) (l1 : List Nod) (a2 : Int) (w : World) (e0 : SRow w v0 I0.l) (e1 : NRow w v1 l1) (f1 : ∀ n ∈ l1, NodFit n) :
    Calls Tryz.prog 3 #[insV I0 v0, v1, .int .i64 a2] w fun e w' => e = .returned (.bool true) ∧ Below w.heap.size w w' := by
  have HR := Lib.hid e0
  have HL := Lib.hid e1
  have HFT := Lib.hid f1
  obtain ⟨ad, cap, rfl, hlm, _⟩ := e0.form
  obtain ⟨la, lc, rfl, hm, _⟩ := e1.form
  clear e0 e1 f1 hm
  unfold insV
  go_enter Tryz.func3, Tryz.ntmps3
  go_upto_region 1 with fail
  have HY := Lib.hid (ybox_new w I0 (.slice ad I0.l.length cap))
  have HB := Lib.hid ((Below.refl w.heap.size w).alloc (Nat.le_refl _) (boxI I0 (.slice ad I0.l.length cap)))
  change Code.wp _ _ _ _ (w.alloc (boxI I0 (.slice ad I0.l.length cap)))
  generalize hW : w.alloc (boxI I0 (.slice ad I0.l.length cap)) = W at *
  have HRn := Lib.hid (HR.out.below HB.out)
  clear HR
  have HR := HRn
  clear HRn
  have HLn := Lib.hid (HL.out.below HB.out)
  clear HL
  have HL := HLn
  clear HLn
  clear hW
  go_wp2_with fail
  refine (lawake_any _).mono ?_
  rintro e w1 ⟨rfl, hb⟩
  have HYn := Lib.hid (HY.out.later hb)
  clear HY
  have HY := HYn
  clear HYn
  have HRn := Lib.hid (HR.out.below hb)
  clear HR
  have HR := HRn
  clear HRn
  have HLn := Lib.hid (HL.out.below hb)
  clear HL
  have HL := HLn
  clear HLn
  have HBn := Lib.hid (HB.out.trans (hb.mono HB.out.size))
  clear HB
  have HB := HBn
  clear HBn
  clear hb
  go_wp2_with fail
  refine (fewN_any HL.out).mono ?_
  rintro e w2 ⟨rfl, rfl⟩
  have y3 := HY.out.cells.2.2.2
  by_cases hf : FewN l1
  rotate_left
  · rw [decide_eq_false hf]
    clear hf
    go_wp2
    go_ret
    exact ⟨rfl, HB.out⟩
  rw [decide_eq_true hf]
  have HF := Lib.hid hf
  clear hf
  by_cases g1 : 100 < I0.l.length
  · have d1 : decide ((100 : Int) < (I0.l.length : Int)) = true := decide_eq_true (by omega)
    have d2 := decide_eq_true g1
    clear g1
    go_wp2
    go_ret
    exact ⟨rfl, HB.out⟩
  have d1 : decide ((100 : Int) < (I0.l.length : Int)) = false := decide_eq_false (by omega)
  have d2 := decide_eq_false g1
  have HG := Lib.hid g1
  have HOK := Lib.hid (NodesOk.of HFT.out HF.out.2)
  have HLE := Lib.hid (show l1.length ≤ 60 from HF.out.1)
  clear g1
  go_upto_region 5 with fail
  clear y3 d1 d2
  obtain ⟨y0, y1, y2, y3⟩ := HY.out.cells
  go_wp2_with fail
  clear y0 y1 y2 y3
  change Calls _ _ #[insV I0 (.slice ad I0.l.length cap), .slice la l1.length lc, .int .i64 a2] _ _
  refine (lexpand_any (up := a2) HR.out HL.out (Below.refl _ _) HOK.out (by have := HLE.out; omega)).mono ?_
  rintro e w3 ⟨z1, pb1, pn1, pc1, rfl, hu, hp, hb⟩
  have HZ1 := Lib.hid (hu.row hb)
  have HP1 := Lib.hid (hp.row hb)
  have HPF1 := Lib.hid hp.shape
  obtain ⟨za1, zc1, rfl⟩ := hu.shape
  clear hu hp
  have HYn := Lib.hid (HY.out.later hb)
  clear HY
  have HY := HYn
  clear HYn
  have HRn := Lib.hid (HR.out.below hb)
  clear HR
  have HR := HRn
  clear HRn
  have HLn := Lib.hid (HL.out.below hb)
  clear HL
  have HL := HLn
  clear HLn
  have HBn := Lib.hid (HB.out.trans (hb.mono HB.out.size))
  clear HB
  have HB := HBn
  clear HBn
  clear hb
  unfold nodeV
  go_upto_region 6 with fail
  change Code.wp _ _ _ _ (w3.alloc (boxN (bestV (bestL I0 l1)).s (bestV (bestL I0 l1)).cost (.slice pb1 pn1 pc1)))
  have hb := (Below.refl w3.heap.size w3).alloc (Nat.le_refl _) (boxN (bestV (bestL I0 l1)).s (bestV (bestL I0 l1)).cost (.slice pb1 pn1 pc1))
  have HN1 := Lib.hid (nod_new w3 (bestV (bestL I0 l1)).s (bestV (bestL I0 l1)).cost (.slice pb1 pn1 pc1))
  have HYn := Lib.hid (HY.out.later hb)
  clear HY
  have HY := HYn
  clear HYn
  have HRn := Lib.hid (HR.out.below hb)
  clear HR
  have HR := HRn
  clear HRn
  have HLn := Lib.hid (HL.out.below hb)
  clear HL
  have HL := HLn
  clear HLn
  have HZ1n := Lib.hid (HZ1.out.below hb)
  clear HZ1
  have HZ1 := HZ1n
  clear HZ1n
  have HP1n := Lib.hid (HP1.out.below hb)
  clear HP1
  have HP1 := HP1n
  clear HP1n
  have HBn := Lib.hid (HB.out.trans (hb.mono HB.out.size))
  clear HB
  have HB := HBn
  clear HBn
  clear hb
  generalize w3.alloc (boxN (bestV (bestL I0 l1)).s (bestV (bestL I0 l1)).cost (.slice pb1 pn1 pc1)) = W1 at *
  obtain ⟨bk1, hbk1⟩ : ∃ b, w3.heap.size = b := ⟨_, rfl⟩
  rw [hbk1] at HN1 ⊢
  clear hbk1
  obtain ⟨y0, y1, y2, y3⟩ := HY.out.cells
  go_wp2_with fail
  clear y0 y1 y2 y3
  change Calls _ _ #[insV I0 (.slice ad I0.l.length cap), .slice la l1.length lc, .int .i64 a2] _ _
  refine (dexpand_any (up := a2) HR.out HL.out (Below.refl _ _) HOK.out.sets (by have := HLE.out; omega) HOK.out.paths).mono ?_
  rintro e w4 ⟨z2, pb2, pn2, pc2, rfl, hu, hp, hb⟩
  have HZ2 := Lib.hid (hu.row hb)
  have HP2 := Lib.hid (hp.row hb)
  have HPF2 := Lib.hid hp.shape
  obtain ⟨za2, zc2, rfl⟩ := hu.shape
  clear hu hp
  have HYn := Lib.hid (HY.out.later hb)
  clear HY
  have HY := HYn
  clear HYn
  have HRn := Lib.hid (HR.out.below hb)
  clear HR
  have HR := HRn
  clear HRn
  have HLn := Lib.hid (HL.out.below hb)
  clear HL
  have HL := HLn
  clear HLn
  have HZ1n := Lib.hid (HZ1.out.below hb)
  clear HZ1
  have HZ1 := HZ1n
  clear HZ1n
  have HP1n := Lib.hid (HP1.out.below hb)
  clear HP1
  have HP1 := HP1n
  clear HP1n
  have HN1n := Lib.hid (HN1.out.later hb)
  clear HN1
  have HN1 := HN1n
  clear HN1n
  have HBn := Lib.hid (HB.out.trans (hb.mono HB.out.size))
  clear HB
  have HB := HBn
  clear HBn
  clear hb
  unfold nodeV
  go_upto_region 7 with fail
  change Code.wp _ _ _ _ (w4.alloc (boxN (bestV (bestL I0 l1)).s (bestV (bestL I0 l1)).cost (.slice pb2 pn2 pc2)))
  have hb := (Below.refl w4.heap.size w4).alloc (Nat.le_refl _) (boxN (bestV (bestL I0 l1)).s (bestV (bestL I0 l1)).cost (.slice pb2 pn2 pc2))
  have HN2 := Lib.hid (nod_new w4 (bestV (bestL I0 l1)).s (bestV (bestL I0 l1)).cost (.slice pb2 pn2 pc2))
  have HYn := Lib.hid (HY.out.later hb)
  clear HY
  have HY := HYn
  clear HYn
  have HRn := Lib.hid (HR.out.below hb)
  clear HR
  have HR := HRn
  clear HRn
  have HLn := Lib.hid (HL.out.below hb)
  clear HL
  have HL := HLn
  clear HLn
  have HZ1n := Lib.hid (HZ1.out.below hb)
  clear HZ1
  have HZ1 := HZ1n
  clear HZ1n
  have HP1n := Lib.hid (HP1.out.below hb)
  clear HP1
  have HP1 := HP1n
  clear HP1n
  have HN1n := Lib.hid (HN1.out.later hb)
  clear HN1
  have HN1 := HN1n
  clear HN1n
  have HZ2n := Lib.hid (HZ2.out.below hb)
  clear HZ2
  have HZ2 := HZ2n
  clear HZ2n
  have HP2n := Lib.hid (HP2.out.below hb)
  clear HP2
  have HP2 := HP2n
  clear HP2n
  have HBn := Lib.hid (HB.out.trans (hb.mono HB.out.size))
  clear HB
  have HB := HBn
  clear HBn
  clear hb
  generalize w4.alloc (boxN (bestV (bestL I0 l1)).s (bestV (bestL I0 l1)).cost (.slice pb2 pn2 pc2)) = W2 at *
  obtain ⟨bk2, hbk2⟩ : ∃ b, w4.heap.size = b := ⟨_, rfl⟩
  rw [hbk2] at HN2 ⊢
  clear hbk2
  go_wp2_with fail
  refine (sameN_any HZ1.out HZ2.out).mono ?_
  rw [decide_eq_true (rfl : expandL I0 a2 l1 = expandL I0 a2 l1)]
  rintro e w5 ⟨rfl, hb⟩
  clear HZ1 HZ2
  have HP1n := Lib.hid (HP1.out.below hb)
  clear HP1
  have HP1 := HP1n
  clear HP1n
  have HN1n := Lib.hid (HN1.out.later hb)
  clear HN1
  have HN1 := HN1n
  clear HN1n
  have HP2n := Lib.hid (HP2.out.below hb)
  clear HP2
  have HP2 := HP2n
  clear HP2n
  have HN2n := Lib.hid (HN2.out.later hb)
  clear HN2
  have HN2 := HN2n
  clear HN2n
  have HBn := Lib.hid (HB.out.trans (hb.mono HB.out.size))
  clear HB
  have HB := HBn
  clear HBn
  clear hb
  obtain ⟨bs, hbs⟩ : ∃ b, bestV (bestL I0 l1) = b := ⟨_, rfl⟩
  obtain ⟨is, his⟩ : ∃ b, (bestL I0 l1).isSome = b := ⟨_, rfl⟩
  rw [his]
  rw [hbs] at HP1 HP2 HN1 HN2
  clear hbs his HPF1 HPF2
  have e2 : (is == is) = true := by simp
  go_upto_region 8 with fail
  have x0 := HN1.out.c0
  have q0 := HN2.out.c0
  have x1 := HN1.out.c1
  have q1 := HN2.out.c1
  have x2 := HN1.out.c2
  have q2 := HN2.out.c2
  have x3 := HN1.out.c3
  have q3 := HN2.out.c3
  have x4 := HN1.out.c4
  have q4 := HN2.out.c4
  have x5 := HN1.out.c5
  have q5 := HN2.out.c5
  have x6 := HN1.out.c6
  have q6 := HN2.out.c6
  have x7 := HN1.out.c7
  have q7 := HN2.out.c7
  have x8 := HN1.out.c8
  have q8 := HN2.out.c8
  have x9 := HN1.out.c9
  have q9 := HN2.out.c9
  have hbk2 : bk2 < w5.heap.size := HN2.out.lt
  go_wp2_with fail
  clear x0 q0 x1 q1 x2 q2 x3 q3 x4 q4 x5 q5 x6 q6 x7 q7 x8 q8 x9 q9
  have A1 : NRow (w5.alloc (boxN bs.s bs.cost (.slice pb1 pn1 pc1))) (.slice (some ⟨w5.heap.size, 0, none⟩) 1 1) [bs] := ⟨[⟨bs.s, bs.cost, pb1, pn1, pc1⟩], nrow_one (heap_alloc_new w5 _), ⟨rfl, rfl, .inl (HP1.out.below ((Below.refl _ w5).alloc (Nat.le_refl _) _))⟩, trivial⟩
  have hb1 := (Below.refl _ (w5.alloc (boxN bs.s bs.cost (.slice pb1 pn1 pc1)))).alloc (Nat.le_refl _) (boxN bs.s bs.cost (.slice pb2 pn2 pc2))
  have A2 : NRow ((w5.alloc (boxN bs.s bs.cost (.slice pb1 pn1 pc1))).alloc (boxN bs.s bs.cost (.slice pb2 pn2 pc2))) (.slice (some ⟨(w5.alloc (boxN bs.s bs.cost (.slice pb1 pn1 pc1))).heap.size, 0, none⟩) 1 1) [bs] := ⟨[⟨bs.s, bs.cost, pb2, pn2, pc2⟩], nrow_one (heap_alloc_new _ _), ⟨rfl, rfl, .inl ((HP2.out.below ((Below.refl _ w5).alloc (Nat.le_refl _) _)).below hb1)⟩, trivial⟩
  rw [show (w5.alloc (boxN bs.s bs.cost (.slice pb1 pn1 pc1))).heap.size = w5.heap.size + 1 by simp] at A2
  have hb := ((Below.refl w5.heap.size w5).alloc (Nat.le_refl _) (boxN bs.s bs.cost (.slice pb1 pn1 pc1))).trans (hb1.mono (by simp))
  have HB6 := Lib.hid (HB.out.trans (hb.mono HB.out.size))
  have HA1 := Lib.hid (A1.below hb1)
  have HA2 := Lib.hid A2
  clear A1 A2 hb hb1
  refine (sameN_any HA1.out HA2.out).mono ?_
  rw [decide_eq_true (rfl : [bs] = [bs])]
  rintro e w6 ⟨rfl, hb⟩
  have HB7 := Lib.hid (HB6.out.trans (hb.mono HB6.out.size))
  clear hb
  go_wp2
  go_ret
  exact ⟨by first | rfl | simp, HB7.out⟩

set_option maxRecDepth 100000 in
theorem lifted (os : Os) (started : os.Started) (H : Type) (enc : TypeId × Value → H) :
    ReturnsInHanded {} Tryz.checked os 3 .any (Rows.levelExpandsSpec.pre6 enc Tryz.prog Tryz.f3 Rows.levelExpandsRow.domain false) (Rows.levelExpandsSpec.post enc Tryz.prog Tryz.f3 false true false false) := by
  refine returnsInHanded_of_change (C := Tryz.checked) own started (by kernel_rfl) Tryz.func3
    (ChangeSpec.witness6 (enc := enc) (C := Tryz.checked) false ⟨#[], #[.agg #[.int .i64 0, .int .i64 0, .int .i64 0, .slice none 0 0], .slice none 0 0, .int .i64 0], []⟩ 8 (by kernel_rfl) (by kernel_rfl) (by kernel_rfl) (by kernel_rfl)) ?_
  intro W base args ds gs before hval0 hW hcnd _
  have hval : ∀ (j : Nat) t v, Tryz.f3.params[j]? = some t → args[j]? = some v → Value.okWide Tryz.prog W .any base t v := hval0
  have hW' := hW
  obtain ⟨p, q, hA0, hV, rfl, hfz, hnd⟩ := hW
  have hA : DataW.TrodAll enc Tryz.prog W 0 (fun _ => true) true Tryz.f3.params.toList args.toList ds p := hA0
  rw [Tryz.params3] at hA hval
  obtain ⟨v0, vs0, d0, ds0, p0, q0, hargs, rfl, rfl, h0, r0⟩ := trodAll_cons hA
  obtain ⟨v1, vs1, d1, ds1, p1, q1, rfl, rfl, rfl, h1, r1⟩ := trodAll_cons r0
  obtain ⟨v2, vs2, d2, ds2, p2, q2, rfl, rfl, rfl, h2, r2⟩ := trodAll_cons r1
  obtain ⟨rfl, rfl, rfl⟩ := trodAll_nil r2
  obtain rfl : args = #[v0, v1, v2] := by cases args; simp_all
  obtain ⟨rfl, rfl⟩ := trodVars_none hV
  have k0 := h0
  have lt0 : ∀ x ∈ p0, x.block < W.heap.size := by obtain ⟨m, hm⟩ := k0; exact DataW.trod_lt m _ _ _ hm
  have k1 := h1
  have lt1 : ∀ x ∈ p1, x.block < W.heap.size := by obtain ⟨m, hm⟩ := k1; exact DataW.trod_lt m _ _ _ hm
  have k2 := h2
  have lt2 : ∀ x ∈ p2, x.block < W.heap.size := by obtain ⟨m, hm⟩ := k2; exact DataW.trod_lt m _ _ _ hm
  obtain ⟨I0, u0, rfl, e0, _⟩ := open_inst (hval 0 24 v0 rfl rfl) h0
  obtain ⟨a1, len1, cap1, rfl⟩ := okWide_slice Tryz.underlying25 (hval 1 25 v1 rfl rfl)
  obtain ⟨l1, e1, f1⟩ := open_nodes h1
  obtain ⟨a2, rfl, rfl, rfl, i2⟩ := open_int Tryz.underlying3 (hval 2 3 v2 rfl rfl) h2
  clear hA0 hval0
  refine (walk I0 _ _ l1 a2 W e0 e1 f1).mono fun e W' ⟨he, bel⟩ => ?_
  subst he
  exact ⟨_, rfl, _, _, _, [], _, [], hW', trodAll_mk1 (shut_bool Tryz.underlying4 _), (trodAll_cons_mk (Below.trod laidOut (by kernel_rfl) (of_decide_eq_true (by kernel_rfl)) k0 bel lt0) (trodAll_cons_mk (Below.trod laidOut (by kernel_rfl) (of_decide_eq_true (by kernel_rfl)) k1 bel lt1) (trodAll_cons_mk (Below.trod laidOut (by kernel_rfl) (of_decide_eq_true (by kernel_rfl)) k2 bel lt2) trodAll_mk0))), rfl, bel.frame _, fun h => by cases h⟩

theorem over : Rows.levelExpandsRow.holds Tryz.pinned (OpenSpec.ofChange Rows.levelExpandsSpec) :=
  OpenClaim.holds_of_wide 3 Tryz.f3 rfl rfl rfl rfl rfl rfl rfl ⟨rfl, rfl, rfl, rfl, rfl⟩ rfl rfl rfl rfl rfl (by kernel_rfl) Tryz.func3 (by kernel_rfl)
    (of_decide_eq_true (by kernel_rfl)) (by unfold Func.isWrapper; first | (rw [if_pos (by decide +kernel)]; kernel_rfl) | (rw [if_neg (by decide +kernel)]; exact ⟨rfl, rfl⟩))
    (fun os started H enc _ => lifted os started H enc)

theorem proved : Rows.LevelExpandsSaid := over
#print axioms proved
end Go.Proofs.YtkljmnfekdoocaaGreat.levelExpands
