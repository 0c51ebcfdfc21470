/- Any nodes (at most 60, of 100 moves) at any instance of at most 100 stops are sorted by level.Sorted, and left once of each state by level.Once, as the document says: haulierlaw14.LevelSorts answers true. Condition: none. -/
import Derived.Test.YtkljmnfekdoocaaGreatRows
import Derived.Test.YtkljmnfekdoocaaGreatLAwake
import Derived.Test.YtkljmnfekdoocaaGreatXN
import Derived.Test.YtkljmnfekdoocaaGreatGSame
import Derived.Test.YtkljmnfekdoocaaGreatGThan
import Derived.Test.YtkljmnfekdoocaaGreatXK
import Derived.Test.YtkljmnfekdoocaaGreatSArgs
import Derived.Test.YtkljmnfekdoocaaGreatXSDoc
import Derived.Test.YtkljmnfekdoocaaGreatBMore
import Derived.Test.YtkljmnfekdoocaaGreatXR3
import Derived.Test.YtkljmnfekdoocaaGreatXO
namespace Go.Proofs.YtkljmnfekdoocaaGreat.levelSorts
open Go.ChangeShapes Go.WideShapes Go.ChangeAt Go.RowKit

set_option maxRecDepth 1000000 in
set_option maxHeartbeats 4000000 in
theorem walk (I0 : Ins) (v0 : Value) (v1 : Value) (l1 : List Nod) (w : World) (e0 : SRow w v0 I0.l) (e1 : NRow w v1 l1) (f1 : ∀ n ∈ l1, NodFit n) :
    Calls Tryz.prog 4 #[insV I0 v0, v1] w fun e w' => e = .returned (.bool true) ∧ Below w.heap.size w w' := by
  have HR := Lib.hid e0
  have HL := Lib.hid e1
  have HFT := Lib.hid f1
  obtain ⟨ad, cap, rfl, hlm, _⟩ := e0.form
  obtain ⟨la, lc, rfl, hm, _⟩ := e1.form
  clear e0 e1 f1 hm
  unfold insV
  go_enter Tryz.func4, Tryz.ntmps4
  go_upto_region 1 with fail
  have HY := Lib.hid (ybox_new w I0 (.slice ad I0.l.length cap))
  have HB := Lib.hid ((Below.refl w.heap.size w).alloc (Nat.le_refl _) (boxI I0 (.slice ad I0.l.length cap)))
  change Code.wp _ _ _ _ (w.alloc (boxI I0 (.slice ad I0.l.length cap)))
  generalize hW : w.alloc (boxI I0 (.slice ad I0.l.length cap)) = W at *
  have HRn := Lib.hid (HR.out.below HB.out)
  clear HR
  have HR := HRn
  clear HRn
  have HLn := Lib.hid (HL.out.below HB.out)
  clear HL
  have HL := HLn
  clear HLn
  clear hW
  go_wp2_with fail
  refine (lawake_any _).mono ?_
  rintro e w1 ⟨rfl, hb⟩
  have HYn := Lib.hid (HY.out.later hb)
  clear HY
  have HY := HYn
  clear HYn
  have HRn := Lib.hid (HR.out.below hb)
  clear HR
  have HR := HRn
  clear HRn
  have HLn := Lib.hid (HL.out.below hb)
  clear HL
  have HL := HLn
  clear HLn
  have HBn := Lib.hid (HB.out.trans (hb.mono HB.out.size))
  clear HB
  have HB := HBn
  clear HBn
  clear hb
  go_wp2_with fail
  refine (fewN_any HL.out).mono ?_
  rintro e w2 ⟨rfl, rfl⟩
  have y3 := HY.out.cells.2.2.2
  by_cases hf : FewN l1
  rotate_left
  · rw [decide_eq_false hf]
    clear hf
    go_wp2
    go_ret
    exact ⟨rfl, HB.out⟩
  rw [decide_eq_true hf]
  have HF := Lib.hid hf
  clear hf
  by_cases g1 : 100 < I0.l.length
  · have d1 : decide ((100 : Int) < (I0.l.length : Int)) = true := decide_eq_true (by omega)
    have d2 := decide_eq_true g1
    clear g1
    go_wp2
    go_ret
    exact ⟨rfl, HB.out⟩
  have d1 : decide ((100 : Int) < (I0.l.length : Int)) = false := decide_eq_false (by omega)
  have d2 := decide_eq_false g1
  have HG := Lib.hid g1
  have HOK := Lib.hid (NodesOk.of HFT.out HF.out.2)
  have HLE := Lib.hid (show l1.length ≤ 60 from HF.out.1)
  clear g1
  go_upto_region 5 with fail
  clear y3 d1 d2
  go_cut [7] from 25 to 31 (fun b wx => b = .bool true ∧ Below w1.heap.size w1 wx)
  case first =>
    have HB9 := Lib.hid (Below.refl w1.heap.size w1).drew
    have HYn := Lib.hid (HY.out.later (Below.refl _ w1).drew)
    clear HY
    have HY := HYn
    clear HYn
    have HRn := Lib.hid (HR.out.below (Below.refl _ w1).drew)
    clear HR
    have HR := HRn
    clear HRn
    have HLn := Lib.hid (HL.out.below (Below.refl _ w1).drew)
    clear HL
    have HL := HLn
    clear HLn
    have HBn := Lib.hid (HB.out.drew)
    clear HB
    have HB := HBn
    clear HBn
    have HS0 := Lib.hid (show Holds (cellsI w.heap.size I0 (.slice ad I0.l.length cap)) w1.drew from ⟨HY.out.cells.1, HY.out.cells.2.1, HY.out.cells.2.2.1, HY.out.cells.2.2.2, trivial⟩)
    have hlt := Lib.hid (show Lows w1.drew.heap.size (cellsI w.heap.size I0 (.slice ad I0.l.length cap)) from ⟨HY.out.lt, HY.out.lt, HY.out.lt, HY.out.lt, trivial⟩)
    refine wp_region_held_drew (S := Holds (cellsI w.heap.size I0 (.slice ad I0.l.length cap))) (by kernel_rfl) HS0.out (fun hSn => ?_)
    generalize w1.drew = V at *
    have Bc := Lib.hid (Below.refl V.heap.size V)
    simp only [cellsI] at HS0 hlt hSn ⊢
    refine tks [0, 1, 3, 4] 4 rfl (by kernel_rfl) (fun _ _ _ _ h => h) (by assumption) (fun KT hKT => ?_)
    iterate 4 (refine tkT (by (simp only [gA, gB, gC]; rfl)) (by rfl) (by (intro w hSw; (simp only [Holds] at hSw); go_simp <;> with_reducible rfl)) ?_; simp only [Act.put, pA, pB, pC])
    refine hKT _ ?_
    clear KT hKT
    refine wpAnyH_ready (rs := [2]) (by kernel_rfl) (by simp) ?_
    refine AllReadyH.cons (o := ?oz1) ?iz1 (fun K hK => ?kz1) AllReadyH.nil
    case iz1 => (simp only [List.getElem?_toArray, List.getElem?_cons_zero, List.getElem?_cons_succ]; rfl)
    go_simp
    change Calls _ _ #[insV I0 (.slice ad I0.l.length cap), .slice la l1.length lc] _ _
    refine (lsorted_any (HR.out.below Bc.out) (HL.out.below Bc.out) (Below.refl _ _) HOK.out (by have := HLE.out; omega)).mono ?_
    rintro e w3 ⟨z, rfl, hu, hb⟩
    have HZA := Lib.hid (hu.row hb)
    refine held_more hK HS0.out hlt (Bc.out.trans (hb.mono Bc.out.size)) (fun Bc hSn => ?_)
    clear hu hb hK
    refine wpAnyH_ready (rs := [5]) (by kernel_rfl) (by simp) ?_
    refine AllReadyH.cons (o := ?oz2) ?iz2 (fun K hK => ?kz2) AllReadyH.nil
    case iz2 => (simp only [List.getElem?_toArray, List.getElem?_cons_zero, List.getElem?_cons_succ]; rfl)
    go_simp
    change Calls _ _ #[insV I0 (.slice ad I0.l.length cap), .slice la l1.length lc] _ _
    refine (dnsorted_any (HR.out.below Bc.out) (HL.out.below Bc.out) (Below.refl _ _) HOK.out.sets (by have := HLE.out; omega)).mono ?_
    rintro e w4 ⟨u, rfl, hu, hb⟩
    have HZB := Lib.hid (hu.row hb)
    refine held_more hK HS0.out hlt (Bc.out.trans (hb.mono Bc.out.size)) (fun Bc hSn => ?_)
    have HZAn := Lib.hid (HZA.out.below hb)
    clear HZA
    have HZA := HZAn
    clear HZAn
    clear hu hb hK
    refine wpAnyH_ready (rs := [6]) (by kernel_rfl) (by simp) ?_
    refine AllReadyH.cons (o := ?oz3) ?iz3 (fun K hK => ?kz3) AllReadyH.nil
    case iz3 => (simp only [List.getElem?_toArray, List.getElem?_cons_zero, List.getElem?_cons_succ]; rfl)
    go_simp
    refine (sameN_any HZA.out HZB.out).mono ?_
    rw [decide_eq_true (rfl : sortedL I0 l1 = sortedL I0 l1)]
    rintro e w5 ⟨rfl, hb⟩
    refine held_more hK HS0.out hlt (Bc.out.trans (hb.mono Bc.out.size)) (fun Bc hSn => ?_)
    clear hb hK HZA HZB
    refine tks [7] 1 rfl (by kernel_rfl) (fun _ _ _ _ h => h) (by assumption) (fun KT hKT => ?_)
    refine tkT (by (simp only [gA, gB, gC]; rfl)) (by rfl) (by (intro w hSw; (simp only [Holds] at hSw); go_simp <;> with_reducible rfl)) ?_
    simp only [Act.put, pA, pB, pC]
    refine hKT _ ?_
    clear KT hKT
    refine wpAnyH_done (by kernel_rfl) ?_ _
    go_wp2_with fail
    go_meet
    exact ⟨rfl, HB9.out.trans (Bc.out.mono HB9.out.size)⟩
  case rest =>
  obtain ⟨rfl, hb⟩ := hcut
  have HYn := Lib.hid (HY.out.later hb)
  clear HY
  have HY := HYn
  clear HYn
  have HRn := Lib.hid (HR.out.below hb)
  clear HR
  have HR := HRn
  clear HRn
  have HLn := Lib.hid (HL.out.below hb)
  clear HL
  have HL := HLn
  clear HLn
  have HBn := Lib.hid (HB.out.trans (hb.mono HB.out.size))
  clear HB
  have HB := HBn
  clear HBn
  clear hb
  go_wp2_with fail
  refine (lonce_any HL.out (Below.refl _ _) HOK.out (by have := HLE.out; omega)).mono ?_
  rintro e w3 ⟨z, rfl, hu, hb⟩
  have HZA := Lib.hid (hu.row hb)
  clear hu
  have HYn := Lib.hid (HY.out.later hb)
  clear HY
  have HY := HYn
  clear HYn
  have HRn := Lib.hid (HR.out.below hb)
  clear HR
  have HR := HRn
  clear HRn
  have HLn := Lib.hid (HL.out.below hb)
  clear HL
  have HL := HLn
  clear HLn
  have HBn := Lib.hid (HB.out.trans (hb.mono HB.out.size))
  clear HB
  have HB := HBn
  clear HBn
  clear hb
  go_wp2_with fail
  refine (donce_any HL.out (Below.refl _ _) (by have := HLE.out; omega)).mono ?_
  rintro e w4 ⟨u, rfl, hu, hb⟩
  have HZB := Lib.hid (hu.row hb)
  clear hu
  have HYn := Lib.hid (HY.out.later hb)
  clear HY
  have HY := HYn
  clear HYn
  have HRn := Lib.hid (HR.out.below hb)
  clear HR
  have HR := HRn
  clear HRn
  have HLn := Lib.hid (HL.out.below hb)
  clear HL
  have HL := HLn
  clear HLn
  have HZAn := Lib.hid (HZA.out.below hb)
  clear HZA
  have HZA := HZAn
  clear HZAn
  have HBn := Lib.hid (HB.out.trans (hb.mono HB.out.size))
  clear HB
  have HB := HBn
  clear HBn
  clear hb
  go_wp2_with fail
  refine (sameN_any HZA.out HZB.out).mono ?_
  rw [decide_eq_true (rfl : onceL l1 = onceL l1)]
  rintro e w5 ⟨rfl, hb⟩
  clear HZA HZB
  have HYn := Lib.hid (HY.out.later hb)
  clear HY
  have HY := HYn
  clear HYn
  have HRn := Lib.hid (HR.out.below hb)
  clear HR
  have HR := HRn
  clear HRn
  have HLn := Lib.hid (HL.out.below hb)
  clear HL
  have HL := HLn
  clear HLn
  have HBn := Lib.hid (HB.out.trans (hb.mono HB.out.size))
  clear HB
  have HB := HBn
  clear HBn
  clear hb
  go_wp2
  go_ret
  exact ⟨by first | rfl | simp, HB.out⟩

set_option maxRecDepth 100000 in
theorem lifted (os : Os) (started : os.Started) (H : Type) (enc : TypeId × Value → H) :
    ReturnsInHanded {} Tryz.checked os 4 .any (Rows.levelSortsSpec.pre6 enc Tryz.prog Tryz.f4 Rows.levelSortsRow.domain false) (Rows.levelSortsSpec.post enc Tryz.prog Tryz.f4 false true false false) := by
  refine returnsInHanded_of_change (C := Tryz.checked) own started (by kernel_rfl) Tryz.func4
    (ChangeSpec.witness6 (enc := enc) (C := Tryz.checked) false ⟨#[], #[.agg #[.int .i64 0, .int .i64 0, .int .i64 0, .slice none 0 0], .slice none 0 0], []⟩ 8 (by kernel_rfl) (by kernel_rfl) (by kernel_rfl) (by kernel_rfl)) ?_
  intro W base args ds gs before hval0 hW hcnd _
  have hval : ∀ (j : Nat) t v, Tryz.f4.params[j]? = some t → args[j]? = some v → Value.okWide Tryz.prog W .any base t v := hval0
  have hW' := hW
  obtain ⟨p, q, hA0, hV, rfl, hfz, hnd⟩ := hW
  have hA : DataW.TrodAll enc Tryz.prog W 0 (fun _ => true) true Tryz.f4.params.toList args.toList ds p := hA0
  rw [Tryz.params4] at hA hval
  obtain ⟨v0, vs0, d0, ds0, p0, q0, hargs, rfl, rfl, h0, r0⟩ := trodAll_cons hA
  obtain ⟨v1, vs1, d1, ds1, p1, q1, rfl, rfl, rfl, h1, r1⟩ := trodAll_cons r0
  obtain ⟨rfl, rfl, rfl⟩ := trodAll_nil r1
  obtain rfl : args = #[v0, v1] := by cases args; simp_all
  obtain ⟨rfl, rfl⟩ := trodVars_none hV
  have k0 := h0
  have lt0 : ∀ x ∈ p0, x.block < W.heap.size := by obtain ⟨m, hm⟩ := k0; exact DataW.trod_lt m _ _ _ hm
  have k1 := h1
  have lt1 : ∀ x ∈ p1, x.block < W.heap.size := by obtain ⟨m, hm⟩ := k1; exact DataW.trod_lt m _ _ _ hm
  obtain ⟨I0, u0, rfl, e0, _⟩ := open_inst (hval 0 24 v0 rfl rfl) h0
  obtain ⟨a1, len1, cap1, rfl⟩ := okWide_slice Tryz.underlying25 (hval 1 25 v1 rfl rfl)
  obtain ⟨l1, e1, f1⟩ := open_nodes h1
  clear hA0 hval0
  refine (walk I0 _ _ l1 W e0 e1 f1).mono fun e W' ⟨he, bel⟩ => ?_
  subst he
  exact ⟨_, rfl, _, _, _, [], _, [], hW', trodAll_mk1 (shut_bool Tryz.underlying4 _), (trodAll_cons_mk (Below.trod laidOut (by kernel_rfl) (of_decide_eq_true (by kernel_rfl)) k0 bel lt0) (trodAll_cons_mk (Below.trod laidOut (by kernel_rfl) (of_decide_eq_true (by kernel_rfl)) k1 bel lt1) trodAll_mk0)), rfl, bel.frame _, fun h => by cases h⟩

theorem over : Rows.levelSortsRow.holds Tryz.pinned (OpenSpec.ofChange Rows.levelSortsSpec) :=
  OpenClaim.holds_of_wide 4 Tryz.f4 rfl rfl rfl rfl rfl rfl rfl ⟨rfl, rfl, rfl, rfl, rfl⟩ rfl rfl rfl rfl rfl (by kernel_rfl) Tryz.func4 (by kernel_rfl)
    (of_decide_eq_true (by kernel_rfl)) (by unfold Func.isWrapper; first | (rw [if_pos (by decide +kernel)]; kernel_rfl) | (rw [if_neg (by decide +kernel)]; exact ⟨rfl, rfl⟩))
    (fun os started H enc _ => lifted os started H enc)

theorem proved : Rows.LevelSortsSaid := over
#print axioms proved
end Go.Proofs.YtkljmnfekdoocaaGreat.levelSorts
