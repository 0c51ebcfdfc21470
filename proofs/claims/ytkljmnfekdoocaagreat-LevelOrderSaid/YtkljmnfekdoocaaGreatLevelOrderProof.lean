/- What level.Sorted answers at any instance of at most 33 stops and any 60 nodes of 100 moves are those nodes, those first that cost less at least in the end, and sorted once more they stay: haulierlaw14.LevelOrder answers true. Condition: none. -/
import Derived.Test.YtkljmnfekdoocaaGreatRows
import Derived.Test.YtkljmnfekdoocaaGreatLAwake
import Derived.Test.YtkljmnfekdoocaaGreatXN
import Derived.Test.YtkljmnfekdoocaaGreatGSame
import Derived.Test.YtkljmnfekdoocaaGreatGThan
import Derived.Test.YtkljmnfekdoocaaGreatXK
import Derived.Test.YtkljmnfekdoocaaGreatSArgs
import Derived.Test.YtkljmnfekdoocaaGreatBOf
import Derived.Test.YtkljmnfekdoocaaGreatXO
namespace Go.Proofs.YtkljmnfekdoocaaGreat.levelOrder
open Go.ChangeShapes Go.WideShapes Go.ChangeAt Go.RowKit

set_option maxRecDepth 1000000 in
set_option maxHeartbeats 4000000 in
theorem walk (I0 : Ins) (v0 : Value) (v1 : Value) (l1 : List Nod) (w : World) (e0 : SRow w v0 I0.l) (e1 : NRow w v1 l1) (f1 : ∀ n ∈ l1, NodFit n) :
    Calls Tryz.prog 5 #[insV I0 v0, v1] w fun e w' => e = .returned (.bool true) ∧ Below w.heap.size w w' := by
  have HR := Lib.hid e0
  have HL := Lib.hid e1
  have HFT := Lib.hid f1
  obtain ⟨ad, cap, rfl, hlm, _⟩ := e0.form
  obtain ⟨la, lc, rfl, hm, _⟩ := e1.form
  clear e0 e1 f1 hm
  unfold insV
  go_enter Tryz.func5, Tryz.ntmps5
  go_upto_region 1 with fail
  have HY := Lib.hid (ybox_new w I0 (.slice ad I0.l.length cap))
  have HB := Lib.hid ((Below.refl w.heap.size w).alloc (Nat.le_refl _) (boxI I0 (.slice ad I0.l.length cap)))
  change Code.wp _ _ _ _ (w.alloc (boxI I0 (.slice ad I0.l.length cap)))
  generalize hW : w.alloc (boxI I0 (.slice ad I0.l.length cap)) = W at *
  have HRn := Lib.hid (HR.out.below HB.out)
  clear HR
  have HR := HRn
  clear HRn
  have HLn := Lib.hid (HL.out.below HB.out)
  clear HL
  have HL := HLn
  clear HLn
  clear hW
  go_wp2_with fail
  refine (lawake_any _).mono ?_
  rintro e w1 ⟨rfl, hb⟩
  have HYn := Lib.hid (HY.out.later hb)
  clear HY
  have HY := HYn
  clear HYn
  have HRn := Lib.hid (HR.out.below hb)
  clear HR
  have HR := HRn
  clear HRn
  have HLn := Lib.hid (HL.out.below hb)
  clear HL
  have HL := HLn
  clear HLn
  have HBn := Lib.hid (HB.out.trans (hb.mono HB.out.size))
  clear HB
  have HB := HBn
  clear HBn
  clear hb
  go_wp2_with fail
  refine (fewN_any HL.out).mono ?_
  rintro e w2 ⟨rfl, rfl⟩
  have y3 := HY.out.cells.2.2.2
  by_cases hf : FewN l1
  rotate_left
  · rw [decide_eq_false hf]
    clear hf
    go_wp2
    go_ret
    exact ⟨rfl, HB.out⟩
  rw [decide_eq_true hf]
  have HF := Lib.hid hf
  clear hf
  by_cases g1 : 33 < I0.l.length
  · have d1 : decide ((33 : Int) < (I0.l.length : Int)) = true := decide_eq_true (by omega)
    have d2 := decide_eq_true g1
    clear g1
    go_wp2
    go_ret
    exact ⟨rfl, HB.out⟩
  have d1 : decide ((33 : Int) < (I0.l.length : Int)) = false := decide_eq_false (by omega)
  have d2 := decide_eq_false g1
  have HG := Lib.hid g1
  have HOK := Lib.hid (NodesOk.of HFT.out HF.out.2)
  have HLE := Lib.hid (show l1.length ≤ 60 from HF.out.1)
  clear g1
  go_upto_region 5 with fail
  clear y3 d1 d2
  obtain ⟨y0, y1, y2, y3⟩ := HY.out.cells
  go_wp2_with fail
  clear y0 y1 y2 y3
  change Calls _ _ #[insV I0 (.slice ad I0.l.length cap), .slice la l1.length lc] _ _
  refine (lsorted_any HR.out HL.out (Below.refl _ _) HOK.out (by have := HLE.out; omega)).mono ?_
  rintro e w3 ⟨z, rfl, hu, hb⟩
  have HZ := Lib.hid (hu.row hb)
  clear hu
  have HYn := Lib.hid (HY.out.later hb)
  clear HY
  have HY := HYn
  clear HYn
  have HRn := Lib.hid (HR.out.below hb)
  clear HR
  have HR := HRn
  clear HRn
  have HLn := Lib.hid (HL.out.below hb)
  clear HL
  have HL := HLn
  clear HLn
  have HBn := Lib.hid (HB.out.trans (hb.mono HB.out.size))
  clear HB
  have HB := HBn
  clear HBn
  clear hb
  have HOM := Lib.hid (show NodesOk (sortedL I0 l1) from HOK.out.sub (fun n hn => (sortG_perm _ _).mem_iff.1 hn))
  have HML := Lib.hid (sorted_len I0 l1)
  have HAG := Lib.hid (sorted_again I0 l1)
  have HOR := Lib.hid (show ∀ k, k + 1 < (sortedL I0 l1).length → ¬ ofB I0 (nodAt (sortedL I0 l1) (k + 1)) < ofB I0 (nodAt (sortedL I0 l1) k) from fun k hk h => by
    have h1 := (List.pairwise_iff_getElem.1 (sortG_ord (ofB I0) l1)) k (k + 1) (by unfold sortedL at hk; omega) hk (by omega)
    have e1 : nodAt (sortedL I0 l1) k = (sortedL I0 l1)[k]'(by omega) := by unfold nodAt; rw [List.getD_eq_getElem?_getD, List.getElem?_eq_getElem (by omega)]; rfl
    have e2 : nodAt (sortedL I0 l1) (k + 1) = (sortedL I0 l1)[k + 1]'hk := by unfold nodAt; rw [List.getD_eq_getElem?_getD, List.getElem?_eq_getElem hk]; rfl
    rw [e1, e2] at h
    unfold sortedL at h
    omega)
  obtain ⟨M, hM⟩ : ∃ M, sortedL I0 l1 = M := ⟨_, rfl⟩
  rw [hM] at HZ HOM HML HAG HOR
  have HMM := Lib.hid hM
  clear hM
  obtain ⟨za, zc, rfl, _⟩ := HZ.out.form
  obtain ⟨ml, hml⟩ : ∃ m, M.length = m := ⟨_, rfl⟩
  rw [hml] at HZ HML HOR ⊢
  have HLM := Lib.hid hml
  have hmlm : ml ≤ 9223372036854775807 := by have := HML.out; have := HLE.out; omega
  clear hml
  obtain ⟨W5, hW5⟩ : ∃ W, w3 = W := ⟨_, rfl⟩
  rw [hW5] at HY HR HL HZ HB ⊢
  clear hW5
  go_wp2_with fail
  go_loopw [8] (fun i wr => ∃ j : Nat, 1 ≤ j ∧ (j ≤ ml ∨ j = 1) ∧ i = .int .i64 j ∧ Below W5.heap.size W5 wr) (fun i _ => ml + 1 - (intOf i).toNat)
  case atStart => exact ⟨1, Nat.le_refl _, .inr rfl, rfl, Below.refl _ _⟩
  case round =>
    obtain ⟨j, hj1, hj2, rfl, hbw⟩ := hrel
    have HBW := Lib.hid hbw
    clear hbw
    by_cases hlt : j < ml
    rotate_left
    · have hlt2 : ¬ (j : Int) < (ml : Int) := by omega
      have hlt3 : decide ((j : Int) < (ml : Int)) = false := decide_eq_false hlt2
      have HYw := Lib.hid (HY.out.later HBW.out)
      have HRw := Lib.hid (HR.out.below HBW.out)
      have HZw := Lib.hid (HZ.out.below HBW.out)
      have HBw := Lib.hid (HB.out.trans (HBW.out.mono HB.out.size))
      clear hj1 hj2 hlt HBW
      obtain ⟨W6, hW6⟩ : ∃ W, wr = W := ⟨_, rfl⟩
      rw [hW6] at HYw HRw HZw HBw ⊢
      clear hW6
      obtain ⟨y0, y1, y2, y3⟩ := HYw.out.cells
      go_wp2_with fail
      clear y0 y1 y2 y3
      change Calls _ _ #[insV I0 (.slice ad I0.l.length cap), .slice za ml zc] _ _
      refine (lsorted_any (l := M) HRw.out HZw.out (Below.refl _ _) HOM.out (by have := HLM.out; have := HML.out; have := HLE.out; omega)).mono ?_
      rw [HAG.out]
      rintro e w7 ⟨u, rfl, hu, hb⟩
      have HU := Lib.hid (hu.row hb)
      have HZ7 := Lib.hid (HZw.out.below hb)
      have HB7 := Lib.hid (HBw.out.trans (hb.mono HBw.out.size))
      clear hu hb HZw HBw HYw HRw
      go_wp2_with fail
      refine (sameN_any HU.out HZ7.out).mono ?_
      rw [decide_eq_true (rfl : M = M)]
      rintro e w8 ⟨rfl, hb⟩
      have HB8 := Lib.hid (HB7.out.trans (hb.mono HB7.out.size))
      have hmm : ml = l1.length := HML.out
      have e9 : ((ml : Int) == (l1.length : Int)) = true := by rw [hmm]; simp
      have H9 := Lib.hid hmm
      clear hb hmm
      go_wp2
      go_ret
      exact ⟨by first | rfl | simp, HB8.out⟩
    have HK := Lib.hid hlt
    obtain ⟨k, hk⟩ : ∃ k, j = k + 1 := ⟨j - 1, by omega⟩
    have HJK := Lib.hid hk
    have hkm : k < ml := by omega
    have hsub : IntKind.i64.wrap ((j : Int) - 1) = (k : Int) := by rw [IntWalk.i64_in _ (by omega)]; omega
    have hadd : IntKind.i64.wrap ((j : Int) + 1) = ((j + 1 : Nat) : Int) := by rw [IntWalk.i64_in _ (by omega)]; omega
    have hlt2 : (j : Int) < (ml : Int) := by omega
    have hkm2 : (k : Int) < (ml : Int) := by omega
    have hno := HOR.out k (by omega)
    rw [← hk] at hno
    obtain ⟨b1, o1, qa, qc, ha, hn1, hl1, hp1⟩ := nrow_at (HZ.out.below HBW.out) j _ (nodAt_is (by rw [HLM.out]; exact hlt))
    subst ha
    obtain ⟨pa, pc, hn2, _, hp2⟩ := nrow_here (HZ.out.below HBW.out) k _ (nodAt_is (by rw [HLM.out]; exact hkm))
    have HSY := Lib.hid (HOM.out.sets _ (nodAt_mem (l := M) (i := j) (by rw [HLM.out]; exact hlt)))
    have HSX := Lib.hid (HOM.out.sets _ (nodAt_mem (l := M) (i := k) (by rw [HLM.out]; exact hkm)))
    have HN1 := Lib.hid hn1
    have HN2 := Lib.hid hn2
    have HP1 := Lib.hid hp1
    have HP2 := Lib.hid hp2
    have HB1 := Lib.hid hl1
    clear hj1 hj2 hk hn1 hn2 hp1 hp2 hl1
    obtain ⟨y, hy⟩ : ∃ y, nodAt M j = y := ⟨_, rfl⟩
    obtain ⟨x, hx⟩ : ∃ x, nodAt M k = x := ⟨_, rfl⟩
    rw [hy, hx] at hno
    rw [hy] at HSY HN1 HP1
    rw [hx] at HSX HN2 HP2
    have HNO := Lib.hid hno
    clear hy hx hno
    have HYw := Lib.hid (HY.out.later HBW.out)
    have HRw := Lib.hid (HR.out.below HBW.out)
    obtain ⟨W6, hW6⟩ : ∃ W, wr = W := ⟨_, rfl⟩
    rw [hW6] at HYw HRw HBW HN1 HN2 HP1 HP2 HB1 ⊢
    clear hW6
    go_upto_region 9 with fail
    have HRv := Lib.hid (HRw.out.below (Below.refl _ W6).drew)
    have HP1v := Lib.hid (HP1.out.below (Below.refl _ W6).drew)
    have HP2v := Lib.hid (HP2.out.below (Below.refl _ W6).drew)
    have HBV := Lib.hid HBW.out.drew
    have HS0 := Lib.hid (show Holds (cellsI w.heap.size I0 (.slice ad I0.l.length cap) ++ (cellsRN b1 (o1 + j * 10) y.s y.cost (.slice qa y.path.length qc) ++ cellsRN b1 (o1 + k * 10) x.s x.cost (.slice pa x.path.length pc))) W6.drew from Holds.app.2 ⟨⟨HYw.out.cells.1, HYw.out.cells.2.1, HYw.out.cells.2.2.1, HYw.out.cells.2.2.2, trivial⟩, Holds.app.2 ⟨holds_RN HN1.out, holds_RN HN2.out⟩⟩)
    have hlt := Lib.hid (show Lows W6.drew.heap.size (cellsI w.heap.size I0 (.slice ad I0.l.length cap) ++ (cellsRN b1 (o1 + j * 10) y.s y.cost (.slice qa y.path.length qc) ++ cellsRN b1 (o1 + k * 10) x.s x.cost (.slice pa x.path.length pc))) from Lows.app ⟨HYw.out.lt, HYw.out.lt, HYw.out.lt, HYw.out.lt, trivial⟩ (Lows.app (lows_RN HB1.out) (lows_RN HB1.out)))
    refine wp_region_held_drew (S := Holds (cellsI w.heap.size I0 (.slice ad I0.l.length cap) ++ (cellsRN b1 (o1 + j * 10) y.s y.cost (.slice qa y.path.length qc) ++ cellsRN b1 (o1 + k * 10) x.s x.cost (.slice pa x.path.length pc)))) (by kernel_rfl) HS0.out (fun hSn => ?_)
    generalize W6.drew = V at *
    have Bc := Lib.hid (Below.refl V.heap.size V)
    simp only [cellsI, cellsRN, List.cons_append, List.nil_append] at HS0 hlt hSn ⊢
    refine tks [0, 1, 2, 3, 4, 6, 7, 8, 9, 10, 11] 11 rfl (by kernel_rfl) (fun _ _ _ _ h => h) (by assumption) (fun KT hKT => ?_)
    iterate 11 (refine tkT (by (simp only [gA, gB, gC]; rfl)) (by rfl) (by (intro w hSw; (simp only [Holds] at hSw); go_simp <;> with_reducible rfl)) ?_; simp only [Act.put, pA, pB, pC])
    refine hKT _ ?_
    clear KT hKT
    refine wpAnyH_ready (rs := [5]) (by kernel_rfl) (by simp) ?_
    refine AllReadyH.cons (o := ?oz1) ?iz1 (fun K hK => ?kz1) AllReadyH.nil
    case iz1 => (simp only [List.getElem?_toArray, List.getElem?_cons_zero, List.getElem?_cons_succ]; rfl)
    go_simp
    change Calls _ _ #[insV I0 (.slice ad I0.l.length cap), nodeV y.s y.cost _] _ _
    refine (bof_any (HRv.out.below Bc.out) HSY.out (HP1v.out.below Bc.out)).mono ?_
    rintro e w' ⟨rfl, hb⟩
    refine held_more hK HS0.out hlt (Bc.out.trans (hb.mono Bc.out.size)) (fun Bc hSn => ?_)
    clear hb hK
    refine wpAnyH_ready (rs := [12]) (by kernel_rfl) (by simp) ?_
    refine AllReadyH.cons (o := ?oz2) ?iz2 (fun K hK => ?kz2) AllReadyH.nil
    case iz2 => (simp only [List.getElem?_toArray, List.getElem?_cons_zero, List.getElem?_cons_succ]; rfl)
    go_simp
    change Calls _ _ #[insV I0 (.slice ad I0.l.length cap), nodeV x.s x.cost _] _ _
    refine (bof_any (HRv.out.below Bc.out) HSX.out (HP2v.out.below Bc.out)).mono ?_
    rintro e w8 ⟨rfl, hb⟩
    refine held_more hK HS0.out hlt (Bc.out.trans (hb.mono Bc.out.size)) (fun Bc hSn => ?_)
    clear hb hK
    have hd : decide (sumOf [y.cost, boundS I0 y.s] < sumOf [x.cost, boundS I0 x.s]) = false := decide_eq_false (by have := HNO.out; unfold ofB at this; omega)
    refine tks [13] 1 rfl (by kernel_rfl) (fun _ _ _ _ h => h) (by assumption) (fun KT hKT => ?_)
    refine tkT (by (simp only [gA, gB, gC]; rfl)) (by rfl) (by (intro w hSw; (simp only [Holds] at hSw); go_simp <;> with_reducible rfl)) ?_
    simp only [Act.put, pA, pB, pC]
    refine hKT _ ?_
    clear KT hKT
    refine wpAnyH_done (by kernel_rfl) ?_ _
    go_wp2_with fail
    go_roundw
    case rel => exact ⟨j + 1, by omega, .inl HK.out, by go_num, HBV.out.trans (Bc.out.mono HBV.out.size)⟩
    case measure => have := HK.out; simp [intOf]; omega

set_option maxRecDepth 100000 in
theorem lifted (os : Os) (started : os.Started) (H : Type) (enc : TypeId × Value → H) :
    ReturnsInHanded {} Tryz.checked os 5 .any (Rows.levelOrderSpec.pre6 enc Tryz.prog Tryz.f5 Rows.levelOrderRow.domain false) (Rows.levelOrderSpec.post enc Tryz.prog Tryz.f5 false true false false) := by
  refine returnsInHanded_of_change (C := Tryz.checked) own started (by kernel_rfl) Tryz.func5
    (ChangeSpec.witness6 (enc := enc) (C := Tryz.checked) false ⟨#[], #[.agg #[.int .i64 0, .int .i64 0, .int .i64 0, .slice none 0 0], .slice none 0 0], []⟩ 8 (by kernel_rfl) (by kernel_rfl) (by kernel_rfl) (by kernel_rfl)) ?_
  intro W base args ds gs before hval0 hW hcnd _
  have hval : ∀ (j : Nat) t v, Tryz.f5.params[j]? = some t → args[j]? = some v → Value.okWide Tryz.prog W .any base t v := hval0
  have hW' := hW
  obtain ⟨p, q, hA0, hV, rfl, hfz, hnd⟩ := hW
  have hA : DataW.TrodAll enc Tryz.prog W 0 (fun _ => true) true Tryz.f5.params.toList args.toList ds p := hA0
  rw [Tryz.params5] at hA hval
  obtain ⟨v0, vs0, d0, ds0, p0, q0, hargs, rfl, rfl, h0, r0⟩ := trodAll_cons hA
  obtain ⟨v1, vs1, d1, ds1, p1, q1, rfl, rfl, rfl, h1, r1⟩ := trodAll_cons r0
  obtain ⟨rfl, rfl, rfl⟩ := trodAll_nil r1
  obtain rfl : args = #[v0, v1] := by cases args; simp_all
  obtain ⟨rfl, rfl⟩ := trodVars_none hV
  have k0 := h0
  have lt0 : ∀ x ∈ p0, x.block < W.heap.size := by obtain ⟨m, hm⟩ := k0; exact DataW.trod_lt m _ _ _ hm
  have k1 := h1
  have lt1 : ∀ x ∈ p1, x.block < W.heap.size := by obtain ⟨m, hm⟩ := k1; exact DataW.trod_lt m _ _ _ hm
  obtain ⟨I0, u0, rfl, e0, _⟩ := open_inst (hval 0 24 v0 rfl rfl) h0
  obtain ⟨a1, len1, cap1, rfl⟩ := okWide_slice Tryz.underlying25 (hval 1 25 v1 rfl rfl)
  obtain ⟨l1, e1, f1⟩ := open_nodes h1
  clear hA0 hval0
  refine (walk I0 _ _ l1 W e0 e1 f1).mono fun e W' ⟨he, bel⟩ => ?_
  subst he
  exact ⟨_, rfl, _, _, _, [], _, [], hW', trodAll_mk1 (shut_bool Tryz.underlying4 _), (trodAll_cons_mk (Below.trod laidOut (by kernel_rfl) (of_decide_eq_true (by kernel_rfl)) k0 bel lt0) (trodAll_cons_mk (Below.trod laidOut (by kernel_rfl) (of_decide_eq_true (by kernel_rfl)) k1 bel lt1) trodAll_mk0)), rfl, bel.frame _, fun h => by cases h⟩

theorem over : Rows.levelOrderRow.holds Tryz.pinned (OpenSpec.ofChange Rows.levelOrderSpec) :=
  OpenClaim.holds_of_wide 5 Tryz.f5 rfl rfl rfl rfl rfl rfl rfl ⟨rfl, rfl, rfl, rfl, rfl⟩ rfl rfl rfl rfl rfl (by kernel_rfl) Tryz.func5 (by kernel_rfl)
    (of_decide_eq_true (by kernel_rfl)) (by unfold Func.isWrapper; first | (rw [if_pos (by decide +kernel)]; kernel_rfl) | (rw [if_neg (by decide +kernel)]; exact ⟨rfl, rfl⟩))
    (fun os started H enc _ => lifted os started H enc)

theorem proved : Rows.LevelOrderSaid := over
#print axioms proved
end Go.Proofs.YtkljmnfekdoocaaGreat.levelOrder
