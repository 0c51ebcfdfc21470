/- The chapter's example. -/
import Derived.Test.YtkljmnfekdoocaaGreatXK
import Derived.Test.YtkljmnfekdoocaaGreatXSMove
import Derived.Test.YtkljmnfekdoocaaGreatXTSched
import Derived.Test.YtkljmnfekdoocaaGreatSAwake
namespace Go.Proofs.YtkljmnfekdoocaaGreat
open Go.ChangeShapes Go.WideShapes Go.ChangeAt Go.RowKit

theorem lg_far : farS1 smallI sg0 1 = 3 := small_f1
theorem lg_moves : movesS smallI sg0 = [1] := by rw [← sg_root]; exact sg_moves
theorem lg_kids : kidsN smallI ⟨sg0, 0, []⟩ = [⟨sg1, 3, [1]⟩] := by
  unfold kidsN
  rw [lg_moves]
  show [childN smallI ⟨sg0, 0, []⟩ 1] = _
  unfold childN
  rw [sg_next1, lg_far]; rfl
theorem lg_exp : expandL smallI 1152921504606846976 [⟨sg0, 0, []⟩] = [⟨sg1, 3, [1]⟩] := by
  unfold expandL kidsL
  rw [List.flatMap_cons, List.flatMap_nil, List.append_nil, lg_kids]
  have h : ofB smallI ⟨sg1, 3, [1]⟩ < 1152921504606846976 := by
    have h1 := bound_hi smallI sg1
    have h2 := bound_pos smallI sg1
    have h3 := sum_le (a := 3) (b := boundS smallI sg1) (by decide) h2
    show sumOf [3, boundS smallI sg1] < _
    omega
  rw [List.filter_cons, if_pos (by exact decide_eq_true h)]
  rfl
theorem lg_best : bestL smallI [⟨sg0, 0, []⟩] = none := by
  show bestStep smallI none ⟨sg0, 0, []⟩ = none
  unfold bestStep
  rw [if_neg]
  rintro (⟨_, h, _⟩ | ⟨_, h, _⟩)
  · revert h; decide
  · exact h rfl
theorem lg_ok : NodesOk [⟨sg0, 0, []⟩] := fun n hn => by
  obtain rfl := List.mem_singleton.1 hn
  refine ⟨by unfold SetsOk; decide, ?_, ?_, by decide⟩
  · unfold FitSt Fit; decide
  · unfold Fit; decide
set_option maxRecDepth 1000000 in
set_option maxHeartbeats 4000000 in
theorem lawake_any (w : World) : Calls Tryz.prog 6 #[] w fun e w' => e = .returned (.bool true) ∧ Below w.heap.size w w' := by
  have kc := fun w s => Lib.run_convert_string_bytes (P := Tryz.prog) w 9 45 5 s Tryz.underlying9 Tryz.underlying45 Tryz.underlying5
  go_enter Tryz.func6, Tryz.ntmps6
  go_wp2_with fail
  refine (small_any _).mono ?_
  rintro e w' ⟨rfl, rfl⟩
  obtain ⟨sv, hsv⟩ : ∃ sv, strOfNums smallB = sv := ⟨_, rfl⟩
  rw [hsv]
  have HR := Lib.hid (conv_back (w := w) hsv.symm (by decide) (by decide))
  have HB0 := Lib.hid (conv_below w sv)
  clear hsv
  go_wp2_with fail
  refine (parse_any HR.out).mono ?_
  rintro e w1 ⟨v, rfl, hv, hb⟩
  rw [small_ok.1, small_ok.2.1] at *
  have HB1 := Lib.hid (HB0.out.trans (hb.mono HB0.out.size))
  have HV1 := Lib.hid hv
  obtain ⟨va, vc, rfl⟩ := hv.shape
  clear hv hb
  unfold insV
  go_upto_region 2 with fail
  have HY := Lib.hid (ybox_new w1 smallI (.slice va 3 vc))
  have HB := Lib.hid (HB1.out.alloc HB1.out.size (boxI smallI (.slice va 3 vc)))
  have HV2 := Lib.hid (HV1.out.alloc (boxI smallI (.slice va 3 vc)))
  clear HB1 HV1
  change Code.wp _ _ _ _ (w1.alloc (boxI smallI (.slice va 3 vc)))
  generalize w1.alloc (boxI smallI (.slice va 3 vc)) = W at *
  generalize w1.heap.size = bx at *
  have HVd := Lib.hid (HV2.out.below (Below.refl _ _).drew)
  go_cut [3, 5] from 12 to 21 (fun z b wx => b = .bool false ∧ (∃ g cp qa qc, z = .slice (some ⟨g, 0, none⟩) 1 cp ∧ NodAt wx g 0 sg1 3 (.slice qa 1 qc) ∧ Row wx (.slice qa 1 qc) (ints [1])) ∧ Below w.heap.size w wx)
  case first =>
    have HBd := Lib.hid HB.out.drew
    have HS0 := Lib.hid (show Holds (cellsI bx smallI (.slice va 3 vc)) W.drew from ⟨HY.out.cells.1, HY.out.cells.2.1, HY.out.cells.2.2.1, HY.out.cells.2.2.2, trivial⟩)
    have hlt := Lib.hid (show Lows W.drew.heap.size (cellsI bx smallI (.slice va 3 vc)) from ⟨HY.out.lt, HY.out.lt, HY.out.lt, HY.out.lt, trivial⟩)
    refine wp_region_held_drew (S := Holds (cellsI bx smallI (.slice va 3 vc))) (by kernel_rfl) HS0.out (fun hSn => ?_)
    generalize W.drew = V at *
    have Bc := Lib.hid (Below.refl V.heap.size V)
    simp only [cellsI] at HS0 hlt hSn ⊢
    refine tks [0, 1] 2 rfl (by kernel_rfl) (fun _ _ _ _ h => h) (by assumption) (fun KT hKT => ?_)
    iterate 2 (refine tkT (by (simp only [gA, gB, gC]; rfl)) (by rfl) (by (intro w hSw; (simp only [Holds] at hSw); go_simp <;> with_reducible rfl)) ?_; simp only [Act.put, pA, pB, pC])
    refine hKT _ ?_
    clear KT hKT
    refine wpAnyH_ready (rs := [2, 10]) (by kernel_rfl) (by simp) ?_
    refine (AllReadyH.cons (o := ?oz167) ?iz167 (fun K hK => ?kz167) (AllReadyH.cons (o := ?oz168) ?iz168 (fun K hK => ?kz168) AllReadyH.nil))
    case iz167 => (simp only [List.getElem?_toArray, List.getElem?_cons_zero, List.getElem?_cons_succ]; rfl)
    case iz168 => (simp only [List.getElem?_toArray, List.getElem?_cons_zero, List.getElem?_cons_succ]; rfl)
    · skip
      go_simp
      change Calls _ _ #[insV smallI (.slice va 3 vc)] _ _
      refine (sroot_any (I := smallI) (HVd.out.below Bc.out).row).mono ?_
      rw [sg_root]
      rintro e w3 ⟨rfl, hb⟩
      refine held_more hK HS0.out hlt (Bc.out.trans (hb.mono Bc.out.size)) (fun Bc hSn => ?_)
      clear hb hK
      unfold staV sg0
      refine tks [3] 1 rfl (by kernel_rfl) (fun _ _ _ _ h => h) (by assumption) (fun KT hKT => ?_)
      refine tkT (by (simp only [gA, gB, gC]; rfl)) (by rfl) (by (intro w hSw; (simp only [Holds] at hSw); go_simp <;> with_reducible rfl)) ?_
      simp only [Act.put, pA, pB, pC]
      refine hKT _ ?_
      clear KT hKT
      refine wpAnyH_ready (rs := [4, 10]) (by kernel_rfl) (by simp) ?_
      refine (AllReadyH.cons (o := ?oz169) ?iz169 (fun K hK => ?kz169) (AllReadyH.cons (o := ?oz170) ?iz170 (fun K hK => ?kz170) AllReadyH.nil))
      case iz169 => (simp only [List.getElem?_toArray, List.getElem?_cons_zero, List.getElem?_cons_succ]; rfl)
      case iz170 => (simp only [List.getElem?_toArray, List.getElem?_cons_zero, List.getElem?_cons_succ]; rfl)
      · skip
        go_simp
        refine held_more hK HS0.out hlt (Bc.out.alloc Bc.out.size _) (fun Bc hSn => ?_)
        clear hK
        have HW := Lib.hid (show NRowB V (w3.alloc (boxN sg0 0 (.slice none 0 0))) (.slice (some ⟨w3.heap.size, 0, none⟩) 1 1) [⟨sg0, 0, []⟩] from ⟨[⟨sg0, 0, none, 0, 0⟩], nrow_one (heap_alloc_new w3 (boxN sg0 0 (.slice none 0 0))), ⟨rfl, rfl, .inl (row_nil _)⟩, trivial⟩)
        change wpAnyH _ _ _ _ _ _ _ _ (w3.alloc (boxN sg0 0 (.slice none 0 0)))
        have Bc2 := Lib.hid (show Below V.heap.size V (w3.alloc (boxN sg0 0 (.slice none 0 0))) from Bc.out)
        clear Bc
        have Bc := Bc2
        clear Bc2
        generalize w3.alloc (boxN sg0 0 (.slice none 0 0)) = Y at *
        generalize w3.heap.size = by1 at *
        refine wpAnyH_ready (rs := [5, 10]) (by kernel_rfl) (by simp) ?_
        refine (AllReadyH.cons (o := ?oz171) ?iz171 (fun K hK => ?kz171) (AllReadyH.cons (o := ?oz172) ?iz172 (fun K hK => ?kz172) AllReadyH.nil))
        case iz171 => (simp only [List.getElem?_toArray, List.getElem?_cons_zero, List.getElem?_cons_succ]; rfl)
        case iz172 => (simp only [List.getElem?_toArray, List.getElem?_cons_zero, List.getElem?_cons_succ]; rfl)
        · skip
          go_simp
          change Calls _ _ #[insV smallI (.slice va 3 vc), .slice (some ⟨by1, 0, none⟩) 1 1, .int .i64 1152921504606846976] _ _
          refine (lexpand_any (I := smallI) (up := 1152921504606846976) (HVd.out.below Bc.out).row HW.out Bc.out lg_ok (by decide)).mono ?_
          rw [lg_exp, lg_best]
          rintro e w5 ⟨z, pb, pn, pc, rfl, hu, _, hb⟩
          refine held_more hK HS0.out hlt (Bc.out.trans (hb.mono Bc.out.size)) (fun Bc hSn => ?_)
          have HU := Lib.hid hu
          clear hb hK hu HW
          unfold nodeV
          refine tks [6, 7, 8, 9] 4 rfl (by kernel_rfl) (fun _ _ _ _ h => h) (by assumption) (fun KT hKT => ?_)
          iterate 4 (refine tkT (by (simp only [gA, gB, gC]; rfl)) (by rfl) (by (intro w hSw; (simp only [Holds] at hSw); go_simp <;> with_reducible rfl)) ?_; simp only [Act.put, pA, pB, pC])
          refine hKT _ ?_
          clear KT hKT
          have HSZ := Lib.hid Bc.out.size
          refine wpAnyH_ready (rs := [10]) (by kernel_rfl) (by simp) ?_
          refine AllReadyH.cons (o := ?oz173) ?iz173 (fun K hK => ?kz173) AllReadyH.nil
          case iz173 => (simp only [List.getElem?_toArray, List.getElem?_cons_zero, List.getElem?_cons_succ]; rfl)
          go_simp
          refine held_more hK HS0.out hlt (Bc.out.alloc Bc.out.size _) (fun Bc hSn => ?_)
          have HN := Lib.hid (nod_new w5 noughtS 0 (.slice none 0 0))
          change wpAnyH _ _ _ _ _ _ _ _ (w5.alloc (boxN noughtS 0 (.slice none 0 0)))
          have Bc2 := Lib.hid (show Below V.heap.size V (w5.alloc (boxN noughtS 0 (.slice none 0 0))) from Bc.out)
          clear Bc
          have Bc := Bc2
          clear Bc2
          change Holds _ (w5.alloc (boxN noughtS 0 (.slice none 0 0))) at hSn
          have HQ := Lib.hid ((Below.refl w5.heap.size w5).alloc (Nat.le_refl _) (boxN noughtS 0 (.slice none 0 0)))
          generalize w5.alloc (boxN noughtS 0 (.slice none 0 0)) = Xn at *
          obtain ⟨bm, hbm⟩ : ∃ bm, bm = w5.heap.size := ⟨_, rfl⟩
          have HLE := Lib.hid (show V.heap.size ≤ bm by rw [hbm]; exact HSZ.out)
          have HAP := Lib.hid (show ∀ g, z.ownBlock = some g → g ≠ bm from fun g hg e => by have h1 := (HU.out.lt g hg).2; omega)
          rw [← hbm] at HN ⊢
          clear hbm HSZ
          have HUn := Lib.hid (HU.out.below HQ.out)
          clear HU
          have HU := HUn
          clear HUn
          clear HQ
          refine tks [11] 1 rfl (by kernel_rfl) (fun _ _ _ _ h => h) (by assumption) (fun KT hKT => ?_)
          refine tkT (by (simp only [gA, gB, gC]; rfl)) (by rfl) (by (intro w hSw; (simp only [Holds] at hSw); go_simp <;> with_reducible rfl)) ?_
          simp only [Act.put, pA, pB, pC]
          refine hKT _ ?_
          clear KT hKT
          refine wpAnyH_ready (rs := [12]) (by kernel_rfl) (by simp) ?_
          refine (AllReadyH.cons (o := ?oz174) ?iz174 (fun K hK => ?kz174) AllReadyH.nil)
          case iz174 => (simp only [List.getElem?_toArray, List.getElem?_cons_zero, List.getElem?_cons_succ]; rfl)
          simp only [Act.put]
          rw [if_pos (by rfl)]
          refine wp_store_node (.tmp 4) (.tmp 20) (by rfl) bm _ _ _ ⟨nod0.s, nod0.cost, pb, pn, pc⟩ (by rfl) (by rfl) HN.out ?_
          intro wE hE hbE hoE hgE
          refine held_more hK HS0.out hlt (Bc.out.trans (hbE _ HLE.out)) (fun Bc hSn => ?_)
          clear hK
          have HUE := HU.out.keptN (fun e => HAP.out _ e rfl) hgE HN.out
          obtain ⟨g, cp, rfl, _⟩ := HUE.block (by decide)
          obtain ⟨qa, qc, hn, _, hpr⟩ := nrowB_here HUE.rowB 0 ⟨sg1, 3, [1]⟩ rfl
          have HF := Lib.hid (show ∃ g' cp' qa' qc', Value.slice (some ⟨g, 0, none⟩) 1 cp = .slice (some ⟨g', 0, none⟩) 1 cp' ∧ NodAt wE g' 0 sg1 3 (.slice qa' 1 qc') ∧ Row wE (.slice qa' 1 qc') (ints [1]) from ⟨g, cp, qa, qc, rfl, hn, hpr.row Bc.out⟩)
          clear hE hbE hoE hgE HUE hn hpr HU HAP HN
          refine tks [13] 1 rfl (by kernel_rfl) (fun _ _ _ _ h => h) (by assumption) (fun KT hKT => ?_)
          refine tkT (by (simp only [gA, gB, gC]; rfl)) (by rfl) (by (intro w hSw; (simp only [Holds] at hSw); go_simp <;> with_reducible rfl)) ?_
          simp only [Act.put, pA, pB, pC]
          refine hKT _ ?_
          clear KT hKT
          refine wpAnyH_done (by kernel_rfl) ?_ _
          go_wp2_with fail
          go_meet
          exact ⟨rfl, HF.out, HBd.out.trans (Bc.out.mono HBd.out.size)⟩
        · skip
          have HSZ := Lib.hid Bc.out.size
          go_simp
          refine held_more hK HS0.out hlt (Bc.out.alloc Bc.out.size _) (fun Bc hSn => ?_)
          clear hK
          have HN := Lib.hid (nod_new Y noughtS 0 (.slice none 0 0))
          change wpAnyH _ _ _ _ _ _ _ _ (Y.alloc (boxN noughtS 0 (.slice none 0 0)))
          have Bc2 := Lib.hid (show Below V.heap.size V (Y.alloc (boxN noughtS 0 (.slice none 0 0))) from Bc.out)
          clear Bc
          have Bc := Bc2
          clear Bc2
          change Holds _ (Y.alloc (boxN noughtS 0 (.slice none 0 0))) at hSn
          have HQ := Lib.hid ((Below.refl Y.heap.size Y).alloc (Nat.le_refl _) (boxN noughtS 0 (.slice none 0 0)))
          generalize Y.alloc (boxN noughtS 0 (.slice none 0 0)) = Xn at *
          obtain ⟨bm, hbm⟩ : ∃ bm, bm = Y.heap.size := ⟨_, rfl⟩
          have HLE := Lib.hid (show V.heap.size ≤ bm by rw [hbm]; exact HSZ.out)
          rw [← hbm] at HN ⊢
          clear hbm HSZ
          have HWn := Lib.hid (HW.out.below HQ.out)
          clear HW
          have HW := HWn
          clear HWn
          clear HQ
          refine wpAnyH_ready (rs := [5]) (by kernel_rfl) (by simp) ?_
          refine AllReadyH.cons (o := ?oz175) ?iz175 (fun K hK => ?kz175) AllReadyH.nil
          case iz175 => (simp only [List.getElem?_toArray, List.getElem?_cons_zero, List.getElem?_cons_succ]; rfl)
          go_simp
          change Calls _ _ #[insV smallI (.slice va 3 vc), .slice (some ⟨by1, 0, none⟩) 1 1, .int .i64 1152921504606846976] _ _
          refine (lexpand_any (I := smallI) (up := 1152921504606846976) (HVd.out.below Bc.out).row HW.out Bc.out lg_ok (by decide)).mono ?_
          rw [lg_exp, lg_best]
          rintro e w5 ⟨z, pb, pn, pc, rfl, hu, _, hb⟩
          refine held_more hK HS0.out hlt (Bc.out.trans (hb.mono Bc.out.size)) (fun Bc hSn => ?_)
          have HAP := Lib.hid (show ∀ g, z.ownBlock = some g → g ≠ bm from fun g hg e => by have h1 := (hu.lt g hg).1; have h2 := HN.out.lt; omega)
          have HNn := Lib.hid (HN.out.later hb)
          clear HN
          have HN := HNn
          clear HNn
          have HU := Lib.hid hu
          clear hb hK hu HW
          unfold nodeV
          refine tks [6, 7, 8, 9] 4 rfl (by kernel_rfl) (fun _ _ _ _ h => h) (by assumption) (fun KT hKT => ?_)
          iterate 4 (refine tkT (by (simp only [gA, gB, gC]; rfl)) (by rfl) (by (intro w hSw; (simp only [Holds] at hSw); go_simp <;> with_reducible rfl)) ?_; simp only [Act.put, pA, pB, pC])
          refine hKT _ ?_
          clear KT hKT
          refine tks [11] 1 rfl (by kernel_rfl) (fun _ _ _ _ h => h) (by assumption) (fun KT hKT => ?_)
          refine tkT (by (simp only [gA, gB, gC]; rfl)) (by rfl) (by (intro w hSw; (simp only [Holds] at hSw); go_simp <;> with_reducible rfl)) ?_
          simp only [Act.put, pA, pB, pC]
          refine hKT _ ?_
          clear KT hKT
          refine wpAnyH_ready (rs := [12]) (by kernel_rfl) (by simp) ?_
          refine (AllReadyH.cons (o := ?oz176) ?iz176 (fun K hK => ?kz176) AllReadyH.nil)
          case iz176 => (simp only [List.getElem?_toArray, List.getElem?_cons_zero, List.getElem?_cons_succ]; rfl)
          simp only [Act.put]
          rw [if_pos (by rfl)]
          refine wp_store_node (.tmp 4) (.tmp 20) (by rfl) bm _ _ _ ⟨nod0.s, nod0.cost, pb, pn, pc⟩ (by rfl) (by rfl) HN.out ?_
          intro wE hE hbE hoE hgE
          refine held_more hK HS0.out hlt (Bc.out.trans (hbE _ HLE.out)) (fun Bc hSn => ?_)
          clear hK
          have HUE := HU.out.keptN (fun e => HAP.out _ e rfl) hgE HN.out
          obtain ⟨g, cp, rfl, _⟩ := HUE.block (by decide)
          obtain ⟨qa, qc, hn, _, hpr⟩ := nrowB_here HUE.rowB 0 ⟨sg1, 3, [1]⟩ rfl
          have HF := Lib.hid (show ∃ g' cp' qa' qc', Value.slice (some ⟨g, 0, none⟩) 1 cp = .slice (some ⟨g', 0, none⟩) 1 cp' ∧ NodAt wE g' 0 sg1 3 (.slice qa' 1 qc') ∧ Row wE (.slice qa' 1 qc') (ints [1]) from ⟨g, cp, qa, qc, rfl, hn, hpr.row Bc.out⟩)
          clear hE hbE hoE hgE HUE hn hpr HU HAP HN
          refine tks [13] 1 rfl (by kernel_rfl) (fun _ _ _ _ h => h) (by assumption) (fun KT hKT => ?_)
          refine tkT (by (simp only [gA, gB, gC]; rfl)) (by rfl) (by (intro w hSw; (simp only [Holds] at hSw); go_simp <;> with_reducible rfl)) ?_
          simp only [Act.put, pA, pB, pC]
          refine hKT _ ?_
          clear KT hKT
          refine wpAnyH_done (by kernel_rfl) ?_ _
          go_wp2_with fail
          go_meet
          exact ⟨rfl, HF.out, HBd.out.trans (Bc.out.mono HBd.out.size)⟩
      · skip
        have HSZ := Lib.hid Bc.out.size
        go_simp
        refine held_more hK HS0.out hlt (Bc.out.alloc Bc.out.size _) (fun Bc hSn => ?_)
        clear hK
        have HN := Lib.hid (nod_new w3 noughtS 0 (.slice none 0 0))
        change wpAnyH _ _ _ _ _ _ _ _ (w3.alloc (boxN noughtS 0 (.slice none 0 0)))
        have Bc2 := Lib.hid (show Below V.heap.size V (w3.alloc (boxN noughtS 0 (.slice none 0 0))) from Bc.out)
        clear Bc
        have Bc := Bc2
        clear Bc2
        change Holds _ (w3.alloc (boxN noughtS 0 (.slice none 0 0))) at hSn
        have HQ := Lib.hid ((Below.refl w3.heap.size w3).alloc (Nat.le_refl _) (boxN noughtS 0 (.slice none 0 0)))
        generalize w3.alloc (boxN noughtS 0 (.slice none 0 0)) = Xn at *
        obtain ⟨bm, hbm⟩ : ∃ bm, bm = w3.heap.size := ⟨_, rfl⟩
        have HLE := Lib.hid (show V.heap.size ≤ bm by rw [hbm]; exact HSZ.out)
        rw [← hbm] at HN ⊢
        clear hbm HSZ
        clear HQ
        refine wpAnyH_ready (rs := [4]) (by kernel_rfl) (by simp) ?_
        refine AllReadyH.cons (o := ?oz177) ?iz177 (fun K hK => ?kz177) AllReadyH.nil
        case iz177 => (simp only [List.getElem?_toArray, List.getElem?_cons_zero, List.getElem?_cons_succ]; rfl)
        go_simp
        refine held_more hK HS0.out hlt (Bc.out.alloc Bc.out.size _) (fun Bc hSn => ?_)
        have HW := Lib.hid (show NRowB V (Xn.alloc (boxN sg0 0 (.slice none 0 0))) (.slice (some ⟨Xn.heap.size, 0, none⟩) 1 1) [⟨sg0, 0, []⟩] from ⟨[⟨sg0, 0, none, 0, 0⟩], nrow_one (heap_alloc_new Xn (boxN sg0 0 (.slice none 0 0))), ⟨rfl, rfl, .inl (row_nil _)⟩, trivial⟩)
        have HNn := Lib.hid (HN.out.later ((Below.refl _ Xn).alloc (Nat.le_refl _) (boxN sg0 0 (.slice none 0 0))))
        clear HN
        have HN := HNn
        clear HNn
        change wpAnyH _ _ _ _ _ _ _ _ (Xn.alloc (boxN sg0 0 (.slice none 0 0)))
        have Bc2 := Lib.hid (show Below V.heap.size V (Xn.alloc (boxN sg0 0 (.slice none 0 0))) from Bc.out)
        clear Bc
        have Bc := Bc2
        clear Bc2
        generalize Xn.alloc (boxN sg0 0 (.slice none 0 0)) = Y at *
        generalize Xn.heap.size = by1 at *
        refine wpAnyH_ready (rs := [5]) (by kernel_rfl) (by simp) ?_
        refine AllReadyH.cons (o := ?oz178) ?iz178 (fun K hK => ?kz178) AllReadyH.nil
        case iz178 => (simp only [List.getElem?_toArray, List.getElem?_cons_zero, List.getElem?_cons_succ]; rfl)
        go_simp
        change Calls _ _ #[insV smallI (.slice va 3 vc), .slice (some ⟨by1, 0, none⟩) 1 1, .int .i64 1152921504606846976] _ _
        refine (lexpand_any (I := smallI) (up := 1152921504606846976) (HVd.out.below Bc.out).row HW.out Bc.out lg_ok (by decide)).mono ?_
        rw [lg_exp, lg_best]
        rintro e w5 ⟨z, pb, pn, pc, rfl, hu, _, hb⟩
        refine held_more hK HS0.out hlt (Bc.out.trans (hb.mono Bc.out.size)) (fun Bc hSn => ?_)
        have HAP := Lib.hid (show ∀ g, z.ownBlock = some g → g ≠ bm from fun g hg e => by have h1 := (hu.lt g hg).1; have h2 := HN.out.lt; omega)
        have HNn := Lib.hid (HN.out.later hb)
        clear HN
        have HN := HNn
        clear HNn
        have HU := Lib.hid hu
        clear hb hK hu HW
        unfold nodeV
        refine tks [6, 7, 8, 9] 4 rfl (by kernel_rfl) (fun _ _ _ _ h => h) (by assumption) (fun KT hKT => ?_)
        iterate 4 (refine tkT (by (simp only [gA, gB, gC]; rfl)) (by rfl) (by (intro w hSw; (simp only [Holds] at hSw); go_simp <;> with_reducible rfl)) ?_; simp only [Act.put, pA, pB, pC])
        refine hKT _ ?_
        clear KT hKT
        refine tks [11] 1 rfl (by kernel_rfl) (fun _ _ _ _ h => h) (by assumption) (fun KT hKT => ?_)
        refine tkT (by (simp only [gA, gB, gC]; rfl)) (by rfl) (by (intro w hSw; (simp only [Holds] at hSw); go_simp <;> with_reducible rfl)) ?_
        simp only [Act.put, pA, pB, pC]
        refine hKT _ ?_
        clear KT hKT
        refine wpAnyH_ready (rs := [12]) (by kernel_rfl) (by simp) ?_
        refine (AllReadyH.cons (o := ?oz179) ?iz179 (fun K hK => ?kz179) AllReadyH.nil)
        case iz179 => (simp only [List.getElem?_toArray, List.getElem?_cons_zero, List.getElem?_cons_succ]; rfl)
        simp only [Act.put]
        rw [if_pos (by rfl)]
        refine wp_store_node (.tmp 4) (.tmp 20) (by rfl) bm _ _ _ ⟨nod0.s, nod0.cost, pb, pn, pc⟩ (by rfl) (by rfl) HN.out ?_
        intro wE hE hbE hoE hgE
        refine held_more hK HS0.out hlt (Bc.out.trans (hbE _ HLE.out)) (fun Bc hSn => ?_)
        clear hK
        have HUE := HU.out.keptN (fun e => HAP.out _ e rfl) hgE HN.out
        obtain ⟨g, cp, rfl, _⟩ := HUE.block (by decide)
        obtain ⟨qa, qc, hn, _, hpr⟩ := nrowB_here HUE.rowB 0 ⟨sg1, 3, [1]⟩ rfl
        have HF := Lib.hid (show ∃ g' cp' qa' qc', Value.slice (some ⟨g, 0, none⟩) 1 cp = .slice (some ⟨g', 0, none⟩) 1 cp' ∧ NodAt wE g' 0 sg1 3 (.slice qa' 1 qc') ∧ Row wE (.slice qa' 1 qc') (ints [1]) from ⟨g, cp, qa, qc, rfl, hn, hpr.row Bc.out⟩)
        clear hE hbE hoE hgE HUE hn hpr HU HAP HN
        refine tks [13] 1 rfl (by kernel_rfl) (fun _ _ _ _ h => h) (by assumption) (fun KT hKT => ?_)
        refine tkT (by (simp only [gA, gB, gC]; rfl)) (by rfl) (by (intro w hSw; (simp only [Holds] at hSw); go_simp <;> with_reducible rfl)) ?_
        simp only [Act.put, pA, pB, pC]
        refine hKT _ ?_
        clear KT hKT
        refine wpAnyH_done (by kernel_rfl) ?_ _
        go_wp2_with fail
        go_meet
        exact ⟨rfl, HF.out, HBd.out.trans (Bc.out.mono HBd.out.size)⟩
    · skip
      have HSZ := Lib.hid Bc.out.size
      go_simp
      refine held_more hK HS0.out hlt (Bc.out.alloc Bc.out.size _) (fun Bc hSn => ?_)
      clear hK
      have HN := Lib.hid (nod_new V noughtS 0 (.slice none 0 0))
      change wpAnyH _ _ _ _ _ _ _ _ (V.alloc (boxN noughtS 0 (.slice none 0 0)))
      have Bc2 := Lib.hid (show Below V.heap.size V (V.alloc (boxN noughtS 0 (.slice none 0 0))) from Bc.out)
      clear Bc
      have Bc := Bc2
      clear Bc2
      change Holds _ (V.alloc (boxN noughtS 0 (.slice none 0 0))) at hSn
      have HQ := Lib.hid ((Below.refl V.heap.size V).alloc (Nat.le_refl _) (boxN noughtS 0 (.slice none 0 0)))
      generalize V.alloc (boxN noughtS 0 (.slice none 0 0)) = Xn at *
      obtain ⟨bm, hbm⟩ : ∃ bm, bm = V.heap.size := ⟨_, rfl⟩
      have HLE := Lib.hid (show V.heap.size ≤ bm by rw [hbm]; exact HSZ.out)
      rw [← hbm] at HN ⊢
      clear hbm HSZ
      clear HQ
      refine wpAnyH_ready (rs := [2]) (by kernel_rfl) (by simp) ?_
      refine AllReadyH.cons (o := ?oz180) ?iz180 (fun K hK => ?kz180) AllReadyH.nil
      case iz180 => (simp only [List.getElem?_toArray, List.getElem?_cons_zero, List.getElem?_cons_succ]; rfl)
      go_simp
      change Calls _ _ #[insV smallI (.slice va 3 vc)] _ _
      refine (sroot_any (I := smallI) (HVd.out.below Bc.out).row).mono ?_
      rw [sg_root]
      rintro e w3 ⟨rfl, hb⟩
      refine held_more hK HS0.out hlt (Bc.out.trans (hb.mono Bc.out.size)) (fun Bc hSn => ?_)
      have HNn := Lib.hid (HN.out.later hb)
      clear HN
      have HN := HNn
      clear HNn
      clear hb hK
      unfold staV sg0
      refine tks [3] 1 rfl (by kernel_rfl) (fun _ _ _ _ h => h) (by assumption) (fun KT hKT => ?_)
      refine tkT (by (simp only [gA, gB, gC]; rfl)) (by rfl) (by (intro w hSw; (simp only [Holds] at hSw); go_simp <;> with_reducible rfl)) ?_
      simp only [Act.put, pA, pB, pC]
      refine hKT _ ?_
      clear KT hKT
      refine wpAnyH_ready (rs := [4]) (by kernel_rfl) (by simp) ?_
      refine AllReadyH.cons (o := ?oz181) ?iz181 (fun K hK => ?kz181) AllReadyH.nil
      case iz181 => (simp only [List.getElem?_toArray, List.getElem?_cons_zero, List.getElem?_cons_succ]; rfl)
      go_simp
      refine held_more hK HS0.out hlt (Bc.out.alloc Bc.out.size _) (fun Bc hSn => ?_)
      have HW := Lib.hid (show NRowB V (w3.alloc (boxN sg0 0 (.slice none 0 0))) (.slice (some ⟨w3.heap.size, 0, none⟩) 1 1) [⟨sg0, 0, []⟩] from ⟨[⟨sg0, 0, none, 0, 0⟩], nrow_one (heap_alloc_new w3 (boxN sg0 0 (.slice none 0 0))), ⟨rfl, rfl, .inl (row_nil _)⟩, trivial⟩)
      have HNn := Lib.hid (HN.out.later ((Below.refl _ w3).alloc (Nat.le_refl _) (boxN sg0 0 (.slice none 0 0))))
      clear HN
      have HN := HNn
      clear HNn
      change wpAnyH _ _ _ _ _ _ _ _ (w3.alloc (boxN sg0 0 (.slice none 0 0)))
      have Bc2 := Lib.hid (show Below V.heap.size V (w3.alloc (boxN sg0 0 (.slice none 0 0))) from Bc.out)
      clear Bc
      have Bc := Bc2
      clear Bc2
      generalize w3.alloc (boxN sg0 0 (.slice none 0 0)) = Y at *
      generalize w3.heap.size = by1 at *
      refine wpAnyH_ready (rs := [5]) (by kernel_rfl) (by simp) ?_
      refine AllReadyH.cons (o := ?oz182) ?iz182 (fun K hK => ?kz182) AllReadyH.nil
      case iz182 => (simp only [List.getElem?_toArray, List.getElem?_cons_zero, List.getElem?_cons_succ]; rfl)
      go_simp
      change Calls _ _ #[insV smallI (.slice va 3 vc), .slice (some ⟨by1, 0, none⟩) 1 1, .int .i64 1152921504606846976] _ _
      refine (lexpand_any (I := smallI) (up := 1152921504606846976) (HVd.out.below Bc.out).row HW.out Bc.out lg_ok (by decide)).mono ?_
      rw [lg_exp, lg_best]
      rintro e w5 ⟨z, pb, pn, pc, rfl, hu, _, hb⟩
      refine held_more hK HS0.out hlt (Bc.out.trans (hb.mono Bc.out.size)) (fun Bc hSn => ?_)
      have HAP := Lib.hid (show ∀ g, z.ownBlock = some g → g ≠ bm from fun g hg e => by have h1 := (hu.lt g hg).1; have h2 := HN.out.lt; omega)
      have HNn := Lib.hid (HN.out.later hb)
      clear HN
      have HN := HNn
      clear HNn
      have HU := Lib.hid hu
      clear hb hK hu HW
      unfold nodeV
      refine tks [6, 7, 8, 9] 4 rfl (by kernel_rfl) (fun _ _ _ _ h => h) (by assumption) (fun KT hKT => ?_)
      iterate 4 (refine tkT (by (simp only [gA, gB, gC]; rfl)) (by rfl) (by (intro w hSw; (simp only [Holds] at hSw); go_simp <;> with_reducible rfl)) ?_; simp only [Act.put, pA, pB, pC])
      refine hKT _ ?_
      clear KT hKT
      refine tks [11] 1 rfl (by kernel_rfl) (fun _ _ _ _ h => h) (by assumption) (fun KT hKT => ?_)
      refine tkT (by (simp only [gA, gB, gC]; rfl)) (by rfl) (by (intro w hSw; (simp only [Holds] at hSw); go_simp <;> with_reducible rfl)) ?_
      simp only [Act.put, pA, pB, pC]
      refine hKT _ ?_
      clear KT hKT
      refine wpAnyH_ready (rs := [12]) (by kernel_rfl) (by simp) ?_
      refine (AllReadyH.cons (o := ?oz183) ?iz183 (fun K hK => ?kz183) AllReadyH.nil)
      case iz183 => (simp only [List.getElem?_toArray, List.getElem?_cons_zero, List.getElem?_cons_succ]; rfl)
      simp only [Act.put]
      rw [if_pos (by rfl)]
      refine wp_store_node (.tmp 4) (.tmp 20) (by rfl) bm _ _ _ ⟨nod0.s, nod0.cost, pb, pn, pc⟩ (by rfl) (by rfl) HN.out ?_
      intro wE hE hbE hoE hgE
      refine held_more hK HS0.out hlt (Bc.out.trans (hbE _ HLE.out)) (fun Bc hSn => ?_)
      clear hK
      have HUE := HU.out.keptN (fun e => HAP.out _ e rfl) hgE HN.out
      obtain ⟨g, cp, rfl, _⟩ := HUE.block (by decide)
      obtain ⟨qa, qc, hn, _, hpr⟩ := nrowB_here HUE.rowB 0 ⟨sg1, 3, [1]⟩ rfl
      have HF := Lib.hid (show ∃ g' cp' qa' qc', Value.slice (some ⟨g, 0, none⟩) 1 cp = .slice (some ⟨g', 0, none⟩) 1 cp' ∧ NodAt wE g' 0 sg1 3 (.slice qa' 1 qc') ∧ Row wE (.slice qa' 1 qc') (ints [1]) from ⟨g, cp, qa, qc, rfl, hn, hpr.row Bc.out⟩)
      clear hE hbE hoE hgE HUE hn hpr HU HAP HN
      refine tks [13] 1 rfl (by kernel_rfl) (fun _ _ _ _ h => h) (by assumption) (fun KT hKT => ?_)
      refine tkT (by (simp only [gA, gB, gC]; rfl)) (by rfl) (by (intro w hSw; (simp only [Holds] at hSw); go_simp <;> with_reducible rfl)) ?_
      simp only [Act.put, pA, pB, pC]
      refine hKT _ ?_
      clear KT hKT
      refine wpAnyH_done (by kernel_rfl) ?_ _
      go_wp2_with fail
      go_meet
      exact ⟨rfl, HF.out, HBd.out.trans (Bc.out.mono HBd.out.size)⟩
  case rest =>
  obtain ⟨rfl, ⟨g, cp, qa, qc, rfl, hn, hp⟩, hb⟩ := hcut
  have HB3 := Lib.hid hb
  have c0 : wc.cell? ⟨g, 0, none⟩ = some (.int .i64 1) := hn.1
  have c8 : wc.cell? ⟨g, 8, none⟩ = some (.int .i64 3) := hn.2.2.2.2.2.2.2.2.1
  have c9 : wc.cell? ⟨g, 9, none⟩ = some (.slice qa 1 qc) := hn.2.2.2.2.2.2.2.2.2
  clear hn
  obtain ⟨b2, o2, c2', he, hc, _, _⟩ := row_at (p := 0) hp (by decide)
  simp only [Value.slice.injEq] at he
  obtain ⟨rfl, -, rfl⟩ := he
  have hc' : wc.cell? ⟨b2, o2, none⟩ = some (.int .i64 1) := hc
  clear hb hp hc
  go_wp2
  go_ret
  exact ⟨rfl, HB3.out⟩
end Go.Proofs.YtkljmnfekdoocaaGreat
