/- The chapter's example (narrow). -/
import Derived.Test.YtgplajofemencaaGreatNProg
import Derived.Test.YtgplajofemencaaGreatXIMay
import Derived.Test.YtgplajofemencaaGreatXTSched
import Derived.Test.YtgplajofemencaaGreatYF
import Derived.Test.YtgplajofemencaaGreatYI
namespace Go.Proofs.YtgplajofemencaaGreat
open Go.ChangeShapes Go.WideShapes Go.ChangeAt Go.RowKit

theorem eg_far0 : farS1 smallI sg0 1 = 3 := small_f1
theorem eg_far1 : farS1 smallI sg1 2 = 5 := small_f2
theorem eg_moves0 : movesS smallI sg0 = [1] := by rw [← sg_root]; exact sg_moves
theorem eg_taken {s : Sta} {j : Int} (h : has s.must j = true) (hj : j ≠ 0) : ¬ Can smallI s j := fun hc => by
  rcases hc.2 with k | k | k
  · have k2 := k.2.1
    rw [h] at k2; cases k2
  · have k2 := k.2.2.1
    rw [h] at k2; cases k2
  · exact hj k.1
theorem eg_moves1 : movesS smallI sg1 = [2] := by
  show movesN smallI sg1 3 = [2]
  rw [movesN_succ, if_pos (by exact sg_can2), movesN_succ, if_neg (by exact eg_taken (by decide +kernel) (by decide)), movesN_succ, if_neg (by exact fun h => absurd (can_zero h).2.2.1 (by decide)), movesN_zero]; rfl
theorem eg_moves2 : movesS smallI sg2 = [] := by
  show movesN smallI sg2 3 = []
  rw [movesN_succ, if_neg (by exact eg_taken (by decide +kernel) (by decide)), movesN_succ, if_neg (by exact eg_taken (by decide +kernel) (by decide)), movesN_succ, if_neg (by exact fun h => absurd (can_zero h).2.2.2.1 (by decide)), movesN_zero]
theorem eg_kids0 : kidsN smallI ⟨sg0, 0, []⟩ = [⟨sg1, 3, [1]⟩] := by
  unfold kidsN
  rw [eg_moves0]
  show [childN smallI ⟨sg0, 0, []⟩ 1] = _
  unfold childN
  rw [sg_next1, eg_far0]; rfl
theorem eg_kids1 : kidsN smallI ⟨sg1, 3, [1]⟩ = [⟨sg2, 8, [1, 2]⟩] := by
  unfold kidsN
  rw [eg_moves1]
  show [childN smallI ⟨sg1, 3, [1]⟩ 2] = _
  unfold childN
  rw [sg_next2, eg_far1]; rfl
theorem eg_kids2 : kidsN smallI ⟨sg2, 8, [1, 2]⟩ = [] := by
  unfold kidsN
  rw [eg_moves2]; rfl
theorem eg_exp0 : expandL smallI 1152921504606846976 [⟨sg0, 0, []⟩] = [⟨sg1, 3, [1]⟩] := by
  unfold expandL kidsL
  rw [List.flatMap_cons, List.flatMap_nil, List.append_nil, eg_kids0]
  have h : ofB smallI ⟨sg1, 3, [1]⟩ < 1152921504606846976 := by
    have h1 := bound_hi smallI sg1
    have h2 := bound_pos smallI sg1
    have h3 := sum_le (a := 3) (b := boundS smallI sg1) (by decide) h2
    show sumOf [3, boundS smallI sg1] < _
    omega
  rw [List.filter_cons, if_pos (by exact decide_eq_true h)]
  rfl
theorem eg_exp1 : expandL smallI 1152921504606846976 [⟨sg1, 3, [1]⟩] = [⟨sg2, 8, [1, 2]⟩] := by
  unfold expandL kidsL
  rw [List.flatMap_cons, List.flatMap_nil, List.append_nil, eg_kids1]
  have h : ofB smallI ⟨sg2, 8, [1, 2]⟩ < 1152921504606846976 := by
    have h1 := bound_hi smallI sg2
    have h2 := bound_pos smallI sg2
    have h3 := sum_le (a := 8) (b := boundS smallI sg2) (by decide) h2
    show sumOf [8, boundS smallI sg2] < _
    omega
  rw [List.filter_cons, if_pos (by exact decide_eq_true h)]
  rfl
theorem eg_exp2 : expandL smallI 1152921504606846976 [⟨sg2, 8, [1, 2]⟩] = [] := by
  unfold expandL kidsL
  rw [List.flatMap_cons, List.flatMap_nil, List.append_nil, eg_kids2]; rfl
theorem eg_best0 : bestL smallI [⟨sg0, 0, []⟩] = none := by
  show bestStep smallI none ⟨sg0, 0, []⟩ = none
  unfold bestStep
  rw [if_neg]
  rintro (⟨_, h, _⟩ | ⟨_, h, _⟩)
  · revert h; decide
  · exact h rfl
theorem eg_best1 : bestL smallI [⟨sg1, 3, [1]⟩] = none := by
  show bestStep smallI none ⟨sg1, 3, [1]⟩ = none
  unfold bestStep
  rw [if_neg]
  rintro (⟨_, h, _⟩ | ⟨_, _, h, _⟩)
  · revert h; decide
  · revert h; decide
theorem eg_best2 : bestL smallI [⟨sg2, 8, [1, 2]⟩] = some ⟨sg2, 12, [1, 2]⟩ := by
  show bestStep smallI none ⟨sg2, 8, [1, 2]⟩ = _
  unfold bestStep
  rw [if_pos (by exact sg_end)]
  show some (endN smallI ⟨sg2, 8, [1, 2]⟩) = _
  unfold endN
  rw [sg_cost]; rfl
theorem eg_fit : SetsOk sg0 ∧ FitSt sg0 ∧ Fit 0 := by
  refine ⟨by unfold SetsOk; decide, ?_, ?_⟩
  · unfold FitSt Fit; decide
  · unfold Fit; decide
theorem ng_sort (x : Nod) : (sortedL smallI [x]).take (widN 1) = [x] := rfl
theorem ng_sort0 : (sortedL smallI []).take (widN 1) = [] := rfl
theorem ng_run : narrowRun smallI (widN 1) 44 [⟨sg0, 0, []⟩] none 1152921504606846976 0 = (some ⟨sg2, 12, [1, 2]⟩, 3) := by
  refine (nrun_on (I := smallI) (wn := widN 1) (f := 43) (l := [⟨sg0, 0, []⟩]) (b := none) (up := 1152921504606846976) (st := 0) (by simp)).trans ?_
  rw [eg_exp0, eg_best0, ng_sort]
  refine (nrun_on (I := smallI) (wn := widN 1) (f := 42) (l := [⟨sg1, 3, [1]⟩]) (b := none) (up := 1152921504606846976) (st := 1) (by simp)).trans ?_
  rw [eg_exp1, eg_best1, ng_sort]
  refine (nrun_on (I := smallI) (wn := widN 1) (f := 41) (l := [⟨sg2, 8, [1, 2]⟩]) (b := none) (up := 1152921504606846976) (st := 2) (by simp)).trans ?_
  rw [eg_exp2, eg_best2, ng_sort0, show stepUp none 1152921504606846976 (some ⟨sg2, 12, [1, 2]⟩) = (some ⟨sg2, 12, [1, 2]⟩, 12) by
    show (if (12 : Int) < 1152921504606846976 then ((some ⟨sg2, 12, [1, 2]⟩ : Option Nod), (12 : Int)) else (none, 1152921504606846976)) = _
    exact if_pos (by decide)]
  rfl
set_option maxRecDepth 1000000 in
set_option maxHeartbeats 4000000 in
theorem nawake_any (w : World) : Calls Tryz.prog 8 #[] w fun e w' => e = .returned (.bool true) ∧ Below w.heap.size w w' := by
  have kc := fun w s => Lib.run_convert_string_bytes (P := Tryz.prog) w 9 53 5 s Tryz.underlying9 Tryz.underlying53 Tryz.underlying5
  go_enter Tryz.func8, Tryz.ntmps8
  go_wp2_with fail
  refine (small_any _).mono ?_
  rintro e w' ⟨rfl, rfl⟩
  obtain ⟨sv, hsv⟩ : ∃ sv, strOfNums smallB = sv := ⟨_, rfl⟩
  rw [hsv]
  have HR0 := Lib.hid (conv_back (w := w) hsv.symm (by decide) (by decide))
  have HB0 := Lib.hid (conv_below w sv)
  clear hsv
  go_wp2_with fail
  refine (parse_any HR0.out).mono ?_
  rintro e w1 ⟨v, rfl, hv, hb⟩
  rw [small_ok.1, small_ok.2.1] at *
  have HB1 := Lib.hid (HB0.out.trans (hb.mono HB0.out.size))
  have HV1 := Lib.hid hv
  obtain ⟨va, vc, rfl⟩ := hv.shape
  clear hv hb HR0 HB0
  unfold insV
  go_upto_region 2 with fail
  have HY := Lib.hid (ybox_new w1 smallI (.slice va 3 vc))
  have HB := Lib.hid (HB1.out.alloc HB1.out.size (boxI smallI (.slice va 3 vc)))
  have HR := Lib.hid (HV1.out.alloc (boxI smallI (.slice va 3 vc))).row
  clear HB1 HV1
  change Code.wp _ _ _ _ (w1.alloc (boxI smallI (.slice va 3 vc)))
  generalize w1.alloc (boxI smallI (.slice va 3 vc)) = W at *
  generalize w1.heap.size = by0 at *
  obtain ⟨o1, ho1⟩ : ∃ o, (narrowRun smallI (widN 1) 44 [⟨sg0, 0, []⟩] none 1152921504606846976 0).1 = o := ⟨_, rfl⟩
  obtain ⟨st1, hst1⟩ : ∃ o, (narrowRun smallI (widN 1) 44 [⟨sg0, 0, []⟩] none 1152921504606846976 0).2 = o := ⟨_, rfl⟩
  obtain ⟨bs1, hbs1⟩ : ∃ b, bestV o1 = b := ⟨_, rfl⟩
  obtain ⟨is1, his1⟩ : ∃ b, o1.isSome = b := ⟨_, rfl⟩
  have HO1 := Lib.hid ho1
  have HST1 := Lib.hid hst1
  have HBS1 := Lib.hid hbs1
  have HIS1 := Lib.hid his1
  clear ho1 hst1 hbs1 his1
  go_cut [3, 4, 5] from 12 (fun p v0 v1 wx => ∃ bb pb pn pc, p = .pointer (some ⟨bb, 0, none⟩) ∧ v0 = .bool is1 ∧ v1 = .int .i64 st1 ∧ NodB wx bb bs1.s bs1.cost (.slice pb pn pc) ∧ Row wx (.slice pb pn pc) (ints bs1.path) ∧ Below W.heap.size W wx)
  case first =>
    have HBR := Lib.hid (Below.refl W.heap.size W).drew
    have HYn := Lib.hid (HY.out.later (Below.refl _ W).drew)
    have HRn := Lib.hid (HR.out.below (Below.refl _ W).drew)
    have HBn := Lib.hid HB.out.drew
    clear HY HR HB
    have HY := HYn
    have HR := HRn
    have HB := HBn
    clear HYn HRn HBn
    have HS0 := Lib.hid (show Holds (cellsI by0 smallI (.slice va 3 vc)) W.drew from ⟨HY.out.cells.1, HY.out.cells.2.1, HY.out.cells.2.2.1, HY.out.cells.2.2.2, trivial⟩)
    refine wp_region_held_drew (S := Holds (cellsI by0 smallI (.slice va 3 vc))) (by kernel_rfl) HS0.out (fun hSn => ?_)
    generalize W.drew = V at *
    have hlt := Lib.hid (show Lows V.heap.size (cellsI by0 smallI (.slice va 3 vc)) from (show Lows _ (cellsI by0 smallI (.slice va 3 vc)) from ⟨HY.out.lt, HY.out.lt, HY.out.lt, HY.out.lt, trivial⟩))
    have Bc := Lib.hid (Below.refl V.heap.size V)
    simp only [cellsI] at HS0 hlt hSn ⊢
    refine tks [0, 1] 2 rfl (by kernel_rfl) (fun _ _ _ _ h => h) (by assumption) (fun KT hKT => ?_)
    iterate 2 (refine tkT (by (simp only [gA, gB, gC]; rfl)) (by rfl) (by (intro w hSw; (simp only [Holds] at hSw); go_simp <;> with_reducible rfl)) ?_; simp only [Act.put, pA, pB, pC])
    refine hKT _ ?_
    clear KT hKT
    refine wpAnyH_ready (rs := [2, 9]) (by kernel_rfl) (by simp) ?_
    refine (AllReadyH.cons (o := ?oz301) ?iz301 (fun K hK => ?kz301) (AllReadyH.cons (o := ?oz302) ?iz302 (fun K hK => ?kz302) AllReadyH.nil))
    case iz301 => (simp only [List.getElem?_toArray, List.getElem?_cons_zero, List.getElem?_cons_succ]; rfl)
    case iz302 => (simp only [List.getElem?_toArray, List.getElem?_cons_zero, List.getElem?_cons_succ]; rfl)
    · skip
      go_simp
      change Calls _ _ #[insV smallI (.slice va 3 vc)] _ _
      refine (sroot_any (HR.out.below Bc.out)).mono ?_
      rintro e w' ⟨rfl, hb⟩
      refine held_more hK HS0.out hlt (Bc.out.trans (hb.mono Bc.out.size)) (fun Bc hSn => ?_)
      clear hb hK
      rw [sg_root]
      unfold staV sg0
      refine tks [3] 1 rfl (by kernel_rfl) (fun _ _ _ _ h => h) (by assumption) (fun KT hKT => ?_)
      refine tkT (by (simp only [gA, gB, gC]; rfl)) (by rfl) (by (intro w hSw; (simp only [Holds] at hSw); go_simp <;> with_reducible rfl)) ?_
      simp only [Act.put, pA, pB, pC]
      refine hKT _ ?_
      clear KT hKT
      refine wpAnyH_ready (rs := [4, 9]) (by kernel_rfl) (by simp) ?_
      refine (AllReadyH.cons (o := ?oz303) ?iz303 (fun K hK => ?kz303) (AllReadyH.cons (o := ?oz304) ?iz304 (fun K hK => ?kz304) AllReadyH.nil))
      case iz303 => (simp only [List.getElem?_toArray, List.getElem?_cons_zero, List.getElem?_cons_succ]; rfl)
      case iz304 => (simp only [List.getElem?_toArray, List.getElem?_cons_zero, List.getElem?_cons_succ]; rfl)
      · skip
        go_simp
        change Calls _ _ #[insV smallI (.slice va 3 vc), nodeV sg0 0 (.slice none 0 0), .int .i64 1, .int .i64 1152921504606846976] _ _
        refine (nbest_any (I := smallI) (n := ⟨sg0, 0, []⟩) (up := 1152921504606846976) (width := 1) (w0 := V) (HR.out.below Bc.out) Bc.out eg_fit.1 eg_fit.2.1 eg_fit.2.2 (.inl (row_nil V)) (by decide) (by decide)).mono ?_
        rw [HO1.out, HST1.out, HBS1.out, HIS1.out]
        rintro e w6 ⟨pb, pn, pc, rfl, hp, hb⟩
        refine held_more hK HS0.out hlt (Bc.out.trans (hb.mono Bc.out.size)) (fun Bc hSn => ?_)
        have HPX := Lib.hid hp
        clear hb hK hp
        unfold nodeV
        refine tks [5, 6, 7, 8] 4 rfl (by kernel_rfl) (fun _ _ _ _ h => h) (by assumption) (fun KT hKT => ?_)
        iterate 4 (refine tkT (by (simp only [gA, gB, gC]; rfl)) (by rfl) (by (intro w hSw; (simp only [Holds] at hSw); go_simp <;> with_reducible rfl)) ?_; simp only [Act.put, pA, pB, pC])
        refine hKT _ ?_
        clear KT hKT
        have HSZ := Lib.hid Bc.out.size
        refine wpAnyH_ready (rs := [9]) (by kernel_rfl) (by simp) ?_
        refine AllReadyH.cons (o := ?oz305) ?iz305 (fun K hK => ?kz305) AllReadyH.nil
        case iz305 => (simp only [List.getElem?_toArray, List.getElem?_cons_zero, List.getElem?_cons_succ]; rfl)
        go_simp
        refine held_more hK HS0.out hlt (Bc.out.alloc Bc.out.size _) (fun Bc hSn => ?_)
        have HN := Lib.hid (nod_new w6 noughtS 0 (.slice none 0 0))
        change wpAnyH _ _ _ _ _ _ _ _ (w6.alloc (boxN noughtS 0 (.slice none 0 0)))
        have Bc2 := Lib.hid (show Below V.heap.size V (w6.alloc (boxN noughtS 0 (.slice none 0 0))) from Bc.out)
        clear Bc
        have Bc := Bc2
        clear Bc2
        change Holds _ (w6.alloc (boxN noughtS 0 (.slice none 0 0))) at hSn
        have HPXn := Lib.hid (HPX.out.below ((Below.refl w6.heap.size w6).alloc (Nat.le_refl _) (boxN noughtS 0 (.slice none 0 0))))
        clear HPX
        have HPX := HPXn
        clear HPXn
        generalize w6.alloc (boxN noughtS 0 (.slice none 0 0)) = Xn at *
        obtain ⟨bx, hbx⟩ : ∃ bx, bx = w6.heap.size := ⟨_, rfl⟩
        have HLX := Lib.hid (show V.heap.size ≤ bx by rw [hbx]; exact HSZ.out)
        rw [← hbx] at HN ⊢
        clear hbx HSZ
        refine wpAnyH_ready (rs := [10]) (by kernel_rfl) (by simp) ?_
        refine (AllReadyH.cons (o := ?oz306) ?iz306 (fun K hK => ?kz306) AllReadyH.nil)
        case iz306 => (simp only [List.getElem?_toArray, List.getElem?_cons_zero, List.getElem?_cons_succ]; rfl)
        simp only [Act.put]
        rw [if_pos (by rfl)]
        refine wp_store_node (.tmp 3) (.tmp 18) (by rfl) bx _ _ _ ⟨bs1.s, bs1.cost, pb, pn, pc⟩ (by rfl) (by rfl) HN.out ?_
        intro wE hE hbE hoE hgE
        refine held_more hK HS0.out hlt (Bc.out.trans (hbE _ HLX.out)) (fun Bc hSn => ?_)
        have HPE := HPX.out.kept hgE HN.out
        clear hK
        refine tks [11, 12] 2 rfl (by kernel_rfl) (fun _ _ _ _ h => h) (by assumption) (fun KT hKT => ?_)
        iterate 2 (refine tkT (by (simp only [gA, gB, gC]; rfl)) (by rfl) (by (intro w hSw; (simp only [Holds] at hSw); go_simp <;> with_reducible rfl)) ?_; simp only [Act.put, pA, pB, pC])
        refine hKT _ ?_
        clear KT hKT
        refine wpAnyH_done (by kernel_rfl) ?_ _
        go_wp2_with fail
        go_meet
        exact ⟨bx, pb, pn, pc, rfl, rfl, rfl, hE, HPE.row Bc.out, HBR.out.trans (Bc.out.mono HBR.out.size)⟩
      · skip
        have HSZ := Lib.hid Bc.out.size
        go_simp
        refine held_more hK HS0.out hlt (Bc.out.alloc Bc.out.size _) (fun Bc hSn => ?_)
        clear hK
        have HN := Lib.hid (nod_new w' noughtS 0 (.slice none 0 0))
        change wpAnyH _ _ _ _ _ _ _ _ (w'.alloc (boxN noughtS 0 (.slice none 0 0)))
        have Bc2 := Lib.hid (show Below V.heap.size V (w'.alloc (boxN noughtS 0 (.slice none 0 0))) from Bc.out)
        clear Bc
        have Bc := Bc2
        clear Bc2
        change Holds _ (w'.alloc (boxN noughtS 0 (.slice none 0 0))) at hSn
        generalize w'.alloc (boxN noughtS 0 (.slice none 0 0)) = Xn at *
        obtain ⟨bx, hbx⟩ : ∃ bx, bx = w'.heap.size := ⟨_, rfl⟩
        have HLX := Lib.hid (show V.heap.size ≤ bx by rw [hbx]; exact HSZ.out)
        rw [← hbx] at HN ⊢
        clear hbx HSZ
        refine wpAnyH_ready (rs := [4]) (by kernel_rfl) (by simp) ?_
        refine AllReadyH.cons (o := ?oz307) ?iz307 (fun K hK => ?kz307) AllReadyH.nil
        case iz307 => (simp only [List.getElem?_toArray, List.getElem?_cons_zero, List.getElem?_cons_succ]; rfl)
        go_simp
        change Calls _ _ #[insV smallI (.slice va 3 vc), nodeV sg0 0 (.slice none 0 0), .int .i64 1, .int .i64 1152921504606846976] _ _
        refine (nbest_any (I := smallI) (n := ⟨sg0, 0, []⟩) (up := 1152921504606846976) (width := 1) (w0 := V) (HR.out.below Bc.out) Bc.out eg_fit.1 eg_fit.2.1 eg_fit.2.2 (.inl (row_nil V)) (by decide) (by decide)).mono ?_
        rw [HO1.out, HST1.out, HBS1.out, HIS1.out]
        rintro e w6 ⟨pb, pn, pc, rfl, hp, hb⟩
        refine held_more hK HS0.out hlt (Bc.out.trans (hb.mono Bc.out.size)) (fun Bc hSn => ?_)
        have HNn := Lib.hid (HN.out.later hb)
        clear HN
        have HN := HNn
        clear HNn
        have HPX := Lib.hid hp
        clear hb hK hp
        unfold nodeV
        refine tks [5, 6, 7, 8] 4 rfl (by kernel_rfl) (fun _ _ _ _ h => h) (by assumption) (fun KT hKT => ?_)
        iterate 4 (refine tkT (by (simp only [gA, gB, gC]; rfl)) (by rfl) (by (intro w hSw; (simp only [Holds] at hSw); go_simp <;> with_reducible rfl)) ?_; simp only [Act.put, pA, pB, pC])
        refine hKT _ ?_
        clear KT hKT
        refine wpAnyH_ready (rs := [10]) (by kernel_rfl) (by simp) ?_
        refine (AllReadyH.cons (o := ?oz308) ?iz308 (fun K hK => ?kz308) AllReadyH.nil)
        case iz308 => (simp only [List.getElem?_toArray, List.getElem?_cons_zero, List.getElem?_cons_succ]; rfl)
        simp only [Act.put]
        rw [if_pos (by rfl)]
        refine wp_store_node (.tmp 3) (.tmp 18) (by rfl) bx _ _ _ ⟨bs1.s, bs1.cost, pb, pn, pc⟩ (by rfl) (by rfl) HN.out ?_
        intro wE hE hbE hoE hgE
        refine held_more hK HS0.out hlt (Bc.out.trans (hbE _ HLX.out)) (fun Bc hSn => ?_)
        have HPE := HPX.out.kept hgE HN.out
        clear hK
        refine tks [11, 12] 2 rfl (by kernel_rfl) (fun _ _ _ _ h => h) (by assumption) (fun KT hKT => ?_)
        iterate 2 (refine tkT (by (simp only [gA, gB, gC]; rfl)) (by rfl) (by (intro w hSw; (simp only [Holds] at hSw); go_simp <;> with_reducible rfl)) ?_; simp only [Act.put, pA, pB, pC])
        refine hKT _ ?_
        clear KT hKT
        refine wpAnyH_done (by kernel_rfl) ?_ _
        go_wp2_with fail
        go_meet
        exact ⟨bx, pb, pn, pc, rfl, rfl, rfl, hE, HPE.row Bc.out, HBR.out.trans (Bc.out.mono HBR.out.size)⟩
    · skip
      have HSZ := Lib.hid Bc.out.size
      go_simp
      refine held_more hK HS0.out hlt (Bc.out.alloc Bc.out.size _) (fun Bc hSn => ?_)
      clear hK
      have HN := Lib.hid (nod_new V noughtS 0 (.slice none 0 0))
      change wpAnyH _ _ _ _ _ _ _ _ (V.alloc (boxN noughtS 0 (.slice none 0 0)))
      have Bc2 := Lib.hid (show Below V.heap.size V (V.alloc (boxN noughtS 0 (.slice none 0 0))) from Bc.out)
      clear Bc
      have Bc := Bc2
      clear Bc2
      change Holds _ (V.alloc (boxN noughtS 0 (.slice none 0 0))) at hSn
      generalize V.alloc (boxN noughtS 0 (.slice none 0 0)) = Xn at *
      obtain ⟨bx, hbx⟩ : ∃ bx, bx = V.heap.size := ⟨_, rfl⟩
      have HLX := Lib.hid (show V.heap.size ≤ bx by rw [hbx]; exact HSZ.out)
      rw [← hbx] at HN ⊢
      clear hbx HSZ
      refine wpAnyH_ready (rs := [2]) (by kernel_rfl) (by simp) ?_
      refine AllReadyH.cons (o := ?oz309) ?iz309 (fun K hK => ?kz309) AllReadyH.nil
      case iz309 => (simp only [List.getElem?_toArray, List.getElem?_cons_zero, List.getElem?_cons_succ]; rfl)
      go_simp
      change Calls _ _ #[insV smallI (.slice va 3 vc)] _ _
      refine (sroot_any (HR.out.below Bc.out)).mono ?_
      rintro e w' ⟨rfl, hb⟩
      refine held_more hK HS0.out hlt (Bc.out.trans (hb.mono Bc.out.size)) (fun Bc hSn => ?_)
      have HNn := Lib.hid (HN.out.later hb)
      clear HN
      have HN := HNn
      clear HNn
      clear hb hK
      rw [sg_root]
      unfold staV sg0
      refine tks [3] 1 rfl (by kernel_rfl) (fun _ _ _ _ h => h) (by assumption) (fun KT hKT => ?_)
      refine tkT (by (simp only [gA, gB, gC]; rfl)) (by rfl) (by (intro w hSw; (simp only [Holds] at hSw); go_simp <;> with_reducible rfl)) ?_
      simp only [Act.put, pA, pB, pC]
      refine hKT _ ?_
      clear KT hKT
      refine wpAnyH_ready (rs := [4]) (by kernel_rfl) (by simp) ?_
      refine AllReadyH.cons (o := ?oz310) ?iz310 (fun K hK => ?kz310) AllReadyH.nil
      case iz310 => (simp only [List.getElem?_toArray, List.getElem?_cons_zero, List.getElem?_cons_succ]; rfl)
      go_simp
      change Calls _ _ #[insV smallI (.slice va 3 vc), nodeV sg0 0 (.slice none 0 0), .int .i64 1, .int .i64 1152921504606846976] _ _
      refine (nbest_any (I := smallI) (n := ⟨sg0, 0, []⟩) (up := 1152921504606846976) (width := 1) (w0 := V) (HR.out.below Bc.out) Bc.out eg_fit.1 eg_fit.2.1 eg_fit.2.2 (.inl (row_nil V)) (by decide) (by decide)).mono ?_
      rw [HO1.out, HST1.out, HBS1.out, HIS1.out]
      rintro e w6 ⟨pb, pn, pc, rfl, hp, hb⟩
      refine held_more hK HS0.out hlt (Bc.out.trans (hb.mono Bc.out.size)) (fun Bc hSn => ?_)
      have HNn := Lib.hid (HN.out.later hb)
      clear HN
      have HN := HNn
      clear HNn
      have HPX := Lib.hid hp
      clear hb hK hp
      unfold nodeV
      refine tks [5, 6, 7, 8] 4 rfl (by kernel_rfl) (fun _ _ _ _ h => h) (by assumption) (fun KT hKT => ?_)
      iterate 4 (refine tkT (by (simp only [gA, gB, gC]; rfl)) (by rfl) (by (intro w hSw; (simp only [Holds] at hSw); go_simp <;> with_reducible rfl)) ?_; simp only [Act.put, pA, pB, pC])
      refine hKT _ ?_
      clear KT hKT
      refine wpAnyH_ready (rs := [10]) (by kernel_rfl) (by simp) ?_
      refine (AllReadyH.cons (o := ?oz311) ?iz311 (fun K hK => ?kz311) AllReadyH.nil)
      case iz311 => (simp only [List.getElem?_toArray, List.getElem?_cons_zero, List.getElem?_cons_succ]; rfl)
      simp only [Act.put]
      rw [if_pos (by rfl)]
      refine wp_store_node (.tmp 3) (.tmp 18) (by rfl) bx _ _ _ ⟨bs1.s, bs1.cost, pb, pn, pc⟩ (by rfl) (by rfl) HN.out ?_
      intro wE hE hbE hoE hgE
      refine held_more hK HS0.out hlt (Bc.out.trans (hbE _ HLX.out)) (fun Bc hSn => ?_)
      have HPE := HPX.out.kept hgE HN.out
      clear hK
      refine tks [11, 12] 2 rfl (by kernel_rfl) (fun _ _ _ _ h => h) (by assumption) (fun KT hKT => ?_)
      iterate 2 (refine tkT (by (simp only [gA, gB, gC]; rfl)) (by rfl) (by (intro w hSw; (simp only [Holds] at hSw); go_simp <;> with_reducible rfl)) ?_; simp only [Act.put, pA, pB, pC])
      refine hKT _ ?_
      clear KT hKT
      refine wpAnyH_done (by kernel_rfl) ?_ _
      go_wp2_with fail
      go_meet
      exact ⟨bx, pb, pn, pc, rfl, rfl, rfl, hE, HPE.row Bc.out, HBR.out.trans (Bc.out.mono HBR.out.size)⟩
  case rest =>
  obtain ⟨bb1, pb1, pn1, pc1, rfl, rfl, rfl, f1, f2, hb⟩ := hcut
  have HN1 := Lib.hid f1
  have HP1 := Lib.hid f2
  clear f1 f2
  have HYn := Lib.hid (HY.out.later hb)
  clear HY
  have HY := HYn
  clear HYn
  have HRn := Lib.hid (HR.out.below hb)
  clear HR
  have HR := HRn
  clear HRn
  have HBn := Lib.hid (HB.out.trans (hb.mono HB.out.size))
  clear HB
  have HB := HBn
  clear HBn
  clear hb
  generalize wc = W4 at *
  have hE : bs1 = ⟨sg2, 12, [1, 2]⟩ ∧ is1 = true ∧ st1 = 3 := by
    have e := ng_run
    refine ⟨?_, ?_, ?_⟩
    · rw [← HBS1.out, ← HO1.out, e]; rfl
    · rw [← HIS1.out, ← HO1.out, e]; rfl
    · rw [← HST1.out, e]
  clear HO1 HST1 HBS1 HIS1
  obtain ⟨rfl, rfl, rfl⟩ := hE
  have hp := HP1.out
  have c8 : W4.cell? ⟨bb1, 8, none⟩ = some (.int .i64 12) := HN1.out.c8
  obtain ⟨qa, qc, he⟩ : ∃ qa qc, Value.slice pb1 pn1 pc1 = .slice qa 2 qc := by
    obtain ⟨x, y, h, _⟩ := hp.form
    exact ⟨x, y, h⟩
  have c9 : W4.cell? ⟨bb1, 9, none⟩ = some (.slice qa 2 qc) := by rw [← he]; exact HN1.out.c9
  rw [he] at hp
  clear he HN1 HP1
  clear hp
  go_wp2
  go_ret
  exact ⟨rfl, HB.out⟩
end Go.Proofs.YtgplajofemencaaGreat
