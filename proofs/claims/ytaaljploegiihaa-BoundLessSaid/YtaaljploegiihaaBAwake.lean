/- The chapter's example. -/
import Derived.Test.YtaaljploegiihaaBOf
import Derived.Test.YtaaljploegiihaaYF
import Derived.Test.YtaaljploegiihaaXTSched
namespace Go.Proofs.Ytaaljploegiihaa
open Go.ChangeShapes Go.WideShapes Go.ChangeAt Go.RowKit

theorem bg_01 : farF (nth smallI.l 0) (nth smallI.l 1) = 3 := rootOf_eq 9 3 (by decide) (by decide) ⟨by decide, by decide, by decide⟩
theorem bg_12 : farF (nth smallI.l 1) (nth smallI.l 2) = 5 := rootOf_eq 25 5 (by decide) (by decide) ⟨by decide, by decide, by decide⟩
theorem bg_20 : farF (nth smallI.l 2) (nth smallI.l 0) = 4 := rootOf_eq 16 4 (by decide) (by decide) ⟨by decide, by decide, by decide⟩
theorem bg_row (t : Stp) : rowF smallI.l t = [farF t (nth smallI.l 0), farF t (nth smallI.l 1), farF t (nth smallI.l 2)] := rfl
theorem bg_near (i : Nat) (hi : i < 3) : (nearI smallI).getD i 0 = leastL ([farF (nth smallI.l i) (nth smallI.l 0), farF (nth smallI.l i) (nth smallI.l 1), farF (nth smallI.l i) (nth smallI.l 2)].eraseIdx i) := by
  unfold nearI matI
  rw [if_pos sg_may]
  unfold nearM
  rw [nearK_at _ _ _ (by rw [matF_len]; exact hi), matF_at _ _ hi, bg_row]
theorem bg_n0 : (nearI smallI).getD 0 0 = 3 := by
  rw [bg_near 0 (by decide), farF_comm (nth smallI.l 0) (nth smallI.l 2), bg_01, bg_20]; rfl
theorem bg_n1 : (nearI smallI).getD 1 0 = 3 := by
  rw [bg_near 1 (by decide), farF_comm (nth smallI.l 1) (nth smallI.l 0), bg_01, bg_12]; rfl
theorem bg_n2 : (nearI smallI).getD 2 0 = 4 := by
  rw [bg_near 2 (by decide), farF_comm (nth smallI.l 2) (nth smallI.l 1), bg_12, bg_20]; rfl
theorem bg_bound {s : Sta} (h : s.may = 0) : boundS smallI s = 10 := by
  unfold boundS
  rw [near_len, if_pos sg_may, if_neg (by decide), h]
  show (nearI smallI).getD 0 0 + leftN smallI 0 2 = 10
  unfold leftN
  rw [sumN, sumN, sumN, has_zero, has_zero, bg_n0, bg_n1, bg_n2]; rfl
set_option maxRecDepth 1000000 in
set_option maxHeartbeats 4000000 in
theorem bawake_any (w : World) : Calls Try.prog 13 #[] w fun e w' => e = .returned (.bool true) ∧ Below w.heap.size w w' := by
  have kc := fun w s => Lib.run_convert_string_bytes (P := Try.prog) w 9 61 5 s Try.underlying9 Try.underlying61 Try.underlying5
  go_enter Try.func13, Try.ntmps13
  go_wp2_with fail
  refine (small_any _).mono ?_
  rintro e w' ⟨rfl, rfl⟩
  obtain ⟨sv, hsv⟩ : ∃ sv, strOfNums smallB = sv := ⟨_, rfl⟩
  rw [hsv]
  have HR := Lib.hid (conv_back (w := w) hsv.symm (by decide) (by decide))
  have HB0 := Lib.hid (conv_below w sv)
  clear hsv
  go_wp2_with fail
  refine (parse_any HR.out).mono ?_
  rintro e w1 ⟨v, rfl, hv, hb⟩
  rw [small_ok.1, small_ok.2.1] at *
  have HB1 := Lib.hid (HB0.out.trans (hb.mono HB0.out.size))
  have HV1 := Lib.hid hv
  obtain ⟨va, vc, rfl⟩ := hv.shape
  clear hv hb
  unfold insV
  go_upto_region 2 with fail
  have HY := Lib.hid (ybox_new w1 smallI (.slice va 3 vc))
  have HB := Lib.hid (HB1.out.alloc HB1.out.size (boxI smallI (.slice va 3 vc)))
  have HV2 := Lib.hid (HV1.out.alloc (boxI smallI (.slice va 3 vc)))
  clear HB1 HV1
  change Code.wp _ _ _ _ (w1.alloc (boxI smallI (.slice va 3 vc)))
  generalize w1.alloc (boxI smallI (.slice va 3 vc)) = W at *
  generalize w1.heap.size = bx at *
  have HVd := Lib.hid (HV2.out.below (Below.refl _ _).drew)
  have HYn := Lib.hid (HY.out.later (Below.refl _ W).drew)
  have HBn := Lib.hid HB.out.drew
  clear HY HB
  have HY := HYn
  have HB := HBn
  clear HYn HBn
  have HS0 := Lib.hid (show Holds (cellsI bx smallI (.slice va 3 vc)) W.drew from ⟨HY.out.cells.1, HY.out.cells.2.1, HY.out.cells.2.2.1, HY.out.cells.2.2.2, trivial⟩)
  refine wp_region_held_drew (S := Holds (cellsI bx smallI (.slice va 3 vc))) (by kernel_rfl) HS0.out (fun hSn => ?_)
  generalize W.drew = V at *
  have hlt := Lib.hid (show Lows V.heap.size (cellsI bx smallI (.slice va 3 vc)) from ⟨HY.out.lt, HY.out.lt, HY.out.lt, HY.out.lt, trivial⟩)
  have Bc := Lib.hid (Below.refl V.heap.size V)
  simp only [cellsI] at HS0 hlt hSn ⊢
  refine tks [0, 1] 2 rfl (by kernel_rfl) (fun _ _ _ _ h => h) (by assumption) (fun KT hKT => ?_)
  iterate 2 (refine tkT (by (simp only [gA, gB, gC]; rfl)) (by rfl) (by (intro w hSw; (simp only [Holds] at hSw); go_simp <;> with_reducible rfl)) ?_; simp only [Act.put, pA, pB, pC])
  refine hKT _ ?_
  clear KT hKT
  refine wpAnyH_ready (rs := [2]) (by kernel_rfl) (by simp) ?_
  refine AllReadyH.cons (o := ?oz185) ?iz185 (fun K hK => ?kz185) AllReadyH.nil
  case iz185 => (simp only [List.getElem?_toArray, List.getElem?_cons_zero, List.getElem?_cons_succ]; rfl)
  go_simp
  change Calls _ _ #[insV smallI (.slice va 3 vc)] _ _
  refine (sroot_any (I := smallI) (HVd.out.below Bc.out).row).mono ?_
  rintro e w' ⟨rfl, hb⟩
  refine held_more hK HS0.out hlt (Bc.out.trans (hb.mono Bc.out.size)) (fun Bc hSn => ?_)
  clear hb hK
  refine wpAnyH_ready (rs := [3]) (by kernel_rfl) (by simp) ?_
  refine AllReadyH.cons (o := ?oz186) ?iz186 (fun K hK => ?kz186) AllReadyH.nil
  case iz186 => (simp only [List.getElem?_toArray, List.getElem?_cons_zero, List.getElem?_cons_succ]; rfl)
  go_simp
  change Calls _ _ #[insV smallI (.slice va 3 vc), staV (rootS smallI)] _ _
  refine (bat_any (I := smallI) (HVd.out.below Bc.out).row (by rw [sg_root]; exact ⟨by decide, by decide, by decide⟩)).mono ?_
  rw [bg_bound (s := rootS smallI) (by rw [sg_root]; rfl)]
  rintro e w2 ⟨rfl, hb⟩
  refine held_more hK HS0.out hlt (Bc.out.trans (hb.mono Bc.out.size)) (fun Bc hSn => ?_)
  clear hb hK
  refine tks [4, 5, 6, 7] 4 rfl (by kernel_rfl) (fun _ _ _ _ h => h) (by assumption) (fun KT hKT => ?_)
  iterate 4 (refine tkT (by (simp only [gA, gB, gC]; rfl)) (by rfl) (by (intro w hSw; (simp only [Holds] at hSw); go_simp <;> with_reducible rfl)) ?_; simp only [Act.put, pA, pB, pC])
  refine hKT _ ?_
  clear KT hKT
  refine wpAnyH_ready (rs := [8]) (by kernel_rfl) (by simp) ?_
  refine AllReadyH.cons (o := ?oz187) ?iz187 (fun K hK => ?kz187) AllReadyH.nil
  case iz187 => (simp only [List.getElem?_toArray, List.getElem?_cons_zero, List.getElem?_cons_succ]; rfl)
  go_simp
  change Calls _ _ #[insV smallI (.slice va 3 vc), nodeV noughtS 2 (.slice none 0 0)] _ _
  refine (bof_any (I := smallI) (l := []) (HVd.out.below Bc.out).row (by unfold SetsOk; decide) (row_nil _)).mono ?_
  rw [bg_bound (s := noughtS) rfl, show sumOf [2, 10] = 12 from rfl]
  rintro e w3 ⟨rfl, hb⟩
  refine held_more hK HS0.out hlt (Bc.out.trans (hb.mono Bc.out.size)) (fun Bc hSn => ?_)
  clear hb hK
  refine tks [9, 10, 11] 3 rfl (by kernel_rfl) (fun _ _ _ _ h => h) (by assumption) (fun KT hKT => ?_)
  iterate 3 (refine tkT (by (simp only [gA, gB, gC]; rfl)) (by rfl) (by (intro w hSw; (simp only [Holds] at hSw); go_simp <;> with_reducible rfl)) ?_; simp only [Act.put, pA, pB, pC])
  refine hKT _ ?_
  clear KT hKT
  refine wpAnyH_done (by kernel_rfl) ?_ _
  go_wp2
  go_ret
  exact ⟨rfl, HB.out.trans (Bc.out.mono HB.out.size)⟩
end Go.Proofs.Ytaaljploegiihaa
