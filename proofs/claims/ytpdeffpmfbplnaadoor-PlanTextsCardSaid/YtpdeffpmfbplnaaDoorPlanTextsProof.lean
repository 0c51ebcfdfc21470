/- Any plan in the order of its first stops, its text, and the plan that any text is, are what the document says; so is whether two are the same: for every two plans and every text (the law answers true at once for more than 40 routes, 100 stops of a route, 6000 bytes). -/
import Derived.Test.YtpdeffpmfbplnaaDoorRows
import Derived.Test.YtpdeffpmfbplnaaDoorTie
import Derived.Test.YtpdeffpmfbplnaaDoorCards
import Derived.Test.YtpdeffpmfbplnaaDoorXPrint
import Derived.SevenTiedAt
import Derived.Test.YtpdeffpmfbplnaaDoorVRefT
import Derived.Deep.CutRange
namespace Go.Proofs.YtpdeffpmfbplnaaDoor.planTexts
open Go.ChangeShapes Go.WideShapes Go.ChangeAt Go.RowKit

set_option maxRecDepth 1000000 in
set_option maxHeartbeats 4000000 in
theorem walk (v0 : Value) (l0 : List (List Int)) (v1 : Value) (l1 : List (List Int)) (v2 : Value) (l2 : List Int) (w : World) (e0 : IsLL w v0 l0) (f0 : Fits l0) (e1 : IsLL w v1 l1) (e2 : Row w v2 (byts l2)) (hT : Tab w.heap.size w) :
    Calls Tryd.prog 4 #[planV v0, planV v1, v2] w fun e w' => e = .returned (.bool true) ∧ Below w.heap.size w w' := by
  have HT := Lib.hid hT
  have HP := Lib.hid e0
  have HQ := Lib.hid e1
  have HFp := Lib.hid f0
  have HTX := Lib.hid e2
  obtain ⟨la, lc, rfl, hlm⟩ := e0.form
  obtain ⟨ma, mc, rfl, hlm2⟩ := e1.form
  obtain ⟨xa, xc, rfl, hxm⟩ := e2.form
  rw [byts_len] at *
  have hlm1 : l0.length ≤ 9223372036854775807 := by unfold maxLen at hlm; omega
  have hlm3 : l1.length ≤ 9223372036854775807 := by unfold maxLen at hlm2; omega
  have hxm1 : l2.length ≤ 9223372036854775807 := by unfold maxLen at hxm; omega
  have hb1 := (Below.refl w.heap.size w).alloc (Nat.le_refl _) (.cells #[.slice la l0.length lc] 27)
  have HB0 := Lib.hid (hb1.alloc hb1.size (.cells #[.slice ma l1.length mc] 27))
  have h2 := pbox_new (w.alloc (.cells #[.slice la l0.length lc] 27)) (.slice ma l1.length mc)
  rw [show (w.alloc (.cells #[.slice la l0.length lc] 27)).heap.size = w.heap.size + 1 by simp] at h2
  have HX0 := Lib.hid ((pbox_new w (.slice la l0.length lc)).later ((Below.refl _ _).alloc (Nat.le_refl _) (.cells #[.slice ma l1.length mc] 27)))
  have HY0 := Lib.hid h2
  clear hT e0 e1 e2 f0 hlm hlm2 hxm hb1 h2
  unfold planV
  go_enter Tryd.func4, Tryd.ntmps4
  go_upto_region 1 with fail
  generalize (w.alloc (.cells #[.slice la l0.length lc] 27)).alloc (.cells #[.slice ma l1.length mc] 27) = W at *
  go_wp2_with fail
  refine (vawake_any ((HT.out.on HB0.out).up HB0.out.size)).mono ?_
  rintro e w1 ⟨rfl, hb⟩
  have HB1 := Lib.hid (HB0.out.trans (hb.mono HB0.out.size))
  have HX1 := Lib.hid (HX0.out.later hb)
  have HY1 := Lib.hid (HY0.out.later hb)
  have x0 := HX1.out.cell
  clear hb
  go_wp2_with fail
  change Calls _ _ #[planV (.slice la l0.length lc)] _ _
  refine (vfew_any (HP.out.below HB1.out)).mono ?_
  rintro e w2 ⟨rfl, hb⟩
  have HB2 := Lib.hid (HB1.out.trans (hb.mono HB1.out.size))
  have HX2 := Lib.hid (HX1.out.later hb)
  have HY2 := Lib.hid (HY1.out.later hb)
  clear hb x0
  have y0 := HY2.out.cell
  obtain ⟨fp, hfp⟩ : ∃ fp, decide (FewP l0) = fp := ⟨_, rfl⟩
  rw [hfp]
  go_wp2_with fail
  change Calls _ _ #[planV (.slice ma l1.length mc)] _ _
  refine (vfew_any (HQ.out.below HB2.out)).mono ?_
  rintro e w3 ⟨rfl, hb⟩
  have HB3 := Lib.hid (HB2.out.trans (hb.mono HB2.out.size))
  have HX3 := Lib.hid (HX2.out.later hb)
  have HY3 := Lib.hid (HY2.out.later hb)
  clear hb y0
  obtain ⟨fq, hfq⟩ : ∃ fq, decide (FewP l1) = fq := ⟨_, rfl⟩
  rw [hfq]
  cases fp with
  | false =>
    clear hfp hfq
    go_wp2
    go_ret
    exact ⟨rfl, HB3.out⟩
  | true =>
    have HW := Lib.hid (of_decide_eq_true hfp)
    clear hfp
    cases fq with
    | false =>
      clear hfq
      go_wp2
      go_ret
      exact ⟨rfl, HB3.out⟩
    | true =>
      have HV := Lib.hid (of_decide_eq_true hfq)
      clear hfq
      by_cases hlen : 6000 < l2.length
      · have hlen2 : (6000 : Int) < (l2.length : Int) := by omega
        go_wp2
        go_ret
        exact ⟨rfl, HB3.out⟩
      · have hlen2 : ¬ (6000 : Int) < (l2.length : Int) := by omega
        have x0 := HX3.out.cell
        go_wp2_with fail
        change Calls _ _ #[planV (.slice la l0.length lc)] _ _
        refine (vsorted_any (HP.out.below HB3.out) HW.out.1 HW.out.rows).mono ?_
        rintro e w4 ⟨s, rfl, hs, hb⟩
        have HB4 := Lib.hid (HB3.out.trans (hb.mono HB3.out.size))
        have HX4 := Lib.hid (HX3.out.later hb)
        have HY4 := Lib.hid (HY3.out.later hb)
        have HS4 := Lib.hid hs
        obtain ⟨sa, sc, rfl, _⟩ := hs.is.form
        clear hs hb x0
        obtain ⟨M, hM⟩ : ∃ M, ordL l0 = M := ⟨_, rfl⟩
        rw [hM] at HS4 ⊢
        have HMM := Lib.hid hM
        clear hM
        have hbs := (Below.refl w4.heap.size w4).alloc (Nat.le_refl _) (.cells #[.slice sa M.length sc] 27)
        have HB5 := Lib.hid (HB4.out.alloc HB4.out.size (.cells #[.slice sa M.length sc] 27))
        have HX5 := Lib.hid (HX4.out.later hbs)
        have HY5 := Lib.hid (HY4.out.later hbs)
        have HS5 := Lib.hid (HS4.out.below hbs)
        have HC5 := Lib.hid (pbox_new w4 (.slice sa M.length sc))
        clear hbs
        unfold planV
        go_upto_region 7 with fail
        generalize w4.alloc (.cells #[.slice sa M.length sc] 27) = W5 at *
        generalize w4.heap.size = NS at *
        have x0 := HX5.out.cell
        go_wp2_with fail
        change Calls _ _ #[planV (.slice la l0.length lc)] _ _
        refine (dsorted_any (HP.out.below HB5.out) (by have := HW.out.1; omega) HW.out.rows).mono ?_
        rintro e w6 ⟨t, rfl, ht, hb⟩
        have HB6 := Lib.hid (HB5.out.trans (hb.mono HB5.out.size))
        have HX6 := Lib.hid (HX5.out.later hb)
        have HY6 := Lib.hid (HY5.out.later hb)
        have HS6 := Lib.hid (HS5.out.below hb)
        have HC6 := Lib.hid (HC5.out.later hb)
        have HT6 := Lib.hid ht
        obtain ⟨ta, tc, rfl, _⟩ := ht.is.form
        clear ht hb x0
        rw [HMM.out] at HT6 ⊢
        have hbs := (Below.refl w6.heap.size w6).alloc (Nat.le_refl _) (.cells #[.slice ta M.length tc] 27)
        have HB7 := Lib.hid (HB6.out.alloc HB6.out.size (.cells #[.slice ta M.length tc] 27))
        have HX7 := Lib.hid (HX6.out.later hbs)
        have HY7 := Lib.hid (HY6.out.later hbs)
        have HS7 := Lib.hid (HS6.out.below hbs)
        have HC7 := Lib.hid (HC6.out.later hbs)
        have HT7 := Lib.hid (HT6.out.below hbs)
        have HD7 := Lib.hid (pbox_new w6 (.slice ta M.length tc))
        clear hbs
        unfold planV
        go_upto_region 8 with fail
        generalize w6.alloc (.cells #[.slice ta M.length tc] 27) = W7 at *
        generalize w6.heap.size = NT at *
        have s0 := HC7.out.cell
        have t0 := HD7.out.cell
        go_wp2_with fail
        refine (same_any HS7.out.is HT7.out.is).mono ?_
        rw [decide_eq_true rfl]
        rintro e w8 ⟨rfl, hb⟩
        have HB8 := Lib.hid (HB7.out.trans (hb.mono HB7.out.size))
        have HX8 := Lib.hid (HX7.out.later hb)
        have HY8 := Lib.hid (HY7.out.later hb)
        clear hb s0 t0
        go_wp2_with fail
        refine (vparse_any (HTX.out.below HB8.out)).mono ?_
        rintro e w9 ⟨p, rfl, hp, hb⟩
        have HB9 := Lib.hid (HB8.out.trans (hb.mono HB8.out.size))
        have HX9 := Lib.hid (HX8.out.later hb)
        have HY9 := Lib.hid (HY8.out.later hb)
        have HP9 := Lib.hid hp
        obtain ⟨pa, pc, rfl, _⟩ := hp.is.form
        clear hp hb
        obtain ⟨R, hR⟩ : ∃ R, pRes l2 = R := ⟨_, rfl⟩
        obtain ⟨pe, hpe⟩ : ∃ pe, pErr l2 = pe := ⟨_, rfl⟩
        rw [hR] at HP9 ⊢
        rw [hpe]
        have HRR := Lib.hid hR
        have HPE := Lib.hid hpe
        clear hR hpe
        have hbs := (Below.refl w9.heap.size w9).alloc (Nat.le_refl _) (.cells #[.slice pa R.length pc] 27)
        have HB10 := Lib.hid (HB9.out.alloc HB9.out.size (.cells #[.slice pa R.length pc] 27))
        have HX10 := Lib.hid (HX9.out.later hbs)
        have HY10 := Lib.hid (HY9.out.later hbs)
        have HP10 := Lib.hid (HP9.out.below hbs)
        have HC10 := Lib.hid (pbox_new w9 (.slice pa R.length pc))
        clear hbs
        unfold planV
        go_upto_region 10 with fail
        generalize w9.alloc (.cells #[.slice pa R.length pc] 27) = W10 at *
        generalize w9.heap.size = NP at *
        go_wp2_with fail
        refine (dparse_any (HTX.out.below HB10.out)).mono ?_
        rw [HRR.out, HPE.out]
        rintro e w11 ⟨q, rfl, hq, hb⟩
        have HB11 := Lib.hid (HB10.out.trans (hb.mono HB10.out.size))
        have HX11 := Lib.hid (HX10.out.later hb)
        have HY11 := Lib.hid (HY10.out.later hb)
        have HP11 := Lib.hid (HP10.out.below hb)
        have HC11 := Lib.hid (HC10.out.later hb)
        have HQ11 := Lib.hid hq
        obtain ⟨qa, qc, rfl, _⟩ := hq.is.form
        clear hq hb
        have hbs := (Below.refl w11.heap.size w11).alloc (Nat.le_refl _) (.cells #[.slice qa R.length qc] 27)
        have HB12 := Lib.hid (HB11.out.alloc HB11.out.size (.cells #[.slice qa R.length qc] 27))
        have HX12 := Lib.hid (HX11.out.later hbs)
        have HY12 := Lib.hid (HY11.out.later hbs)
        have HP12 := Lib.hid (HP11.out.below hbs)
        have HC12 := Lib.hid (HC11.out.later hbs)
        have HQ12 := Lib.hid (HQ11.out.below hbs)
        have HD12 := Lib.hid (pbox_new w11 (.slice qa R.length qc))
        clear hbs
        unfold planV
        go_upto_region 11 with fail
        generalize w11.alloc (.cells #[.slice qa R.length qc] 27) = W12 at *
        generalize w11.heap.size = NQ at *
        have s0 := HC12.out.cell
        have t0 := HD12.out.cell
        go_wp2_with fail
        refine (same_any HP12.out.is HQ12.out.is).mono ?_
        rw [decide_eq_true rfl]
        rintro e w13 ⟨rfl, hb⟩
        have HB13 := Lib.hid (HB12.out.trans (hb.mono HB12.out.size))
        have HX13 := Lib.hid (HX12.out.later hb)
        have HY13 := Lib.hid (HY12.out.later hb)
        clear hb s0 t0
        go_upto_region 12 with fail
        have hlx := HX13.out.lt
        have hly := HY13.out.lt
        have HS0 := Lib.hid (show Holds [((⟨w.heap.size, 0, none⟩ : Addr), Value.slice la l0.length lc), (⟨w.heap.size + 1, 0, none⟩, .slice ma l1.length mc)] w13.drew from ⟨HX13.out.cell, HY13.out.cell, trivial⟩)
        have hlt := Lib.hid (show Lows w13.drew.heap.size [((⟨w.heap.size, 0, none⟩ : Addr), Value.slice la l0.length lc), (⟨w.heap.size + 1, 0, none⟩, .slice ma l1.length mc)] from ⟨hlx, hly, trivial⟩)
        have HBd := Lib.hid (HB13.out.trans ((Below.refl w.heap.size w13).drew))
        obtain ⟨sv, hsv⟩ : ∃ sv, strOfNums (textOf M) = sv := ⟨_, rfl⟩
        have HSV := Lib.hid hsv
        clear hsv
        have hpp : (pe == pe) = true := by simp
        refine wp_region_held_drew (S := Holds [((⟨w.heap.size, 0, none⟩ : Addr), Value.slice la l0.length lc), (⟨w.heap.size + 1, 0, none⟩, .slice ma l1.length mc)]) (by kernel_rfl) HS0.out (fun hSn => ?_)
        have Bc := Lib.hid (Below.refl w13.drew.heap.size w13.drew)
        refine tks [0, 1, 2, 3, 4, 5, 6, 7, 8, 9, 10, 13] 12 rfl (by kernel_rfl) (fun _ _ _ _ h => h) (by assumption) (fun KT hKT => ?_)
        iterate 12 (refine tkT (by (simp only [gA, gB, gC]; rfl)) (by rfl) (by (intro w hSw; (simp only [Holds] at hSw); go_simp <;> with_reducible rfl)) ?_; simp only [Act.put, pA, pB, pC])
        refine hKT _ ?_
        clear KT hKT
        refine wpAnyH_ready (rs := [11]) (by kernel_rfl) (by simp) ?_
        refine AllReadyH.cons (o := ?oz163) ?iz163 (fun K hK => ?kz163) AllReadyH.nil
        case iz163 => (simp only [List.getElem?_toArray, List.getElem?_cons_zero, List.getElem?_cons_succ]; rfl)
        go_simp
        change Calls _ _ #[planV (.slice la l0.length lc)] _ _
        refine (vprint_any (HP.out.below (HBd.out.trans (Bc.out.mono HB13.out.size))) HW.out HFp.out ((HT.out.on (HBd.out.trans (Bc.out.mono HB13.out.size))).up (HBd.out.trans (Bc.out.mono HB13.out.size)).size)).mono ?_
        rw [HMM.out]
        rintro e w14 ⟨t1, rfl, ht1, hb⟩
        have hcv := conv_row ht1.row
        rw [HSV.out] at hcv
        have HT1 := Lib.hid ht1
        refine held_more hK HS0.out hlt (Bc.out.trans (hb.mono Bc.out.size)) (fun Bc hSn => ?_)
        clear hb hK ht1
        refine wpAnyH_strong (S' := fun w' => Holds [((⟨w.heap.size, 0, none⟩ : Addr), Value.slice la l0.length lc), (⟨w.heap.size + 1, 0, none⟩, .slice ma l1.length mc)] w' ∧ (convert 34 9 t1).run Tryd.prog w' = .ok (.string sv) w') (fun _ h => h.1) _ _ _ _ ?_
        have hSn := And.intro hSn hcv
        refine tks [12] 1 rfl (by kernel_rfl) (fun _ _ _ _ h => h) (by assumption) (fun KT hKT => ?_)
        refine tkT (by (simp only [gA, gB, gC]; rfl)) (by rfl) (by (intro w hSw; (simp only [Holds] at hSw); go_simp <;> with_reducible rfl)) ?_
        simp only [Act.put, pA, pB, pC]
        refine hKT _ ?_
        clear KT hKT
        refine wpAnyH_ready (rs := [14]) (by kernel_rfl) (by simp) ?_
        refine AllReadyH.cons (o := ?oz164) ?iz164 (fun K hK => ?kz164) AllReadyH.nil
        case iz164 => (simp only [List.getElem?_toArray, List.getElem?_cons_zero, List.getElem?_cons_succ]; rfl)
        go_simp
        change Calls _ _ #[planV (.slice la l0.length lc)] _ _
        refine (dprint_any (HP.out.below (HBd.out.trans (Bc.out.mono HB13.out.size))) HW.out HFp.out).mono ?_
        rw [HMM.out]
        rintro e w15 ⟨t2, rfl, ht2, hb⟩
        have hcv2 := conv_row ht2.row
        rw [HSV.out] at hcv2
        have hcv1 := conv_row (HT1.out.below hb).row
        rw [HSV.out] at hcv1
        have HT2 := Lib.hid ht2
        have HT12 := Lib.hid (HT1.out.below hb)
        have Bc9 := Lib.hid (Bc.out.trans (hb.mono Bc.out.size))
        have HH9 := Holds.below Bc9.out HS0.out hlt.out
        refine hK.out _ _ ⟨HH9, hcv1⟩ (fun _ => ?_)
        clear hb hK ht2 hSn
        refine wpAnyH_strong (S' := fun w' => (Holds [((⟨w.heap.size, 0, none⟩ : Addr), Value.slice la l0.length lc), (⟨w.heap.size + 1, 0, none⟩, .slice ma l1.length mc)] w' ∧ (convert 34 9 t1).run Tryd.prog w' = .ok (.string sv) w') ∧ (convert 34 9 t2).run Tryd.prog w' = .ok (.string sv) w') (fun _ h => h.1) _ _ _ _ ?_
        have hSn := And.intro (And.intro HH9 hcv1) hcv2
        refine tks [15, 16, 17, 18, 19, 20, 22, 23] 8 rfl (by kernel_rfl) (fun _ _ _ _ h => h) (by assumption) (fun KT hKT => ?_)
        iterate 8 (refine tkT (by (simp only [gA, gB, gC]; rfl)) (by rfl) (by (intro w hSw; (simp only [Holds] at hSw); go_simp <;> with_reducible rfl)) ?_; simp only [Act.put, pA, pB, pC])
        refine hKT _ ?_
        clear KT hKT
        refine wpAnyH_ready (rs := [21]) (by kernel_rfl) (by simp) ?_
        refine AllReadyH.cons (o := ?oz165) ?iz165 (fun K hK => ?kz165) AllReadyH.nil
        case iz165 => (simp only [List.getElem?_toArray, List.getElem?_cons_zero, List.getElem?_cons_succ]; rfl)
        go_simp
        change Calls _ _ #[planV (.slice la l0.length lc), planV (.slice ma l1.length mc)] _ _
        refine (vsame_any (HP.out.below (HBd.out.trans (Bc9.out.mono HB13.out.size))) (HQ.out.below (HBd.out.trans (Bc9.out.mono HB13.out.size))) HW.out HV.out).mono ?_
        obtain ⟨bs, hbs⟩ : ∃ bs, decide (ordL l0 = ordL l1) = bs := ⟨_, rfl⟩
        rw [hbs]
        rintro e w16 ⟨rfl, hb⟩
        have k1 := conv_row (HT12.out.below hb).row
        rw [HSV.out] at k1
        have k2 := conv_row (HT2.out.below hb).row
        rw [HSV.out] at k2
        have HT13 := Lib.hid (HT12.out.below hb)
        have HT23 := Lib.hid (HT2.out.below hb)
        have Bc10 := Lib.hid (Bc9.out.trans (hb.mono Bc9.out.size))
        have HH10 := Holds.below Bc10.out HS0.out hlt.out
        refine hK.out _ _ ⟨⟨HH10, k1⟩, k2⟩ (fun hSn => ?_)
        clear hb hK
        refine wpAnyH_ready (rs := [24]) (by kernel_rfl) (by simp) ?_
        refine AllReadyH.cons (o := ?oz166) ?iz166 (fun K hK => ?kz166) AllReadyH.nil
        case iz166 => (simp only [List.getElem?_toArray, List.getElem?_cons_zero, List.getElem?_cons_succ]; rfl)
        go_simp
        change Calls _ _ #[planV (.slice la l0.length lc), planV (.slice ma l1.length mc)] _ _
        refine (dsame_any (HP.out.below (HBd.out.trans (Bc10.out.mono HB13.out.size))) (HQ.out.below (HBd.out.trans (Bc10.out.mono HB13.out.size))) HW.out HV.out).mono ?_
        rw [hbs]
        rintro e w17 ⟨rfl, hb⟩
        have m1 := conv_row (HT13.out.below hb).row
        rw [HSV.out] at m1
        have m2 := conv_row (HT23.out.below hb).row
        rw [HSV.out] at m2
        have Bc11 := Lib.hid (Bc10.out.trans (hb.mono Bc10.out.size))
        have HH11 := Holds.below Bc11.out HS0.out hlt.out
        refine hK.out _ _ ⟨⟨HH11, m1⟩, m2⟩ (fun hSn => ?_)
        clear hb hK hbs
        have hbb : (bs == bs) = true := by simp
        refine tks [25, 26, 27] 3 rfl (by kernel_rfl) (fun _ _ _ _ h => h) (by assumption) (fun KT hKT => ?_)
        iterate 3 (refine tkT (by (simp only [gA, gB, gC]; rfl)) (by rfl) (by (intro w hSw; (simp only [Holds] at hSw); go_simp <;> with_reducible rfl)) ?_; simp only [Act.put, pA, pB, pC])
        refine hKT _ ?_
        clear KT hKT
        refine wpAnyH_done (by kernel_rfl) ?_ _
        have HB9' := Lib.hid (HBd.out.trans (Bc11.out.mono HB13.out.size))
        go_wp2
        go_ret
        exact ⟨rfl, HB9'.out⟩

set_option maxRecDepth 100000 in
theorem lifted (os : Os) (started : os.Started) (H : Type) (enc : TypeId × Value → H) :
    ReturnsInHanded {} Tryd.checked os 4 .any (fun w args => (Rows.planTextsSpec.pre enc Tryd.prog Tryd.f4 [] false w args ∧ laidMetH Tryd.prog Rows.planTextsRow.laid w) ∧ sizedMet enc Tryd.prog Tryd.f4 (OpenSpec.ofChange Rows.planTextsSpec) false w args)
      (Rows.planTextsSpec.post enc Tryd.prog Tryd.f4 false true false false) := by
  refine returnsInHanded_of_change_and (C := Tryd.checked) (X := fun w _ => laidMetH Tryd.prog Rows.planTextsRow.laid w) (fun _ _ _ hh h => h.of_heap hh) own started (by kernel_rfl) Tryd.func4
    (ChangeSpec.witness_shaped (enc := enc) (C := Tryd.checked) (os := os) (X := fun w _ => laidMetH Tryd.prog Rows.planTextsRow.laid w) false (World.doorLaid Tryd.prog 24 os) #[.agg #[.slice none 0 0], .agg #[.slice none 0 0], .slice none 0 0] 8 rfl (World.shaped_of_RefB (by kernel_rfl) (by kernel_rfl)) (by kernel_rfl) (by kernel_rfl) (by kernel_rfl) (door_met os _)) ?_
  intro W base args ds gs before hval0 hW _ _ hL _
  have hval : ∀ (j : Nat) t v, Tryd.f4.params[j]? = some t → args[j]? = some v → Value.okWide Tryd.prog W .any base t v := hval0
  have hW' := hW
  obtain ⟨p, q, hA0, hV, rfl, hfz, hnd⟩ := hW
  have hA : DataW.TrodAll enc Tryd.prog W 0 (fun _ => true) true Tryd.f4.params.toList args.toList ds p := hA0
  rw [Tryd.params4] at hA hval
  obtain ⟨v0, vs0, d0, ds0, p0, q0, hargs, rfl, rfl, h0, r0⟩ := trodAll_cons hA
  obtain ⟨v1, vs1, d1, ds1, p1, q1, rfl, rfl, rfl, h1, r1⟩ := trodAll_cons r0
  obtain ⟨v2, vs2, d2, ds2, p2, q2, rfl, rfl, rfl, h2, r2⟩ := trodAll_cons r1
  obtain ⟨rfl, rfl, rfl⟩ := trodAll_nil r2
  obtain rfl : args = #[v0, v1, v2] := by cases args; simp_all
  obtain ⟨rfl, rfl⟩ := trodVars_none hV
  have k0 := h0
  have lt0 : ∀ x ∈ p0, x.block < W.heap.size := by obtain ⟨m, hm⟩ := k0; exact DataW.trod_lt m _ _ _ hm
  have k1 := h1
  have lt1 : ∀ x ∈ p1, x.block < W.heap.size := by obtain ⟨m, hm⟩ := k1; exact DataW.trod_lt m _ _ _ hm
  have k2 := h2
  have lt2 : ∀ x ∈ p2, x.block < W.heap.size := by obtain ⟨m, hm⟩ := k2; exact DataW.trod_lt m _ _ _ hm
  obtain ⟨u0, l0, rfl, e0, f0⟩ := open_plan (hval 0 27 v0 rfl rfl) h0
  obtain ⟨u1, l1, rfl, e1, _⟩ := open_plan (hval 1 27 v1 rfl rfl) h1
  obtain ⟨a2, len2, cap2, rfl⟩ := okWide_slice Tryd.underlying34 (hval 2 34 v2 rfl rfl)
  obtain ⟨l2, e2⟩ := open_bytes h2
  have hT := tab_of_laid hL
  clear hA0 hval0
  refine (walk _ l0 _ l1 _ l2 W e0 f0 e1 e2 hT).mono fun e W' ⟨he, bel⟩ => ?_
  subst he
  exact ⟨_, rfl, _, _, _, [], _, [], hW', trodAll_mk1 (shut_bool Tryd.underlying4 _), (trodAll_cons_mk (Below.trod laidOut (by kernel_rfl) (of_decide_eq_true (by kernel_rfl)) k0 bel lt0) (trodAll_cons_mk (Below.trod laidOut (by kernel_rfl) (of_decide_eq_true (by kernel_rfl)) k1 bel lt1) (trodAll_cons_mk (Below.trod laidOut (by kernel_rfl) (of_decide_eq_true (by kernel_rfl)) k2 bel lt2) trodAll_mk0))), rfl, bel.frame _, fun h => by cases h⟩

theorem over : Rows.PlanTextsSaid :=
  OpenClaim.holds_of_wide 4 Tryd.f4 rfl rfl rfl rfl rfl rfl rfl ⟨rfl, rfl, rfl, rfl, rfl⟩ rfl rfl rfl rfl rfl (by kernel_rfl) Tryd.func4 (by kernel_rfl)
    (of_decide_eq_true (by kernel_rfl)) (by unfold Func.isWrapper; first | (rw [if_pos (by decide +kernel)]; kernel_rfl) | (rw [if_neg (by decide +kernel)]; exact ⟨rfl, rfl⟩))
    (fun os started H enc _ => lifted os started H enc)

theorem proved : Rows.PlanTextsCardSaid :=
  Claim7.holds_tied_plain_at .later [] [.data, .data, .data] true Rows.planTextsCard.stood.harness false
    over (fun _ h => by cases h) (by kernel_rfl) (fun _ h => by cases h) planTexts_row_tie rfl ⟨rfl, rfl⟩ (by kernel_rfl) rfl
    (fun f fn hf hfn => by
      obtain rfl : f = 4 := Option.some.inj ((show Tryd.prog.funcNamed Rows.planTextsRow.func = some 4 by kernel_rfl).symm.trans hf) |>.symm
      obtain rfl : fn = Tryd.f4 := (Option.some.inj (Tryd.func4.symm.trans hfn)).symm
      refine ⟨by kernel_rfl, fun j t ht => ?_⟩
      rw [Tryd.params4] at ht
      rcases j with _ | _ | _ | j
      · obtain rfl : t = 27 := by simpa using ht.symm
        exact (show Tryd.prog.wantsStandIn 27 = false by kernel_rfl)
      · obtain rfl : t = 27 := by simpa using ht.symm
        exact (show Tryd.prog.wantsStandIn 27 = false by kernel_rfl)
      · obtain rfl : t = 34 := by simpa using ht.symm
        exact (show Tryd.prog.wantsStandIn 34 = false by kernel_rfl)
      · simp at ht)
    (by kernel_rfl)
#print axioms proved
end Go.Proofs.YtpdeffpmfbplnaaDoor.planTexts
