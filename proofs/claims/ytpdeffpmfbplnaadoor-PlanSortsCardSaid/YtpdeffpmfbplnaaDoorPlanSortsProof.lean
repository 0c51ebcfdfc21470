/- A plan in the order of its first stops is that once more, and costs the same, if no route has no stops: for every instance and every plan (the law answers true at once for more than 33 stops, 40 routes, 100 stops of a route). -/
import Derived.Test.YtpdeffpmfbplnaaDoorXVD
import Derived.Test.YtpdeffpmfbplnaaDoorVAwake
import Derived.Test.YtpdeffpmfbplnaaDoorVSameP
import Derived.Test.YtpdeffpmfbplnaaDoorXVB
import Derived.Test.YtpdeffpmfbplnaaDoorRows
import Derived.Test.YtpdeffpmfbplnaaDoorTie
import Derived.Test.YtpdeffpmfbplnaaDoorCards
import Derived.Test.YtpdeffpmfbplnaaDoorXPrint
import Derived.SevenTiedAt
import Derived.Test.YtpdeffpmfbplnaaDoorXVC
import Derived.Deep.CutRange
namespace Go.Proofs.YtpdeffpmfbplnaaDoor.planSorts
open Go.ChangeShapes Go.WideShapes Go.ChangeAt Go.RowKit

set_option maxRecDepth 1000000 in
set_option maxHeartbeats 4000000 in
theorem walk (I0 : Ins) (v0 : Value) (v1 : Value) (l1 : List (List Int)) (w : World) (e0 : SRow w v0 I0.l) (e1 : IsLL w v1 l1) (f1 : Fits l1) (hT : Tab w.heap.size w) :
    Calls Tryd.prog 9 #[insV I0 v0, planV v1] w fun e w' => e = .returned (.bool true) ∧ Below w.heap.size w w' := by
  have HT := Lib.hid hT
  have HE := Lib.hid e0
  have HP := Lib.hid e1
  have HF := Lib.hid f1
  obtain ⟨ad, cap, rfl, hm, _⟩ := e0.form
  obtain ⟨la, lc, rfl, hlm⟩ := e1.form
  have hm1 : I0.l.length ≤ 9223372036854775807 := by unfold maxLen at hm; omega
  have hlm1 : l1.length ≤ 9223372036854775807 := by unfold maxLen at hlm; omega
  obtain ⟨hy, hx, hb, hsz⟩ := worldC_facts w I0 (.slice ad I0.l.length cap) (.slice la l1.length lc)
  have HY := Lib.hid hy
  have HX := Lib.hid (show PBox _ _ _ from hx)
  have HB := Lib.hid hb
  have HSZ := Lib.hid hsz
  clear hT e0 e1 f1 hm hlm hy hx hb hsz
  unfold insV planV
  go_enter Tryd.func9, Tryd.ntmps9
  go_upto_region 1 with fail
  change Code.wp _ _ _ _ (worldC w I0 (.slice ad I0.l.length cap) (.slice la l1.length lc))
  generalize worldC w I0 (.slice ad I0.l.length cap) (.slice la l1.length lc) = W at *
  go_wp2_with fail
  refine (vawake_any ((HT.out.on HB.out).up HB.out.size)).mono ?_
  rintro e w1 ⟨rfl, hb⟩
  have HB1 := Lib.hid (HB.out.trans (hb.mono HB.out.size))
  have HY1 := Lib.hid (HY.out.later hb)
  have HX1 := Lib.hid (HX.out.later hb)
  have HSZ1 := Lib.hid (show w.heap.size + 2 ≤ w1.heap.size by have := HSZ.out; have := hb.size; omega)
  have x0 := HX1.out.cell
  clear hb
  go_wp2_with fail
  change Calls _ _ #[planV (.slice la l1.length lc)] _ _
  refine (vfew_any (HP.out.below HB1.out)).mono ?_
  rintro e w2 ⟨rfl, hb⟩
  have HB2 := Lib.hid (HB1.out.trans (hb.mono HB1.out.size))
  have HY2 := Lib.hid (HY1.out.later hb)
  have HX2 := Lib.hid (HX1.out.later hb)
  have HSZ2 := Lib.hid (show w.heap.size + 2 ≤ w2.heap.size by have := HSZ1.out; have := hb.size; omega)
  clear hb x0
  obtain ⟨c0, c1, c2, c3⟩ := HY2.out.cells
  have x0 := HX2.out.cell
  by_cases hfew : FewP l1
  · have hdf : decide (FewP l1) = true := decide_eq_true hfew
    have HW := Lib.hid hfew
    rw [hdf]
    clear hdf hfew
    by_cases hlen : 33 < I0.l.length
    · have hlen2 : (33 : Int) < (I0.l.length : Int) := by omega
      go_wp2
      go_ret
      exact ⟨rfl, HB2.out⟩
    · have hlen2 : ¬ (33 : Int) < (I0.l.length : Int) := by omega
      go_wp2_with fail
      change Calls _ _ #[planV (.slice la l1.length lc)] _ _
      refine (vsorted_any (HP.out.below HB2.out) HW.out.1 HW.out.rows).mono ?_
      rintro e w3 ⟨q, rfl, hq, hb⟩
      have HQ := Lib.hid hq
      have HB3 := Lib.hid (HB2.out.trans (hb.mono HB2.out.size))
      have HY3 := Lib.hid (HY2.out.later hb)
      have HX3 := Lib.hid (HX2.out.later hb)
      obtain ⟨qa, qc, rfl, hqm⟩ := hq.is.form
      obtain ⟨M, hM⟩ : ∃ M, ordL l1 = M := ⟨_, rfl⟩
      have hMl : M.length ≤ 40 := by rw [← hM]; exact (few_ord HW.out).1
      have HMF := Lib.hid (show Full M by rw [← hM]; exact ord_full l1)
      have HMS := Lib.hid (show ∀ k, k + 1 < M.length → key (M.getD k []) ≤ key (M.getD (k + 1) []) by rw [← hM]; exact ord_step l1)
      rw [hM] at HQ ⊢
      have HMM := Lib.hid hM
      have HBq := (Below.refl w3.heap.size w3).alloc (Nat.le_refl _) (.cells #[.slice qa M.length qc] 27)
      have HB4 := Lib.hid (HB3.out.alloc HB3.out.size (.cells #[.slice qa M.length qc] 27))
      have HY4 := Lib.hid (HY3.out.later HBq)
      have HX4 := Lib.hid (HX3.out.later HBq)
      have HQ4 := Lib.hid (HQ.out.below HBq)
      have HXQ := Lib.hid (pbox_new w3 (.slice qa M.length qc))
      have hnx : w.heap.size + 1 < w3.heap.size := HX3.out.lt
      clear hb hq hqm hM HBq x0 c0 c1 c2 c3
      unfold planV
      go_upto_region 6 with fail
      generalize w3.alloc (.cells #[.slice qa M.length qc] 27) = W4 at *
      generalize w3.heap.size = NQ at *
      go_wp2_with fail
      go_loopw [8] (fun kv wr => ∃ (k : Nat), k ≤ M.length ∧ kv = .int .i64 k ∧ Below W4.heap.size W4 wr) (fun kv _ => M.length - (intOf kv).toNat)
      case atStart => exact ⟨0, Nat.zero_le _, rfl, Below.refl _ _⟩
      case round =>
        obtain ⟨k, hk, rfl, hbw⟩ := hrel
        have HBW := Lib.hid hbw
        have HBr := Lib.hid (HB4.out.trans (hbw.mono HB4.out.size))
        have HYr := Lib.hid (HY4.out.later hbw)
        have HXr := Lib.hid (HX4.out.later hbw)
        have HQr := Lib.hid (HQ4.out.below hbw)
        have HXQr := Lib.hid (HXQ.out.later hbw)
        have q0 := HXQr.out.cell
        clear hbw
        by_cases hlt : k < M.length
        · have hlt2 : (k : Int) < (M.length : Int) := by omega
          obtain ⟨tb, off, a1, n1, d1, hqe, _, hcl, hn1, hmx, hrow⟩ := ll_at HQr.out.is k hlt
          obtain rfl := hqe
          have hne := full_at HMF.out hlt
          have hpos : 0 < (M.getD k []).length := List.length_pos_iff.2 hne
          obtain ⟨rb, ro, rc, he, hcell, _, _⟩ := row_at (p := 0) hrow (by rw [ints_len]; exact hpos)
          rw [ints_at _ 0 hpos] at hcell
          simp only [ints_len, Value.slice.injEq] at he
          obtain ⟨rfl, rfl, rfl⟩ := he
          rw [Nat.add_zero] at hcell
          have hkey : (M.getD k []).getD 0 0 = key (M.getD k []) := rfl
          rw [hkey] at hcell
          have hm2 : (M.getD k []).length ≤ 9223372036854775807 := by unfold maxLen at hmx; omega
          have hz : (((M.getD k []).length : Int) == 0) = false := by simpa using hne
          have HSTEP := HMS
          by_cases hk0 : k = 0
          · have hk1 : ¬ (0 : Int) < (k : Int) := by omega
            have hkd : decide (0 < k) = false := decide_eq_false (by omega)
            generalize (M.getD k []).length = ln at *
            generalize key (M.getD k []) = kx at *
            clear hrow hkey hne hpos hmx hk0
            go_wp2_with fail
            go_quiet (fail)
            have HB2q := Lib.hid (below_drewN HBW.out nq)
            clear hcl hcell q0
            generalize wr.drewN nq = w5 at *
            go_wp2_with fail
            go_roundw
            case rel => exact ⟨k + 1, by omega, by go_num, HB2q.out⟩
            case measure => simp [intOf]; omega
          · have hk1 : (0 : Int) < (k : Int) := by omega
            have hkd : decide (0 < k) = true := decide_eq_true (by omega)
            obtain ⟨kp, hkp⟩ : ∃ kp, kp = k - 1 := ⟨_, rfl⟩
            have hkk : k = kp + 1 := by omega
            have hst := HMS.out kp (by omega)
            rw [← hkk] at hst
            have hltp : kp < M.length := by omega
            obtain ⟨tb2, off2, a2, n2, d2, hqe2, _, hcl2, hn2, hmx2, hrow2⟩ := ll_at HQr.out.is kp hltp
            simp only [Option.some.injEq, Addr.mk.injEq, and_true] at hqe2
            obtain ⟨rfl, rfl⟩ := hqe2
            have hne2 := full_at HMF.out hltp
            have hpos2 : 0 < (M.getD kp []).length := List.length_pos_iff.2 hne2
            obtain ⟨rb2, ro2, rc2, he2, hcell2, _, _⟩ := row_at (p := 0) hrow2 (by rw [ints_len]; exact hpos2)
            rw [ints_at _ 0 hpos2] at hcell2
            simp only [ints_len, Value.slice.injEq] at he2
            obtain ⟨rfl, rfl, rfl⟩ := he2
            rw [Nat.add_zero] at hcell2
            have hkey2 : (M.getD kp []).getD 0 0 = key (M.getD kp []) := rfl
            rw [hkey2] at hcell2
            have hm3 : (M.getD kp []).length ≤ 9223372036854775807 := by unfold maxLen at hmx2; omega
            have hz2 : (0 : Int) < ((M.getD kp []).length : Int) := by omega
            have hz2d : decide (0 < (M.getD kp []).length) = true := decide_eq_true (by omega)
            have e1 : IntKind.i64.wrap ((k : Int) - 1) = (kp : Int) := by rw [IntWalk.i64_in _ (by omega)]; omega
            generalize (M.getD k []).length = ln at *
            generalize key (M.getD k []) = kx at *
            generalize (M.getD kp []).length = ln2 at *
            generalize key (M.getD kp []) = kx2 at *
            have hd : ¬ kx < kx2 := by omega
            have hdb : decide (kx < kx2) = false := decide_eq_false hd
            have HKK := Lib.hid hkk
            have hz3 : (0 : Int) < (ln : Int) := by omega
            clear hrow hkey hne hmx hrow2 hkey2 hne2 hmx2 hk0 hkp hkk hst
            go_wp2_with fail
            go_quiet (fail)
            have HB2q := Lib.hid (below_drewN HBW.out nq)
            clear hcl hcell hcl2 hcell2 q0
            generalize wr.drewN nq = w5 at *
            go_wp2_with fail
            go_roundw
            case rel => exact ⟨k + 1, by omega, by go_num, HB2q.out⟩
            case measure => simp [intOf]; omega
        · obtain rfl : k = M.length := by omega
          have hl2 : ¬ (M.length : Int) < (M.length : Int) := by omega
          obtain ⟨c0, c1, c2, c3⟩ := HYr.out.cells
          have x0 := HXr.out.cell
          have HMo := Lib.hid (show (costE I0 l1 = 0 → costE I0 M = 0 ∧ costN I0 M = costN I0 l1) by rw [← HMM.out]; exact cost_ord)
          have HMI := Lib.hid (show ordL M = M by rw [← HMM.out]; exact ord_idem l1)
          have HMW := Lib.hid (show FewP M by rw [← HMM.out]; exact few_ord HW.out)
          have HMFi := Lib.hid (show Fits M by rw [← HMM.out]; exact fits_ord HF.out)
          clear hlt
          go_wp2_with fail
          change Calls _ _ #[insV I0 (.slice ad I0.l.length cap), planV (.slice la l1.length lc)] _ _
          refine (cost_any (HE.out.below HBr.out) (HP.out.below HBr.out)).mono ?_
          rintro e w5 ⟨rfl, hb⟩
          have HB5 := Lib.hid (HBr.out.trans (hb.mono HBr.out.size))
          have HY5 := Lib.hid (HYr.out.later hb)
          have HX5 := Lib.hid (HXr.out.later hb)
          have HXQ5 := Lib.hid (HXQr.out.later hb)
          have HQ5 := Lib.hid (HQr.out.below hb)
          clear hb x0 c0 c1 c2 c3 q0
          obtain ⟨c0, c1, c2, c3⟩ := HY5.out.cells
          have q0 := HXQ5.out.cell
          go_wp2_with fail
          change Calls _ _ #[insV I0 (.slice ad I0.l.length cap), planV (.slice qa M.length qc)] _ _
          refine (cost_any (HE.out.below HB5.out) HQ5.out.is).mono ?_
          rintro e w6 ⟨rfl, hb⟩
          have HB6 := Lib.hid (HB5.out.trans (hb.mono HB5.out.size))
          have HX6 := Lib.hid (HX5.out.later hb)
          have HXQ6 := Lib.hid (HXQ5.out.later hb)
          have HQ6 := Lib.hid (HQ5.out.below hb)
          clear hb c0 c1 c2 c3 q0
          obtain ⟨ce, hce⟩ : ∃ ce, costE I0 l1 = ce := ⟨_, rfl⟩
          obtain ⟨cn, hcn⟩ : ∃ cn, costN I0 l1 = cn := ⟨_, rfl⟩
          obtain ⟨de, hde⟩ : ∃ de, costE I0 M = de := ⟨_, rfl⟩
          obtain ⟨dn, hdn⟩ : ∃ dn, costN I0 M = dn := ⟨_, rfl⟩
          rw [hce, hcn, hde, hdn] at HMo
          rw [hce, hcn, hde, hdn]
          clear hce hcn hde hdn
          go_upto_region 13 with fail
          have hlx := HX6.out.lt
          have hlq := HXQ6.out.lt
          have x0 := HX6.out.cell
          have q0 := HXQ6.out.cell
          have HS0 := Lib.hid (show Holds [((⟨NQ, 0, none⟩ : Addr), Value.slice qa M.length qc), (⟨w.heap.size + 1, 0, none⟩, .slice la l1.length lc)] w6.drew from ⟨q0, x0, trivial⟩)
          have hlt := Lib.hid (show Lows w6.drew.heap.size [((⟨NQ, 0, none⟩ : Addr), Value.slice qa M.length qc), (⟨w.heap.size + 1, 0, none⟩, .slice la l1.length lc)] from ⟨hlq, hlx, trivial⟩)
          have HBd := Lib.hid (HB6.out.trans ((Below.refl w.heap.size w6).drew))
          have HQd := Lib.hid (HQ6.out.below ((Below.refl w6.heap.size w6).drew))
          obtain ⟨sv, hsv⟩ : ∃ sv, strOfNums (textOf M) = sv := ⟨_, rfl⟩
          have HSV := Lib.hid hsv
          clear x0 q0 hsv
          refine wp_region_held_drew (S := Holds [((⟨NQ, 0, none⟩ : Addr), Value.slice qa M.length qc), (⟨w.heap.size + 1, 0, none⟩, .slice la l1.length lc)]) (by kernel_rfl) HS0.out (fun hSn => ?_)
          have Bc := Lib.hid (Below.refl w6.drew.heap.size w6.drew)
          refine tks [0, 1] 2 rfl (by kernel_rfl) (fun _ _ _ _ h => h) (by assumption) (fun KT hKT => ?_)
          iterate 2 (refine tkT (by (simp only [gA, gB, gC]; rfl)) (by rfl) (by (intro w hSw; (simp only [Holds] at hSw); go_simp <;> with_reducible rfl)) ?_; simp only [Act.put, pA, pB, pC])
          refine hKT _ ?_
          clear KT hKT
          refine wpAnyH_ready (rs := [2]) (by kernel_rfl) (by simp) ?_
          refine AllReadyH.cons (o := ?oz15) ?iz15 (fun K hK => ?kz15) AllReadyH.nil
          case iz15 => (simp only [List.getElem?_toArray, List.getElem?_cons_zero, List.getElem?_cons_succ]; rfl)
          go_simp
          change Calls _ _ #[planV (.slice qa M.length qc), planV (.slice la l1.length lc)] _ _
          refine (vsame_any (HQd.out.below Bc.out).is (HP.out.below (HBd.out.trans (Bc.out.mono HB6.out.size))) HMW.out HW.out).mono ?_
          rw [HMI.out, HMM.out, decide_eq_true rfl]
          rintro e w7 ⟨rfl, hb⟩
          refine held_more hK HS0.out hlt (Bc.out.trans (hb.mono Bc.out.size)) (fun Bc hSn => ?_)
          clear hb hK
          by_cases hce0 : ce = 0
          · obtain ⟨rfl, rfl⟩ := HMo.out hce0
            subst hce0
            refine tks [3, 4, 5, 6, 7, 8, 9, 10, 11, 12, 13, 14, 15, 16] 14 rfl (by kernel_rfl) (fun _ _ _ _ h => h) (by assumption) (fun KT hKT => ?_)
            iterate 14 (refine tkT (by (simp only [gA, gB, gC]; rfl)) (by rfl) (by (intro w hSw; (simp only [Holds] at hSw); go_simp <;> with_reducible rfl)) ?_; simp only [Act.put, pA, pB, pC])
            refine hKT _ ?_
            clear KT hKT
            refine tks [17, 20] 2 rfl (by kernel_rfl) (fun _ _ _ _ h => h) (by assumption) (fun KT hKT => ?_)
            iterate 2 (refine tkT (by (simp only [gA, gB, gC]; rfl)) (by rfl) (by (intro w hSw; (simp only [Holds] at hSw); go_simp <;> with_reducible rfl)) ?_; simp only [Act.put, pA, pB, pC])
            refine hKT _ ?_
            clear KT hKT
            refine wpAnyH_ready (rs := [18]) (by kernel_rfl) (by simp) ?_
            refine AllReadyH.cons (o := ?oz16) ?iz16 (fun K hK => ?kz16) AllReadyH.nil
            case iz16 => (simp only [List.getElem?_toArray, List.getElem?_cons_zero, List.getElem?_cons_succ]; rfl)
            go_simp
            change Calls _ _ #[planV (.slice qa M.length qc)] _ _
            refine (vprint_any (HQd.out.below Bc.out).is HMW.out HMFi.out ((HT.out.on (HBd.out.trans (Bc.out.mono HB6.out.size))).up (HBd.out.trans (Bc.out.mono HB6.out.size)).size)).mono ?_
            rw [HMI.out]
            rintro e w8 ⟨t1, rfl, ht1, hb⟩
            have hcv := conv_row ht1.row
            rw [HSV.out] at hcv
            have HT1 := Lib.hid ht1
            refine held_more hK HS0.out hlt (Bc.out.trans (hb.mono Bc.out.size)) (fun Bc hSn => ?_)
            clear hb hK ht1
            refine wpAnyH_strong (S' := fun w' => Holds [((⟨NQ, 0, none⟩ : Addr), Value.slice qa M.length qc), (⟨w.heap.size + 1, 0, none⟩, .slice la l1.length lc)] w' ∧ (convert 34 9 t1).run Tryd.prog w' = .ok (.string sv) w') (fun _ h => h.1) _ _ _ _ ?_
            have hSn := And.intro hSn hcv
            refine tks [19] 1 rfl (by kernel_rfl) (fun _ _ _ _ h => h) (by assumption) (fun KT hKT => ?_)
            refine tkT (by (simp only [gA, gB, gC]; rfl)) (by rfl) (by (intro w hSw; (simp only [Holds] at hSw); go_simp <;> with_reducible rfl)) ?_
            simp only [Act.put, pA, pB, pC]
            refine hKT _ ?_
            clear KT hKT
            refine wpAnyH_ready (rs := [21]) (by kernel_rfl) (by simp) ?_
            refine AllReadyH.cons (o := ?oz17) ?iz17 (fun K hK => ?kz17) AllReadyH.nil
            case iz17 => (simp only [List.getElem?_toArray, List.getElem?_cons_zero, List.getElem?_cons_succ]; rfl)
            go_simp
            change Calls _ _ #[planV (.slice la l1.length lc)] _ _
            refine (vprint_any (HP.out.below (HBd.out.trans (Bc.out.mono HB6.out.size))) HW.out HF.out ((HT.out.on (HBd.out.trans (Bc.out.mono HB6.out.size))).up (HBd.out.trans (Bc.out.mono HB6.out.size)).size)).mono ?_
            rw [HMM.out]
            rintro e w9 ⟨t2, rfl, ht2, hb⟩
            have hcv2 := conv_row ht2.row
            rw [HSV.out] at hcv2
            have hcv1 := conv_row (HT1.out.below hb).row
            rw [HSV.out] at hcv1
            have Bc9 := Lib.hid (Bc.out.trans (hb.mono Bc.out.size))
            have HH9 := Holds.below Bc9.out HS0.out hlt.out
            refine hK.out _ _ ⟨HH9, hcv1⟩ (fun _ => ?_)
            clear hb hK ht2
            refine wpAnyH_strong (S' := fun w' => (Holds [((⟨NQ, 0, none⟩ : Addr), Value.slice qa M.length qc), (⟨w.heap.size + 1, 0, none⟩, .slice la l1.length lc)] w' ∧ (convert 34 9 t1).run Tryd.prog w' = .ok (.string sv) w') ∧ (convert 34 9 t2).run Tryd.prog w' = .ok (.string sv) w') (fun _ h => h.1) _ _ _ _ ?_
            have hSn := And.intro (And.intro HH9 hcv1) hcv2
            refine tks [22, 23, 24, 25] 4 rfl (by kernel_rfl) (fun _ _ _ _ h => h) (by assumption) (fun KT hKT => ?_)
            iterate 4 (refine tkT (by (simp only [gA, gB, gC]; rfl)) (by rfl) (by (intro w hSw; (simp only [Holds] at hSw); go_simp <;> with_reducible rfl)) ?_; simp only [Act.put, pA, pB, pC])
            refine hKT _ ?_
            clear KT hKT
            refine wpAnyH_done (by kernel_rfl) ?_ _
            have HB9 := Lib.hid (HBd.out.trans (Bc9.out.mono HB6.out.size))
            clear HS0 hlt hSn Bc Bc9 HH9 hcv1 hcv2
            go_wp2
            go_ret
            exact ⟨rfl, HB9.out⟩
          · have hcb : (ce != 0) = true := by simpa using hce0
            refine tks [3, 4, 5, 6] 4 rfl (by kernel_rfl) (fun _ _ _ _ h => h) (by assumption) (fun KT hKT => ?_)
            iterate 4 (refine tkT (by (simp only [gA, gB, gC]; rfl)) (by rfl) (by (intro w hSw; (simp only [Holds] at hSw); go_simp <;> with_reducible rfl)) ?_; simp only [Act.put, pA, pB, pC])
            refine hKT _ ?_
            clear KT hKT
            refine tks [7, 8, 9, 10, 11, 12, 13] 7 rfl (by kernel_rfl) (fun _ _ _ _ h => h) (by assumption) (fun KT hKT => ?_)
            iterate 7 (refine tkS (by (simp only [gA, gB, gC]; rfl)) (by rfl) ?_; simp only [Act.put, pA, pB, pC])
            refine hKT _ ?_
            clear KT hKT
            refine tks [14, 15, 16] 3 rfl (by kernel_rfl) (fun _ _ _ _ h => h) (by assumption) (fun KT hKT => ?_)
            iterate 3 (refine tkT (by (simp only [gA, gB, gC]; rfl)) (by rfl) (by (intro w hSw; (simp only [Holds] at hSw); go_simp <;> with_reducible rfl)) ?_; simp only [Act.put, pA, pB, pC])
            refine hKT _ ?_
            clear KT hKT
            refine tks [17, 20] 2 rfl (by kernel_rfl) (fun _ _ _ _ h => h) (by assumption) (fun KT hKT => ?_)
            iterate 2 (refine tkT (by (simp only [gA, gB, gC]; rfl)) (by rfl) (by (intro w hSw; (simp only [Holds] at hSw); go_simp <;> with_reducible rfl)) ?_; simp only [Act.put, pA, pB, pC])
            refine hKT _ ?_
            clear KT hKT
            refine wpAnyH_ready (rs := [18]) (by kernel_rfl) (by simp) ?_
            refine AllReadyH.cons (o := ?oz18) ?iz18 (fun K hK => ?kz18) AllReadyH.nil
            case iz18 => (simp only [List.getElem?_toArray, List.getElem?_cons_zero, List.getElem?_cons_succ]; rfl)
            go_simp
            change Calls _ _ #[planV (.slice qa M.length qc)] _ _
            refine (vprint_any (HQd.out.below Bc.out).is HMW.out HMFi.out ((HT.out.on (HBd.out.trans (Bc.out.mono HB6.out.size))).up (HBd.out.trans (Bc.out.mono HB6.out.size)).size)).mono ?_
            rw [HMI.out]
            rintro e w8 ⟨t1, rfl, ht1, hb⟩
            have hcv := conv_row ht1.row
            rw [HSV.out] at hcv
            have HT1 := Lib.hid ht1
            refine held_more hK HS0.out hlt (Bc.out.trans (hb.mono Bc.out.size)) (fun Bc hSn => ?_)
            clear hb hK ht1
            refine wpAnyH_strong (S' := fun w' => Holds [((⟨NQ, 0, none⟩ : Addr), Value.slice qa M.length qc), (⟨w.heap.size + 1, 0, none⟩, .slice la l1.length lc)] w' ∧ (convert 34 9 t1).run Tryd.prog w' = .ok (.string sv) w') (fun _ h => h.1) _ _ _ _ ?_
            have hSn := And.intro hSn hcv
            refine tks [19] 1 rfl (by kernel_rfl) (fun _ _ _ _ h => h) (by assumption) (fun KT hKT => ?_)
            refine tkT (by (simp only [gA, gB, gC]; rfl)) (by rfl) (by (intro w hSw; (simp only [Holds] at hSw); go_simp <;> with_reducible rfl)) ?_
            simp only [Act.put, pA, pB, pC]
            refine hKT _ ?_
            clear KT hKT
            refine wpAnyH_ready (rs := [21]) (by kernel_rfl) (by simp) ?_
            refine AllReadyH.cons (o := ?oz19) ?iz19 (fun K hK => ?kz19) AllReadyH.nil
            case iz19 => (simp only [List.getElem?_toArray, List.getElem?_cons_zero, List.getElem?_cons_succ]; rfl)
            go_simp
            change Calls _ _ #[planV (.slice la l1.length lc)] _ _
            refine (vprint_any (HP.out.below (HBd.out.trans (Bc.out.mono HB6.out.size))) HW.out HF.out ((HT.out.on (HBd.out.trans (Bc.out.mono HB6.out.size))).up (HBd.out.trans (Bc.out.mono HB6.out.size)).size)).mono ?_
            rw [HMM.out]
            rintro e w9 ⟨t2, rfl, ht2, hb⟩
            have hcv2 := conv_row ht2.row
            rw [HSV.out] at hcv2
            have hcv1 := conv_row (HT1.out.below hb).row
            rw [HSV.out] at hcv1
            have Bc9 := Lib.hid (Bc.out.trans (hb.mono Bc.out.size))
            have HH9 := Holds.below Bc9.out HS0.out hlt.out
            refine hK.out _ _ ⟨HH9, hcv1⟩ (fun _ => ?_)
            clear hb hK ht2
            refine wpAnyH_strong (S' := fun w' => (Holds [((⟨NQ, 0, none⟩ : Addr), Value.slice qa M.length qc), (⟨w.heap.size + 1, 0, none⟩, .slice la l1.length lc)] w' ∧ (convert 34 9 t1).run Tryd.prog w' = .ok (.string sv) w') ∧ (convert 34 9 t2).run Tryd.prog w' = .ok (.string sv) w') (fun _ h => h.1) _ _ _ _ ?_
            have hSn := And.intro (And.intro HH9 hcv1) hcv2
            refine tks [22, 23, 24, 25] 4 rfl (by kernel_rfl) (fun _ _ _ _ h => h) (by assumption) (fun KT hKT => ?_)
            iterate 4 (refine tkT (by (simp only [gA, gB, gC]; rfl)) (by rfl) (by (intro w hSw; (simp only [Holds] at hSw); go_simp <;> with_reducible rfl)) ?_; simp only [Act.put, pA, pB, pC])
            refine hKT _ ?_
            clear KT hKT
            refine wpAnyH_done (by kernel_rfl) ?_ _
            have HB9 := Lib.hid (HBd.out.trans (Bc9.out.mono HB6.out.size))
            clear HS0 hlt hSn Bc Bc9 HH9 hcv1 hcv2
            go_wp2
            go_ret
            exact ⟨rfl, HB9.out⟩
  · have hdf : decide (FewP l1) = false := decide_eq_false hfew
    rw [hdf]
    clear hdf hfew
    go_wp2
    go_ret
    exact ⟨rfl, HB2.out⟩

set_option maxRecDepth 100000 in
theorem lifted (os : Os) (started : os.Started) (H : Type) (enc : TypeId × Value → H) :
    ReturnsInHanded {} Tryd.checked os 9 .any (fun w args => (Rows.planSortsSpec.pre enc Tryd.prog Tryd.f9 [] false w args ∧ laidMetH Tryd.prog Rows.planSortsRow.laid w) ∧ sizedMet enc Tryd.prog Tryd.f9 (OpenSpec.ofChange Rows.planSortsSpec) false w args)
      (Rows.planSortsSpec.post enc Tryd.prog Tryd.f9 false true false false) := by
  refine returnsInHanded_of_change_and (C := Tryd.checked) (X := fun w _ => laidMetH Tryd.prog Rows.planSortsRow.laid w) (fun _ _ _ hh h => h.of_heap hh) own started (by kernel_rfl) Tryd.func9
    (ChangeSpec.witness_shaped (enc := enc) (C := Tryd.checked) (os := os) (X := fun w _ => laidMetH Tryd.prog Rows.planSortsRow.laid w) false (World.doorLaid Tryd.prog 24 os) #[.agg #[.int .i64 0, .int .i64 0, .int .i64 0, .slice none 0 0], .agg #[.slice none 0 0]] 8 rfl (World.shaped_of_RefB (by kernel_rfl) (by kernel_rfl)) (by kernel_rfl) (by kernel_rfl) (by kernel_rfl) (door_met os _)) ?_
  intro W base args ds gs before hval0 hW _ _ hL _
  have hval : ∀ (j : Nat) t v, Tryd.f9.params[j]? = some t → args[j]? = some v → Value.okWide Tryd.prog W .any base t v := hval0
  have hW' := hW
  obtain ⟨p, q, hA0, hV, rfl, hfz, hnd⟩ := hW
  have hA : DataW.TrodAll enc Tryd.prog W 0 (fun _ => true) true Tryd.f9.params.toList args.toList ds p := hA0
  rw [Tryd.params9] at hA hval
  obtain ⟨v0, vs0, d0, ds0, p0, q0, hargs, rfl, rfl, h0, r0⟩ := trodAll_cons hA
  obtain ⟨v1, vs1, d1, ds1, p1, q1, rfl, rfl, rfl, h1, r1⟩ := trodAll_cons r0
  obtain ⟨rfl, rfl, rfl⟩ := trodAll_nil r1
  obtain rfl : args = #[v0, v1] := by cases args; simp_all
  obtain ⟨rfl, rfl⟩ := trodVars_none hV
  have k0 := h0
  have lt0 : ∀ x ∈ p0, x.block < W.heap.size := by obtain ⟨m, hm⟩ := k0; exact DataW.trod_lt m _ _ _ hm
  have k1 := h1
  have lt1 : ∀ x ∈ p1, x.block < W.heap.size := by obtain ⟨m, hm⟩ := k1; exact DataW.trod_lt m _ _ _ hm
  obtain ⟨I0, u0, rfl, e0, _⟩ := open_inst (hval 0 24 v0 rfl rfl) h0
  obtain ⟨u1, l1, rfl, e1, f1⟩ := open_plan (hval 1 27 v1 rfl rfl) h1
  have hT := tab_of_laid hL
  clear hA0 hval0
  refine (walk I0 _ _ l1 W e0 e1 f1 hT).mono fun e W' ⟨he, bel⟩ => ?_
  subst he
  exact ⟨_, rfl, _, _, _, [], _, [], hW', trodAll_mk1 (shut_bool Tryd.underlying4 _), (trodAll_cons_mk (Below.trod laidOut (by kernel_rfl) (of_decide_eq_true (by kernel_rfl)) k0 bel lt0) (trodAll_cons_mk (Below.trod laidOut (by kernel_rfl) (of_decide_eq_true (by kernel_rfl)) k1 bel lt1) trodAll_mk0)), rfl, bel.frame _, fun h => by cases h⟩

theorem over : Rows.PlanSortsSaid :=
  OpenClaim.holds_of_wide 9 Tryd.f9 rfl rfl rfl rfl rfl rfl rfl ⟨rfl, rfl, rfl, rfl, rfl⟩ rfl rfl rfl rfl rfl (by kernel_rfl) Tryd.func9 (by kernel_rfl)
    (of_decide_eq_true (by kernel_rfl)) (by unfold Func.isWrapper; first | (rw [if_pos (by decide +kernel)]; kernel_rfl) | (rw [if_neg (by decide +kernel)]; exact ⟨rfl, rfl⟩))
    (fun os started H enc _ => lifted os started H enc)

theorem proved : Rows.PlanSortsCardSaid :=
  Claim7.holds_tied_plain_at .later [] [.data, .data, .data] true Rows.planSortsCard.stood.harness false
    over (fun _ h => by cases h) (by kernel_rfl) (fun _ h => by cases h) planSorts_row_tie rfl ⟨rfl, rfl⟩ (by kernel_rfl) rfl
    (fun f fn hf hfn => by
      obtain rfl : f = 9 := Option.some.inj ((show Tryd.prog.funcNamed Rows.planSortsRow.func = some 9 by kernel_rfl).symm.trans hf) |>.symm
      obtain rfl : fn = Tryd.f9 := (Option.some.inj (Tryd.func9.symm.trans hfn)).symm
      refine ⟨by kernel_rfl, fun j t ht => ?_⟩
      rw [Tryd.params9] at ht
      rcases j with _ | _ | j
      · obtain rfl : t = 24 := by simpa using ht.symm
        exact (show Tryd.prog.wantsStandIn 24 = false by kernel_rfl)
      · obtain rfl : t = 27 := by simpa using ht.symm
        exact (show Tryd.prog.wantsStandIn 27 = false by kernel_rfl)
      · simp at ht)
    (by kernel_rfl)
#print axioms proved
end Go.Proofs.YtpdeffpmfbplnaaDoor.planSorts
