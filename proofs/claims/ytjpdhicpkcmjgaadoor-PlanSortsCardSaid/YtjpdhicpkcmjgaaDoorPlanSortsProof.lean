/- A plan in the order of its first stops is that once more, and costs the same, if no route has no stops: for every instance and every plan (the law answers true at once for more than 33 stops, 40 routes, 100 stops of a route). -/
import Derived.Test.YtjpdhicpkcmjgaaDoorRows
import Derived.Test.YtjpdhicpkcmjgaaDoorTie
import Derived.Test.YtjpdhicpkcmjgaaDoorCards
import Derived.Test.YtjpdhicpkcmjgaaDoorXPrint
import Derived.SevenTiedAt
import Derived.Test.YtjpdhicpkcmjgaaDoorVPerm
import Derived.Deep.CutRange
namespace Go.Proofs.YtjpdhicpkcmjgaaDoor.planSorts
open Go.ChangeShapes Go.WideShapes Go.ChangeAt Go.RowKit

set_option maxRecDepth 1000000 in
set_option maxHeartbeats 4000000 in
theorem walk (I0 : Ins) (v0 : Value) (v1 : Value) (l1 : List (List Int)) (w : World) (e0 : SRow w v0 I0.l) (e1 : IsLL w v1 l1) (f1 : Fits l1) (hT : Tab w.heap.size w) :
    Calls Tryd.prog 9 #[insV I0 v0, planV v1] w fun e w' => e = .returned (.bool true) ∧ Below w.heap.size w w' := by
  have HT := Lib.hid hT
  have HE := Lib.hid e0
  have HP := Lib.hid e1
  have HF := Lib.hid f1
  obtain ⟨ad, cap, rfl, hm, _⟩ := e0.form
  obtain ⟨la, lc, rfl, hlm⟩ := e1.form
  have hm1 : I0.l.length ≤ 9223372036854775807 := by unfold maxLen at hm; omega
  have hlm1 : l1.length ≤ 9223372036854775807 := by unfold maxLen at hlm; omega
  obtain ⟨hy, hx, hb, hsz⟩ := worldC_facts w I0 (.slice ad I0.l.length cap) (.slice la l1.length lc)
  have HY := Lib.hid hy
  have HX := Lib.hid (show PBox _ _ _ from hx)
  have HB := Lib.hid hb
  have HSZ := Lib.hid hsz
  clear hT e0 e1 f1 hm hlm hy hx hb hsz
  unfold insV planV
  go_enter Tryd.func9, Tryd.ntmps9
  go_upto_region 1 with fail
  change Code.wp _ _ _ _ (worldC w I0 (.slice ad I0.l.length cap) (.slice la l1.length lc))
  generalize worldC w I0 (.slice ad I0.l.length cap) (.slice la l1.length lc) = W at *
  go_wp2_with fail
  refine (vawake_any ((HT.out.on HB.out).up HB.out.size)).mono ?_
  rintro e w1 ⟨rfl, hb⟩
  have HB1 := Lib.hid (HB.out.trans (hb.mono HB.out.size))
  have HY1 := Lib.hid (HY.out.later hb)
  have HX1 := Lib.hid (HX.out.later hb)
  have HSZ1 := Lib.hid (show w.heap.size + 2 ≤ w1.heap.size by have := HSZ.out; have := hb.size; omega)
  have x0 := HX1.out.cell
  clear hb
  go_wp2_with fail
  change Calls _ _ #[planV (.slice la l1.length lc)] _ _
  refine (vfew_any (HP.out.below HB1.out)).mono ?_
  rintro e w2 ⟨rfl, hb⟩
  have HB2 := Lib.hid (HB1.out.trans (hb.mono HB1.out.size))
  have HY2 := Lib.hid (HY1.out.later hb)
  have HX2 := Lib.hid (HX1.out.later hb)
  have HSZ2 := Lib.hid (show w.heap.size + 2 ≤ w2.heap.size by have := HSZ1.out; have := hb.size; omega)
  clear hb x0
  obtain ⟨c0, c1, c2, c3⟩ := HY2.out.cells
  have x0 := HX2.out.cell
  by_cases hfew : FewP l1
  · have hdf : decide (FewP l1) = true := decide_eq_true hfew
    have HW := Lib.hid hfew
    rw [hdf]
    clear hdf hfew
    by_cases hlen : 33 < I0.l.length
    · have hlen2 : (33 : Int) < (I0.l.length : Int) := by omega
      go_wp2
      go_ret
      exact ⟨rfl, HB2.out⟩
    · have hlen2 : ¬ (33 : Int) < (I0.l.length : Int) := by omega
      go_wp2_with fail
      change Calls _ _ #[planV (.slice la l1.length lc)] _ _
      refine (vsorted_any (HP.out.below HB2.out) HW.out.1 HW.out.rows).mono ?_
      rintro e w3 ⟨q, rfl, hq, hb⟩
      have HQ := Lib.hid hq
      have HB3 := Lib.hid (HB2.out.trans (hb.mono HB2.out.size))
      have HY3 := Lib.hid (HY2.out.later hb)
      have HX3 := Lib.hid (HX2.out.later hb)
      obtain ⟨qa, qc, rfl, hqm⟩ := hq.is.form
      obtain ⟨M, hM⟩ : ∃ M, ordL l1 = M := ⟨_, rfl⟩
      have hMl : M.length ≤ 40 := by rw [← hM]; exact (few_ord HW.out).1
      have HMF := Lib.hid (show Full M by rw [← hM]; exact ord_full l1)
      have HMS := Lib.hid (show ∀ k, k + 1 < M.length → key (M.getD k []) ≤ key (M.getD (k + 1) []) by rw [← hM]; exact ord_step l1)
      rw [hM] at HQ ⊢
      have HMM := Lib.hid hM
      have HBq := (Below.refl w3.heap.size w3).alloc (Nat.le_refl _) (.cells #[.slice qa M.length qc] 27)
      have HB4 := Lib.hid (HB3.out.alloc HB3.out.size (.cells #[.slice qa M.length qc] 27))
      have HY4 := Lib.hid (HY3.out.later HBq)
      have HX4 := Lib.hid (HX3.out.later HBq)
      have HQ4 := Lib.hid (HQ.out.below HBq)
      have HXQ := Lib.hid (pbox_new w3 (.slice qa M.length qc))
      have hnx : w.heap.size + 1 < w3.heap.size := HX3.out.lt
      clear hb hq hqm hM HBq x0 c0 c1 c2 c3
      unfold planV
      go_upto_region 6 with fail
      generalize w3.alloc (.cells #[.slice qa M.length qc] 27) = W4 at *
      generalize w3.heap.size = NQ at *
      go_wp2_with fail
      go_loopw [8] (fun kv wr => ∃ (k : Nat), k ≤ M.length ∧ kv = .int .i64 k ∧ Below W4.heap.size W4 wr) (fun kv _ => M.length - (intOf kv).toNat)
      case atStart => exact ⟨0, Nat.zero_le _, rfl, Below.refl _ _⟩
      case round =>
        obtain ⟨k, hk, rfl, hbw⟩ := hrel
        have HBW := Lib.hid hbw
        have HBr := Lib.hid (HB4.out.trans (hbw.mono HB4.out.size))
        have HYr := Lib.hid (HY4.out.later hbw)
        have HXr := Lib.hid (HX4.out.later hbw)
        have HQr := Lib.hid (HQ4.out.below hbw)
        have HXQr := Lib.hid (HXQ.out.later hbw)
        have q0 := HXQr.out.cell
        clear hbw
        by_cases hlt : k < M.length
        · have hlt2 : (k : Int) < (M.length : Int) := by omega
          obtain ⟨tb, off, a1, n1, d1, hqe, _, hcl, hn1, hmx, hrow⟩ := ll_at HQr.out.is k hlt
          obtain rfl := hqe
          have hne := full_at HMF.out hlt
          have hpos : 0 < (M.getD k []).length := List.length_pos_iff.2 hne
          obtain ⟨rb, ro, rc, he, hcell, _, _⟩ := row_at (p := 0) hrow (by rw [ints_len]; exact hpos)
          rw [ints_at _ 0 hpos] at hcell
          simp only [ints_len, Value.slice.injEq] at he
          obtain ⟨rfl, rfl, rfl⟩ := he
          rw [Nat.add_zero] at hcell
          have hkey : (M.getD k []).getD 0 0 = key (M.getD k []) := rfl
          rw [hkey] at hcell
          have hm2 : (M.getD k []).length ≤ 9223372036854775807 := by unfold maxLen at hmx; omega
          have hz : (((M.getD k []).length : Int) == 0) = false := by simpa using hne
          have HSTEP := HMS
          by_cases hk0 : k = 0
          · have hk1 : ¬ (0 : Int) < (k : Int) := by omega
            have hkd : decide (0 < k) = false := decide_eq_false (by omega)
            generalize (M.getD k []).length = ln at *
            generalize key (M.getD k []) = kx at *
            clear hrow hkey hne hpos hmx hk0
            go_wp2_with fail
            go_quiet (fail)
            have HB2q := Lib.hid (below_drewN HBW.out nq)
            clear hcl hcell q0
            generalize wr.drewN nq = w5 at *
            go_wp2_with fail
            go_roundw
            case rel => exact ⟨k + 1, by omega, by go_num, HB2q.out⟩
            case measure => simp [intOf]; omega
          · have hk1 : (0 : Int) < (k : Int) := by omega
            have hkd : decide (0 < k) = true := decide_eq_true (by omega)
            obtain ⟨kp, hkp⟩ : ∃ kp, kp = k - 1 := ⟨_, rfl⟩
            have hkk : k = kp + 1 := by omega
            have hst := HMS.out kp (by omega)
            rw [← hkk] at hst
            have hltp : kp < M.length := by omega
            obtain ⟨tb2, off2, a2, n2, d2, hqe2, _, hcl2, hn2, hmx2, hrow2⟩ := ll_at HQr.out.is kp hltp
            simp only [Option.some.injEq, Addr.mk.injEq, and_true] at hqe2
            obtain ⟨rfl, rfl⟩ := hqe2
            have hne2 := full_at HMF.out hltp
            have hpos2 : 0 < (M.getD kp []).length := List.length_pos_iff.2 hne2
            obtain ⟨rb2, ro2, rc2, he2, hcell2, _, _⟩ := row_at (p := 0) hrow2 (by rw [ints_len]; exact hpos2)
            rw [ints_at _ 0 hpos2] at hcell2
            simp only [ints_len, Value.slice.injEq] at he2
            obtain ⟨rfl, rfl, rfl⟩ := he2
            rw [Nat.add_zero] at hcell2
            have hkey2 : (M.getD kp []).getD 0 0 = key (M.getD kp []) := rfl
            rw [hkey2] at hcell2
            have hm3 : (M.getD kp []).length ≤ 9223372036854775807 := by unfold maxLen at hmx2; omega
            have hz2 : (0 : Int) < ((M.getD kp []).length : Int) := by omega
            have hz2d : decide (0 < (M.getD kp []).length) = true := decide_eq_true (by omega)
            have e1 : IntKind.i64.wrap ((k : Int) - 1) = (kp : Int) := by rw [IntWalk.i64_in _ (by omega)]; omega
            generalize (M.getD k []).length = ln at *
            generalize key (M.getD k []) = kx at *
            generalize (M.getD kp []).length = ln2 at *
            generalize key (M.getD kp []) = kx2 at *
            have hd : ¬ kx < kx2 := by omega
            have hdb : decide (kx < kx2) = false := decide_eq_false hd
            have HKK := Lib.hid hkk
            have hz3 : (0 : Int) < (ln : Int) := by omega
            clear hrow hkey hne hmx hrow2 hkey2 hne2 hmx2 hk0 hkp hkk hst
            go_wp2_with fail
            go_quiet (fail)
            have HB2q := Lib.hid (below_drewN HBW.out nq)
            clear hcl hcell hcl2 hcell2 q0
            generalize wr.drewN nq = w5 at *
            go_wp2_with fail
            go_roundw
            case rel => exact ⟨k + 1, by omega, by go_num, HB2q.out⟩
            case measure => simp [intOf]; omega
        · obtain rfl : k = M.length := by omega
          have hl2 : ¬ (M.length : Int) < (M.length : Int) := by omega
          obtain ⟨c0, c1, c2, c3⟩ := HYr.out.cells
          have x0 := HXr.out.cell
          have HMo := Lib.hid (show (costE I0 l1 = 0 → costE I0 M = 0 ∧ costN I0 M = costN I0 l1) by rw [← HMM.out]; exact cost_ord)
          have HMI := Lib.hid (show ordL M = M by rw [← HMM.out]; exact ord_idem l1)
          have HMW := Lib.hid (show FewP M by rw [← HMM.out]; exact few_ord HW.out)
          have HMFi := Lib.hid (show Fits M by rw [← HMM.out]; exact fits_ord HF.out)
          clear hlt
          go_wp2_with fail
          change Calls _ _ #[insV I0 (.slice ad I0.l.length cap), planV (.slice la l1.length lc)] _ _
          refine (cost_any (HE.out.below HBr.out) (HP.out.below HBr.out)).mono ?_
          rintro e w5 ⟨rfl, hb⟩
          have HB5 := Lib.hid (HBr.out.trans (hb.mono HBr.out.size))
          have HY5 := Lib.hid (HYr.out.later hb)
          have HX5 := Lib.hid (HXr.out.later hb)
          have HXQ5 := Lib.hid (HXQr.out.later hb)
          have HQ5 := Lib.hid (HQr.out.below hb)
          clear hb x0 c0 c1 c2 c3 q0
          obtain ⟨c0, c1, c2, c3⟩ := HY5.out.cells
          have q0 := HXQ5.out.cell
          go_wp2_with fail
          change Calls _ _ #[insV I0 (.slice ad I0.l.length cap), planV (.slice qa M.length qc)] _ _
          refine (cost_any (HE.out.below HB5.out) HQ5.out.is).mono ?_
          rintro e w6 ⟨rfl, hb⟩
          have HB6 := Lib.hid (HB5.out.trans (hb.mono HB5.out.size))
          have HX6 := Lib.hid (HX5.out.later hb)
          have HXQ6 := Lib.hid (HXQ5.out.later hb)
          have HQ6 := Lib.hid (HQ5.out.below hb)
          clear hb c0 c1 c2 c3 q0
          obtain ⟨ce, hce⟩ : ∃ ce, costE I0 l1 = ce := ⟨_, rfl⟩
          obtain ⟨cn, hcn⟩ : ∃ cn, costN I0 l1 = cn := ⟨_, rfl⟩
          obtain ⟨de, hde⟩ : ∃ de, costE I0 M = de := ⟨_, rfl⟩
          obtain ⟨dn, hdn⟩ : ∃ dn, costN I0 M = dn := ⟨_, rfl⟩
          rw [hce, hcn, hde, hdn] at HMo
          rw [hce, hcn, hde, hdn]
          clear hce hcn hde hdn
          go_upto_region 13 with fail
          have hlx := HX6.out.lt
          have hlq := HXQ6.out.lt
          have x0 := HX6.out.cell
          have q0 := HXQ6.out.cell
          have HS0 := Lib.hid (show Holds [((⟨NQ, 0, none⟩ : Addr), Value.slice qa M.length qc), (⟨w.heap.size + 1, 0, none⟩, .slice la l1.length lc)] w6.drew from ⟨q0, x0, trivial⟩)
          have hlt := Lib.hid (show Lows w6.drew.heap.size [((⟨NQ, 0, none⟩ : Addr), Value.slice qa M.length qc), (⟨w.heap.size + 1, 0, none⟩, .slice la l1.length lc)] from ⟨hlq, hlx, trivial⟩)
          have HBd := Lib.hid (HB6.out.trans ((Below.refl w.heap.size w6).drew))
          have HQd := Lib.hid (HQ6.out.below ((Below.refl w6.heap.size w6).drew))
          obtain ⟨sv, hsv⟩ : ∃ sv, strOfNums (textOf M) = sv := ⟨_, rfl⟩
          have HSV := Lib.hid hsv
          clear x0 q0 hsv
          refine wp_region_held_drew (S := Holds [((⟨NQ, 0, none⟩ : Addr), Value.slice qa M.length qc), (⟨w.heap.size + 1, 0, none⟩, .slice la l1.length lc)]) (by kernel_rfl) HS0.out (fun hSn => ?_)
          have Bc := Lib.hid (Below.refl w6.drew.heap.size w6.drew)
          refine wpAnyH_take (i := 0) (oi := ?oz1) (v := ?vz1) ?iz1 (by kernel_rfl) (by kernel_rfl) (by kernel_rfl) ?qz1 (Or.inl ⟨?gz1, ?hz1⟩) (by assumption) ?rz1
          case iz1 => (simp only [List.getElem?_toArray, List.getElem?_cons_zero]; rfl)
          case qz1 => exact fun _ _ _ h => h
          case gz1 => rfl
          case hz1 => (intro w hSw; (simp only [Holds] at hSw); go_simp <;> with_reducible rfl)
          simp only [Act.put, List.setIfInBounds_toArray, List.set_cons_zero, List.set_cons_succ]
          refine wpAnyH_take (i := 1) (oi := ?oz2) (v := ?vz2) ?iz2 (by kernel_rfl) (by kernel_rfl) (by kernel_rfl) ?qz2 (Or.inl ⟨?gz2, ?hz2⟩) (by assumption) ?rz2
          case iz2 => (simp only [List.getElem?_toArray, List.getElem?_cons_zero, List.getElem?_cons_succ]; rfl)
          case qz2 => exact fun _ _ _ h => h
          case gz2 => rfl
          case hz2 => (intro w hSw; (simp only [Holds] at hSw); go_simp <;> with_reducible rfl)
          simp only [Act.put, List.setIfInBounds_toArray, List.set_cons_zero, List.set_cons_succ]
          refine wpAnyH_ready (rs := [2]) (by kernel_rfl) (by simp) ?_
          refine AllReadyH.cons (o := ?oz3) ?iz3 (fun K hK => ?kz3) AllReadyH.nil
          case iz3 => (simp only [List.getElem?_toArray, List.getElem?_cons_zero, List.getElem?_cons_succ]; rfl)
          go_simp
          change Calls _ _ #[planV (.slice qa M.length qc), planV (.slice la l1.length lc)] _ _
          refine (vsame_any (HQd.out.below Bc.out).is (HP.out.below (HBd.out.trans (Bc.out.mono HB6.out.size))) HMW.out HW.out).mono ?_
          rw [HMI.out, HMM.out, decide_eq_true rfl]
          rintro e w7 ⟨rfl, hb⟩
          refine held_more hK HS0.out hlt (Bc.out.trans (hb.mono Bc.out.size)) (fun Bc hSn => ?_)
          clear hb hK
          by_cases hce0 : ce = 0
          · obtain ⟨rfl, rfl⟩ := HMo.out hce0
            subst hce0
            refine wpAnyH_take (i := 3) (oi := ?oz4) (v := ?vz4) ?iz4 (by kernel_rfl) (by kernel_rfl) (by kernel_rfl) ?qz4 (Or.inl ⟨?gz4, ?hz4⟩) (by assumption) ?rz4
            case iz4 => (simp only [List.getElem?_toArray, List.getElem?_cons_zero, List.getElem?_cons_succ]; rfl)
            case qz4 => exact fun _ _ _ h => h
            case gz4 => rfl
            case hz4 => (intro w hSw; (simp only [Holds] at hSw); go_simp <;> with_reducible rfl)
            simp only [Act.put, List.setIfInBounds_toArray, List.set_cons_zero, List.set_cons_succ]
            refine wpAnyH_take (i := 4) (oi := ?oz5) (v := ?vz5) ?iz5 (by kernel_rfl) (by kernel_rfl) (by kernel_rfl) ?qz5 (Or.inl ⟨?gz5, ?hz5⟩) (by assumption) ?rz5
            case iz5 => (simp only [List.getElem?_toArray, List.getElem?_cons_zero, List.getElem?_cons_succ]; rfl)
            case qz5 => exact fun _ _ _ h => h
            case gz5 => rfl
            case hz5 => (intro w hSw; (simp only [Holds] at hSw); go_simp <;> with_reducible rfl)
            simp only [Act.put, List.setIfInBounds_toArray, List.set_cons_zero, List.set_cons_succ]
            refine wpAnyH_take (i := 5) (oi := ?oz6) (v := ?vz6) ?iz6 (by kernel_rfl) (by kernel_rfl) (by kernel_rfl) ?qz6 (Or.inl ⟨?gz6, ?hz6⟩) (by assumption) ?rz6
            case iz6 => (simp only [List.getElem?_toArray, List.getElem?_cons_zero, List.getElem?_cons_succ]; rfl)
            case qz6 => exact fun _ _ _ h => h
            case gz6 => rfl
            case hz6 => (intro w hSw; (simp only [Holds] at hSw); go_simp <;> with_reducible rfl)
            simp only [Act.put, List.setIfInBounds_toArray, List.set_cons_zero, List.set_cons_succ]
            refine wpAnyH_take (i := 6) (oi := ?oz7) (v := ?vz7) ?iz7 (by kernel_rfl) (by kernel_rfl) (by kernel_rfl) ?qz7 (Or.inl ⟨?gz7, ?hz7⟩) (by assumption) ?rz7
            case iz7 => (simp only [List.getElem?_toArray, List.getElem?_cons_zero, List.getElem?_cons_succ]; rfl)
            case qz7 => exact fun _ _ _ h => h
            case gz7 => rfl
            case hz7 => (intro w hSw; (simp only [Holds] at hSw); go_simp <;> with_reducible rfl)
            simp only [Act.put, List.setIfInBounds_toArray, List.set_cons_zero, List.set_cons_succ]
            refine wpAnyH_take (i := 7) (oi := ?oz8) (v := ?vz8) ?iz8 (by kernel_rfl) (by kernel_rfl) (by kernel_rfl) ?qz8 (Or.inl ⟨?gz8, ?hz8⟩) (by assumption) ?rz8
            case iz8 => (simp only [List.getElem?_toArray, List.getElem?_cons_zero, List.getElem?_cons_succ]; rfl)
            case qz8 => exact fun _ _ _ h => h
            case gz8 => rfl
            case hz8 => (intro w hSw; (simp only [Holds] at hSw); go_simp <;> with_reducible rfl)
            simp only [Act.put, List.setIfInBounds_toArray, List.set_cons_zero, List.set_cons_succ]
            refine wpAnyH_take (i := 8) (oi := ?oz9) (v := ?vz9) ?iz9 (by kernel_rfl) (by kernel_rfl) (by kernel_rfl) ?qz9 (Or.inl ⟨?gz9, ?hz9⟩) (by assumption) ?rz9
            case iz9 => (simp only [List.getElem?_toArray, List.getElem?_cons_zero, List.getElem?_cons_succ]; rfl)
            case qz9 => exact fun _ _ _ h => h
            case gz9 => rfl
            case hz9 => (intro w hSw; (simp only [Holds] at hSw); go_simp <;> with_reducible rfl)
            simp only [Act.put, List.setIfInBounds_toArray, List.set_cons_zero, List.set_cons_succ]
            refine wpAnyH_take (i := 9) (oi := ?oz10) (v := ?vz10) ?iz10 (by kernel_rfl) (by kernel_rfl) (by kernel_rfl) ?qz10 (Or.inl ⟨?gz10, ?hz10⟩) (by assumption) ?rz10
            case iz10 => (simp only [List.getElem?_toArray, List.getElem?_cons_zero, List.getElem?_cons_succ]; rfl)
            case qz10 => exact fun _ _ _ h => h
            case gz10 => rfl
            case hz10 => (intro w hSw; (simp only [Holds] at hSw); go_simp <;> with_reducible rfl)
            simp only [Act.put, List.setIfInBounds_toArray, List.set_cons_zero, List.set_cons_succ]
            refine wpAnyH_take (i := 10) (oi := ?oz11) (v := ?vz11) ?iz11 (by kernel_rfl) (by kernel_rfl) (by kernel_rfl) ?qz11 (Or.inl ⟨?gz11, ?hz11⟩) (by assumption) ?rz11
            case iz11 => (simp only [List.getElem?_toArray, List.getElem?_cons_zero, List.getElem?_cons_succ]; rfl)
            case qz11 => exact fun _ _ _ h => h
            case gz11 => rfl
            case hz11 => (intro w hSw; (simp only [Holds] at hSw); go_simp <;> with_reducible rfl)
            simp only [Act.put, List.setIfInBounds_toArray, List.set_cons_zero, List.set_cons_succ]
            refine wpAnyH_take (i := 11) (oi := ?oz12) (v := ?vz12) ?iz12 (by kernel_rfl) (by kernel_rfl) (by kernel_rfl) ?qz12 (Or.inl ⟨?gz12, ?hz12⟩) (by assumption) ?rz12
            case iz12 => (simp only [List.getElem?_toArray, List.getElem?_cons_zero, List.getElem?_cons_succ]; rfl)
            case qz12 => exact fun _ _ _ h => h
            case gz12 => rfl
            case hz12 => (intro w hSw; (simp only [Holds] at hSw); go_simp <;> with_reducible rfl)
            simp only [Act.put, List.setIfInBounds_toArray, List.set_cons_zero, List.set_cons_succ]
            refine wpAnyH_take (i := 12) (oi := ?oz13) (v := ?vz13) ?iz13 (by kernel_rfl) (by kernel_rfl) (by kernel_rfl) ?qz13 (Or.inl ⟨?gz13, ?hz13⟩) (by assumption) ?rz13
            case iz13 => (simp only [List.getElem?_toArray, List.getElem?_cons_zero, List.getElem?_cons_succ]; rfl)
            case qz13 => exact fun _ _ _ h => h
            case gz13 => rfl
            case hz13 => (intro w hSw; (simp only [Holds] at hSw); go_simp <;> with_reducible rfl)
            simp only [Act.put, List.setIfInBounds_toArray, List.set_cons_zero, List.set_cons_succ]
            refine wpAnyH_take (i := 13) (oi := ?oz14) (v := ?vz14) ?iz14 (by kernel_rfl) (by kernel_rfl) (by kernel_rfl) ?qz14 (Or.inl ⟨?gz14, ?hz14⟩) (by assumption) ?rz14
            case iz14 => (simp only [List.getElem?_toArray, List.getElem?_cons_zero, List.getElem?_cons_succ]; rfl)
            case qz14 => exact fun _ _ _ h => h
            case gz14 => rfl
            case hz14 => (intro w hSw; (simp only [Holds] at hSw); go_simp <;> with_reducible rfl)
            simp only [Act.put, List.setIfInBounds_toArray, List.set_cons_zero, List.set_cons_succ]
            refine wpAnyH_take (i := 14) (oi := ?oz15) (v := ?vz15) ?iz15 (by kernel_rfl) (by kernel_rfl) (by kernel_rfl) ?qz15 (Or.inl ⟨?gz15, ?hz15⟩) (by assumption) ?rz15
            case iz15 => (simp only [List.getElem?_toArray, List.getElem?_cons_zero, List.getElem?_cons_succ]; rfl)
            case qz15 => exact fun _ _ _ h => h
            case gz15 => rfl
            case hz15 => (intro w hSw; (simp only [Holds] at hSw); go_simp <;> with_reducible rfl)
            simp only [Act.put, List.setIfInBounds_toArray, List.set_cons_zero, List.set_cons_succ]
            refine wpAnyH_take (i := 15) (oi := ?oz16) (v := ?vz16) ?iz16 (by kernel_rfl) (by kernel_rfl) (by kernel_rfl) ?qz16 (Or.inl ⟨?gz16, ?hz16⟩) (by assumption) ?rz16
            case iz16 => (simp only [List.getElem?_toArray, List.getElem?_cons_zero, List.getElem?_cons_succ]; rfl)
            case qz16 => exact fun _ _ _ h => h
            case gz16 => rfl
            case hz16 => (intro w hSw; (simp only [Holds] at hSw); go_simp <;> with_reducible rfl)
            simp only [Act.put, List.setIfInBounds_toArray, List.set_cons_zero, List.set_cons_succ]
            refine wpAnyH_take (i := 16) (oi := ?oz17) (v := ?vz17) ?iz17 (by kernel_rfl) (by kernel_rfl) (by kernel_rfl) ?qz17 (Or.inl ⟨?gz17, ?hz17⟩) (by assumption) ?rz17
            case iz17 => (simp only [List.getElem?_toArray, List.getElem?_cons_zero, List.getElem?_cons_succ]; rfl)
            case qz17 => exact fun _ _ _ h => h
            case gz17 => rfl
            case hz17 => (intro w hSw; (simp only [Holds] at hSw); go_simp <;> with_reducible rfl)
            simp only [Act.put, List.setIfInBounds_toArray, List.set_cons_zero, List.set_cons_succ]
            refine wpAnyH_take (i := 17) (oi := ?oz18) (v := ?vz18) ?iz18 (by kernel_rfl) (by kernel_rfl) (by kernel_rfl) ?qz18 (Or.inl ⟨?gz18, ?hz18⟩) (by assumption) ?rz18
            case iz18 => (simp only [List.getElem?_toArray, List.getElem?_cons_zero, List.getElem?_cons_succ]; rfl)
            case qz18 => exact fun _ _ _ h => h
            case gz18 => rfl
            case hz18 => (intro w hSw; (simp only [Holds] at hSw); go_simp <;> with_reducible rfl)
            simp only [Act.put, List.setIfInBounds_toArray, List.set_cons_zero, List.set_cons_succ]
            refine wpAnyH_take (i := 20) (oi := ?oz19) (v := ?vz19) ?iz19 (by kernel_rfl) (by kernel_rfl) (by kernel_rfl) ?qz19 (Or.inl ⟨?gz19, ?hz19⟩) (by assumption) ?rz19
            case iz19 => (simp only [List.getElem?_toArray, List.getElem?_cons_zero, List.getElem?_cons_succ]; rfl)
            case qz19 => exact fun _ _ _ h => h
            case gz19 => rfl
            case hz19 => (intro w hSw; (simp only [Holds] at hSw); go_simp <;> with_reducible rfl)
            simp only [Act.put, List.setIfInBounds_toArray, List.set_cons_zero, List.set_cons_succ]
            refine wpAnyH_ready (rs := [18]) (by kernel_rfl) (by simp) ?_
            refine AllReadyH.cons (o := ?oz20) ?iz20 (fun K hK => ?kz20) AllReadyH.nil
            case iz20 => (simp only [List.getElem?_toArray, List.getElem?_cons_zero, List.getElem?_cons_succ]; rfl)
            go_simp
            change Calls _ _ #[planV (.slice qa M.length qc)] _ _
            refine (vprint_any (HQd.out.below Bc.out).is HMW.out HMFi.out ((HT.out.on (HBd.out.trans (Bc.out.mono HB6.out.size))).up (HBd.out.trans (Bc.out.mono HB6.out.size)).size)).mono ?_
            rw [HMI.out]
            rintro e w8 ⟨t1, rfl, ht1, hb⟩
            have hcv := conv_row ht1.row
            rw [HSV.out] at hcv
            have HT1 := Lib.hid ht1
            refine held_more hK HS0.out hlt (Bc.out.trans (hb.mono Bc.out.size)) (fun Bc hSn => ?_)
            clear hb hK ht1
            refine wpAnyH_strong (S' := fun w' => Holds [((⟨NQ, 0, none⟩ : Addr), Value.slice qa M.length qc), (⟨w.heap.size + 1, 0, none⟩, .slice la l1.length lc)] w' ∧ (convert 34 9 t1).run Tryd.prog w' = .ok (.string sv) w') (fun _ h => h.1) _ _ _ _ ?_
            have hSn := And.intro hSn hcv
            refine wpAnyH_take (i := 19) (oi := ?oz21) (v := ?vz21) ?iz21 (by kernel_rfl) (by kernel_rfl) (by kernel_rfl) ?qz21 (Or.inl ⟨?gz21, ?hz21⟩) (by assumption) ?rz21
            case iz21 => (simp only [List.getElem?_toArray, List.getElem?_cons_zero, List.getElem?_cons_succ]; rfl)
            case qz21 => exact fun _ _ _ h => h
            case gz21 => rfl
            case hz21 => (intro w hSw; (simp only [Holds] at hSw); go_simp <;> with_reducible rfl)
            simp only [Act.put, List.setIfInBounds_toArray, List.set_cons_zero, List.set_cons_succ]
            refine wpAnyH_ready (rs := [21]) (by kernel_rfl) (by simp) ?_
            refine AllReadyH.cons (o := ?oz22) ?iz22 (fun K hK => ?kz22) AllReadyH.nil
            case iz22 => (simp only [List.getElem?_toArray, List.getElem?_cons_zero, List.getElem?_cons_succ]; rfl)
            go_simp
            change Calls _ _ #[planV (.slice la l1.length lc)] _ _
            refine (vprint_any (HP.out.below (HBd.out.trans (Bc.out.mono HB6.out.size))) HW.out HF.out ((HT.out.on (HBd.out.trans (Bc.out.mono HB6.out.size))).up (HBd.out.trans (Bc.out.mono HB6.out.size)).size)).mono ?_
            rw [HMM.out]
            rintro e w9 ⟨t2, rfl, ht2, hb⟩
            have hcv2 := conv_row ht2.row
            rw [HSV.out] at hcv2
            have hcv1 := conv_row (HT1.out.below hb).row
            rw [HSV.out] at hcv1
            have Bc9 := Lib.hid (Bc.out.trans (hb.mono Bc.out.size))
            have HH9 := Holds.below Bc9.out HS0.out hlt.out
            refine hK.out _ _ ⟨HH9, hcv1⟩ (fun _ => ?_)
            clear hb hK ht2
            refine wpAnyH_strong (S' := fun w' => (Holds [((⟨NQ, 0, none⟩ : Addr), Value.slice qa M.length qc), (⟨w.heap.size + 1, 0, none⟩, .slice la l1.length lc)] w' ∧ (convert 34 9 t1).run Tryd.prog w' = .ok (.string sv) w') ∧ (convert 34 9 t2).run Tryd.prog w' = .ok (.string sv) w') (fun _ h => h.1) _ _ _ _ ?_
            have hSn := And.intro (And.intro HH9 hcv1) hcv2
            refine wpAnyH_take (i := 22) (oi := ?oz23) (v := ?vz23) ?iz23 (by kernel_rfl) (by kernel_rfl) (by kernel_rfl) ?qz23 (Or.inl ⟨?gz23, ?hz23⟩) (by assumption) ?rz23
            case iz23 => (simp only [List.getElem?_toArray, List.getElem?_cons_zero, List.getElem?_cons_succ]; rfl)
            case qz23 => exact fun _ _ _ h => h
            case gz23 => rfl
            case hz23 => (intro w hSw; (simp only [Holds] at hSw); go_simp <;> with_reducible rfl)
            simp only [Act.put, List.setIfInBounds_toArray, List.set_cons_zero, List.set_cons_succ]
            refine wpAnyH_take (i := 23) (oi := ?oz24) (v := ?vz24) ?iz24 (by kernel_rfl) (by kernel_rfl) (by kernel_rfl) ?qz24 (Or.inl ⟨?gz24, ?hz24⟩) (by assumption) ?rz24
            case iz24 => (simp only [List.getElem?_toArray, List.getElem?_cons_zero, List.getElem?_cons_succ]; rfl)
            case qz24 => exact fun _ _ _ h => h
            case gz24 => rfl
            case hz24 => (intro w hSw; (simp only [Holds] at hSw); go_simp <;> with_reducible rfl)
            simp only [Act.put, List.setIfInBounds_toArray, List.set_cons_zero, List.set_cons_succ]
            refine wpAnyH_take (i := 24) (oi := ?oz25) (v := ?vz25) ?iz25 (by kernel_rfl) (by kernel_rfl) (by kernel_rfl) ?qz25 (Or.inl ⟨?gz25, ?hz25⟩) (by assumption) ?rz25
            case iz25 => (simp only [List.getElem?_toArray, List.getElem?_cons_zero, List.getElem?_cons_succ]; rfl)
            case qz25 => exact fun _ _ _ h => h
            case gz25 => rfl
            case hz25 => (intro w hSw; (simp only [Holds] at hSw); go_simp <;> with_reducible rfl)
            simp only [Act.put, List.setIfInBounds_toArray, List.set_cons_zero, List.set_cons_succ]
            refine wpAnyH_take (i := 25) (oi := ?oz26) (v := ?vz26) ?iz26 (by kernel_rfl) (by kernel_rfl) (by kernel_rfl) ?qz26 (Or.inl ⟨?gz26, ?hz26⟩) (by assumption) ?rz26
            case iz26 => (simp only [List.getElem?_toArray, List.getElem?_cons_zero, List.getElem?_cons_succ]; rfl)
            case qz26 => exact fun _ _ _ h => h
            case gz26 => rfl
            case hz26 => (intro w hSw; (simp only [Holds] at hSw); go_simp <;> with_reducible rfl)
            simp only [Act.put, List.setIfInBounds_toArray, List.set_cons_zero, List.set_cons_succ]
            refine wpAnyH_done (by kernel_rfl) ?_ _
            have HB9 := Lib.hid (HBd.out.trans (Bc9.out.mono HB6.out.size))
            clear HS0 hlt hSn Bc Bc9 HH9 hcv1 hcv2
            go_wp2
            go_ret
            exact ⟨rfl, HB9.out⟩
          · have hcb : (ce != 0) = true := by simpa using hce0
            refine wpAnyH_take (i := 3) (oi := ?oz27) (v := ?vz27) ?iz27 (by kernel_rfl) (by kernel_rfl) (by kernel_rfl) ?qz27 (Or.inl ⟨?gz27, ?hz27⟩) (by assumption) ?rz27
            case iz27 => (simp only [List.getElem?_toArray, List.getElem?_cons_zero, List.getElem?_cons_succ]; rfl)
            case qz27 => exact fun _ _ _ h => h
            case gz27 => rfl
            case hz27 => (intro w hSw; (simp only [Holds] at hSw); go_simp <;> with_reducible rfl)
            simp only [Act.put, List.setIfInBounds_toArray, List.set_cons_zero, List.set_cons_succ]
            refine wpAnyH_take (i := 4) (oi := ?oz28) (v := ?vz28) ?iz28 (by kernel_rfl) (by kernel_rfl) (by kernel_rfl) ?qz28 (Or.inl ⟨?gz28, ?hz28⟩) (by assumption) ?rz28
            case iz28 => (simp only [List.getElem?_toArray, List.getElem?_cons_zero, List.getElem?_cons_succ]; rfl)
            case qz28 => exact fun _ _ _ h => h
            case gz28 => rfl
            case hz28 => (intro w hSw; (simp only [Holds] at hSw); go_simp <;> with_reducible rfl)
            simp only [Act.put, List.setIfInBounds_toArray, List.set_cons_zero, List.set_cons_succ]
            refine wpAnyH_take (i := 5) (oi := ?oz29) (v := ?vz29) ?iz29 (by kernel_rfl) (by kernel_rfl) (by kernel_rfl) ?qz29 (Or.inl ⟨?gz29, ?hz29⟩) (by assumption) ?rz29
            case iz29 => (simp only [List.getElem?_toArray, List.getElem?_cons_zero, List.getElem?_cons_succ]; rfl)
            case qz29 => exact fun _ _ _ h => h
            case gz29 => rfl
            case hz29 => (intro w hSw; (simp only [Holds] at hSw); go_simp <;> with_reducible rfl)
            simp only [Act.put, List.setIfInBounds_toArray, List.set_cons_zero, List.set_cons_succ]
            refine wpAnyH_take (i := 6) (oi := ?oz30) (v := ?vz30) ?iz30 (by kernel_rfl) (by kernel_rfl) (by kernel_rfl) ?qz30 (Or.inl ⟨?gz30, ?hz30⟩) (by assumption) ?rz30
            case iz30 => (simp only [List.getElem?_toArray, List.getElem?_cons_zero, List.getElem?_cons_succ]; rfl)
            case qz30 => exact fun _ _ _ h => h
            case gz30 => rfl
            case hz30 => (intro w hSw; (simp only [Holds] at hSw); go_simp <;> with_reducible rfl)
            simp only [Act.put, List.setIfInBounds_toArray, List.set_cons_zero, List.set_cons_succ]
            refine wpAnyH_take (i := 7) (oi := ?oz31) (v := undef) ?iz31 (by kernel_rfl) (by kernel_rfl) (by kernel_rfl) ?qz31 (Or.inr ⟨?gz31, rfl⟩) (by assumption) ?rz31
            case iz31 => (simp only [List.getElem?_toArray, List.getElem?_cons_zero, List.getElem?_cons_succ]; rfl)
            case qz31 => exact fun _ _ _ h => h
            case gz31 => rfl
            simp only [Act.put, List.setIfInBounds_toArray, List.set_cons_zero, List.set_cons_succ]
            refine wpAnyH_take (i := 8) (oi := ?oz32) (v := undef) ?iz32 (by kernel_rfl) (by kernel_rfl) (by kernel_rfl) ?qz32 (Or.inr ⟨?gz32, rfl⟩) (by assumption) ?rz32
            case iz32 => (simp only [List.getElem?_toArray, List.getElem?_cons_zero, List.getElem?_cons_succ]; rfl)
            case qz32 => exact fun _ _ _ h => h
            case gz32 => rfl
            simp only [Act.put, List.setIfInBounds_toArray, List.set_cons_zero, List.set_cons_succ]
            refine wpAnyH_take (i := 9) (oi := ?oz33) (v := undef) ?iz33 (by kernel_rfl) (by kernel_rfl) (by kernel_rfl) ?qz33 (Or.inr ⟨?gz33, rfl⟩) (by assumption) ?rz33
            case iz33 => (simp only [List.getElem?_toArray, List.getElem?_cons_zero, List.getElem?_cons_succ]; rfl)
            case qz33 => exact fun _ _ _ h => h
            case gz33 => rfl
            simp only [Act.put, List.setIfInBounds_toArray, List.set_cons_zero, List.set_cons_succ]
            refine wpAnyH_take (i := 10) (oi := ?oz34) (v := undef) ?iz34 (by kernel_rfl) (by kernel_rfl) (by kernel_rfl) ?qz34 (Or.inr ⟨?gz34, rfl⟩) (by assumption) ?rz34
            case iz34 => (simp only [List.getElem?_toArray, List.getElem?_cons_zero, List.getElem?_cons_succ]; rfl)
            case qz34 => exact fun _ _ _ h => h
            case gz34 => rfl
            simp only [Act.put, List.setIfInBounds_toArray, List.set_cons_zero, List.set_cons_succ]
            refine wpAnyH_take (i := 11) (oi := ?oz35) (v := undef) ?iz35 (by kernel_rfl) (by kernel_rfl) (by kernel_rfl) ?qz35 (Or.inr ⟨?gz35, rfl⟩) (by assumption) ?rz35
            case iz35 => (simp only [List.getElem?_toArray, List.getElem?_cons_zero, List.getElem?_cons_succ]; rfl)
            case qz35 => exact fun _ _ _ h => h
            case gz35 => rfl
            simp only [Act.put, List.setIfInBounds_toArray, List.set_cons_zero, List.set_cons_succ]
            refine wpAnyH_take (i := 12) (oi := ?oz36) (v := undef) ?iz36 (by kernel_rfl) (by kernel_rfl) (by kernel_rfl) ?qz36 (Or.inr ⟨?gz36, rfl⟩) (by assumption) ?rz36
            case iz36 => (simp only [List.getElem?_toArray, List.getElem?_cons_zero, List.getElem?_cons_succ]; rfl)
            case qz36 => exact fun _ _ _ h => h
            case gz36 => rfl
            simp only [Act.put, List.setIfInBounds_toArray, List.set_cons_zero, List.set_cons_succ]
            refine wpAnyH_take (i := 13) (oi := ?oz37) (v := undef) ?iz37 (by kernel_rfl) (by kernel_rfl) (by kernel_rfl) ?qz37 (Or.inr ⟨?gz37, rfl⟩) (by assumption) ?rz37
            case iz37 => (simp only [List.getElem?_toArray, List.getElem?_cons_zero, List.getElem?_cons_succ]; rfl)
            case qz37 => exact fun _ _ _ h => h
            case gz37 => rfl
            simp only [Act.put, List.setIfInBounds_toArray, List.set_cons_zero, List.set_cons_succ]
            refine wpAnyH_take (i := 14) (oi := ?oz38) (v := ?vz38) ?iz38 (by kernel_rfl) (by kernel_rfl) (by kernel_rfl) ?qz38 (Or.inl ⟨?gz38, ?hz38⟩) (by assumption) ?rz38
            case iz38 => (simp only [List.getElem?_toArray, List.getElem?_cons_zero, List.getElem?_cons_succ]; rfl)
            case qz38 => exact fun _ _ _ h => h
            case gz38 => rfl
            case hz38 => (intro w hSw; (simp only [Holds] at hSw); go_simp <;> with_reducible rfl)
            simp only [Act.put, List.setIfInBounds_toArray, List.set_cons_zero, List.set_cons_succ]
            refine wpAnyH_take (i := 15) (oi := ?oz39) (v := ?vz39) ?iz39 (by kernel_rfl) (by kernel_rfl) (by kernel_rfl) ?qz39 (Or.inl ⟨?gz39, ?hz39⟩) (by assumption) ?rz39
            case iz39 => (simp only [List.getElem?_toArray, List.getElem?_cons_zero, List.getElem?_cons_succ]; rfl)
            case qz39 => exact fun _ _ _ h => h
            case gz39 => rfl
            case hz39 => (intro w hSw; (simp only [Holds] at hSw); go_simp <;> with_reducible rfl)
            simp only [Act.put, List.setIfInBounds_toArray, List.set_cons_zero, List.set_cons_succ]
            refine wpAnyH_take (i := 16) (oi := ?oz40) (v := ?vz40) ?iz40 (by kernel_rfl) (by kernel_rfl) (by kernel_rfl) ?qz40 (Or.inl ⟨?gz40, ?hz40⟩) (by assumption) ?rz40
            case iz40 => (simp only [List.getElem?_toArray, List.getElem?_cons_zero, List.getElem?_cons_succ]; rfl)
            case qz40 => exact fun _ _ _ h => h
            case gz40 => rfl
            case hz40 => (intro w hSw; (simp only [Holds] at hSw); go_simp <;> with_reducible rfl)
            simp only [Act.put, List.setIfInBounds_toArray, List.set_cons_zero, List.set_cons_succ]
            refine wpAnyH_take (i := 17) (oi := ?oz41) (v := ?vz41) ?iz41 (by kernel_rfl) (by kernel_rfl) (by kernel_rfl) ?qz41 (Or.inl ⟨?gz41, ?hz41⟩) (by assumption) ?rz41
            case iz41 => (simp only [List.getElem?_toArray, List.getElem?_cons_zero, List.getElem?_cons_succ]; rfl)
            case qz41 => exact fun _ _ _ h => h
            case gz41 => rfl
            case hz41 => (intro w hSw; (simp only [Holds] at hSw); go_simp <;> with_reducible rfl)
            simp only [Act.put, List.setIfInBounds_toArray, List.set_cons_zero, List.set_cons_succ]
            refine wpAnyH_take (i := 20) (oi := ?oz42) (v := ?vz42) ?iz42 (by kernel_rfl) (by kernel_rfl) (by kernel_rfl) ?qz42 (Or.inl ⟨?gz42, ?hz42⟩) (by assumption) ?rz42
            case iz42 => (simp only [List.getElem?_toArray, List.getElem?_cons_zero, List.getElem?_cons_succ]; rfl)
            case qz42 => exact fun _ _ _ h => h
            case gz42 => rfl
            case hz42 => (intro w hSw; (simp only [Holds] at hSw); go_simp <;> with_reducible rfl)
            simp only [Act.put, List.setIfInBounds_toArray, List.set_cons_zero, List.set_cons_succ]
            refine wpAnyH_ready (rs := [18]) (by kernel_rfl) (by simp) ?_
            refine AllReadyH.cons (o := ?oz43) ?iz43 (fun K hK => ?kz43) AllReadyH.nil
            case iz43 => (simp only [List.getElem?_toArray, List.getElem?_cons_zero, List.getElem?_cons_succ]; rfl)
            go_simp
            change Calls _ _ #[planV (.slice qa M.length qc)] _ _
            refine (vprint_any (HQd.out.below Bc.out).is HMW.out HMFi.out ((HT.out.on (HBd.out.trans (Bc.out.mono HB6.out.size))).up (HBd.out.trans (Bc.out.mono HB6.out.size)).size)).mono ?_
            rw [HMI.out]
            rintro e w8 ⟨t1, rfl, ht1, hb⟩
            have hcv := conv_row ht1.row
            rw [HSV.out] at hcv
            have HT1 := Lib.hid ht1
            refine held_more hK HS0.out hlt (Bc.out.trans (hb.mono Bc.out.size)) (fun Bc hSn => ?_)
            clear hb hK ht1
            refine wpAnyH_strong (S' := fun w' => Holds [((⟨NQ, 0, none⟩ : Addr), Value.slice qa M.length qc), (⟨w.heap.size + 1, 0, none⟩, .slice la l1.length lc)] w' ∧ (convert 34 9 t1).run Tryd.prog w' = .ok (.string sv) w') (fun _ h => h.1) _ _ _ _ ?_
            have hSn := And.intro hSn hcv
            refine wpAnyH_take (i := 19) (oi := ?oz44) (v := ?vz44) ?iz44 (by kernel_rfl) (by kernel_rfl) (by kernel_rfl) ?qz44 (Or.inl ⟨?gz44, ?hz44⟩) (by assumption) ?rz44
            case iz44 => (simp only [List.getElem?_toArray, List.getElem?_cons_zero, List.getElem?_cons_succ]; rfl)
            case qz44 => exact fun _ _ _ h => h
            case gz44 => rfl
            case hz44 => (intro w hSw; (simp only [Holds] at hSw); go_simp <;> with_reducible rfl)
            simp only [Act.put, List.setIfInBounds_toArray, List.set_cons_zero, List.set_cons_succ]
            refine wpAnyH_ready (rs := [21]) (by kernel_rfl) (by simp) ?_
            refine AllReadyH.cons (o := ?oz45) ?iz45 (fun K hK => ?kz45) AllReadyH.nil
            case iz45 => (simp only [List.getElem?_toArray, List.getElem?_cons_zero, List.getElem?_cons_succ]; rfl)
            go_simp
            change Calls _ _ #[planV (.slice la l1.length lc)] _ _
            refine (vprint_any (HP.out.below (HBd.out.trans (Bc.out.mono HB6.out.size))) HW.out HF.out ((HT.out.on (HBd.out.trans (Bc.out.mono HB6.out.size))).up (HBd.out.trans (Bc.out.mono HB6.out.size)).size)).mono ?_
            rw [HMM.out]
            rintro e w9 ⟨t2, rfl, ht2, hb⟩
            have hcv2 := conv_row ht2.row
            rw [HSV.out] at hcv2
            have hcv1 := conv_row (HT1.out.below hb).row
            rw [HSV.out] at hcv1
            have Bc9 := Lib.hid (Bc.out.trans (hb.mono Bc.out.size))
            have HH9 := Holds.below Bc9.out HS0.out hlt.out
            refine hK.out _ _ ⟨HH9, hcv1⟩ (fun _ => ?_)
            clear hb hK ht2
            refine wpAnyH_strong (S' := fun w' => (Holds [((⟨NQ, 0, none⟩ : Addr), Value.slice qa M.length qc), (⟨w.heap.size + 1, 0, none⟩, .slice la l1.length lc)] w' ∧ (convert 34 9 t1).run Tryd.prog w' = .ok (.string sv) w') ∧ (convert 34 9 t2).run Tryd.prog w' = .ok (.string sv) w') (fun _ h => h.1) _ _ _ _ ?_
            have hSn := And.intro (And.intro HH9 hcv1) hcv2
            refine wpAnyH_take (i := 22) (oi := ?oz46) (v := ?vz46) ?iz46 (by kernel_rfl) (by kernel_rfl) (by kernel_rfl) ?qz46 (Or.inl ⟨?gz46, ?hz46⟩) (by assumption) ?rz46
            case iz46 => (simp only [List.getElem?_toArray, List.getElem?_cons_zero, List.getElem?_cons_succ]; rfl)
            case qz46 => exact fun _ _ _ h => h
            case gz46 => rfl
            case hz46 => (intro w hSw; (simp only [Holds] at hSw); go_simp <;> with_reducible rfl)
            simp only [Act.put, List.setIfInBounds_toArray, List.set_cons_zero, List.set_cons_succ]
            refine wpAnyH_take (i := 23) (oi := ?oz47) (v := ?vz47) ?iz47 (by kernel_rfl) (by kernel_rfl) (by kernel_rfl) ?qz47 (Or.inl ⟨?gz47, ?hz47⟩) (by assumption) ?rz47
            case iz47 => (simp only [List.getElem?_toArray, List.getElem?_cons_zero, List.getElem?_cons_succ]; rfl)
            case qz47 => exact fun _ _ _ h => h
            case gz47 => rfl
            case hz47 => (intro w hSw; (simp only [Holds] at hSw); go_simp <;> with_reducible rfl)
            simp only [Act.put, List.setIfInBounds_toArray, List.set_cons_zero, List.set_cons_succ]
            refine wpAnyH_take (i := 24) (oi := ?oz48) (v := ?vz48) ?iz48 (by kernel_rfl) (by kernel_rfl) (by kernel_rfl) ?qz48 (Or.inl ⟨?gz48, ?hz48⟩) (by assumption) ?rz48
            case iz48 => (simp only [List.getElem?_toArray, List.getElem?_cons_zero, List.getElem?_cons_succ]; rfl)
            case qz48 => exact fun _ _ _ h => h
            case gz48 => rfl
            case hz48 => (intro w hSw; (simp only [Holds] at hSw); go_simp <;> with_reducible rfl)
            simp only [Act.put, List.setIfInBounds_toArray, List.set_cons_zero, List.set_cons_succ]
            refine wpAnyH_take (i := 25) (oi := ?oz49) (v := ?vz49) ?iz49 (by kernel_rfl) (by kernel_rfl) (by kernel_rfl) ?qz49 (Or.inl ⟨?gz49, ?hz49⟩) (by assumption) ?rz49
            case iz49 => (simp only [List.getElem?_toArray, List.getElem?_cons_zero, List.getElem?_cons_succ]; rfl)
            case qz49 => exact fun _ _ _ h => h
            case gz49 => rfl
            case hz49 => (intro w hSw; (simp only [Holds] at hSw); go_simp <;> with_reducible rfl)
            simp only [Act.put, List.setIfInBounds_toArray, List.set_cons_zero, List.set_cons_succ]
            refine wpAnyH_done (by kernel_rfl) ?_ _
            have HB9 := Lib.hid (HBd.out.trans (Bc9.out.mono HB6.out.size))
            clear HS0 hlt hSn Bc Bc9 HH9 hcv1 hcv2
            go_wp2
            go_ret
            exact ⟨rfl, HB9.out⟩
  · have hdf : decide (FewP l1) = false := decide_eq_false hfew
    rw [hdf]
    clear hdf hfew
    go_wp2
    go_ret
    exact ⟨rfl, HB2.out⟩

set_option maxRecDepth 100000 in
theorem lifted (os : Os) (started : os.Started) (H : Type) (enc : TypeId × Value → H) :
    ReturnsInHanded {} Tryd.checked os 9 .any (fun w args => (Rows.planSortsSpec.pre enc Tryd.prog Tryd.f9 [] false w args ∧ laidMetH Tryd.prog Rows.planSortsRow.laid w) ∧ sizedMet enc Tryd.prog Tryd.f9 (OpenSpec.ofChange Rows.planSortsSpec) false w args)
      (Rows.planSortsSpec.post enc Tryd.prog Tryd.f9 false true false false) := by
  refine returnsInHanded_of_change_and (C := Tryd.checked) (X := fun w _ => laidMetH Tryd.prog Rows.planSortsRow.laid w) (fun _ _ _ hh h => h.of_heap hh) own started (by kernel_rfl) Tryd.func9
    (ChangeSpec.witness_shaped (enc := enc) (C := Tryd.checked) (os := os) (X := fun w _ => laidMetH Tryd.prog Rows.planSortsRow.laid w) false (World.doorLaid Tryd.prog 24 os) #[.agg #[.int .i64 0, .int .i64 0, .int .i64 0, .slice none 0 0], .agg #[.slice none 0 0]] 8 rfl (World.shaped_of_RefB (by kernel_rfl) (by kernel_rfl)) (by kernel_rfl) (by kernel_rfl) (by kernel_rfl) (door_met os _)) ?_
  intro W base args ds gs before hval0 hW _ _ hL _
  have hval : ∀ (j : Nat) t v, Tryd.f9.params[j]? = some t → args[j]? = some v → Value.okWide Tryd.prog W .any base t v := hval0
  have hW' := hW
  obtain ⟨p, q, hA0, hV, rfl, hfz, hnd⟩ := hW
  have hA : DataW.TrodAll enc Tryd.prog W 0 (fun _ => true) true Tryd.f9.params.toList args.toList ds p := hA0
  rw [Tryd.params9] at hA hval
  obtain ⟨v0, vs0, d0, ds0, p0, q0, hargs, rfl, rfl, h0, r0⟩ := trodAll_cons hA
  obtain ⟨v1, vs1, d1, ds1, p1, q1, rfl, rfl, rfl, h1, r1⟩ := trodAll_cons r0
  obtain ⟨rfl, rfl, rfl⟩ := trodAll_nil r1
  obtain rfl : args = #[v0, v1] := by cases args; simp_all
  obtain ⟨rfl, rfl⟩ := trodVars_none hV
  have k0 := h0
  have lt0 : ∀ x ∈ p0, x.block < W.heap.size := by obtain ⟨m, hm⟩ := k0; exact DataW.trod_lt m _ _ _ hm
  have k1 := h1
  have lt1 : ∀ x ∈ p1, x.block < W.heap.size := by obtain ⟨m, hm⟩ := k1; exact DataW.trod_lt m _ _ _ hm
  obtain ⟨I0, u0, rfl, e0, _⟩ := open_inst (hval 0 24 v0 rfl rfl) h0
  obtain ⟨u1, l1, rfl, e1, f1⟩ := open_plan (hval 1 27 v1 rfl rfl) h1
  have hT := tab_of_laid hL
  clear hA0 hval0
  refine (walk I0 _ _ l1 W e0 e1 f1 hT).mono fun e W' ⟨he, bel⟩ => ?_
  subst he
  exact ⟨_, rfl, _, _, _, [], _, [], hW', trodAll_mk1 (shut_bool Tryd.underlying4 _), (trodAll_cons_mk (Below.trod laidOut (by kernel_rfl) (of_decide_eq_true (by kernel_rfl)) k0 bel lt0) (trodAll_cons_mk (Below.trod laidOut (by kernel_rfl) (of_decide_eq_true (by kernel_rfl)) k1 bel lt1) trodAll_mk0)), rfl, bel.frame _, fun h => by cases h⟩

theorem over : Rows.PlanSortsSaid :=
  OpenClaim.holds_of_wide 9 Tryd.f9 rfl rfl rfl rfl rfl rfl rfl ⟨rfl, rfl, rfl, rfl, rfl⟩ rfl rfl rfl rfl rfl (by kernel_rfl) Tryd.func9 (by kernel_rfl)
    (of_decide_eq_true (by kernel_rfl)) (by unfold Func.isWrapper; first | (rw [if_pos (by decide +kernel)]; kernel_rfl) | (rw [if_neg (by decide +kernel)]; exact ⟨rfl, rfl⟩))
    (fun os started H enc _ => lifted os started H enc)

theorem proved : Rows.PlanSortsCardSaid :=
  Claim7.holds_tied_plain_at .later [] [.data, .data, .data] true Rows.planSortsCard.stood.harness false
    over (fun _ h => by cases h) (by kernel_rfl) (fun _ h => by cases h) planSorts_row_tie rfl ⟨rfl, rfl⟩ (by kernel_rfl) rfl
    (fun f fn hf hfn => by
      obtain rfl : f = 9 := Option.some.inj ((show Tryd.prog.funcNamed Rows.planSortsRow.func = some 9 by kernel_rfl).symm.trans hf) |>.symm
      obtain rfl : fn = Tryd.f9 := (Option.some.inj (Tryd.func9.symm.trans hfn)).symm
      refine ⟨by kernel_rfl, fun j t ht => ?_⟩
      rw [Tryd.params9] at ht
      rcases j with _ | _ | j
      · obtain rfl : t = 24 := by simpa using ht.symm
        exact (show Tryd.prog.wantsStandIn 24 = false by kernel_rfl)
      · obtain rfl : t = 27 := by simpa using ht.symm
        exact (show Tryd.prog.wantsStandIn 27 = false by kernel_rfl)
      · simp at ht)
    (by kernel_rfl)
#print axioms proved
end Go.Proofs.YtjpdhicpkcmjgaaDoor.planSorts
