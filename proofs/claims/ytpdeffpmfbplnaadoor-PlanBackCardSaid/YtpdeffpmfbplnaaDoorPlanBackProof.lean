/- What is printed is parsed as the plan in the order of its first stops, if all its stops are from 1 to 10^6: for every plan (the law answers true at once for more than 40 routes, or more than 100 stops of a route). -/
import Derived.Test.YtpdeffpmfbplnaaDoorRows
import Derived.Test.YtpdeffpmfbplnaaDoorTie
import Derived.Test.YtpdeffpmfbplnaaDoorCards
import Derived.Test.YtpdeffpmfbplnaaDoorXPrint
import Derived.SevenTiedAt
import Derived.Test.YtpdeffpmfbplnaaDoorVBox
import Derived.Deep.CutRange
namespace Go.Proofs.YtpdeffpmfbplnaaDoor.planBack
open Go.ChangeShapes Go.WideShapes Go.ChangeAt Go.RowKit

set_option maxRecDepth 1000000 in
set_option maxHeartbeats 4000000 in
theorem walk (v0 : Value) (l0 : List (List Int)) (w : World) (e0 : IsLL w v0 l0) (f0 : Fits l0) (hT : Tab w.heap.size w) :
    Calls Tryd.prog 5 #[planV v0] w fun e w' => e = .returned (.bool true) ∧ Below w.heap.size w w' := by
  have HT := Lib.hid hT
  have HP := Lib.hid e0
  have HF := Lib.hid f0
  obtain ⟨la, lc, rfl, hlm⟩ := e0.form
  have hlm1 : l0.length ≤ 9223372036854775807 := by unfold maxLen at hlm; omega
  have HB0 := Lib.hid ((Below.refl w.heap.size w).alloc (Nat.le_refl _) (.cells #[.slice la l0.length lc] 27))
  have HX0 := Lib.hid (pbox_new w (.slice la l0.length lc))
  clear hT e0 f0 hlm
  unfold planV
  go_enter Tryd.func5, Tryd.ntmps5
  go_upto_region 1 with fail
  generalize w.alloc (.cells #[.slice la l0.length lc] 27) = W at *
  go_wp2_with fail
  refine (vawake_any ((HT.out.on HB0.out).up HB0.out.size)).mono ?_
  rintro e w1 ⟨rfl, hb⟩
  have HB1 := Lib.hid (HB0.out.trans (hb.mono HB0.out.size))
  have HX1 := Lib.hid (HX0.out.later hb)
  have x0 := HX1.out.cell
  clear hb
  go_wp2_with fail
  change Calls _ _ #[planV (.slice la l0.length lc)] _ _
  refine (vfew_any (HP.out.below HB1.out)).mono ?_
  rintro e w2 ⟨rfl, hb⟩
  have HB2 := Lib.hid (HB1.out.trans (hb.mono HB1.out.size))
  have HX2 := Lib.hid (HX1.out.later hb)
  clear hb x0
  have x0 := HX2.out.cell
  by_cases hfew : FewP l0
  · have hdf : decide (FewP l0) = true := decide_eq_true hfew
    have HW := Lib.hid hfew
    rw [hdf]
    clear hdf hfew
    go_wp2_with fail
    go_loop [5] (fun kv => ∃ (k : Nat), k ≤ l0.length ∧ kv = .int .i64 k ∧ ∀ i, i < k → ∀ n ∈ l0.getD i [], 1 ≤ n ∧ n ≤ 1000000) (fun kv => l0.length - (intOf kv).toNat)
    case atStart => exact ⟨0, Nat.zero_le _, rfl, fun i hi => by omega⟩
    case round =>
      obtain ⟨k, hk, rfl, hall⟩ := hrel
      have HALL := Lib.hid hall
      clear hall
      by_cases hlt : k < l0.length
      · have hlt2 : (k : Int) < (l0.length : Int) := by omega
        obtain ⟨tb, off, a1, n1, d1, rfl, htb, hcl, hn1, hmx, hrow⟩ := ll_at (HP.out.below HB2.out) k hlt
        have HRow := Lib.hid hrow
        obtain ⟨l, hl⟩ : ∃ l, l0.getD k [] = l := ⟨_, rfl⟩
        rw [hl] at hn1 HRow
        have HLD := Lib.hid hl
        subst hn1
        have hm2 : l.length ≤ 9223372036854775807 := by unfold maxLen at hmx; omega
        clear hmx hrow htb hl
        go_wp2_with fail
        go_loop [6] (fun jv => ∃ (j : Nat), j ≤ l.length ∧ jv = .int .i64 j ∧ ∀ i, i < j → 1 ≤ l.getD i 0 ∧ l.getD i 0 ≤ 1000000) (fun jv => l.length - (intOf jv).toNat)
        case atStart => exact ⟨0, Nat.zero_le _, rfl, fun i hi => by omega⟩
        case round =>
          obtain ⟨j, hj, rfl, hall⟩ := hrel
          have HALJ := Lib.hid hall
          clear hall
          by_cases hjl : j < l.length
          · have hjl2 : (j : Int) < (l.length : Int) := by omega
            obtain ⟨rb, ro, rc, he, hcell, _, _⟩ := row_at (p := j) HRow.out (by rw [ints_len]; exact hjl)
            rw [ints_at l j hjl] at hcell
            simp only [ints_len, Value.slice.injEq, true_and] at he
            obtain ⟨rfl, rfl⟩ := he
            obtain ⟨x, hx⟩ : ∃ x, l.getD j 0 = x := ⟨_, rfl⟩
            rw [hx] at hcell
            have HX := Lib.hid hx
            clear hx
            by_cases h1 : x < 1
            · have hd1 := decide_eq_true h1
              go_wp2
              go_ret
              exact ⟨rfl, HB2.out⟩
            · have hd1 := decide_eq_false h1
              by_cases h2 : 1000000 < x
              · have hd2 := decide_eq_true h2
                go_wp2
                go_ret
                exact ⟨rfl, HB2.out⟩
              · have hd2 := decide_eq_false h2
                go_wp2_with fail
                go_round
                case rel => exact ⟨j + 1, by omega, by go_num, fun i hi => by
                  by_cases hij : i = j
                  · rw [hij, HX.out]; omega
                  · exact HALJ.out i (by omega)⟩
                case measure => simp [intOf]; omega
          · obtain rfl : j = l.length := by omega
            have hjl2 : ¬ (l.length : Int) < (l.length : Int) := by omega
            have HA := Lib.hid (all_at (l := l) (p := fun n => 1 ≤ n ∧ n ≤ 1000000) HALJ.out)
            go_wp2_with fail
            go_round
            case rel => exact ⟨k + 1, by omega, by go_num, fun i hi => by
              by_cases hik : i = k
              · rw [hik, HLD.out]; exact HA.out
              · exact HALL.out i (by omega)⟩
            case measure => simp [intOf]; omega
      · obtain rfl : k = l0.length := by omega
        have hl2 : ¬ (l0.length : Int) < (l0.length : Int) := by omega
        have HBK := Lib.hid (back_text (L := l0) (all_atL (L := l0) (p := fun l => ∀ n ∈ l, 1 ≤ n ∧ n ≤ 1000000) HALL.out))
        clear HALL
        go_wp2_with fail
        change Calls _ _ #[planV (.slice la l0.length lc)] _ _
        refine (vprint_any (HP.out.below HB2.out) HW.out HF.out ((HT.out.on HB2.out).up HB2.out.size)).mono ?_
        rintro e w3 ⟨tx, rfl, htx, hb⟩
        have HTX := Lib.hid htx
        have HB3 := Lib.hid (HB2.out.trans (hb.mono HB2.out.size))
        have HX3 := Lib.hid (HX2.out.later hb)
        obtain ⟨xa, xc, rfl⟩ := own_shape (show w3.ownsRow _ 5 1 tx _ (byts _) from htx)
        clear hb htx x0
        obtain ⟨T, hTx⟩ : ∃ T, textOf (ordL l0) = T := ⟨_, rfl⟩
        rw [hTx] at HTX HBK ⊢
        have htl : T.length ≤ 5000000 := by rw [← hTx]; exact few_text (few_ord HW.out) (fits_ord HF.out)
        clear hTx
        go_wp2_with fail
        refine (vparse_any HTX.out.row).mono ?_
        rintro e w4 ⟨q, rfl, hq, hb⟩
        have HQ := Lib.hid hq
        have HB4 := Lib.hid (HB3.out.trans (hb.mono HB3.out.size))
        have HX4 := Lib.hid (HX3.out.later hb)
        obtain ⟨qa, qc, rfl, _⟩ := hq.is.form
        clear hb hq
        obtain ⟨pe, hpe⟩ : ∃ pe, pErr T = pe := ⟨_, rfl⟩
        obtain ⟨pr, hpr⟩ : ∃ pr, pRes T = pr := ⟨_, rfl⟩
        rw [hpe, hpr] at HBK
        rw [hpr] at HQ ⊢
        rw [hpe]
        clear hpe hpr
        by_cases hbig : 4096 < T.length
        · have hbig2 : (4096 : Int) < (T.length : Int) := by omega
          obtain ⟨rfl, rfl⟩ := HBK.out.1 hbig
          have HB5 := Lib.hid (HB4.out.alloc HB4.out.size (.cells #[.slice qa ([] : List (List Int)).length qc] 27))
          unfold planV
          go_wp2
          go_ret
          exact ⟨rfl, HB5.out⟩
        · have hbig2 : ¬ (4096 : Int) < (T.length : Int) := by omega
          obtain ⟨rfl, hpr⟩ := HBK.out.2 hbig
          have HPR := Lib.hid hpr
          have HB5 := Lib.hid (HB4.out.alloc HB4.out.size (.cells #[.slice qa pr.length qc] 27))
          have HX5 := Lib.hid (HX4.out.later ((Below.refl _ w4).alloc (Nat.le_refl _) (.cells #[.slice qa pr.length qc] 27)))
          have HQ5 := Lib.hid (HQ.out.below ((Below.refl _ w4).alloc (Nat.le_refl _) (.cells #[.slice qa pr.length qc] 27)))
          have HXQ := Lib.hid (pbox_new w4 (.slice qa pr.length qc))
          clear hpr
          unfold planV
          go_upto_region 15 with fail
          generalize w4.alloc (.cells #[.slice qa pr.length qc] 27) = W5 at *
          generalize w4.heap.size = NQ at *
          have x0 := HX5.out.cell
          go_wp2_with fail
          change Calls _ _ #[planV (.slice la l0.length lc)] _ _
          refine (vsorted_any (HP.out.below HB5.out) HW.out.1 HW.out.rows).mono ?_
          rintro e w6 ⟨s, rfl, hs, hb⟩
          have HS := Lib.hid hs
          have HB6 := Lib.hid (HB5.out.trans (hb.mono HB5.out.size))
          have HX6 := Lib.hid (HX5.out.later hb)
          have HQ6 := Lib.hid (HQ5.out.below hb)
          have HXQ6 := Lib.hid (HXQ.out.later hb)
          obtain ⟨sa, sc, rfl, _⟩ := hs.is.form
          clear hb hs x0
          rw [← HPR.out] at HS ⊢
          have HB7 := Lib.hid (HB6.out.alloc HB6.out.size (.cells #[.slice sa pr.length sc] 27))
          have HX7 := Lib.hid (HX6.out.later ((Below.refl _ w6).alloc (Nat.le_refl _) (.cells #[.slice sa pr.length sc] 27)))
          have HQ7 := Lib.hid (HQ6.out.below ((Below.refl _ w6).alloc (Nat.le_refl _) (.cells #[.slice sa pr.length sc] 27)))
          have HXQ7 := Lib.hid (HXQ6.out.later ((Below.refl _ w6).alloc (Nat.le_refl _) (.cells #[.slice sa pr.length sc] 27)))
          have HS7 := Lib.hid (HS.out.below ((Below.refl _ w6).alloc (Nat.le_refl _) (.cells #[.slice sa pr.length sc] 27)))
          have HXS7 := Lib.hid (pbox_new w6 (.slice sa pr.length sc))
          unfold planV
          go_upto_region 18 with fail
          generalize w6.alloc (.cells #[.slice sa pr.length sc] 27) = W7 at *
          generalize w6.heap.size = NS at *
          have q0 := HXQ7.out.cell
          have s0 := HXS7.out.cell
          go_wp2_with fail
          refine (same_any HQ7.out.is HS7.out.is).mono ?_
          rw [decide_eq_true rfl]
          rintro e w8 ⟨rfl, hb⟩
          have HB8 := Lib.hid (HB7.out.trans (hb.mono HB7.out.size))
          have HX8 := Lib.hid (HX7.out.later hb)
          have HQ8 := Lib.hid (HQ7.out.below hb)
          have HXQ8 := Lib.hid (HXQ7.out.later hb)
          clear hb q0 s0
          have x0 := HX8.out.cell
          have q0 := HXQ8.out.cell
          go_wp2_with fail
          change Calls _ _ #[planV (.slice la l0.length lc), planV (.slice qa pr.length qc)] _ _
          refine (vsame_any (HP.out.below HB8.out) HQ8.out.is HW.out (by rw [HPR.out]; exact few_ord HW.out)).mono ?_
          rw [HPR.out, ord_idem, decide_eq_true rfl]
          rintro e w9 ⟨rfl, hb⟩
          have HB9 := Lib.hid (HB8.out.trans (hb.mono HB8.out.size))
          clear hb q0 x0
          go_wp2
          go_ret
          exact ⟨rfl, HB9.out⟩
  · have hdf : decide (FewP l0) = false := decide_eq_false hfew
    rw [hdf]
    clear hdf hfew
    go_wp2
    go_ret
    exact ⟨rfl, HB2.out⟩

set_option maxRecDepth 100000 in
theorem lifted (os : Os) (started : os.Started) (H : Type) (enc : TypeId × Value → H) :
    ReturnsInHanded {} Tryd.checked os 5 .any (fun w args => (Rows.planBackSpec.pre enc Tryd.prog Tryd.f5 [] false w args ∧ laidMetH Tryd.prog Rows.planBackRow.laid w) ∧ sizedMet enc Tryd.prog Tryd.f5 (OpenSpec.ofChange Rows.planBackSpec) false w args)
      (Rows.planBackSpec.post enc Tryd.prog Tryd.f5 false true false false) := by
  refine returnsInHanded_of_change_and (C := Tryd.checked) (X := fun w _ => laidMetH Tryd.prog Rows.planBackRow.laid w) (fun _ _ _ hh h => h.of_heap hh) own started (by kernel_rfl) Tryd.func5
    (ChangeSpec.witness_shaped (enc := enc) (C := Tryd.checked) (os := os) (X := fun w _ => laidMetH Tryd.prog Rows.planBackRow.laid w) false (World.doorLaid Tryd.prog 24 os) #[.agg #[.slice none 0 0]] 8 rfl (World.shaped_of_RefB (by kernel_rfl) (by kernel_rfl)) (by kernel_rfl) (by kernel_rfl) (by kernel_rfl) (door_met os _)) ?_
  intro W base args ds gs before hval0 hW _ _ hL _
  have hval : ∀ (j : Nat) t v, Tryd.f5.params[j]? = some t → args[j]? = some v → Value.okWide Tryd.prog W .any base t v := hval0
  have hW' := hW
  obtain ⟨p, q, hA0, hV, rfl, hfz, hnd⟩ := hW
  have hA : DataW.TrodAll enc Tryd.prog W 0 (fun _ => true) true Tryd.f5.params.toList args.toList ds p := hA0
  rw [Tryd.params5] at hA hval
  obtain ⟨v0, vs0, d0, ds0, p0, q0, hargs, rfl, rfl, h0, r0⟩ := trodAll_cons hA
  obtain ⟨rfl, rfl, rfl⟩ := trodAll_nil r0
  obtain rfl : args = #[v0] := by cases args; simp_all
  obtain ⟨rfl, rfl⟩ := trodVars_none hV
  have k0 := h0
  have lt0 : ∀ x ∈ p0, x.block < W.heap.size := by obtain ⟨m, hm⟩ := k0; exact DataW.trod_lt m _ _ _ hm
  obtain ⟨u0, l0, rfl, e0, f0⟩ := open_plan (hval 0 27 v0 rfl rfl) h0
  have hT := tab_of_laid hL
  clear hA0 hval0
  refine (walk _ l0 W e0 f0 hT).mono fun e W' ⟨he, bel⟩ => ?_
  subst he
  exact ⟨_, rfl, _, _, _, [], _, [], hW', trodAll_mk1 (shut_bool Tryd.underlying4 _), (trodAll_cons_mk (Below.trod laidOut (by kernel_rfl) (of_decide_eq_true (by kernel_rfl)) k0 bel lt0) trodAll_mk0), rfl, bel.frame _, fun h => by cases h⟩

theorem over : Rows.PlanBackSaid :=
  OpenClaim.holds_of_wide 5 Tryd.f5 rfl rfl rfl rfl rfl rfl rfl ⟨rfl, rfl, rfl, rfl, rfl⟩ rfl rfl rfl rfl rfl (by kernel_rfl) Tryd.func5 (by kernel_rfl)
    (of_decide_eq_true (by kernel_rfl)) (by unfold Func.isWrapper; first | (rw [if_pos (by decide +kernel)]; kernel_rfl) | (rw [if_neg (by decide +kernel)]; exact ⟨rfl, rfl⟩))
    (fun os started H enc _ => lifted os started H enc)

theorem proved : Rows.PlanBackCardSaid :=
  Claim7.holds_tied_plain_at .later [] [.data, .data, .data] true Rows.planBackCard.stood.harness false
    over (fun _ h => by cases h) (by kernel_rfl) (fun _ h => by cases h) planBack_row_tie rfl ⟨rfl, rfl⟩ (by kernel_rfl) rfl
    (fun f fn hf hfn => by
      obtain rfl : f = 5 := Option.some.inj ((show Tryd.prog.funcNamed Rows.planBackRow.func = some 5 by kernel_rfl).symm.trans hf) |>.symm
      obtain rfl : fn = Tryd.f5 := (Option.some.inj (Tryd.func5.symm.trans hfn)).symm
      refine ⟨by kernel_rfl, fun j t ht => ?_⟩
      rw [Tryd.params5] at ht
      rcases j with _ | j
      · obtain rfl : t = 27 := by simpa using ht.symm
        exact (show Tryd.prog.wantsStandIn 27 = false by kernel_rfl)
      · simp at ht)
    (by kernel_rfl)
#print axioms proved
end Go.Proofs.YtpdeffpmfbplnaaDoor.planBack
