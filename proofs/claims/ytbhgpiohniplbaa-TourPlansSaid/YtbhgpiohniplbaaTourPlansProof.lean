/- What is joined is split again as the plan in the order of its first stops, if its stops are above 0, and no two routes begin with the same one: of at most 40 routes of 100 stops each. -/
import Derived.Test.YtbhgpiohniplbaaRows
import Derived.Test.YtbhgpiohniplbaaUAwake
import Derived.Test.YtbhgpiohniplbaaVArgs
import Derived.Test.YtbhgpiohniplbaaXPMat
namespace Go.Proofs.Ytbhgpiohniplbaa.tourPlans
open Go.ChangeShapes Go.WideShapes Go.ChangeAt Go.RowKit

theorem pairs_of {L : List (List Int)} (h : ∀ k, k < L.length → ∀ i, i < k → L.getD i [] ≠ [] → L.getD k [] ≠ [] → key (L.getD i []) ≠ key (L.getD k [])) : L.Pairwise (fun a b => a ≠ [] → b ≠ [] → key a ≠ key b) := by
  rw [List.pairwise_iff_getElem]
  intro i j hi hj hij ha hb
  have := h j hj i hij (by rw [List.getD_eq_getElem?_getD, List.getElem?_eq_getElem hi]; exact ha) (by rw [List.getD_eq_getElem?_getD, List.getElem?_eq_getElem hj]; exact hb)
  rw [List.getD_eq_getElem?_getD, List.getElem?_eq_getElem hi, List.getD_eq_getElem?_getD, List.getElem?_eq_getElem hj] at this
  exact this
theorem rows_pos {L : List (List Int)} (h : ∀ k, k < L.length → ∀ i, i < (L.getD k []).length → 1 ≤ (L.getD k []).getD i 0) : ∀ r ∈ L, ∀ x ∈ r, 1 ≤ x :=
  all_atL (p := fun r => ∀ x ∈ r, 1 ≤ x) (fun k hk => all_at (p := fun x => 1 ≤ x) (fun i hi => h k hk i hi))
set_option maxRecDepth 1000000 in
set_option maxHeartbeats 4000000 in
theorem walk (v0 : Value) (l0 : List (List Int)) (w : World) (e0 : IsLL w v0 l0) :
    Calls Try.prog 6 #[planV v0] w fun e w' => e = .returned (.bool true) ∧ Below w.heap.size w w' := by
  have HP := Lib.hid e0
  obtain ⟨la, lc, rfl, hlm⟩ := e0.form
  have hlm1 : l0.length ≤ 9223372036854775807 := by unfold maxLen at hlm; omega
  have HB := Lib.hid ((Below.refl w.heap.size w).alloc (Nat.le_refl _) (.cells #[.slice la l0.length lc] 24))
  have HX := Lib.hid (pbox_new w (.slice la l0.length lc))
  clear e0 hlm
  unfold planV
  go_enter Try.func6, Try.ntmps6
  go_upto_region 1 with fail
  generalize w.alloc (.cells #[.slice la l0.length lc] 24) = W at *
  go_wp2_with fail
  refine (uawake_any _).mono ?_
  rintro e w1 ⟨rfl, hb⟩
  have HB1 := Lib.hid (HB.out.trans (hb.mono HB.out.size))
  have HX1 := Lib.hid (HX.out.later hb)
  have x0 := HX1.out.cell
  clear hb
  go_wp2_with fail
  change Calls _ _ #[planV (.slice la l0.length lc)] _ _
  refine (vfew_any (HP.out.below HB1.out)).mono ?_
  rintro e w2 ⟨rfl, hb⟩
  have HB2 := Lib.hid (HB1.out.trans (hb.mono HB1.out.size))
  have HX2 := Lib.hid (HX1.out.later hb)
  clear hb x0
  by_cases hfew : FewP l0
  · have hdf : decide (FewP l0) = true := decide_eq_true hfew
    have HW := Lib.hid hfew
    have HL := Lib.hid (HP.out.below HB2.out)
    rw [hdf]
    clear hdf hfew
    go_wp2_with fail
    go_loopw [5] (fun i wr => ∃ k : Nat, k ≤ l0.length ∧ i = .int .i64 k ∧ (∀ j, j < k → ∀ i, i < (l0.getD j []).length → 1 ≤ (l0.getD j []).getD i 0) ∧ (∀ j, j < k → ∀ i, i < j → l0.getD i [] ≠ [] → l0.getD j [] ≠ [] → key (l0.getD i []) ≠ key (l0.getD j [])) ∧ Below w2.heap.size w2 wr) (fun i _ => l0.length - (intOf i).toNat)
    case atStart => exact ⟨0, Nat.zero_le _, rfl, fun j hj => absurd hj (Nat.not_lt_zero j), fun j hj => absurd hj (Nat.not_lt_zero j), Below.refl _ _⟩
    case round =>
      obtain ⟨k, hk, rfl, h1, h2, hbw⟩ := hrel
      have H1 := Lib.hid h1
      have H2 := Lib.hid h2
      have HBW := Lib.hid hbw
      have HLr := Lib.hid (HL.out.below hbw)
      have HXr := Lib.hid (HX2.out.later hbw)
      have x0 := HXr.out.cell
      clear h1 h2 hbw
      obtain ⟨wo, hwo⟩ : ∃ wo, wo = wr := ⟨_, rfl⟩
      subst hwo
      by_cases hlt : k < l0.length
      · have hlt2 : (k : Int) < (l0.length : Int) := by omega
        obtain ⟨tb, off, a1, n1, c1, rfl, _, hc, hn1, hmx, hrow⟩ := ll_at HLr.out k hlt
        have HRow := Lib.hid hrow
        have HC := Lib.hid hc
        obtain ⟨r, hr⟩ : ∃ r, l0.getD k [] = r := ⟨_, rfl⟩
        have HR := Lib.hid hr
        rw [hr] at HRow hn1
        subst hn1
        have hm2 : r.length ≤ 9223372036854775807 := by unfold maxLen at hmx; omega
        clear hrow hmx hr
        go_wp2_with fail
        go_loop [6] (fun jv => ∃ j : Nat, j ≤ r.length ∧ jv = .int .i64 j ∧ ∀ i, i < j → 1 ≤ r.getD i 0) (fun jv => r.length - (intOf jv).toNat)
        case atStart => exact ⟨0, Nat.zero_le _, rfl, fun j hj => absurd hj (Nat.not_lt_zero j)⟩
        case round =>
          obtain ⟨j, hj, rfl, h3⟩ := hrel
          have H3 := Lib.hid h3
          clear h3
          by_cases hjlt : j < r.length
          · have hjlt2 : (j : Int) < (r.length : Int) := by omega
            obtain ⟨b2, o2, c2, he2, hc2, _, _⟩ := row_at (p := j) HRow.out (by rw [ints_len]; exact hjlt)
            rw [ints_at r j hjlt] at hc2
            simp only [ints_len, Value.slice.injEq, true_and] at he2
            obtain ⟨rfl, rfl⟩ := he2
            have HN := Lib.hid (show 1 ≤ r.getD j 0 → ∀ i, i < j + 1 → 1 ≤ r.getD i 0 from fun h i hi => by
              by_cases he : i = j
              · rw [he]; exact h
              · exact H3.out i (by omega))
            generalize r.getD j 0 = x at *
            by_cases hx : x < 1
            · have HB3 := Lib.hid (HB2.out.trans (HBW.out.mono HB2.out.size))
              go_wp2
              go_ret
              exact ⟨rfl, HB3.out⟩
            · have HN2 := Lib.hid (HN.out (by omega))
              clear HN
              go_wp2_with fail
              go_round
              case rel => exact ⟨j + 1, by omega, by go_num, HN2.out⟩
              case measure => simp [intOf]; omega
          · obtain rfl : j = r.length := by omega
            have hjl2 : ¬ (r.length : Int) < (r.length : Int) := by omega
            clear hjlt hj
            go_wp2_with fail
            go_loopw [7] (fun iv wr => ∃ i : Nat, i ≤ k ∧ iv = .int .i64 i ∧ (∀ j, j < i → l0.getD j [] ≠ [] → r ≠ [] → key (l0.getD j []) ≠ key r) ∧ Below wo.heap.size wo wr) (fun iv _ => k - (intOf iv).toNat)
            case atStart => exact ⟨0, Nat.zero_le _, rfl, fun j hj => absurd hj (Nat.not_lt_zero j), Below.refl _ _⟩
            case round =>
              obtain ⟨i, hi, rfl, h4, hbw⟩ := hrel
              have H4 := Lib.hid h4
              have HBi := Lib.hid hbw
              have HBB := Lib.hid (HBW.out.trans (hbw.mono HBW.out.size))
              have HLi := Lib.hid (HLr.out.below hbw)
              have hck := (hbw.cell (p := ⟨tb, off + k, none⟩) (World.block_lt_of_cell? wo _ HC.out)).trans HC.out
              have x0 := (HXr.out.later hbw).cell
              have HRi := Lib.hid (HRow.out.below hbw)
              clear h4 hbw hc
              by_cases hilt : i < k
              · have hilt2 : (i : Int) < (k : Int) := by omega
                have hilt3 : (i : Int) < (l0.length : Int) := by omega
                obtain ⟨tb2, off2, a2, n2, c2, he2, _, hci, hn2, _, hrow2⟩ := ll_at HLi.out i (by omega)
                simp only [Option.some.injEq, Addr.mk.injEq, and_true] at he2
                obtain ⟨rfl, rfl⟩ := he2
                have HNX := Lib.hid (show (l0.getD i [] ≠ [] → r ≠ [] → key (l0.getD i []) ≠ key r) → ∀ j, j < i + 1 → l0.getD j [] ≠ [] → r ≠ [] → key (l0.getD j []) ≠ key r from fun h j hj => by
                  by_cases he : j = i
                  · rw [he]; exact h
                  · exact H4.out j (by omega))
                generalize l0.getD i [] = s at *
                subst hn2
                by_cases hs : s = []
                · have hs0 : ¬ (0 : Int) < (s.length : Int) := by rw [hs]; simp
                  have hs1 : decide (0 < s.length) = false := by rw [hs]; rfl
                  have HN := Lib.hid (HNX.out (fun h => absurd hs h))
                  clear hs HNX hrow2
                  go_wp2_with fail
                  go_quiet (fail)
                  have HB3 := Lib.hid (below_drewN HBi.out nq)
                  clear hci hck x0
                  generalize wr.drewN nq = w3 at *
                  go_wp2_with fail
                  go_roundw
                  case rel => exact ⟨i + 1, by omega, by go_num, HN.out, HB3.out⟩
                  case measure => simp [intOf]; omega
                · have hs0 : (0 : Int) < (s.length : Int) := by have := List.length_pos_iff.2 hs; omega
                  have hs1 : decide (0 < s.length) = true := decide_eq_true (List.length_pos_iff.2 hs)
                  by_cases hr : r = []
                  · have hr0 : ¬ (0 : Int) < (r.length : Int) := by rw [hr]; simp
                    have hr1 : decide (0 < r.length) = false := by rw [hr]; rfl
                    have HN := Lib.hid (HNX.out (fun _ h => absurd hr h))
                    clear hs hr HNX hrow2
                    go_wp2_with fail
                    go_quiet (fail)
                    have HB3 := Lib.hid (below_drewN HBi.out nq)
                    clear hci hck x0
                    generalize wr.drewN nq = w3 at *
                    go_wp2_with fail
                    go_roundw
                    case rel => exact ⟨i + 1, by omega, by go_num, HN.out, HB3.out⟩
                    case measure => simp [intOf]; omega
                  · have hr1 : decide (0 < r.length) = true := decide_eq_true (List.length_pos_iff.2 hr)
                    obtain ⟨d1, p1, rfl, hd1, _, hp1⟩ := key_row hrow2 hs
                    obtain ⟨d2, p2, rfl, hd2, _, hp2⟩ := key_row HRi.out hr
                    have HNY := Lib.hid (fun h : key s ≠ key r => HNX.out (fun _ _ => h))
                    generalize key s = x at *
                    generalize key r = y at *
                    clear hs hr HNX hrow2
                    by_cases hxy : x = y
                    · have hxb : (x == y) = true := by simp [hxy]
                      clear hxy
                      go_wp2_with fail
                      go_quiet (fail)
                      have HB3 := Lib.hid (HB2.out.trans ((below_drewN HBB.out nq).mono HB2.out.size))
                      clear hci hck x0 hd1 hd2
                      generalize wr.drewN nq = w3 at *
                      go_wp2
                      go_ret
                      exact ⟨rfl, HB3.out⟩
                    · have hxb : (x == y) = false := by simp [hxy]
                      have HN := Lib.hid (HNY.out hxy)
                      clear hxy
                      go_wp2_with fail
                      go_quiet (fail)
                      have HB3 := Lib.hid (below_drewN HBi.out nq)
                      clear hci hck x0 hd1 hd2
                      generalize wr.drewN nq = w3 at *
                      go_wp2_with fail
                      go_roundw
                      case rel => exact ⟨i + 1, by omega, by go_num, HN.out, HB3.out⟩
                      case measure => simp [intOf]; omega
              · obtain rfl : i = k := by omega
                have hil2 : ¬ (i : Int) < (i : Int) := by omega
                go_wp2_with fail
                go_roundw
                case rel =>
                  refine ⟨i + 1, by omega, by go_num, fun j hj => ?_, fun j hj => ?_, HBB.out⟩
                  · by_cases he : j = i
                    · rw [he, HR.out]; exact H3.out
                    · exact H1.out j (by omega)
                  · by_cases he : j = i
                    · rw [he, HR.out]; exact H4.out
                    · exact H2.out j (by omega)
                case measure => simp [intOf]; omega
      · obtain rfl : k = l0.length := by omega
        have hl2 : ¬ (l0.length : Int) < (l0.length : Int) := by omega
        have HTP := Lib.hid (tour_plans (rows_pos H1.out) (pairs_of H2.out))
        have HJ := Lib.hid (show (joinL (ordL l0)).length ≤ 1000000 by have h1 := joinL_le (ordL l0); rw [ord_glue] at h1; have := HW.out.sum; omega)
        have HB3 := Lib.hid (HB2.out.trans (HBW.out.mono HB2.out.size))
        clear hlt hk H1 H2 HB HB1 HX HX1 HX2 HL
        go_wp2_with fail
        change Calls _ _ #[planV (.slice la l0.length lc)] _ _
        refine (join_any HLr.out HW.out.num HW.out.rows HW.out.sum).mono ?_
        rintro e w4 ⟨u, rfl, hu, hb⟩
        have HU := Lib.hid hu
        have HB4 := Lib.hid (HB3.out.trans (hb.mono HB3.out.size))
        have HX4 := Lib.hid (HXr.out.later hb)
        have HL4 := Lib.hid (HLr.out.below hb)
        clear hu hb x0
        go_wp2_with fail
        refine (split_any HU.out.row (by have := HJ.out; omega)).mono ?_
        rw [HTP.out.1, HTP.out.2]
        rintro e w5 ⟨q, rfl, hq, hb⟩
        obtain ⟨M, hM⟩ : ∃ M, ordL l0 = M := ⟨_, rfl⟩
        rw [hM] at hq
        have HMM := Lib.hid hM
        obtain ⟨qa, qc, rfl⟩ := hq.shape
        have hn := (Below.refl w5.heap.size w5).alloc (Nat.le_refl _) (.cells #[.slice qa M.length qc] 24)
        have HB6 := Lib.hid ((HB4.out.trans (hb.mono HB4.out.size)).alloc (HB4.out.trans (hb.mono HB4.out.size)).size (.cells #[.slice qa M.length qc] 24))
        have HQ := Lib.hid (hq.is.below hn)
        have HL6 := Lib.hid ((HL4.out.below hb).below hn)
        have HX6 := Lib.hid ((HX4.out.later hb).later hn)
        have HY6 := Lib.hid (pbox_new w5 (.slice qa M.length qc))
        clear hq hb hn hM
        unfold planV
        go_upto_region 19 with fail
        generalize w5.alloc (.cells #[.slice qa M.length qc] 24) = w6 at *
        generalize w5.heap.size = N2 at *
        have x0 := HX6.out.cell
        go_wp2_with fail
        change Calls _ _ #[planV (.slice la l0.length lc)] _ _
        refine (vsorted_any HL6.out HW.out.1 HW.out.rows).mono ?_
        rw [HMM.out]
        rintro e w7 ⟨s, rfl, hs, hb⟩
        obtain ⟨sa, sc, rfl⟩ := hs.shape
        have hn := (Below.refl w7.heap.size w7).alloc (Nat.le_refl _) (.cells #[.slice sa M.length sc] 24)
        have HB8 := Lib.hid ((HB6.out.trans (hb.mono HB6.out.size)).alloc (HB6.out.trans (hb.mono HB6.out.size)).size (.cells #[.slice sa M.length sc] 24))
        have HS := Lib.hid (hs.is.below hn)
        have HQ8 := Lib.hid ((HQ.out.below hb).below hn)
        have HY8 := Lib.hid ((HY6.out.later hb).later hn)
        have HZ8 := Lib.hid (pbox_new w7 (.slice sa M.length sc))
        clear hs hb hn x0
        unfold planV
        go_upto_region 20 with fail
        generalize w7.alloc (.cells #[.slice sa M.length sc] 24) = w8 at *
        generalize w7.heap.size = N3 at *
        have y0 := HY8.out.cell
        have z0 := HZ8.out.cell
        go_wp2_with fail
        refine (same_any HQ8.out HS.out).mono ?_
        rintro e w9 ⟨rfl, hb⟩
        have HB9 := Lib.hid (HB8.out.trans (hb.mono HB8.out.size))
        clear hb y0 z0
        go_wp2
        go_ret
        exact ⟨by simp, HB9.out⟩
  · have hdf : decide (FewP l0) = false := decide_eq_false hfew
    rw [hdf]
    clear hdf hfew
    go_wp2
    go_ret
    exact ⟨rfl, HB2.out⟩

set_option maxRecDepth 100000 in
theorem lifted (os : Os) (started : os.Started) (H : Type) (enc : TypeId × Value → H) :
    ReturnsInHanded {} Try.checked os 6 .any (Rows.tourPlansSpec.pre6 enc Try.prog Try.f6 Rows.tourPlansRow.domain false) (Rows.tourPlansSpec.post enc Try.prog Try.f6 false true false false) := by
  refine returnsInHanded_of_change (C := Try.checked) own started (by kernel_rfl) Try.func6
    (ChangeSpec.witness6 (enc := enc) (C := Try.checked) false ⟨#[], #[.agg #[.slice none 0 0]], []⟩ 8 (by kernel_rfl) (by kernel_rfl) (by kernel_rfl) (by kernel_rfl)) ?_
  intro W base args ds gs before hval0 hW hcnd _
  have hval : ∀ (j : Nat) t v, Try.f6.params[j]? = some t → args[j]? = some v → Value.okWide Try.prog W .any base t v := hval0
  have hW' := hW
  obtain ⟨p, q, hA0, hV, rfl, hfz, hnd⟩ := hW
  have hA : DataW.TrodAll enc Try.prog W 0 (fun _ => true) true Try.f6.params.toList args.toList ds p := hA0
  rw [Try.params6] at hA hval
  obtain ⟨v0, vs0, d0, ds0, p0, q0, hargs, rfl, rfl, h0, r0⟩ := trodAll_cons hA
  obtain ⟨rfl, rfl, rfl⟩ := trodAll_nil r0
  obtain rfl : args = #[v0] := by cases args; simp_all
  obtain ⟨rfl, rfl⟩ := trodVars_none hV
  have k0 := h0
  have lt0 : ∀ x ∈ p0, x.block < W.heap.size := by obtain ⟨m, hm⟩ := k0; exact DataW.trod_lt m _ _ _ hm
  obtain ⟨u0, l0, rfl, e0, _⟩ := open_plan (hval 0 24 v0 rfl rfl) h0
  clear hA0 hval0
  refine (walk _ l0 W e0).mono fun e W' ⟨he, bel⟩ => ?_
  subst he
  exact ⟨_, rfl, _, _, _, [], _, [], hW', trodAll_mk1 (shut_bool Try.underlying4 _), (trodAll_cons_mk (Below.trod laidOut (by kernel_rfl) (of_decide_eq_true (by kernel_rfl)) k0 bel lt0) trodAll_mk0), rfl, bel.frame _, fun h => by cases h⟩

theorem over : Rows.tourPlansRow.holds Try.pinned (OpenSpec.ofChange Rows.tourPlansSpec) :=
  OpenClaim.holds_of_wide 6 Try.f6 rfl rfl rfl rfl rfl rfl rfl ⟨rfl, rfl, rfl, rfl, rfl⟩ rfl rfl rfl rfl rfl (by kernel_rfl) Try.func6 (by kernel_rfl)
    (of_decide_eq_true (by kernel_rfl)) (by unfold Func.isWrapper; first | (rw [if_pos (by decide +kernel)]; kernel_rfl) | (rw [if_neg (by decide +kernel)]; exact ⟨rfl, rfl⟩))
    (fun os started H enc _ => lifted os started H enc)

theorem proved : Rows.TourPlansSaid := over
#print axioms proved
end Go.Proofs.Ytbhgpiohniplbaa.tourPlans
