/- PlaneNear holds for every instance; there is no further condition. -/
import Derived.Test.YtpgbbnmflnhlbaaOrd
import Derived.Test.YtpgbbnmflnhlbaaRows
import Derived.Test.YtpgbbnmflnhlbaaPNearM
namespace Go.Proofs.Ytpgbbnmflnhlbaa.planeNear
open Go.ChangeShapes Go.WideShapes Go.ChangeAt Go.RowKit

set_option maxRecDepth 1000000 in
set_option maxHeartbeats 4000000 in
theorem walk (I0 : Ins) (v0 : Value) (w : World) (e0 : SRow w v0 I0.l) :
    Calls Try.prog 6 #[insV I0 v0] w fun e w' => e = .returned (.bool true) ∧ Below w.heap.size w w' := by
  have HE := Lib.hid e0
  obtain ⟨a, cap, rfl, hm, _⟩ := e0.form
  have hm1 : I0.l.length ≤ 9223372036854775807 := by unfold maxLen at hm; omega
  clear e0 hm
  unfold insV
  go_enter Try.func6, Try.ntmps6
  go_wp2_with fail
  change Calls _ _ _ (w.alloc (boxI I0 (.slice a I0.l.length cap))) _
  have HB0 := Lib.hid ((Below.refl _ w).alloc (Nat.le_refl _) (boxI I0 (.slice a I0.l.length cap)))
  have HXB := Lib.hid (ybox_new w I0 (.slice a I0.l.length cap))
  generalize w.alloc (boxI I0 (.slice a I0.l.length cap)) = W at *
  refine (pawake_any _).mono ?_
  rintro e w1 ⟨rfl, hb⟩
  have HB1 := Lib.hid (HB0.out.trans (hb.mono HB0.out.size))
  have HX1 := Lib.hid ((show YBox W w.heap.size I0 (.slice a I0.l.length cap) from HXB.out).later hb)
  clear hb
  obtain ⟨c0, c1, c2, c3⟩ := HX1.out.cells
  by_cases q1 : (33 : Int) < (I0.l.length : Int)
  · have d1 := decide_eq_true q1
    clear q1
    go_wp2
    go_ret
    exact ⟨rfl, HB1.out⟩
  have d1 := decide_eq_false q1
  clear q1
  go_wp2_with fail
  change Calls _ _ #[insV I0 (.slice a I0.l.length cap)] _ _
  refine (may_any (HE.out.below HB1.out)).mono ?_
  rintro e w2 ⟨rfl, hb⟩
  have HB2 := Lib.hid (HB1.out.trans (hb.mono HB1.out.size))
  have HX2 := Lib.hid (HX1.out.later hb)
  clear hb c0 c1 c2 c3
  obtain ⟨c0, c1, c2, c3⟩ := HX2.out.cells
  cases hmy : mayB I0
  · clear hmy
    go_wp2
    go_ret
    exact ⟨rfl, HB2.out⟩
  have HMT := Lib.hid (show Mat (matI I0) (nearM (matI I0)) I0.l.length by unfold matI; rw [hmy, if_pos rfl]; exact mat_of _)
  have hl0 := (pmay_len hmy).1
  have hl33 := (pmay_len hmy).2
  clear hmy d1
  go_wp2_with fail
  change Calls _ _ #[insV I0 (.slice a I0.l.length cap)] _ _
  refine (matrix_any (HE.out.below HB2.out)).mono ?_
  rintro e w3 ⟨m1, rfl, hx, hb⟩
  have HB3 := Lib.hid (HB2.out.trans (hb.mono HB2.out.size))
  have HX3 := Lib.hid (HX2.out.later hb)
  have HL3 := Lib.hid hx.is
  clear hb hx c0 c1 c2 c3
  obtain ⟨c0, c1, c2, c3⟩ := HX3.out.cells
  go_wp2_with fail
  change Calls _ _ #[insV I0 (.slice a I0.l.length cap)] _ _
  refine (near_any (HE.out.below HB3.out)).mono ?_
  rintro e w5 ⟨n1, rfl, hx, hb⟩
  have HB5 := Lib.hid (HB3.out.trans (hb.mono HB3.out.size))
  have HX5 := Lib.hid (HX3.out.later hb)
  have HL := Lib.hid (HL3.out.below hb)
  have HN := Lib.hid hx.row
  clear hb hx c0 c1 c2 c3 HL3 HX1 HX2 HX3 HXB HB0 HB1 HB2 HB3
  obtain ⟨c0, c1, c2, c3⟩ := HX5.out.cells
  obtain ⟨M, hM⟩ : ∃ M, matI I0 = M := ⟨_, rfl⟩
  rw [hM] at HL HN HMT
  obtain ⟨N, hN⟩ : ∃ N, nearM M = N := ⟨_, rfl⟩
  rw [hN] at HN HMT
  clear hM hN
  obtain ⟨n, hn⟩ : ∃ n, I0.l.length = n := ⟨_, rfl⟩
  have HME := Lib.hid HMT.out
  rw [hn] at HME hl0 hl33 hm1
  obtain ⟨ma0, mc, rfl, _⟩ := HL.out.form
  obtain ⟨na0, nc, rfl, _⟩ := HN.out.form
  have hML : M.length = n := HME.out.len
  have hNL : N.length = n := HME.out.near
  rw [ints_len, hNL] at HN ⊢
  rw [hML] at HL ⊢
  rw [hn] at c3
  obtain ⟨mb, mo, _, _, _, rfl, _⟩ := ll_at HL.out 0 (by omega)
  obtain ⟨nb, no, rfl, _, _⟩ := row_cell HN.out 0 (by rw [ints_len]; omega)
  clear HMT hn
  go_wp2_with fail
  go_loop [6] (fun i => ∃ k : Nat, k ≤ n ∧ i = .int .i64 k) (fun i => n - (intOf i).toNat)
  case atStart => exact ⟨0, Nat.zero_le _, rfl⟩
  case round =>
    obtain ⟨k, hk, rfl⟩ := hrel
    by_cases hlt : k < n
    · obtain ⟨rb, ro, rc, d1, d2⟩ := ll_cell HL.out k k (by rw [hML]; exact hlt) (by rw [HME.out.rows k hlt]; exact hlt)
      rw [HME.out.rows k hlt] at d1
      rw [HME.out.self k hlt] at d2
      go_wp2
      go_round
      case rel => exact ⟨k + 1, by omega, by go_num⟩
      case measure => simp [intOf]; omega
    · obtain rfl : n = k := by omega
      clear hlt hk
      go_wp2_with fail
      go_loopw [7] (fun u wr => ∃ i : Nat, i ≤ n ∧ u = .int .i64 i ∧ Below w5.heap.size w5 wr) (fun u _ => n - (intOf u).toNat)
      case atStart => exact ⟨0, Nat.zero_le _, rfl, Below.refl _ _⟩
      case round =>
        obtain ⟨i, hi, rfl, hbw⟩ := hrel
        have HBW := Lib.hid hbw
        clear hbw c0 c1 c2 c3
        by_cases hlt : i < n
        · have HYI := Lib.hid (show ∀ w', Below w5.heap.size w5 w' → w'.cell? ⟨nb, no + i, none⟩ = some (.int .i64 (N.getD i 0)) from fun w' hb => by
            rw [row_here (HN.out.below hb) i (by rw [ints_len]; omega), ints_at _ _ (by omega)])
          obtain ⟨wo, hwo⟩ : ∃ wo, wo = wr := ⟨_, rfl⟩
          subst hwo
          have hltT : (i : Int) < (n : Int) := by omega
          by_cases h1 : n = 1
          case' pos =>
            have HS0 := Lib.hid (show someB M N n i 0 = true by rw [someB_zero]; exact decide_eq_true h1)
            have p0 : ((n : Int) == 1) = true := by simp [h1]
            have y0 := HYI.out wo HBW.out
            rw [show i = 0 by omega, HME.out.one h1, show (0 : Nat) = i by omega] at y0
            go_wp2_with fail
          case' neg =>
            have HS0 := Lib.hid (show someB M N n i 0 = false by rw [someB_zero]; exact decide_eq_false h1)
            have p0 : ((n : Int) == 1) = false := by simp; omega
            go_wp2_with fail
          all_goals
            clear p0
            go_loopw [8, 9] (fun s j wk => ∃ k : Nat, k ≤ n ∧ j = .int .i64 k ∧ s = .bool (someB M N n i k) ∧ Below w5.heap.size w5 wk) (fun _ j _ => n - (intOf j).toNat)
            case atStart => exact ⟨0, Nat.zero_le _, rfl, by rw [HS0.out], HBW.out⟩
            case round =>
              obtain ⟨k, hk, rfl, rfl, hbk⟩ := hrel
              have HBK := Lib.hid hbk
              clear hbk
              by_cases hkl : k < n
              · have HCC := Lib.hid (show ∀ w', Below w5.heap.size w5 w' → ∃ r1 o1 k1 r2 o2 k2, w'.cell? ⟨mb, mo + i, none⟩ = some (.slice (some ⟨r1, o1, none⟩) n k1) ∧ w'.cell? ⟨r1, o1 + k, none⟩ = some (.int .i64 ((M.getD k []).getD i 0)) ∧ w'.cell? ⟨mb, mo + k, none⟩ = some (.slice (some ⟨r2, o2, none⟩) n k2) ∧ w'.cell? ⟨r2, o2 + i, none⟩ = some (.int .i64 ((M.getD k []).getD i 0)) from fun w' hb => by
                  obtain ⟨r1, o1, k1, e1, e2⟩ := ll_cell (HL.out.below hb) i k (by rw [hML]; exact hlt) (by rw [HME.out.rows i hlt]; exact hkl)
                  obtain ⟨r2, o2, k2, e3, e4⟩ := ll_cell (HL.out.below hb) k i (by rw [hML]; exact hkl) (by rw [HME.out.rows k hkl]; exact hlt)
                  rw [HME.out.rows i hlt] at e1
                  rw [HME.out.rows k hkl] at e3
                  rw [HME.out.back i k hlt hkl] at e2
                  exact ⟨r1, o1, k1, r2, o2, k2, e1, e2, e3, e4⟩)
                have HLE := Lib.hid (HME.out.less i k hlt hkl)
                have HHIT := Lib.hid (someB_hit (M := M) (N := N) (n := n) (i := i) (j := k))
                have HMISS := Lib.hid (someB_miss (M := M) (N := N) (n := n) (i := i) (j := k))
                have HKEEP := Lib.hid (someB_keep (M := M) (N := N) (n := n) (i := i) (j := k))
                have HYK := Lib.hid HYI.out
                generalize (M.getD k []).getD i 0 = x at *
                generalize N.getD i 0 = y at *
                obtain ⟨r1, o1, k1, r2, o2, k2, e1, e2, e3, e4⟩ := HCC.out wr HBK.out
                have e5 := HYK.out wr HBK.out
                by_cases ek : i = k
                · have p1 : ((i : Int) != (k : Int)) = false := by simp [ek]
                  have HEK := Lib.hid ek
                  clear ek
                  cases hb : someB M N n i k
                  · have HSN := Lib.hid (HMISS.out hb (.inl HEK.out.symm))
                    clear hb
                    go_wp2_with fail
                    go_quiet (fail)
                    have HW6 := Lib.hid (below_drewN HBK.out nq)
                    generalize wr.drewN nq = w6 at *
                    clear e1 e2 e3 e4 e5
                    go_wp2_with fail
                    go_quiet (fail)
                    have HW7 := Lib.hid (below_drewN HW6.out nq)
                    generalize w6.drewN nq = w7 at *
                    go_wp2
                    go_roundw
                    case rel => exact ⟨k + 1, by omega, by go_num, by rw [HSN.out], HW7.out⟩
                    case measure => simp [intOf]; omega
                  · have HSN := Lib.hid (HKEEP.out hb)
                    clear hb
                    go_wp2_with fail
                    go_quiet (fail)
                    have HW6 := Lib.hid (below_drewN HBK.out nq)
                    generalize wr.drewN nq = w6 at *
                    clear e1 e2 e3 e4 e5
                    go_wp2_with fail
                    go_quiet (fail)
                    have HW7 := Lib.hid (below_drewN HW6.out nq)
                    generalize w6.drewN nq = w7 at *
                    go_wp2
                    go_roundw
                    case rel => exact ⟨k + 1, by omega, by go_num, by rw [HSN.out], HW7.out⟩
                    case measure => simp [intOf]; omega
                · have p1 : ((i : Int) != (k : Int)) = true := by simp; omega
                  have p2 : decide (x < y) = false := decide_eq_false (by have := HLE.out ek; omega)
                  have HEK := Lib.hid ek
                  clear ek
                  cases hb : someB M N n i k
                  · by_cases exy : x = y
                    · have HSN := Lib.hid (HHIT.out (fun e => HEK.out e.symm) exy)
                      have p3 : (x == y) = true := by simp [exy]
                      clear hb exy
                      go_wp2_with fail
                      go_quiet (fail)
                      have HW6 := Lib.hid (below_drewN HBK.out nq)
                      generalize wr.drewN nq = w6 at *
                      clear e1 e2 e3 e4 e5
                      obtain ⟨r1, o1, k1, r2, o2, k2, e1, e2, e3, e4⟩ := HCC.out w6 HW6.out
                      have e5 := HYK.out w6 HW6.out
                      go_wp2_with fail
                      go_quiet (fail)
                      have HW7 := Lib.hid (below_drewN HW6.out nq)
                      generalize w6.drewN nq = w7 at *
                      go_wp2
                      go_roundw
                      case rel => exact ⟨k + 1, by omega, by go_num, by rw [HSN.out], HW7.out⟩
                      case measure => simp [intOf]; omega
                    · have HSN := Lib.hid (HMISS.out hb (.inr exy))
                      have p3 : (x == y) = false := by simp [exy]
                      clear hb exy
                      go_wp2_with fail
                      go_quiet (fail)
                      have HW6 := Lib.hid (below_drewN HBK.out nq)
                      generalize wr.drewN nq = w6 at *
                      clear e1 e2 e3 e4 e5
                      obtain ⟨r1, o1, k1, r2, o2, k2, e1, e2, e3, e4⟩ := HCC.out w6 HW6.out
                      have e5 := HYK.out w6 HW6.out
                      go_wp2_with fail
                      go_quiet (fail)
                      have HW7 := Lib.hid (below_drewN HW6.out nq)
                      generalize w6.drewN nq = w7 at *
                      go_wp2
                      go_roundw
                      case rel => exact ⟨k + 1, by omega, by go_num, by rw [HSN.out], HW7.out⟩
                      case measure => simp [intOf]; omega
                  · have HSN := Lib.hid (HKEEP.out hb)
                    clear hb
                    go_wp2_with fail
                    go_quiet (fail)
                    have HW6 := Lib.hid (below_drewN HBK.out nq)
                    generalize wr.drewN nq = w6 at *
                    clear e1 e2 e3 e4 e5
                    go_wp2_with fail
                    go_quiet (fail)
                    have HW7 := Lib.hid (below_drewN HW6.out nq)
                    generalize w6.drewN nq = w7 at *
                    go_wp2
                    go_roundw
                    case rel => exact ⟨k + 1, by omega, by go_num, by rw [HSN.out], HW7.out⟩
                    case measure => simp [intOf]; omega
              · obtain rfl : n = k := by omega
                rw [HME.out.all hlt]
                clear hkl hk
                go_wp2
                go_roundw
                case rel => exact ⟨i + 1, by omega, by go_num, HBK.out⟩
                case measure => simp [intOf]; omega
        · obtain rfl : n = i := by omega
          clear hlt hi
          go_wp2
          go_ret
          exact ⟨rfl, HB5.out.trans (HBW.out.mono HB5.out.size)⟩

set_option maxRecDepth 100000 in
theorem lifted (os : Os) (started : os.Started) (H : Type) (enc : TypeId × Value → H) :
    ReturnsInHanded {} Try.checked os 6 .any (Rows.planeNearSpec.pre6 enc Try.prog Try.f6 Rows.planeNearRow.domain false) (Rows.planeNearSpec.post enc Try.prog Try.f6 false true false false) := by
  refine returnsInHanded_of_change (C := Try.checked) own started (by kernel_rfl) Try.func6
    (ChangeSpec.witness6 (enc := enc) (C := Try.checked) false ⟨#[], #[.agg #[.int .i64 0, .int .i64 0, .int .i64 0, .slice none 0 0]], []⟩ 8 (by kernel_rfl) (by kernel_rfl) (by kernel_rfl) (by kernel_rfl)) ?_
  intro W base args ds gs before hval0 hW hcnd _
  have hval : ∀ (j : Nat) t v, Try.f6.params[j]? = some t → args[j]? = some v → Value.okWide Try.prog W .any base t v := hval0
  have hW' := hW
  obtain ⟨p, q, hA0, hV, rfl, hfz, hnd⟩ := hW
  have hA : DataW.TrodAll enc Try.prog W 0 (fun _ => true) true Try.f6.params.toList args.toList ds p := hA0
  rw [Try.params6] at hA hval
  obtain ⟨v0, vs0, d0, ds0, p0, q0, hargs, rfl, rfl, h0, r0⟩ := trodAll_cons hA
  obtain ⟨rfl, rfl, rfl⟩ := trodAll_nil r0
  obtain rfl : args = #[v0] := by cases args; simp_all
  obtain ⟨rfl, rfl⟩ := trodVars_none hV
  have k0 := h0
  have lt0 : ∀ x ∈ p0, x.block < W.heap.size := by obtain ⟨m, hm⟩ := k0; exact DataW.trod_lt m _ _ _ hm
  obtain ⟨I0, u0, rfl, e0, _⟩ := open_inst (hval 0 26 v0 rfl rfl) h0
  clear hA0 hval0
  refine (walk I0 _ W e0).mono fun e W' ⟨he, bel⟩ => ?_
  subst he
  exact ⟨_, rfl, _, _, _, [], _, [], hW', trodAll_mk1 (shut_bool Try.underlying4 _), (trodAll_cons_mk (Below.trod laidOut (by kernel_rfl) (of_decide_eq_true (by kernel_rfl)) k0 bel lt0) trodAll_mk0), rfl, bel.frame _, fun h => by cases h⟩

theorem over : Rows.planeNearRow.holds Try.pinned (OpenSpec.ofChange Rows.planeNearSpec) :=
  OpenClaim.holds_of_wide 6 Try.f6 rfl rfl rfl rfl rfl rfl rfl ⟨rfl, rfl, rfl, rfl, rfl⟩ rfl rfl rfl rfl rfl (by kernel_rfl) Try.func6 (by show joinedFacts Try.checked.prog _ _ _ _ = true; unfold joinedFacts; rw [ord_may, ord_lifts, ord_make]; kernel_rfl)
    (of_decide_eq_true (by kernel_rfl)) (by unfold Func.isWrapper; first | (rw [if_pos (by decide +kernel)]; kernel_rfl) | (rw [if_neg (by decide +kernel)]; exact ⟨rfl, rfl⟩))
    (fun os started H enc _ => lifted os started H enc)

theorem proved : Rows.PlaneNearSaid := over
#print axioms proved
end Go.Proofs.Ytpgbbnmflnhlbaa.planeNear
