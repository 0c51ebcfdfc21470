/- A tour has all stops of its routes, and a 0 less than there are routes that have some: of at most 40 routes of 100 stops each. -/
import Derived.Test.YtbhgpiohniplbaaRows
import Derived.Test.YtbhgpiohniplbaaUAwake
import Derived.Test.YtbhgpiohniplbaaVArgs
import Derived.Test.YtbhgpiohniplbaaXPMat
namespace Go.Proofs.Ytbhgpiohniplbaa.tourLong
open Go.ChangeShapes Go.WideShapes Go.ChangeAt Go.RowKit

theorem sum_next {L : List (List Int)} {k : Nat} (hk : k < L.length) : sumL (L.take (k + 1)) = sumL (L.take k) + (if L.getD k [] = [] then 0 else (L.getD k []).length + 1) := by rw [take_getD hk, sumL_snoc]
theorem sum_take_le (L : List (List Int)) (k : Nat) : sumL (L.take k) ≤ sumL L := by
  have hap : ∀ A B : List (List Int), sumL (A ++ B) = sumL A + sumL B := by
    intro A
    induction A with
    | nil => intro B; simp [sumL]
    | cons x A ih => intro B; simp only [List.cons_append, sumL, ih]; omega
  have := hap (L.take k) (L.drop k)
  rw [List.take_append_drop] at this
  omega
set_option maxRecDepth 1000000 in
set_option maxHeartbeats 4000000 in
theorem walk (v0 : Value) (l0 : List (List Int)) (w : World) (e0 : IsLL w v0 l0) :
    Calls Try.prog 7 #[planV v0] w fun e w' => e = .returned (.bool true) ∧ Below w.heap.size w w' := by
  have HP := Lib.hid e0
  obtain ⟨la, lc, rfl, hlm⟩ := e0.form
  have hlm1 : l0.length ≤ 9223372036854775807 := by unfold maxLen at hlm; omega
  have HB := Lib.hid ((Below.refl w.heap.size w).alloc (Nat.le_refl _) (.cells #[.slice la l0.length lc] 24))
  have HX := Lib.hid (pbox_new w (.slice la l0.length lc))
  clear e0 hlm
  unfold planV
  go_enter Try.func7, Try.ntmps7
  go_upto_region 1 with fail
  generalize w.alloc (.cells #[.slice la l0.length lc] 24) = W at *
  go_wp2_with fail
  refine (uawake_any _).mono ?_
  rintro e w1 ⟨rfl, hb⟩
  have HB1 := Lib.hid (HB.out.trans (hb.mono HB.out.size))
  have HX1 := Lib.hid (HX.out.later hb)
  have x0 := HX1.out.cell
  clear hb
  go_wp2_with fail
  change Calls _ _ #[planV (.slice la l0.length lc)] _ _
  refine (vfew_any (HP.out.below HB1.out)).mono ?_
  rintro e w2 ⟨rfl, hb⟩
  have HB2 := Lib.hid (HB1.out.trans (hb.mono HB1.out.size))
  have HX2 := Lib.hid (HX1.out.later hb)
  clear hb x0
  have x0 := HX2.out.cell
  by_cases hfew : FewP l0
  · have hdf : decide (FewP l0) = true := decide_eq_true hfew
    have HW := Lib.hid hfew
    have HL := Lib.hid (HP.out.below HB2.out)
    rw [hdf]
    clear hdf hfew
    go_wp2_with fail
    go_loop [5, 6] (fun nv i => ∃ k : Nat, k ≤ l0.length ∧ i = .int .i64 k ∧ nv = .int .i64 (sumL (l0.take k))) (fun _ i => l0.length - (intOf i).toNat)
    case atStart => exact ⟨0, Nat.zero_le _, rfl, rfl⟩
    case round =>
      obtain ⟨k, hk, rfl, rfl⟩ := hrel
      have hsm : sumL (l0.take k) ≤ 1000000 := Nat.le_trans (sum_take_le l0 k) HW.out.sum
      by_cases hlt : k < l0.length
      · have hlt2 : (k : Int) < (l0.length : Int) := by omega
        obtain ⟨tb, off, a1, n1, c1, rfl, _, hc, hn1, hmx, _⟩ := ll_at HL.out k hlt
        have HN := Lib.hid (sum_next hlt)
        have hrl : (l0.getD k []).length ≤ 1000000 := HW.out.rows _ (by rw [List.getD_eq_getElem?_getD, List.getElem?_eq_getElem hlt]; exact List.getElem_mem hlt)
        generalize l0.getD k [] = r at *
        generalize sumL (l0.take k) = s at *
        subst hn1
        clear hmx
        by_cases hr : r = []
        · have hr0 : ¬ (0 : Int) < (r.length : Int) := by rw [hr]; simp
          have HN2 := Lib.hid (show sumL (l0.take (k + 1)) = s by rw [HN.out, if_pos hr]; rfl)
          clear hr
          go_wp2_with fail
          go_round
          case rel => exact ⟨k + 1, by omega, by go_num, by rw [HN2.out]⟩
          case measure => simp [intOf]; omega
        · have hr0 : (0 : Int) < (r.length : Int) := by have := List.length_pos_iff.2 hr; omega
          have HN2 := Lib.hid (show sumL (l0.take (k + 1)) = s + (r.length + 1) by rw [HN.out, if_neg hr])
          clear hr
          go_wp2_with fail
          go_round
          case rel => exact ⟨k + 1, by omega, by go_num, by rw [HN2.out]; go_num⟩
          case measure => simp [intOf]; omega
      · obtain rfl : k = l0.length := by omega
        have hl2 : ¬ (l0.length : Int) < (l0.length : Int) := by omega
        rw [List.take_length] at *
        have HJ := Lib.hid (joinL_len l0)
        generalize hsl : sumL l0 = s at *
        have HSL := Lib.hid hsl
        clear hsl hlt hk
        by_cases hs : 0 < s
        · have hs2 : (0 : Int) < (s : Int) := by omega
          have ij0 : IntKind.i64.wrap ((s : Int) - 1) = ((s - 1 : Nat) : Int) := by rw [IntWalk.i64_in _ (by omega)]; omega
          obtain ⟨m, hm⟩ : ∃ m, s - 1 = m := ⟨_, rfl⟩
          rw [hm] at ij0 HJ
          clear hm
          go_wp2_with fail
          change Calls _ _ #[planV (.slice la l0.length lc)] _ _
          refine (join_any HL.out HW.out.num HW.out.rows HW.out.sum).mono ?_
          rintro e w3 ⟨u, rfl, hu, hb⟩
          have HB3 := Lib.hid (HB2.out.trans (hb.mono HB2.out.size))
          obtain ⟨ua, uc, rfl⟩ := hu.shape
          rw [HJ.out]
          clear hu hb x0
          go_wp2
          go_ret
          exact ⟨by simp, HB3.out⟩
        · have hs2 : ¬ (0 : Int) < (s : Int) := by omega
          have HJ0 := Lib.hid (show (joinL (ordL l0)).length = s by rw [HJ.out]; omega)
          go_wp2_with fail
          change Calls _ _ #[planV (.slice la l0.length lc)] _ _
          refine (join_any HL.out HW.out.num HW.out.rows HW.out.sum).mono ?_
          rintro e w3 ⟨u, rfl, hu, hb⟩
          have HB3 := Lib.hid (HB2.out.trans (hb.mono HB2.out.size))
          obtain ⟨ua, uc, rfl⟩ := hu.shape
          rw [HJ0.out]
          clear hu hb x0
          go_wp2
          go_ret
          exact ⟨by simp, HB3.out⟩
  · have hdf : decide (FewP l0) = false := decide_eq_false hfew
    rw [hdf]
    clear hdf hfew
    go_wp2
    go_ret
    exact ⟨rfl, HB2.out⟩

set_option maxRecDepth 100000 in
theorem lifted (os : Os) (started : os.Started) (H : Type) (enc : TypeId × Value → H) :
    ReturnsInHanded {} Try.checked os 7 .any (Rows.tourLongSpec.pre6 enc Try.prog Try.f7 Rows.tourLongRow.domain false) (Rows.tourLongSpec.post enc Try.prog Try.f7 false true false false) := by
  refine returnsInHanded_of_change (C := Try.checked) own started (by kernel_rfl) Try.func7
    (ChangeSpec.witness6 (enc := enc) (C := Try.checked) false ⟨#[], #[.agg #[.slice none 0 0]], []⟩ 8 (by kernel_rfl) (by kernel_rfl) (by kernel_rfl) (by kernel_rfl)) ?_
  intro W base args ds gs before hval0 hW hcnd _
  have hval : ∀ (j : Nat) t v, Try.f7.params[j]? = some t → args[j]? = some v → Value.okWide Try.prog W .any base t v := hval0
  have hW' := hW
  obtain ⟨p, q, hA0, hV, rfl, hfz, hnd⟩ := hW
  have hA : DataW.TrodAll enc Try.prog W 0 (fun _ => true) true Try.f7.params.toList args.toList ds p := hA0
  rw [Try.params7] at hA hval
  obtain ⟨v0, vs0, d0, ds0, p0, q0, hargs, rfl, rfl, h0, r0⟩ := trodAll_cons hA
  obtain ⟨rfl, rfl, rfl⟩ := trodAll_nil r0
  obtain rfl : args = #[v0] := by cases args; simp_all
  obtain ⟨rfl, rfl⟩ := trodVars_none hV
  have k0 := h0
  have lt0 : ∀ x ∈ p0, x.block < W.heap.size := by obtain ⟨m, hm⟩ := k0; exact DataW.trod_lt m _ _ _ hm
  obtain ⟨u0, l0, rfl, e0, _⟩ := open_plan (hval 0 24 v0 rfl rfl) h0
  clear hA0 hval0
  refine (walk _ l0 W e0).mono fun e W' ⟨he, bel⟩ => ?_
  subst he
  exact ⟨_, rfl, _, _, _, [], _, [], hW', trodAll_mk1 (shut_bool Try.underlying4 _), (trodAll_cons_mk (Below.trod laidOut (by kernel_rfl) (of_decide_eq_true (by kernel_rfl)) k0 bel lt0) trodAll_mk0), rfl, bel.frame _, fun h => by cases h⟩

theorem over : Rows.tourLongRow.holds Try.pinned (OpenSpec.ofChange Rows.tourLongSpec) :=
  OpenClaim.holds_of_wide 7 Try.f7 rfl rfl rfl rfl rfl rfl rfl ⟨rfl, rfl, rfl, rfl, rfl⟩ rfl rfl rfl rfl rfl (by kernel_rfl) Try.func7 (by kernel_rfl)
    (of_decide_eq_true (by kernel_rfl)) (by unfold Func.isWrapper; first | (rw [if_pos (by decide +kernel)]; kernel_rfl) | (rw [if_neg (by decide +kernel)]; exact ⟨rfl, rfl⟩))
    (fun os started H enc _ => lifted os started H enc)

theorem proved : Rows.TourLongSaid := over
#print axioms proved
end Go.Proofs.Ytbhgpiohniplbaa.tourLong
