/- The tour of any plan is what the document says: of at most 40 routes of 100 stops each. -/
import Derived.Test.YtbhgpiohniplbaaRows
import Derived.Test.YtbhgpiohniplbaaUAwake
import Derived.Test.YtbhgpiohniplbaaVArgs
import Derived.Test.YtbhgpiohniplbaaXPMat
namespace Go.Proofs.Ytbhgpiohniplbaa.tourJoins
open Go.ChangeShapes Go.WideShapes Go.ChangeAt Go.RowKit

set_option maxRecDepth 1000000 in
set_option maxHeartbeats 4000000 in
theorem walk (v0 : Value) (l0 : List (List Int)) (w : World) (e0 : IsLL w v0 l0) :
    Calls Try.prog 3 #[planV v0] w fun e w' => e = .returned (.bool true) ∧ Below w.heap.size w w' := by
  have HP := Lib.hid e0
  obtain ⟨la, lc, rfl, hlm⟩ := e0.form
  have HB := Lib.hid ((Below.refl w.heap.size w).alloc (Nat.le_refl _) (.cells #[.slice la l0.length lc] 24))
  have HX := Lib.hid (pbox_new w (.slice la l0.length lc))
  clear e0 hlm
  unfold planV
  go_enter Try.func3, Try.ntmps3
  go_upto_region 1 with fail
  generalize w.alloc (.cells #[.slice la l0.length lc] 24) = W at *
  go_wp2_with fail
  refine (uawake_any _).mono ?_
  rintro e w1 ⟨rfl, hb⟩
  have HB1 := Lib.hid (HB.out.trans (hb.mono HB.out.size))
  have HX1 := Lib.hid (HX.out.later hb)
  have x0 := HX1.out.cell
  clear hb
  go_wp2_with fail
  change Calls _ _ #[planV (.slice la l0.length lc)] _ _
  refine (vfew_any (HP.out.below HB1.out)).mono ?_
  rintro e w2 ⟨rfl, hb⟩
  have HB2 := Lib.hid (HB1.out.trans (hb.mono HB1.out.size))
  have HX2 := Lib.hid (HX1.out.later hb)
  clear hb x0
  have x0 := HX2.out.cell
  by_cases hfew : FewP l0
  · have hdf : decide (FewP l0) = true := decide_eq_true hfew
    have HW := Lib.hid hfew
    rw [hdf]
    clear hdf hfew
    go_wp2_with fail
    have HBd := Lib.hid (HB2.out.trans ((Below.refl _ w2).drew.mono HB2.out.size))
    have HS0 := Lib.hid (show Holds [((⟨w.heap.size, 0, none⟩ : Addr), Value.slice la l0.length lc)] w2.drew from ⟨x0, trivial⟩)
    have hlt0 := Lib.hid (show Lows w2.drew.heap.size [((⟨w.heap.size, 0, none⟩ : Addr), Value.slice la l0.length lc)] from ⟨HX2.out.lt, trivial⟩)
    have hlt := hlt0
    refine wp_region_held_drew (S := Holds [((⟨w.heap.size, 0, none⟩ : Addr), Value.slice la l0.length lc)]) (by kernel_rfl) HS0.out (fun hSn => ?_)
    have Bc := Lib.hid (Below.refl w2.drew.heap.size w2.drew)
    refine wpAnyH_take (i := 0) (oi := ?oz1) (v := ?vz1) ?iz1 (by kernel_rfl) (by kernel_rfl) (by kernel_rfl) ?qz1 (Or.inl ⟨?gz1, ?hz1⟩) (by assumption) ?rz1
    case iz1 => (simp only [List.getElem?_toArray, List.getElem?_cons_zero]; rfl)
    case qz1 => exact fun _ _ _ h => h
    case gz1 => rfl
    case hz1 => (intro w hSw; (simp only [Holds] at hSw); go_simp <;> with_reducible rfl)
    simp only [Act.put, List.setIfInBounds_toArray, List.set_cons_zero, List.set_cons_succ]
    refine wpAnyH_take (i := 2) (oi := ?oz2) (v := ?vz2) ?iz2 (by kernel_rfl) (by kernel_rfl) (by kernel_rfl) ?qz2 (Or.inl ⟨?gz2, ?hz2⟩) (by assumption) ?rz2
    case iz2 => (simp only [List.getElem?_toArray, List.getElem?_cons_zero, List.getElem?_cons_succ]; rfl)
    case qz2 => exact fun _ _ _ h => h
    case gz2 => rfl
    case hz2 => (intro w hSw; (simp only [Holds] at hSw); go_simp <;> with_reducible rfl)
    simp only [Act.put, List.setIfInBounds_toArray, List.set_cons_zero, List.set_cons_succ]
    refine wpAnyH_ready (rs := [1]) (by kernel_rfl) (by simp) ?_
    refine AllReadyH.cons (o := ?oz3) ?iz3 (fun K hK => ?kz3) AllReadyH.nil
    case iz3 => (simp only [List.getElem?_toArray, List.getElem?_cons_zero, List.getElem?_cons_succ]; rfl)
    go_simp
    change Calls _ _ #[planV (.slice la l0.length lc)] _ _
    refine (join_any (HP.out.below (HBd.out.trans (Bc.out.mono HB2.out.size))) HW.out.num HW.out.rows HW.out.sum).mono ?_
    rintro e w3 ⟨t1, rfl, ht1, hb⟩
    have HT1 := Lib.hid ht1
    refine held_more hK HS0.out hlt (Bc.out.trans (hb.mono Bc.out.size)) (fun Bc hSn => ?_)
    clear hb hK ht1
    refine wpAnyH_ready (rs := [3]) (by kernel_rfl) (by simp) ?_
    refine AllReadyH.cons (o := ?oz4) ?iz4 (fun K hK => ?kz4) AllReadyH.nil
    case iz4 => (simp only [List.getElem?_toArray, List.getElem?_cons_zero, List.getElem?_cons_succ]; rfl)
    go_simp
    change Calls _ _ #[planV (.slice la l0.length lc)] _ _
    refine (djoin_any (HP.out.below (HBd.out.trans (Bc.out.mono HB2.out.size))) HW.out.num HW.out.rows HW.out.sum).mono ?_
    rintro e w4 ⟨t2, rfl, ht2, hb⟩
    have HT2 := Lib.hid ht2
    have HT12 := Lib.hid (HT1.out.below hb)
    refine held_more hK HS0.out hlt (Bc.out.trans (hb.mono Bc.out.size)) (fun Bc hSn => ?_)
    clear hb hK ht2
    refine wpAnyH_ready (rs := [4]) (by kernel_rfl) (by simp) ?_
    refine AllReadyH.cons (o := ?oz5) ?iz5 (fun K hK => ?kz5) AllReadyH.nil
    case iz5 => (simp only [List.getElem?_toArray, List.getElem?_cons_zero, List.getElem?_cons_succ]; rfl)
    go_simp
    refine (same2_any HT12.out.row HT2.out.row).mono ?_
    rintro e w5 ⟨rfl, hb⟩
    refine held_more hK HS0.out hlt (Bc.out.trans (hb.mono Bc.out.size)) (fun Bc hSn => ?_)
    clear hb hK
    have HB5 := Lib.hid (HBd.out.trans (Bc.out.mono HBd.out.size))
    refine wpAnyH_take (i := 5) (oi := ?oz6) (v := ?vz6) ?iz6 (by kernel_rfl) (by kernel_rfl) (by kernel_rfl) ?qz6 (Or.inl ⟨?gz6, ?hz6⟩) (by assumption) ?rz6
    case iz6 => (simp only [List.getElem?_toArray, List.getElem?_cons_zero, List.getElem?_cons_succ]; rfl)
    case qz6 => exact fun _ _ _ h => h
    case gz6 => rfl
    case hz6 => (intro w hSw; (simp only [Holds] at hSw); go_simp <;> with_reducible rfl)
    simp only [Act.put, List.setIfInBounds_toArray, List.set_cons_zero, List.set_cons_succ]
    refine wpAnyH_done (by kernel_rfl) ?_ _
    go_wp2
    go_ret
    exact ⟨by simp, HB5.out⟩
  · have hdf : decide (FewP l0) = false := decide_eq_false hfew
    rw [hdf]
    clear hdf hfew
    go_wp2
    go_ret
    exact ⟨rfl, HB2.out⟩

set_option maxRecDepth 100000 in
theorem lifted (os : Os) (started : os.Started) (H : Type) (enc : TypeId × Value → H) :
    ReturnsInHanded {} Try.checked os 3 .any (Rows.tourJoinsSpec.pre6 enc Try.prog Try.f3 Rows.tourJoinsRow.domain false) (Rows.tourJoinsSpec.post enc Try.prog Try.f3 false true false false) := by
  refine returnsInHanded_of_change (C := Try.checked) own started (by kernel_rfl) Try.func3
    (ChangeSpec.witness6 (enc := enc) (C := Try.checked) false ⟨#[], #[.agg #[.slice none 0 0]], []⟩ 8 (by kernel_rfl) (by kernel_rfl) (by kernel_rfl) (by kernel_rfl)) ?_
  intro W base args ds gs before hval0 hW hcnd _
  have hval : ∀ (j : Nat) t v, Try.f3.params[j]? = some t → args[j]? = some v → Value.okWide Try.prog W .any base t v := hval0
  have hW' := hW
  obtain ⟨p, q, hA0, hV, rfl, hfz, hnd⟩ := hW
  have hA : DataW.TrodAll enc Try.prog W 0 (fun _ => true) true Try.f3.params.toList args.toList ds p := hA0
  rw [Try.params3] at hA hval
  obtain ⟨v0, vs0, d0, ds0, p0, q0, hargs, rfl, rfl, h0, r0⟩ := trodAll_cons hA
  obtain ⟨rfl, rfl, rfl⟩ := trodAll_nil r0
  obtain rfl : args = #[v0] := by cases args; simp_all
  obtain ⟨rfl, rfl⟩ := trodVars_none hV
  have k0 := h0
  have lt0 : ∀ x ∈ p0, x.block < W.heap.size := by obtain ⟨m, hm⟩ := k0; exact DataW.trod_lt m _ _ _ hm
  obtain ⟨u0, l0, rfl, e0, _⟩ := open_plan (hval 0 24 v0 rfl rfl) h0
  clear hA0 hval0
  refine (walk _ l0 W e0).mono fun e W' ⟨he, bel⟩ => ?_
  subst he
  exact ⟨_, rfl, _, _, _, [], _, [], hW', trodAll_mk1 (shut_bool Try.underlying4 _), (trodAll_cons_mk (Below.trod laidOut (by kernel_rfl) (of_decide_eq_true (by kernel_rfl)) k0 bel lt0) trodAll_mk0), rfl, bel.frame _, fun h => by cases h⟩

theorem over : Rows.tourJoinsRow.holds Try.pinned (OpenSpec.ofChange Rows.tourJoinsSpec) :=
  OpenClaim.holds_of_wide 3 Try.f3 rfl rfl rfl rfl rfl rfl rfl ⟨rfl, rfl, rfl, rfl, rfl⟩ rfl rfl rfl rfl rfl (by kernel_rfl) Try.func3 (by kernel_rfl)
    (of_decide_eq_true (by kernel_rfl)) (by unfold Func.isWrapper; first | (rw [if_pos (by decide +kernel)]; kernel_rfl) | (rw [if_neg (by decide +kernel)]; exact ⟨rfl, rfl⟩))
    (fun os started H enc _ => lifted os started H enc)

theorem proved : Rows.TourJoinsSaid := over
#print axioms proved
end Go.Proofs.Ytbhgpiohniplbaa.tourJoins
