/- The plan that any tour is, or why it is none, is what the document says: of at most 500 stops. -/
import Derived.Test.YtbhgpiohniplbaaRows
import Derived.Test.YtbhgpiohniplbaaUAwake
import Derived.Test.YtbhgpiohniplbaaVArgs
import Derived.Test.YtbhgpiohniplbaaXPMat
namespace Go.Proofs.Ytbhgpiohniplbaa.tourSplits
open Go.ChangeShapes Go.WideShapes Go.ChangeAt Go.RowKit

set_option maxRecDepth 1000000 in
set_option maxHeartbeats 4000000 in
theorem walk (v0 : Value) (l0 : List Int) (w : World) (e0 : Row w v0 (ints l0)) :
    Calls Try.prog 4 #[v0] w fun e w' => e = .returned (.bool true) ∧ Below w.heap.size w w' := by
  have HP := Lib.hid e0
  obtain ⟨ta, tc, rfl, hm⟩ := e0.form
  rw [ints_len] at *
  have hm1 : l0.length ≤ 9223372036854775807 := by unfold maxLen at hm; omega
  clear e0 hm
  go_enter Try.func4, Try.ntmps4
  go_wp2_with fail
  refine (uawake_any _).mono ?_
  rintro e w1 ⟨rfl, hb⟩
  have HB1 := Lib.hid hb
  clear hb
  by_cases hlen : 500 < l0.length
  · have hlen2 : (500 : Int) < (l0.length : Int) := by omega
    go_wp2
    go_ret
    exact ⟨rfl, HB1.out⟩
  · have hlen2 : ¬ (500 : Int) < (l0.length : Int) := by omega
    go_wp2_with fail
    refine (split_any (HP.out.below HB1.out) (by omega)).mono ?_
    rintro e w2 ⟨u, rfl, hu, hb⟩
    obtain ⟨L, hL⟩ : ∃ L, splitR l0 = L := ⟨_, rfl⟩
    obtain ⟨er, her⟩ : ∃ er, splitE l0 = er := ⟨_, rfl⟩
    rw [hL] at hu
    rw [her]
    obtain ⟨ua, uc, rfl⟩ := hu.shape
    have HB3 := Lib.hid ((HB1.out.trans (hb.mono HB1.out.size)).alloc (HB1.out.trans (hb.mono HB1.out.size)).size (.cells #[.slice ua L.length uc] 24))
    have HU := Lib.hid (hu.is.below ((Below.refl w2.heap.size w2).alloc (Nat.le_refl _) (.cells #[.slice ua L.length uc] 24)))
    have HX := Lib.hid (pbox_new w2 (.slice ua L.length uc))
    clear hu hb
    unfold planV
    go_upto_region 5 with fail
    generalize w2.alloc (.cells #[.slice ua L.length uc] 24) = w3 at *
    generalize w2.heap.size = N1 at *
    go_wp2_with fail
    refine (dsplit_any (HP.out.below HB3.out) (by omega)).mono ?_
    rw [hL, her]
    rintro e w4 ⟨q, rfl, hq, hb⟩
    obtain ⟨qa, qc, rfl⟩ := hq.shape
    have hn := (Below.refl w4.heap.size w4).alloc (Nat.le_refl _) (.cells #[.slice qa L.length qc] 24)
    have HB5 := Lib.hid ((HB3.out.trans (hb.mono HB3.out.size)).alloc (HB3.out.trans (hb.mono HB3.out.size)).size (.cells #[.slice qa L.length qc] 24))
    have HQ := Lib.hid (hq.is.below hn)
    have HU5 := Lib.hid ((HU.out.below hb).below hn)
    have HX5 := Lib.hid ((HX.out.later hb).later hn)
    have HY5 := Lib.hid (pbox_new w4 (.slice qa L.length qc))
    clear hq hb hn hL her
    unfold planV
    go_upto_region 6 with fail
    generalize w4.alloc (.cells #[.slice qa L.length qc] 24) = w5 at *
    generalize w4.heap.size = N2 at *
    have x0 := HX5.out.cell
    have y0 := HY5.out.cell
    go_wp2_with fail
    refine (same_any HU5.out HQ.out).mono ?_
    rintro e w6 ⟨rfl, hb⟩
    have HB6 := Lib.hid (HB5.out.trans (hb.mono HB5.out.size))
    clear hb x0 y0
    go_wp2
    go_ret
    exact ⟨by simp, HB6.out⟩

set_option maxRecDepth 100000 in
theorem lifted (os : Os) (started : os.Started) (H : Type) (enc : TypeId × Value → H) :
    ReturnsInHanded {} Try.checked os 4 .any (Rows.tourSplitsSpec.pre6 enc Try.prog Try.f4 Rows.tourSplitsRow.domain false) (Rows.tourSplitsSpec.post enc Try.prog Try.f4 false true false false) := by
  refine returnsInHanded_of_change (C := Try.checked) own started (by kernel_rfl) Try.func4
    (ChangeSpec.witness6 (enc := enc) (C := Try.checked) false ⟨#[], #[.slice none 0 0], []⟩ 8 (by kernel_rfl) (by kernel_rfl) (by kernel_rfl) (by kernel_rfl)) ?_
  intro W base args ds gs before hval0 hW hcnd _
  have hval : ∀ (j : Nat) t v, Try.f4.params[j]? = some t → args[j]? = some v → Value.okWide Try.prog W .any base t v := hval0
  have hW' := hW
  obtain ⟨p, q, hA0, hV, rfl, hfz, hnd⟩ := hW
  have hA : DataW.TrodAll enc Try.prog W 0 (fun _ => true) true Try.f4.params.toList args.toList ds p := hA0
  rw [Try.params4] at hA hval
  obtain ⟨v0, vs0, d0, ds0, p0, q0, hargs, rfl, rfl, h0, r0⟩ := trodAll_cons hA
  obtain ⟨rfl, rfl, rfl⟩ := trodAll_nil r0
  obtain rfl : args = #[v0] := by cases args; simp_all
  obtain ⟨rfl, rfl⟩ := trodVars_none hV
  have k0 := h0
  have lt0 : ∀ x ∈ p0, x.block < W.heap.size := by obtain ⟨m, hm⟩ := k0; exact DataW.trod_lt m _ _ _ hm
  obtain ⟨a0, len0, cap0, rfl⟩ := okWide_slice Try.underlying28 (hval 0 28 v0 rfl rfl)
  obtain ⟨l0, e0, _⟩ := uopen_row h0
  clear hA0 hval0
  refine (walk _ l0 W e0).mono fun e W' ⟨he, bel⟩ => ?_
  subst he
  exact ⟨_, rfl, _, _, _, [], _, [], hW', trodAll_mk1 (shut_bool Try.underlying4 _), (trodAll_cons_mk (Below.trod laidOut (by kernel_rfl) (of_decide_eq_true (by kernel_rfl)) k0 bel lt0) trodAll_mk0), rfl, bel.frame _, fun h => by cases h⟩

theorem over : Rows.tourSplitsRow.holds Try.pinned (OpenSpec.ofChange Rows.tourSplitsSpec) :=
  OpenClaim.holds_of_wide 4 Try.f4 rfl rfl rfl rfl rfl rfl rfl ⟨rfl, rfl, rfl, rfl, rfl⟩ rfl rfl rfl rfl rfl (by kernel_rfl) Try.func4 (by kernel_rfl)
    (of_decide_eq_true (by kernel_rfl)) (by unfold Func.isWrapper; first | (rw [if_pos (by decide +kernel)]; kernel_rfl) | (rw [if_neg (by decide +kernel)]; exact ⟨rfl, rfl⟩))
    (fun os started H enc _ => lifted os started H enc)

theorem proved : Rows.TourSplitsSaid := over
#print axioms proved
end Go.Proofs.Ytbhgpiohniplbaa.tourSplits
