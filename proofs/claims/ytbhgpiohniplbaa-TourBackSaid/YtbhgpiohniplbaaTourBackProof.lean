/- What is split is joined again as it was, and is in order: of at most 500 stops. -/
import Derived.Test.YtbhgpiohniplbaaRows
import Derived.Test.YtbhgpiohniplbaaUAwake
import Derived.Test.YtbhgpiohniplbaaVArgs
import Derived.Test.YtbhgpiohniplbaaXPMat
namespace Go.Proofs.Ytbhgpiohniplbaa.tourBack
open Go.ChangeShapes Go.WideShapes Go.ChangeAt Go.RowKit

theorem full_num {L : List (List Int)} (h : Full L) : L.length ≤ sumL L := by
  induction L with
  | nil => exact Nat.zero_le _
  | cons l L ih =>
    have h1 : l ≠ [] := h l (by simp)
    have h2 := ih (fun x hx => h x (by simp [hx]))
    simp only [sumL, List.length_cons, if_neg h1]
    omega
theorem row_sum {L : List (List Int)} : ∀ l ∈ L, l.length ≤ sumL L := by
  induction L with
  | nil => intro l hl; cases hl
  | cons x L ih =>
    intro l hl
    simp only [sumL]
    rcases List.mem_cons.1 hl with rfl | hl
    · split
      · rename_i h; rw [h]; exact Nat.zero_le _
      · omega
    · have := ih l hl; omega
/-- How much a split tour's routes take. -/
theorem split_sizes {t : List Int} (h : splitE t = 0) : (splitR t).length ≤ t.length + 1 ∧ (∀ l ∈ splitR t, l.length ≤ t.length + 1) ∧ sumL (splitR t) ≤ t.length + 1 := by
  by_cases h0 : t = []
  · rw [h0, split_nil.2]
    exact ⟨Nat.zero_le _, fun l hl => (nomatch hl), Nat.zero_le _⟩
  · obtain ⟨h1, h2, h3⟩ := split_ok h h0
    obtain ⟨h4, h5⟩ := (form_iff h0).1 h1
    have hs : sumL (cutL t) = t.length + 1 := by rw [← glue_len h5, glue_cut t h4]; rfl
    rw [h3]
    refine ⟨?_, fun l hl => ?_, by omega⟩
    · have := full_num h5; omega
    · have := row_sum l hl; omega
set_option maxRecDepth 1000000 in
set_option maxHeartbeats 4000000 in
theorem walk (v0 : Value) (l0 : List Int) (w : World) (e0 : Row w v0 (ints l0)) :
    Calls Try.prog 5 #[v0] w fun e w' => e = .returned (.bool true) ∧ Below w.heap.size w w' := by
  have HP := Lib.hid e0
  obtain ⟨ta, tc, rfl, hm⟩ := e0.form
  rw [ints_len] at *
  have hm1 : l0.length ≤ 9223372036854775807 := by unfold maxLen at hm; omega
  clear e0 hm
  go_enter Try.func5, Try.ntmps5
  go_wp2_with fail
  refine (uawake_any _).mono ?_
  rintro e w1 ⟨rfl, hb⟩
  have HB1 := Lib.hid hb
  clear hb
  by_cases hlen : 500 < l0.length
  · have hlen2 : (500 : Int) < (l0.length : Int) := by omega
    go_wp2
    go_ret
    exact ⟨rfl, HB1.out⟩
  · have hlen2 : ¬ (500 : Int) < (l0.length : Int) := by omega
    go_wp2_with fail
    refine (split_any (HP.out.below HB1.out) (by omega)).mono ?_
    rintro e w2 ⟨u, rfl, hu, hb⟩
    have HNo := Lib.hid (fun h => split_none (t := l0) h)
    have HTB := Lib.hid (fun h => tour_back (t := l0) h)
    have HSS := Lib.hid (fun h => split_sizes (t := l0) h)
    obtain ⟨L, hL⟩ : ∃ L, splitR l0 = L := ⟨_, rfl⟩
    obtain ⟨er, her⟩ : ∃ er, splitE l0 = er := ⟨_, rfl⟩
    rw [hL] at hu HTB HSS HNo
    rw [her] at HTB HSS HNo ⊢
    obtain ⟨ua, uc, rfl⟩ := hu.shape
    have HB3 := Lib.hid ((HB1.out.trans (hb.mono HB1.out.size)).alloc (HB1.out.trans (hb.mono HB1.out.size)).size (.cells #[.slice ua L.length uc] 24))
    have HU := Lib.hid (hu.is.below ((Below.refl w2.heap.size w2).alloc (Nat.le_refl _) (.cells #[.slice ua L.length uc] 24)))
    have HX := Lib.hid (pbox_new w2 (.slice ua L.length uc))
    clear hu hb hL her
    unfold planV
    go_upto_region 5 with fail
    generalize w2.alloc (.cells #[.slice ua L.length uc] 24) = w3 at *
    generalize w2.heap.size = N1 at *
    have x0 := HX.out.cell
    by_cases he : er = 0
    · have heb : (er != 0) = false := by simp [he]
      have HT := Lib.hid (HTB.out he)
      have HS := Lib.hid (HSS.out he)
      clear HTB HSS HNo he
      go_wp2_with fail
      change Calls _ _ #[planV (.slice ua L.length uc)] _ _
      refine (vsorted_all HU.out (by have := HS.out.1; omega) (fun l hl => by have := HS.out.2.1 l hl; omega)).mono ?_
      rintro e w4 ⟨q, rfl, hq, hb⟩
      rw [HT.out.1] at hq
      obtain ⟨qa, qc, rfl⟩ := hq.shape
      have hn := (Below.refl w4.heap.size w4).alloc (Nat.le_refl _) (.cells #[.slice qa L.length qc] 24)
      have HB5 := Lib.hid ((HB3.out.trans (hb.mono HB3.out.size)).alloc (HB3.out.trans (hb.mono HB3.out.size)).size (.cells #[.slice qa L.length qc] 24))
      have HQ := Lib.hid (hq.is.below hn)
      have HU5 := Lib.hid ((HU.out.below hb).below hn)
      have HX5 := Lib.hid ((HX.out.later hb).later hn)
      have HY5 := Lib.hid (pbox_new w4 (.slice qa L.length qc))
      clear hq hb hn x0
      unfold planV
      go_upto_region 8 with fail
      generalize w4.alloc (.cells #[.slice qa L.length qc] 24) = w5 at *
      generalize w4.heap.size = N2 at *
      have x0 := HX5.out.cell
      go_wp2_with fail
      change Calls _ _ #[planV (.slice ua L.length uc)] _ _
      refine (join_any HU5.out (by have := HS.out.1; omega) (fun l hl => by have := HS.out.2.1 l hl; omega) (by have := HS.out.2.2; omega)).mono ?_
      rw [HT.out.2]
      rintro e w6 ⟨t, rfl, ht, hb⟩
      have HB6 := Lib.hid (HB5.out.trans (hb.mono HB5.out.size))
      have HTt := Lib.hid ht
      have HQ6 := Lib.hid (HQ.out.below hb)
      have HU6 := Lib.hid (HU5.out.below hb)
      have HX6 := Lib.hid (HX5.out.later hb)
      have HY6 := Lib.hid (HY5.out.later hb)
      clear ht hb x0
      go_wp2_with fail
      refine (same2_any HTt.out.row (HP.out.below HB6.out)).mono ?_
      rintro e w7 ⟨rfl, hb⟩
      have HB7 := Lib.hid (HB6.out.trans (hb.mono HB6.out.size))
      have HQ7 := Lib.hid (HQ6.out.below hb)
      have HU7 := Lib.hid (HU6.out.below hb)
      have x0 := (HX6.out.later hb).cell
      have y0 := (HY6.out.later hb).cell
      clear hb
      go_wp2_with fail
      refine (same_any HQ7.out HU7.out).mono ?_
      rintro e w8 ⟨rfl, hb⟩
      have HB8 := Lib.hid (HB7.out.trans (hb.mono HB7.out.size))
      clear hb x0 y0
      go_wp2
      go_ret
      exact ⟨by simp, HB8.out⟩
    · have heb : (er != 0) = true := by simp [he]
      have HLn := Lib.hid (HNo.out he)
      have hln : ((L.length : Int) == 0) = true := by rw [HLn.out]; rfl
      clear he
      go_wp2
      go_ret
      exact ⟨rfl, HB3.out⟩

set_option maxRecDepth 100000 in
theorem lifted (os : Os) (started : os.Started) (H : Type) (enc : TypeId × Value → H) :
    ReturnsInHanded {} Try.checked os 5 .any (Rows.tourBackSpec.pre6 enc Try.prog Try.f5 Rows.tourBackRow.domain false) (Rows.tourBackSpec.post enc Try.prog Try.f5 false true false false) := by
  refine returnsInHanded_of_change (C := Try.checked) own started (by kernel_rfl) Try.func5
    (ChangeSpec.witness6 (enc := enc) (C := Try.checked) false ⟨#[], #[.slice none 0 0], []⟩ 8 (by kernel_rfl) (by kernel_rfl) (by kernel_rfl) (by kernel_rfl)) ?_
  intro W base args ds gs before hval0 hW hcnd _
  have hval : ∀ (j : Nat) t v, Try.f5.params[j]? = some t → args[j]? = some v → Value.okWide Try.prog W .any base t v := hval0
  have hW' := hW
  obtain ⟨p, q, hA0, hV, rfl, hfz, hnd⟩ := hW
  have hA : DataW.TrodAll enc Try.prog W 0 (fun _ => true) true Try.f5.params.toList args.toList ds p := hA0
  rw [Try.params5] at hA hval
  obtain ⟨v0, vs0, d0, ds0, p0, q0, hargs, rfl, rfl, h0, r0⟩ := trodAll_cons hA
  obtain ⟨rfl, rfl, rfl⟩ := trodAll_nil r0
  obtain rfl : args = #[v0] := by cases args; simp_all
  obtain ⟨rfl, rfl⟩ := trodVars_none hV
  have k0 := h0
  have lt0 : ∀ x ∈ p0, x.block < W.heap.size := by obtain ⟨m, hm⟩ := k0; exact DataW.trod_lt m _ _ _ hm
  obtain ⟨a0, len0, cap0, rfl⟩ := okWide_slice Try.underlying28 (hval 0 28 v0 rfl rfl)
  obtain ⟨l0, e0, _⟩ := uopen_row h0
  clear hA0 hval0
  refine (walk _ l0 W e0).mono fun e W' ⟨he, bel⟩ => ?_
  subst he
  exact ⟨_, rfl, _, _, _, [], _, [], hW', trodAll_mk1 (shut_bool Try.underlying4 _), (trodAll_cons_mk (Below.trod laidOut (by kernel_rfl) (of_decide_eq_true (by kernel_rfl)) k0 bel lt0) trodAll_mk0), rfl, bel.frame _, fun h => by cases h⟩

theorem over : Rows.tourBackRow.holds Try.pinned (OpenSpec.ofChange Rows.tourBackSpec) :=
  OpenClaim.holds_of_wide 5 Try.f5 rfl rfl rfl rfl rfl rfl rfl ⟨rfl, rfl, rfl, rfl, rfl⟩ rfl rfl rfl rfl rfl (by kernel_rfl) Try.func5 (by kernel_rfl)
    (of_decide_eq_true (by kernel_rfl)) (by unfold Func.isWrapper; first | (rw [if_pos (by decide +kernel)]; kernel_rfl) | (rw [if_neg (by decide +kernel)]; exact ⟨rfl, rfl⟩))
    (fun os started H enc _ => lifted os started H enc)

theorem proved : Rows.TourBackSaid := over
#print axioms proved
end Go.Proofs.Ytbhgpiohniplbaa.tourBack
