/- StateTours: what can be followed and ended is the tour of a plan that may be, and costs as much. -/
import Derived.Test.YtpgbbnmflnhlbaaOrd
import Derived.Test.YtpgbbnmflnhlbaaRows
import Derived.Test.YtpgbbnmflnhlbaaSAwake
import Derived.Test.YtpgbbnmflnhlbaaXU
import Derived.Test.YtpgbbnmflnhlbaaXVD
import Derived.Test.YtpgbbnmflnhlbaaXVB
namespace Go.Proofs.Ytpgbbnmflnhlbaa.stateTours
open Go.ChangeShapes Go.WideShapes Go.ChangeAt Go.RowKit

theorem fol_ok {I : Ins} {l : List Int} (h : folE I l = 0) : mayB I = true ∧ ∃ s c, followS I l = some (s, c) := by
  cases hm : mayB I with
  | false => rw [(fol_bad hm l).2] at h; exact absurd h (by decide)
  | true =>
    cases hf : followS I l with
    | none => rw [(fol_no hm hf).2] at h; exact absurd h (by decide)
    | some x => exact ⟨rfl, x.1, x.2, rfl⟩
set_option maxRecDepth 1000000 in
set_option maxHeartbeats 4000000 in
theorem walk (I0 : Ins) (v0 : Value) (v1 : Value) (l1 : List Int) (w : World) (e0 : SRow w v0 I0.l) (e1 : Row w v1 (ints l1)) :
    Calls Try.prog 18 #[insV I0 v0, v1] w fun e w' => e = .returned (.bool true) ∧ Below w.heap.size w w' := by
  have HR := Lib.hid e0
  have HL := Lib.hid e1
  obtain ⟨ad, cap, rfl, hlm, _⟩ := e0.form
  obtain ⟨ad2, cap2, rfl, hmx⟩ := e1.form
  rw [ints_len] at *
  have hmx2 : l1.length ≤ 9223372036854775807 := by unfold maxLen at hmx; omega
  clear e0 e1 hmx
  unfold insV
  go_enter Try.func18, Try.ntmps18
  go_wp2_with fail
  have HY := Lib.hid (ybox_new w I0 (.slice ad I0.l.length cap))
  have HB := Lib.hid ((Below.refl w.heap.size w).alloc (Nat.le_refl _) (boxI I0 (.slice ad I0.l.length cap)))
  change Calls _ _ _ (w.alloc (boxI I0 (.slice ad I0.l.length cap))) _
  generalize w.alloc (boxI I0 (.slice ad I0.l.length cap)) = W at *
  refine (sawake_any _).mono ?_
  rintro e w1 ⟨rfl, hb⟩
  have HYn := Lib.hid (HY.out.later hb)
  have HBn := Lib.hid (HB.out.trans (hb.mono HB.out.size))
  clear hb HY HB
  have HY := HYn
  have HB := HBn
  clear HYn HBn
  obtain ⟨y0, y1, y2, y3⟩ := HY.out.cells
  go_wp2_with fail
  clear y0 y1 y2 y3
  change Calls _ _ #[insV I0 (.slice ad I0.l.length cap), _] _ _
  refine (sfollow_any (HR.out.below HB.out) (HL.out.below HB.out)).mono ?_
  rintro e w2 ⟨rfl, hb⟩
  have HYn := Lib.hid (HY.out.later hb)
  have HBn := Lib.hid (HB.out.trans (hb.mono HB.out.size))
  clear hb HY HB
  have HY := HYn
  have HB := HBn
  clear HYn HBn
  obtain ⟨po, ca, ti, lo, fi, mu, ma, on, HM0⟩ : ∃ po ca ti lo fi mu ma on, stO (folS I0 l1) = ⟨po, ca, ti, lo, fi, mu, ma, on⟩ := ⟨_, _, _, _, _, _, _, _, rfl⟩
  rw [HM0]
  have HM := Lib.hid HM0
  clear HM0
  unfold staV
  go_upto_region 3 with fail
  have HU := Lib.hid (st_new w2 ⟨po, ca, ti, lo, fi, mu, ma, on⟩)
  have HYn := Lib.hid (HY.out.later ((Below.refl _ w2).alloc (Nat.le_refl _) (boxSt ⟨po, ca, ti, lo, fi, mu, ma, on⟩)))
  have HBn := Lib.hid (HB.out.alloc HB.out.size (boxSt ⟨po, ca, ti, lo, fi, mu, ma, on⟩))
  clear HY HB
  have HY := HYn
  have HB := HBn
  clear HYn HBn
  change Code.wp _ _ _ _ (w2.alloc (boxSt ⟨po, ca, ti, lo, fi, mu, ma, on⟩))
  generalize w2.alloc (boxSt ⟨po, ca, ti, lo, fi, mu, ma, on⟩) = W3 at *
  generalize w2.heap.size = bm at *
  have HSO := Lib.hid (show SetsOk ⟨po, ca, ti, lo, fi, mu, ma, on⟩ by rw [← HM.out]; exact fol_sets I0 l1)
  obtain ⟨y0, y1, y2, y3⟩ := HY.out.cells
  have q0 := HU.out.c0
  have q1 := HU.out.c1
  have q2 := HU.out.c2
  have q3 := HU.out.c3
  have q4 := HU.out.c4
  have q5 := HU.out.c5
  have q6 := HU.out.c6
  have q7 := HU.out.c7
  go_wp2_with fail
  clear y0 y1 y2 y3 q0 q1 q2 q3 q4 q5 q6 q7
  change Calls _ _ #[insV I0 (.slice ad I0.l.length cap), staV ⟨po, ca, ti, lo, fi, mu, ma, on⟩] _ _
  refine (send_any (HR.out.below HB.out) HSO.out).mono ?_
  rintro e w4 ⟨rfl, hb⟩
  have HYn := Lib.hid (HY.out.later hb)
  have HBn := Lib.hid (HB.out.trans (hb.mono HB.out.size))
  clear hb HY HB
  have HY := HYn
  have HB := HBn
  clear HYn HBn
  have y3 := HY.out.cells.2.2.2
  by_cases g1 : 100 < I0.l.length
  · have d1 : decide (100 < (I0.l.length : Int)) = true := decide_eq_true (by omega)
    have d2 := decide_eq_true g1
    clear g1
    go_wp2
    go_ret
    exact ⟨rfl, HB.out⟩
  have d1 : decide (100 < (I0.l.length : Int)) = false := decide_eq_false (by omega)
  have d2 := decide_eq_false g1
  clear g1
  by_cases g2 : 100 < l1.length
  · have d3 : decide (100 < (l1.length : Int)) = true := decide_eq_true (by omega)
    have d4 := decide_eq_true g2
    clear g2
    go_wp2
    go_ret
    exact ⟨rfl, HB.out⟩
  have d3 : decide (100 < (l1.length : Int)) = false := decide_eq_false (by omega)
  have d4 := decide_eq_false g2
  have HG2 := Lib.hid g2
  clear g2
  by_cases g3 : folE I0 l1 = 0
  rotate_left
  · have b0 : (folE I0 l1 != 0) = true := by simp [g3]
    clear g3
    go_wp2
    go_ret
    exact ⟨rfl, HB.out⟩
  have b0 : (folE I0 l1 != 0) = false := by simp [g3]
  by_cases g4 : EndS I0 ⟨po, ca, ti, lo, fi, mu, ma, on⟩
  rotate_left
  · rw [decide_eq_false g4]
    clear g3 g4
    go_wp2
    go_ret
    exact ⟨rfl, HB.out⟩
  rw [decide_eq_true g4]
  obtain ⟨hm, s, c, hf⟩ := fol_ok g3
  have hs := HM.out
  rw [(fol_yes hm hf).1] at hs
  have hs2 : s = ⟨po, ca, ti, lo, fi, mu, ma, on⟩ := hs
  subst hs2
  have HTO := Lib.hid (tours hm hf g4)
  have hc1 := follow_cost l1 _ _ hf
  have hc2 := far1_bd I0 ⟨po, ca, ti, lo, fi, mu, ma, on⟩ 0
  rw [endC_is g4] at HTO ⊢
  obtain ⟨ec, hec⟩ : ∃ ec, ec = farS1 I0 ⟨po, ca, ti, lo, fi, mu, ma, on⟩ 0 := ⟨_, rfl⟩
  rw [← hec] at hc2 HTO ⊢
  rw [(fol_yes hm hf).1, show coO (some (⟨po, ca, ti, lo, fi, mu, ma, on⟩, c)) = c from rfl]
  have hg2 := HG2.out
  have e1 : IntKind.i64.wrap (c + ec) = c + ec := IntWalk.i64_in _ (by omega)
  clear hec hc1 hc2 hf hm hs g3 g4 hg2
  go_wp2_with fail
  clear d1 d2 d3 d4 y3 b0
  refine (split_any (HL.out.below HB.out) (by have := HG2.out; omega)).mono ?_
  rintro e w5 ⟨u, rfl, hu, hb⟩
  have HYn := Lib.hid (HY.out.later hb)
  have HBn := Lib.hid (HB.out.trans (hb.mono HB.out.size))
  clear hb HY HB
  have HY := HYn
  have HB := HBn
  clear HYn HBn
  have HO := Lib.hid hu.is
  obtain ⟨ua, uc, rfl⟩ := hu.shape
  clear hu
  rw [HTO.out.1]
  unfold planV
  go_upto_region 7 with fail
  have HOn := Lib.hid (HO.out.below ((Below.refl _ w5).alloc (Nat.le_refl _) (.cells #[.slice ua (splitR l1).length uc] 66)))
  clear HO
  have HO := HOn
  clear HOn
  have HP := Lib.hid (pbox_new w5 (.slice ua (splitR l1).length uc))
  have HYn := Lib.hid (HY.out.later ((Below.refl _ w5).alloc (Nat.le_refl _) (.cells #[(.slice ua (splitR l1).length uc)] 66)))
  have HBn := Lib.hid (HB.out.alloc HB.out.size (.cells #[(.slice ua (splitR l1).length uc)] 66))
  clear HY HB
  have HY := HYn
  have HB := HBn
  clear HYn HBn
  change Code.wp _ _ _ _ (w5.alloc (.cells #[(.slice ua (splitR l1).length uc)] 66))
  generalize w5.alloc (.cells #[(.slice ua (splitR l1).length uc)] 66) = W6 at *
  generalize w5.heap.size = bp at *
  obtain ⟨y0, y1, y2, y3⟩ := HY.out.cells
  have x0 := HP.out.cell
  go_wp2_with fail
  clear y0 y1 y2 y3 x0
  change Calls _ _ #[insV I0 (.slice ad I0.l.length cap), planV (.slice ua (splitR l1).length uc)] _ _
  refine (cost_any (HR.out.below HB.out) HO.out).mono ?_
  rintro e w7 ⟨rfl, hb⟩
  have HYn := Lib.hid (HY.out.later hb)
  have HBn := Lib.hid (HB.out.trans (hb.mono HB.out.size))
  clear hb HY HB
  have HY := HYn
  have HB := HBn
  clear HYn HBn
  rw [HTO.out.2.1, HTO.out.2.2]
  go_wp2
  go_ret
  exact ⟨rfl, HB.out⟩

set_option maxRecDepth 100000 in
theorem lifted (os : Os) (started : os.Started) (H : Type) (enc : TypeId × Value → H) :
    ReturnsInHanded {} Try.checked os 18 .any (Rows.stateToursSpec.pre6 enc Try.prog Try.f18 Rows.stateToursRow.domain false) (Rows.stateToursSpec.post enc Try.prog Try.f18 false true false false) := by
  refine returnsInHanded_of_change (C := Try.checked) own started (by kernel_rfl) Try.func18
    (ChangeSpec.witness6 (enc := enc) (C := Try.checked) false ⟨#[], #[.agg #[.int .i64 0, .int .i64 0, .int .i64 0, .slice none 0 0], .slice none 0 0], []⟩ 8 (by kernel_rfl) (by kernel_rfl) (by kernel_rfl) (by kernel_rfl)) ?_
  intro W base args ds gs before hval0 hW hcnd _
  have hval : ∀ (j : Nat) t v, Try.f18.params[j]? = some t → args[j]? = some v → Value.okWide Try.prog W .any base t v := hval0
  have hW' := hW
  obtain ⟨p, q, hA0, hV, rfl, hfz, hnd⟩ := hW
  have hA : DataW.TrodAll enc Try.prog W 0 (fun _ => true) true Try.f18.params.toList args.toList ds p := hA0
  rw [Try.params18] at hA hval
  obtain ⟨v0, vs0, d0, ds0, p0, q0, hargs, rfl, rfl, h0, r0⟩ := trodAll_cons hA
  obtain ⟨v1, vs1, d1, ds1, p1, q1, rfl, rfl, rfl, h1, r1⟩ := trodAll_cons r0
  obtain ⟨rfl, rfl, rfl⟩ := trodAll_nil r1
  obtain rfl : args = #[v0, v1] := by cases args; simp_all
  obtain ⟨rfl, rfl⟩ := trodVars_none hV
  have k0 := h0
  have lt0 : ∀ x ∈ p0, x.block < W.heap.size := by obtain ⟨m, hm⟩ := k0; exact DataW.trod_lt m _ _ _ hm
  have k1 := h1
  have lt1 : ∀ x ∈ p1, x.block < W.heap.size := by obtain ⟨m, hm⟩ := k1; exact DataW.trod_lt m _ _ _ hm
  obtain ⟨I0, u0, rfl, e0, _⟩ := open_inst (hval 0 26 v0 rfl rfl) h0
  obtain ⟨a1, len1, cap1, rfl⟩ := okWide_slice Try.underlying32 (hval 1 32 v1 rfl rfl)
  obtain ⟨l1, e1, _⟩ := uopen_row h1
  clear hA0 hval0
  refine (walk I0 _ _ l1 W e0 e1).mono fun e W' ⟨he, bel⟩ => ?_
  subst he
  exact ⟨_, rfl, _, _, _, [], _, [], hW', trodAll_mk1 (shut_bool Try.underlying4 _), (trodAll_cons_mk (Below.trod laidOut (by kernel_rfl) (of_decide_eq_true (by kernel_rfl)) k0 bel lt0) (trodAll_cons_mk (Below.trod laidOut (by kernel_rfl) (of_decide_eq_true (by kernel_rfl)) k1 bel lt1) trodAll_mk0)), rfl, bel.frame _, fun h => by cases h⟩

theorem over : Rows.stateToursRow.holds Try.pinned (OpenSpec.ofChange Rows.stateToursSpec) :=
  OpenClaim.holds_of_wide 18 Try.f18 rfl rfl rfl rfl rfl rfl rfl ⟨rfl, rfl, rfl, rfl, rfl⟩ rfl rfl rfl rfl rfl (by kernel_rfl) Try.func18 (by show joinedFacts Try.checked.prog _ _ _ _ = true; unfold joinedFacts; rw [ord_may, ord_lifts, ord_make]; kernel_rfl)
    (of_decide_eq_true (by kernel_rfl)) (by unfold Func.isWrapper; first | (rw [if_pos (by decide +kernel)]; kernel_rfl) | (rw [if_neg (by decide +kernel)]; exact ⟨rfl, rfl⟩))
    (fun os started H enc _ => lifted os started H enc)

theorem proved : Rows.StateToursSaid := over
#print axioms proved
end Go.Proofs.Ytpgbbnmflnhlbaa.stateTours
