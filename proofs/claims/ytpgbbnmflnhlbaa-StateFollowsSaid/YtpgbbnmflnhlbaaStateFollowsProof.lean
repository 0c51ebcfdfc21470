/- StateFollows: what is known behind any moves, and what they cost, is what the document says. -/
import Derived.Test.YtpgbbnmflnhlbaaOrd
import Derived.Test.YtpgbbnmflnhlbaaRows
import Derived.Test.YtpgbbnmflnhlbaaSAwake
import Derived.Test.YtpgbbnmflnhlbaaXU
import Derived.Test.YtpgbbnmflnhlbaaXSDoc
namespace Go.Proofs.Ytpgbbnmflnhlbaa.stateFollows
open Go.ChangeShapes Go.WideShapes Go.ChangeAt Go.RowKit

set_option maxRecDepth 1000000 in
set_option maxHeartbeats 4000000 in
theorem walk (I0 : Ins) (v0 : Value) (v1 : Value) (l1 : List Int) (w : World) (e0 : SRow w v0 I0.l) (e1 : Row w v1 (ints l1)) :
    Calls Try.prog 16 #[insV I0 v0, v1] w fun e w' => e = .returned (.bool true) ∧ Below w.heap.size w w' := by
  have HR := Lib.hid e0
  have HL := Lib.hid e1
  obtain ⟨ad, cap, rfl, hlm, _⟩ := e0.form
  obtain ⟨ad2, cap2, rfl, hmx⟩ := e1.form
  rw [ints_len] at *
  have hmx2 : l1.length ≤ 9223372036854775807 := by unfold maxLen at hmx; omega
  clear e0 e1 hmx
  unfold insV
  go_enter Try.func16, Try.ntmps16
  go_wp2_with fail
  have HY := Lib.hid (ybox_new w I0 (.slice ad I0.l.length cap))
  have HB := Lib.hid ((Below.refl w.heap.size w).alloc (Nat.le_refl _) (boxI I0 (.slice ad I0.l.length cap)))
  change Calls _ _ _ (w.alloc (boxI I0 (.slice ad I0.l.length cap))) _
  generalize w.alloc (boxI I0 (.slice ad I0.l.length cap)) = W at *
  refine (sawake_any _).mono ?_
  rintro e w1 ⟨rfl, hb⟩
  have HYn := Lib.hid (HY.out.later hb)
  have HBn := Lib.hid (HB.out.trans (hb.mono HB.out.size))
  clear hb HY HB
  have HY := HYn
  have HB := HBn
  clear HYn HBn
  have y3 := HY.out.cells.2.2.2
  by_cases g1 : 100 < I0.l.length
  · have d1 : decide (100 < (I0.l.length : Int)) = true := decide_eq_true (by omega)
    have d2 := decide_eq_true g1
    clear g1
    go_wp2
    go_ret
    exact ⟨rfl, HB.out⟩
  have d1 : decide (100 < (I0.l.length : Int)) = false := decide_eq_false (by omega)
  have d2 := decide_eq_false g1
  clear g1
  by_cases g2 : 100 < l1.length
  · have d3 : decide (100 < (l1.length : Int)) = true := decide_eq_true (by omega)
    have d4 := decide_eq_true g2
    clear g2
    go_wp2
    go_ret
    exact ⟨rfl, HB.out⟩
  have d3 : decide (100 < (l1.length : Int)) = false := decide_eq_false (by omega)
  have d4 := decide_eq_false g2
  clear g2 y3
  obtain ⟨y0, y1, y2, y3⟩ := HY.out.cells
  go_wp2_with fail
  clear y0 y1 y2 y3 d1 d2 d3 d4
  change Calls _ _ #[insV I0 (.slice ad I0.l.length cap), _] _ _
  refine (sfollow_any (HR.out.below HB.out) (HL.out.below HB.out)).mono ?_
  rintro e w2 ⟨rfl, hb⟩
  have HYn := Lib.hid (HY.out.later hb)
  have HBn := Lib.hid (HB.out.trans (hb.mono HB.out.size))
  clear hb HY HB
  have HY := HYn
  have HB := HBn
  clear HYn HBn
  obtain ⟨po, ca, ti, lo, fi, mu, ma, on, HM0⟩ : ∃ po ca ti lo fi mu ma on, stO (folS I0 l1) = ⟨po, ca, ti, lo, fi, mu, ma, on⟩ := ⟨_, _, _, _, _, _, _, _, rfl⟩
  rw [HM0]
  have HM := Lib.hid HM0
  clear HM0
  obtain ⟨cc, hcc⟩ : ∃ cc, coO (folS I0 l1) = cc := ⟨_, rfl⟩
  rw [hcc]
  have HCC := Lib.hid hcc
  clear hcc
  obtain ⟨er, her⟩ : ∃ er, folE I0 l1 = er := ⟨_, rfl⟩
  rw [her]
  have HER := Lib.hid her
  clear her
  unfold staV
  go_upto_region 5 with fail
  have HU := Lib.hid (st_new w2 ⟨po, ca, ti, lo, fi, mu, ma, on⟩)
  have HYn := Lib.hid (HY.out.later ((Below.refl _ w2).alloc (Nat.le_refl _) (boxSt ⟨po, ca, ti, lo, fi, mu, ma, on⟩)))
  have HBn := Lib.hid (HB.out.alloc HB.out.size (boxSt ⟨po, ca, ti, lo, fi, mu, ma, on⟩))
  clear HY HB
  have HY := HYn
  have HB := HBn
  clear HYn HBn
  change Code.wp _ _ _ _ (w2.alloc (boxSt ⟨po, ca, ti, lo, fi, mu, ma, on⟩))
  generalize w2.alloc (boxSt ⟨po, ca, ti, lo, fi, mu, ma, on⟩) = W3 at *
  generalize w2.heap.size = bm at *
  obtain ⟨y0, y1, y2, y3⟩ := HY.out.cells
  go_wp2_with fail
  clear y0 y1 y2 y3
  change Calls _ _ #[insV I0 (.slice ad I0.l.length cap), _] _ _
  refine (dfollow_any (HR.out.below HB.out) (HL.out.below HB.out)).mono ?_
  rintro e w4 ⟨rfl, hb⟩
  have HYn := Lib.hid (HY.out.later hb)
  have HUn := Lib.hid (HU.out.later hb)
  have HBn := Lib.hid (HB.out.trans (hb.mono HB.out.size))
  clear hb HY HU HB
  have HY := HYn
  have HU := HUn
  have HB := HBn
  clear HYn HUn HBn
  rw [HM.out, HCC.out, HER.out]
  unfold staV
  go_upto_region 6 with fail
  have HV := Lib.hid (st_new w4 ⟨po, ca, ti, lo, fi, mu, ma, on⟩)
  have HYn := Lib.hid (HY.out.later ((Below.refl _ w4).alloc (Nat.le_refl _) (boxSt ⟨po, ca, ti, lo, fi, mu, ma, on⟩)))
  have HUn := Lib.hid (HU.out.later ((Below.refl _ w4).alloc (Nat.le_refl _) (boxSt ⟨po, ca, ti, lo, fi, mu, ma, on⟩)))
  have HBn := Lib.hid (HB.out.alloc HB.out.size (boxSt ⟨po, ca, ti, lo, fi, mu, ma, on⟩))
  clear HY HU HB
  have HY := HYn
  have HU := HUn
  have HB := HBn
  clear HYn HUn HBn
  change Code.wp _ _ _ _ (w4.alloc (boxSt ⟨po, ca, ti, lo, fi, mu, ma, on⟩))
  generalize w4.alloc (boxSt ⟨po, ca, ti, lo, fi, mu, ma, on⟩) = W5 at *
  generalize w4.heap.size = bn at *
  have q0 := HU.out.c0
  have q1 := HU.out.c1
  have q2 := HU.out.c2
  have q3 := HU.out.c3
  have q4 := HU.out.c4
  have q5 := HU.out.c5
  have q6 := HU.out.c6
  have q7 := HU.out.c7
  have z0 := HV.out.c0
  have z1 := HV.out.c1
  have z2 := HV.out.c2
  have z3 := HV.out.c3
  have z4 := HV.out.c4
  have z5 := HV.out.c5
  have z6 := HV.out.c6
  have z7 := HV.out.c7
  have keq := equalSta ⟨po, ca, ti, lo, fi, mu, ma, on⟩ ⟨po, ca, ti, lo, fi, mu, ma, on⟩
  rw [decide_eq_true (rfl : (⟨po, ca, ti, lo, fi, mu, ma, on⟩ : Sta) = ⟨po, ca, ti, lo, fi, mu, ma, on⟩)] at keq
  have kg := guardSta
  go_wp2
  go_ret
  exact ⟨rfl, HB.out⟩

set_option maxRecDepth 100000 in
theorem lifted (os : Os) (started : os.Started) (H : Type) (enc : TypeId × Value → H) :
    ReturnsInHanded {} Try.checked os 16 .any (Rows.stateFollowsSpec.pre6 enc Try.prog Try.f16 Rows.stateFollowsRow.domain false) (Rows.stateFollowsSpec.post enc Try.prog Try.f16 false true false false) := by
  refine returnsInHanded_of_change (C := Try.checked) own started (by kernel_rfl) Try.func16
    (ChangeSpec.witness6 (enc := enc) (C := Try.checked) false ⟨#[], #[.agg #[.int .i64 0, .int .i64 0, .int .i64 0, .slice none 0 0], .slice none 0 0], []⟩ 8 (by kernel_rfl) (by kernel_rfl) (by kernel_rfl) (by kernel_rfl)) ?_
  intro W base args ds gs before hval0 hW hcnd _
  have hval : ∀ (j : Nat) t v, Try.f16.params[j]? = some t → args[j]? = some v → Value.okWide Try.prog W .any base t v := hval0
  have hW' := hW
  obtain ⟨p, q, hA0, hV, rfl, hfz, hnd⟩ := hW
  have hA : DataW.TrodAll enc Try.prog W 0 (fun _ => true) true Try.f16.params.toList args.toList ds p := hA0
  rw [Try.params16] at hA hval
  obtain ⟨v0, vs0, d0, ds0, p0, q0, hargs, rfl, rfl, h0, r0⟩ := trodAll_cons hA
  obtain ⟨v1, vs1, d1, ds1, p1, q1, rfl, rfl, rfl, h1, r1⟩ := trodAll_cons r0
  obtain ⟨rfl, rfl, rfl⟩ := trodAll_nil r1
  obtain rfl : args = #[v0, v1] := by cases args; simp_all
  obtain ⟨rfl, rfl⟩ := trodVars_none hV
  have k0 := h0
  have lt0 : ∀ x ∈ p0, x.block < W.heap.size := by obtain ⟨m, hm⟩ := k0; exact DataW.trod_lt m _ _ _ hm
  have k1 := h1
  have lt1 : ∀ x ∈ p1, x.block < W.heap.size := by obtain ⟨m, hm⟩ := k1; exact DataW.trod_lt m _ _ _ hm
  obtain ⟨I0, u0, rfl, e0, _⟩ := open_inst (hval 0 26 v0 rfl rfl) h0
  obtain ⟨a1, len1, cap1, rfl⟩ := okWide_slice Try.underlying32 (hval 1 32 v1 rfl rfl)
  obtain ⟨l1, e1, _⟩ := uopen_row h1
  clear hA0 hval0
  refine (walk I0 _ _ l1 W e0 e1).mono fun e W' ⟨he, bel⟩ => ?_
  subst he
  exact ⟨_, rfl, _, _, _, [], _, [], hW', trodAll_mk1 (shut_bool Try.underlying4 _), (trodAll_cons_mk (Below.trod laidOut (by kernel_rfl) (of_decide_eq_true (by kernel_rfl)) k0 bel lt0) (trodAll_cons_mk (Below.trod laidOut (by kernel_rfl) (of_decide_eq_true (by kernel_rfl)) k1 bel lt1) trodAll_mk0)), rfl, bel.frame _, fun h => by cases h⟩

theorem over : Rows.stateFollowsRow.holds Try.pinned (OpenSpec.ofChange Rows.stateFollowsSpec) :=
  OpenClaim.holds_of_wide 16 Try.f16 rfl rfl rfl rfl rfl rfl rfl ⟨rfl, rfl, rfl, rfl, rfl⟩ rfl rfl rfl rfl rfl (by kernel_rfl) Try.func16 (by show joinedFacts Try.checked.prog _ _ _ _ = true; unfold joinedFacts; rw [ord_may, ord_lifts, ord_make]; kernel_rfl)
    (of_decide_eq_true (by kernel_rfl)) (by unfold Func.isWrapper; first | (rw [if_pos (by decide +kernel)]; kernel_rfl) | (rw [if_neg (by decide +kernel)]; exact ⟨rfl, rfl⟩))
    (fun os started H enc _ => lifted os started H enc)

theorem proved : Rows.StateFollowsSaid := over
#print axioms proved
end Go.Proofs.Ytpgbbnmflnhlbaa.stateFollows
