/- StateEnds: where a state can be ended all stops were perhaps seen, nothing is surely on the car. -/
import Derived.Test.YtpgbbnmflnhlbaaOrd
import Derived.Test.YtpgbbnmflnhlbaaRows
import Derived.Test.YtpgbbnmflnhlbaaSAwake
namespace Go.Proofs.Ytpgbbnmflnhlbaa.stateEnds
open Go.ChangeShapes Go.WideShapes Go.ChangeAt Go.RowKit

set_option maxRecDepth 1000000 in
set_option maxHeartbeats 4000000 in
theorem walk (I0 : Ins) (v0 : Value) (s1 : Sta) (w : World) (e0 : SRow w v0 I0.l) (e1 : SetsOk s1) :
    Calls Try.prog 22 #[insV I0 v0, staV s1] w fun e w' => e = .returned (.bool true) ∧ Below w.heap.size w w' := by
  have HR := Lib.hid e0
  have HS := Lib.hid e1
  obtain ⟨ad, cap, rfl, hlm, _⟩ := e0.form
  clear e0 e1
  unfold insV
  rw [show staV s1 = .agg #[.int .i64 s1.pos, .int .i64 s1.car, .int .i64 s1.time, .int .i64 s1.load, .int .i64 s1.first, .int .u64 s1.must, .int .u64 s1.may, .int .u64 s1.on] from rfl]
  go_enter Try.func22, Try.ntmps22
  go_wp2_with fail
  obtain ⟨b1, b2, b3⟩ := boxes_two w I0 (.slice ad I0.l.length cap) s1
  have HY := Lib.hid b1
  have HT := Lib.hid b2
  have HB := Lib.hid b3
  clear b1 b2 b3
  change Calls _ _ _ ((w.alloc (boxI I0 (.slice ad I0.l.length cap))).alloc (boxSt s1)) _
  generalize (w.alloc (boxI I0 (.slice ad I0.l.length cap))).alloc (boxSt s1) = W at *
  refine (sawake_any _).mono ?_
  rintro e w1 ⟨rfl, hb⟩
  have HYn := Lib.hid (HY.out.later hb)
  have HTn := Lib.hid (HT.out.later hb)
  have HBn := Lib.hid (HB.out.trans (hb.mono HB.out.size))
  clear hb HY HT HB
  have HY := HYn
  have HT := HTn
  have HB := HBn
  clear HYn HTn HBn
  obtain ⟨y0, y1, y2, y3⟩ := HY.out.cells
  have q0 := HT.out.c0
  have q1 := HT.out.c1
  have q2 := HT.out.c2
  have q3 := HT.out.c3
  have q4 := HT.out.c4
  have q5 := HT.out.c5
  have q6 := HT.out.c6
  have q7 := HT.out.c7
  go_wp2_with fail
  clear y0 y1 y2 y3 q0 q1 q2 q3 q4 q5 q6 q7
  change Calls _ _ #[insV I0 (.slice ad I0.l.length cap), staV s1] _ _
  refine (send_any (HR.out.below HB.out) HS.out).mono ?_
  rintro e w2 ⟨rfl, hb⟩
  have HYn := Lib.hid (HY.out.later hb)
  have HTn := Lib.hid (HT.out.later hb)
  have HBn := Lib.hid (HB.out.trans (hb.mono HB.out.size))
  clear hb HY HT HB
  have HY := HYn
  have HT := HTn
  have HB := HBn
  clear HYn HTn HBn
  have y3 := HY.out.cells.2.2.2
  have hec := endC_pos I0 s1
  generalize endC I0 s1 = ec at *
  by_cases g1 : 33 < I0.l.length
  · have d1 : decide (33 < (I0.l.length : Int)) = true := decide_eq_true (by omega)
    have d2 := decide_eq_true g1
    clear g1
    go_wp2
    go_ret
    exact ⟨rfl, HB.out⟩
  have d1 : decide (33 < (I0.l.length : Int)) = false := decide_eq_false (by omega)
  have d2 := decide_eq_false g1
  by_cases he : EndS I0 s1
  rotate_left
  · rw [decide_eq_false he]
    clear he g1
    go_wp2
    go_ret
    exact ⟨rfl, HB.out⟩
  rw [decide_eq_true he]
  have HK := Lib.hid (end_known he)
  have HE := Lib.hid he
  have HLN := Lib.hid (show (I0.l.length : Int) = 2 * I0.p + 1 ∧ 0 ≤ I0.p from ⟨(fine_of (end_known he).1).len, (fine_of (end_known he).1).p0⟩)
  clear he
  go_wp2_with fail
  clear d1 d2
  have q6 := HT.out.c6
  go_loopw [8] (fun i wr => ∃ k : Nat, 1 ≤ k ∧ k ≤ I0.l.length ∧ i = .int .i64 k ∧ wr = w2) (fun i _ => I0.l.length - (intOf i).toNat)
  case atStart => exact ⟨1, Nat.le_refl _, by have := HLN.out; omega, rfl, rfl⟩
  case round =>
    obtain ⟨k, hk1, hk, rfl, rfl⟩ := hrel
    by_cases hltk : k < I0.l.length
    · have hki : (k : Int) < (I0.l.length : Int) := by omega
      have HKL := Lib.hid hltk
      have HK1 := Lib.hid hk1
      have hk64 : k ≤ 63 := by omega
      have hbit : s1.may.testBit k = true := by
        have := HK.out.2.1 (k : Int) (by omega) (by have := HLN.out; omega)
        unfold has at this
        simp only [Bool.and_eq_true] at this
        exact this.2
      obtain ⟨q, hq⟩ : ∃ q : Nat, q = s1.may / 2 ^ k := ⟨_, rfl⟩
      have hq1 : q % 2 = 1 := by
        rw [Nat.testBit_eq_decide_div_mod_eq, decide_eq_true_eq, ← hq] at hbit
        exact hbit
      have e1 : (s1.may : Int) / 2 ^ k = (q : Int) := by rw [hq]; simp
      have e2 : ((q : Int) % 2 == 0) = false := by
        have : (q : Int) % 2 ≠ 0 := by omega
        simpa using this
      clear hq hq1 hbit hk hk1 g1
      go_wp2
      go_roundw
      case rel => exact ⟨k + 1, by omega, by have := HKL.out; omega, by go_num, by trivial⟩
      case measure => have := HKL.out; simp [intOf]; omega
    · obtain rfl : k = I0.l.length := by omega
      clear hltk hk hk1 q6 g1
      obtain ⟨y0, y1, y2, _⟩ := HY.out.cells
      have q0 := HT.out.c0
      have q1 := HT.out.c1
      have q2 := HT.out.c2
      have q3 := HT.out.c3
      have q4 := HT.out.c4
      have q5 := HT.out.c5
      have q6 := HT.out.c6
      have q7 := HT.out.c7
      go_wp2_with fail
      clear y0 y1 y2 y3 q0 q1 q2 q3 q4 q5 q6 q7
      change Calls _ _ #[insV I0 (.slice ad I0.l.length cap), staV s1, _] _ _
      refine (smove_any (HR.out.below HB.out) HS.out).mono ?_
      rintro e w3 ⟨rfl, hb⟩
      have HYn := Lib.hid (HY.out.later hb)
      have HTn := Lib.hid (HT.out.later hb)
      have HBn := Lib.hid (HB.out.trans (hb.mono HB.out.size))
      clear hb HY HT HB
      have HY := HYn
      have HT := HTn
      have HB := HBn
      clear HYn HTn HBn
      obtain ⟨po, ca, ti, lo, fi, mu, ma, on, HM0⟩ : ∃ po ca ti lo fi mu ma on, moveS I0 s1 0 = ⟨po, ca, ti, lo, fi, mu, ma, on⟩ := ⟨_, _, _, _, _, _, _, _, rfl⟩
      rw [HM0]
      have HM := Lib.hid HM0
      clear HM0
      unfold staV
      go_upto_region 11 with fail
      have HU := Lib.hid (st_new w3 ⟨po, ca, ti, lo, fi, mu, ma, on⟩)
      have HYn := Lib.hid (HY.out.later ((Below.refl _ w3).alloc (Nat.le_refl _) (boxSt ⟨po, ca, ti, lo, fi, mu, ma, on⟩)))
      have HTn := Lib.hid (HT.out.later ((Below.refl _ w3).alloc (Nat.le_refl _) (boxSt ⟨po, ca, ti, lo, fi, mu, ma, on⟩)))
      have HBn := Lib.hid (HB.out.alloc HB.out.size (boxSt ⟨po, ca, ti, lo, fi, mu, ma, on⟩))
      clear HY HT HB
      have HY := HYn
      have HT := HTn
      have HB := HBn
      clear HYn HTn HBn
      change Code.wp _ _ _ _ (w3.alloc (boxSt ⟨po, ca, ti, lo, fi, mu, ma, on⟩))
      generalize w3.alloc (boxSt ⟨po, ca, ti, lo, fi, mu, ma, on⟩) = W4 at *
      generalize w3.heap.size = bm at *
      have q5 := HT.out.c5
      have q6 := HT.out.c6
      have q7 := HT.out.c7
      have b0 : ((s1.on : Int) == 0) = true := by have := HK.out.2.2; simp [this]
      have b1 := decide_eq_true hec
      clear hec
      by_cases hcan : Can I0 s1 0
      · rw [decide_eq_true hcan]
        have b2 : ((s1.must : Int) != (s1.may : Int)) = true := by
          have := end_home HE.out hcan
          simp only [bne_iff_ne, ne_eq]
          omega
        clear hcan
        go_wp2
        go_ret
        exact ⟨rfl, HB.out⟩
      · rw [decide_eq_false hcan]
        clear hcan
        go_wp2
        go_ret
        exact ⟨rfl, HB.out⟩

set_option maxRecDepth 100000 in
theorem lifted (os : Os) (started : os.Started) (H : Type) (enc : TypeId × Value → H) :
    ReturnsInHanded {} Try.checked os 22 .any (Rows.stateEndsSpec.pre6 enc Try.prog Try.f22 Rows.stateEndsRow.domain false) (Rows.stateEndsSpec.post enc Try.prog Try.f22 false true false false) := by
  refine returnsInHanded_of_change (C := Try.checked) own started (by kernel_rfl) Try.func22
    (ChangeSpec.witness6 (enc := enc) (C := Try.checked) false ⟨#[], #[.agg #[.int .i64 0, .int .i64 0, .int .i64 0, .slice none 0 0], .agg #[.int .i64 0, .int .i64 0, .int .i64 0, .int .i64 0, .int .i64 0, .int .u64 0, .int .u64 0, .int .u64 0]], []⟩ 8 (by kernel_rfl) (by kernel_rfl) (by kernel_rfl) (by kernel_rfl)) ?_
  intro W base args ds gs before hval0 hW hcnd _
  have hval : ∀ (j : Nat) t v, Try.f22.params[j]? = some t → args[j]? = some v → Value.okWide Try.prog W .any base t v := hval0
  have hW' := hW
  obtain ⟨p, q, hA0, hV, rfl, hfz, hnd⟩ := hW
  have hA : DataW.TrodAll enc Try.prog W 0 (fun _ => true) true Try.f22.params.toList args.toList ds p := hA0
  rw [Try.params22] at hA hval
  obtain ⟨v0, vs0, d0, ds0, p0, q0, hargs, rfl, rfl, h0, r0⟩ := trodAll_cons hA
  obtain ⟨v1, vs1, d1, ds1, p1, q1, rfl, rfl, rfl, h1, r1⟩ := trodAll_cons r0
  obtain ⟨rfl, rfl, rfl⟩ := trodAll_nil r1
  obtain rfl : args = #[v0, v1] := by cases args; simp_all
  obtain ⟨rfl, rfl⟩ := trodVars_none hV
  have k0 := h0
  have lt0 : ∀ x ∈ p0, x.block < W.heap.size := by obtain ⟨m, hm⟩ := k0; exact DataW.trod_lt m _ _ _ hm
  have k1 := h1
  have lt1 : ∀ x ∈ p1, x.block < W.heap.size := by obtain ⟨m, hm⟩ := k1; exact DataW.trod_lt m _ _ _ hm
  obtain ⟨I0, u0, rfl, e0, _⟩ := open_inst (hval 0 26 v0 rfl rfl) h0
  obtain ⟨s1, rfl, _, e1⟩ := open_state (hval 1 55 v1 rfl rfl) h1
  clear hA0 hval0
  refine (walk I0 _ s1 W e0 e1).mono fun e W' ⟨he, bel⟩ => ?_
  subst he
  exact ⟨_, rfl, _, _, _, [], _, [], hW', trodAll_mk1 (shut_bool Try.underlying4 _), (trodAll_cons_mk (Below.trod laidOut (by kernel_rfl) (of_decide_eq_true (by kernel_rfl)) k0 bel lt0) (trodAll_cons_mk (Below.trod laidOut (by kernel_rfl) (of_decide_eq_true (by kernel_rfl)) k1 bel lt1) trodAll_mk0)), rfl, bel.frame _, fun h => by cases h⟩

theorem over : Rows.stateEndsRow.holds Try.pinned (OpenSpec.ofChange Rows.stateEndsSpec) :=
  OpenClaim.holds_of_wide 22 Try.f22 rfl rfl rfl rfl rfl rfl rfl ⟨rfl, rfl, rfl, rfl, rfl⟩ rfl rfl rfl rfl rfl (by kernel_rfl) Try.func22 (by show joinedFacts Try.checked.prog _ _ _ _ = true; unfold joinedFacts; rw [ord_may, ord_lifts, ord_make]; kernel_rfl)
    (of_decide_eq_true (by kernel_rfl)) (by unfold Func.isWrapper; first | (rw [if_pos (by decide +kernel)]; kernel_rfl) | (rw [if_neg (by decide +kernel)]; exact ⟨rfl, rfl⟩))
    (fun os started H enc _ => lifted os started H enc)

theorem proved : Rows.StateEndsSaid := over
#print axioms proved
end Go.Proofs.Ytpgbbnmflnhlbaa.stateEnds
