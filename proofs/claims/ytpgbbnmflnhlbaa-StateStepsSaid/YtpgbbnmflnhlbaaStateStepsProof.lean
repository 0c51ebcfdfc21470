/- StateSteps: moves are just those that can be made, rising; each costs what it is far; time never goes back on a route. -/
import Derived.Test.YtpgbbnmflnhlbaaOrd
import Derived.Test.YtpgbbnmflnhlbaaRows
import Derived.Test.YtpgbbnmflnhlbaaSAwake
namespace Go.Proofs.Ytpgbbnmflnhlbaa.stateSteps
open Go.ChangeShapes Go.WideShapes Go.ChangeAt Go.RowKit

theorem movesN_may {I : Ins} {s : Sta} {n : Nat} (h : I.l.length ≤ n) : movesN I s n = movesS I s := by
  cases hm : mayB I with
  | true => exact movesN_all (by have := (fine_of hm).len; omega)
  | false =>
    have hg : ¬ GoOn I s := fun h => by have := h.1; rw [hm] at this; cases this
    rw [moves_none hg]
    unfold movesN
    rw [List.filter_eq_nil_iff]
    intro j _
    simp only [decide_eq_true_eq]
    exact fun hc => hg hc.1
theorem moves_pos {I : Ins} {s : Sta} : ∀ x ∈ movesS I s, 0 ≤ x := by
  intro x hx
  unfold movesS movesN at hx
  exact (can_rng (of_decide_eq_true (List.mem_filter.1 hx).2)).1
/-- How many moves are below the number that is m - 1. -/
def cnt (I : Ins) (s : Sta) (m : Nat) : Nat := (movesN I s (m - 1)).length
theorem cnt_next {I : Ins} {s : Sta} {m : Nat} : cnt I s (m + 1) = if Can I s ((m : Int) - 1) then cnt I s m + 1 else cnt I s m := by
  unfold cnt
  cases m with
  | zero =>
    rw [if_neg (fun h => by have := (can_rng h).1; omega)]
  | succ m =>
    show (movesN I s (m + 1)).length = if Can I s (((m + 1 : Nat) : Int) - 1) then (movesN I s m).length + 1 else (movesN I s m).length
    rw [movesN_succ, show ((m + 1 : Nat) : Int) - 1 = (m : Int) by omega]
    split
    · simp
    · rfl
/-- The next one on the list is it, just where it can be. -/
theorem cnt_at {I : Ins} {s : Sta} {m : Nat} : (cnt I s m < (movesS I s).length ∧ (movesS I s).getD (cnt I s m) 0 = (m : Int) - 1) ↔ Can I s ((m : Int) - 1) := by
  cases m with
  | zero =>
    refine ⟨fun ⟨h1, h2⟩ => ?_, fun h => by have := (can_rng h).1; omega⟩
    have h3 := moves_pos ((movesS I s).getD (cnt I s 0) 0) (by rw [List.getD_eq_getElem?_getD, List.getElem?_eq_getElem h1]; exact List.getElem_mem h1)
    rw [h2] at h3
    omega
  | succ m =>
    rw [show ((m + 1 : Nat) : Int) - 1 = (m : Int) by omega]
    exact moves_at m
set_option maxRecDepth 1000000 in
set_option maxHeartbeats 4000000 in
theorem walk (I0 : Ins) (v0 : Value) (s1 : Sta) (w : World) (e0 : SRow w v0 I0.l) (e1 : SetsOk s1) :
    Calls Try.prog 20 #[insV I0 v0, staV s1] w fun e w' => e = .returned (.bool true) ∧ Below w.heap.size w w' := by
  have HR := Lib.hid e0
  have HS := Lib.hid e1
  obtain ⟨ad, cap, rfl, hlm, _⟩ := e0.form
  clear e0 e1
  unfold insV
  rw [show staV s1 = .agg #[.int .i64 s1.pos, .int .i64 s1.car, .int .i64 s1.time, .int .i64 s1.load, .int .i64 s1.first, .int .u64 s1.must, .int .u64 s1.may, .int .u64 s1.on] from rfl]
  go_enter Try.func20, Try.ntmps20
  go_wp2_with fail
  obtain ⟨b1, b2, b3⟩ := boxes_two w I0 (.slice ad I0.l.length cap) s1
  have HY := Lib.hid b1
  have HT := Lib.hid b2
  have HB := Lib.hid b3
  clear b1 b2 b3
  change Calls _ _ _ ((w.alloc (boxI I0 (.slice ad I0.l.length cap))).alloc (boxSt s1)) _
  generalize (w.alloc (boxI I0 (.slice ad I0.l.length cap))).alloc (boxSt s1) = W at *
  refine (sawake_any _).mono ?_
  rintro e w1 ⟨rfl, hb⟩
  have HYn := Lib.hid (HY.out.later hb)
  have HTn := Lib.hid (HT.out.later hb)
  have HBn := Lib.hid (HB.out.trans (hb.mono HB.out.size))
  clear hb HY HT HB
  have HY := HYn
  have HT := HTn
  have HB := HBn
  clear HYn HTn HBn
  have y3 := HY.out.cells.2.2.2
  by_cases g1 : 100 < I0.l.length
  · have d1 : decide (100 < (I0.l.length : Int)) = true := decide_eq_true (by omega)
    have d2 := decide_eq_true g1
    clear g1
    go_wp2
    go_ret
    exact ⟨rfl, HB.out⟩
  have d1 : decide (100 < (I0.l.length : Int)) = false := decide_eq_false (by omega)
  have d2 := decide_eq_false g1
  have HG1 := Lib.hid g1
  clear g1 y3
  obtain ⟨y0, y1, y2, y3⟩ := HY.out.cells
  have q0 := HT.out.c0
  have q1 := HT.out.c1
  have q2 := HT.out.c2
  have q3 := HT.out.c3
  have q4 := HT.out.c4
  have q5 := HT.out.c5
  have q6 := HT.out.c6
  have q7 := HT.out.c7
  go_wp2_with fail
  clear y0 y1 y2 y3 q0 q1 q2 q3 q4 q5 q6 q7 d1 d2
  change Calls _ _ #[insV I0 (.slice ad I0.l.length cap), staV s1] _ _
  refine (smoves_any (HR.out.below HB.out) HS.out).mono ?_
  rintro e w2 ⟨u, rfl, hu, hb⟩
  have HO0 := Lib.hid (hu.less HB.out.size)
  clear hu
  have HYn := Lib.hid (HY.out.later hb)
  have HTn := Lib.hid (HT.out.later hb)
  have HBn := Lib.hid (HB.out.trans (hb.mono HB.out.size))
  clear hb HY HT HB
  have HY := HYn
  have HT := HTn
  have HB := HBn
  clear HYn HTn HBn
  have HMV := Lib.hid (movesN_may (I := I0) (s := s1) (n := I0.l.length + 1) (Nat.le_succ _))
  have HCN := Lib.hid (fun m => cnt_next (I := I0) (s := s1) (m := m))
  have HCA := Lib.hid (fun m => cnt_at (I := I0) (s := s1) (m := m))
  have HCL := Lib.hid (show ∀ m, cnt I0 s1 m = (movesN I0 s1 (m - 1)).length from fun _ => rfl)
  have hll : (movesS I0 s1).length ≤ 101 := by rw [← HMV.out]; have := movesN_len I0 s1 (I0.l.length + 1); have := HG1.out; omega
  have HLL := Lib.hid hll
  clear hll
  generalize movesS I0 s1 = L at *
  obtain ⟨ua, uc, rfl⟩ := HO0.out.shape
  go_wp2_with fail
  go_loopw [7, 8] (fun a i wr => ∃ m : Nat, m ≤ I0.l.length + 2 ∧ i = .int .i64 ((m : Int) - 1) ∧ a = .int .i64 (cnt I0 s1 m : Nat) ∧ YBox wr w.heap.size I0 (.slice ad I0.l.length cap) ∧ StB wr (w.heap.size + 1) s1 ∧ OwnI wr w.heap.size (.slice ua L.length uc) L ∧ Below w.heap.size w wr) (fun _ i _ => I0.l.length + 2 - (intOf i + 1).toNat)
  case atStart => exact ⟨0, by omega, rfl, rfl, HY.out, HT.out, HO0.out, HB.out⟩
  case round =>
    obtain ⟨m, hm, rfl, rfl, hy, ht, ho, hb⟩ := hrel
    clear HY HT HO0 HB
    have HY := Lib.hid hy
    have HT := Lib.hid ht
    have HO := Lib.hid ho
    have HB := Lib.hid hb
    clear hy ht ho hb
    have y3 := HY.out.cells.2.2.2
    obtain ⟨j, hj⟩ : ∃ j : Int, j = (m : Int) - 1 := ⟨_, rfl⟩
    have HJ := Lib.hid hj
    have HN := Lib.hid (HCN.out m)
    have HA := Lib.hid (HCA.out m)
    rw [← hj] at HN HA ⊢
    have hg1 := HG1.out
    by_cases hlt : m < I0.l.length + 2
    · have HKL := Lib.hid hlt
      have d1 : decide (j ≤ (I0.l.length : Int)) = true := decide_eq_true (by omega)
      have e0 : IntKind.i64.wrap (j + 1) = ((m + 1 : Nat) : Int) - 1 := by rw [hj, IntWalk.i64_in _ (by omega)]; omega
      have hcb : cnt I0 s1 m ≤ 102 := by rw [HCL.out]; have := movesN_len I0 s1 (m - 1); omega
      have e1 : IntKind.i64.wrap ((cnt I0 s1 m : Int) + 1) = ((cnt I0 s1 m + 1 : Nat) : Int) := by rw [IntWalk.i64_in _ (by omega)]; omega
      generalize cnt I0 s1 m = n at *
      clear y3 hcb hm hlt hj
      have y3 := HY.out.cells.2.2.2
      have y0 := HY.out.cells.1
      have y1 := HY.out.cells.2.1
      have y2 := HY.out.cells.2.2.1
      have q0 := HT.out.c0
      have q1 := HT.out.c1
      have q2 := HT.out.c2
      have q3 := HT.out.c3
      have q4 := HT.out.c4
      have q5 := HT.out.c5
      have q6 := HT.out.c6
      have q7 := HT.out.c7
      go_wp2_with fail
      clear y0 y1 y2 y3 q0 q1 q2 q3 q4 q5 q6 q7 d1
      change Calls _ _ #[insV I0 (.slice ad I0.l.length cap), staV s1, _] _ _
      refine (smove_any (HR.out.below HB.out) HS.out).mono ?_
      rintro e w5 ⟨rfl, hb⟩
      have HYn := Lib.hid (HY.out.later hb)
      have HTn := Lib.hid (HT.out.later hb)
      have HOn := Lib.hid (HO.out.below hb)
      have HBn := Lib.hid (HB.out.trans (hb.mono HB.out.size))
      clear hb HY HT HO HB
      have HY := HYn
      have HT := HTn
      have HO := HOn
      have HB := HBn
      clear HYn HTn HOn HBn
      by_cases hcan : Can I0 s1 j
      · have HC := Lib.hid hcan
        have hcnt := HA.out.2 hcan
        rw [if_pos hcan] at HN
        rw [decide_eq_true hcan, (move_yes hcan).1, (move_yes hcan).2.1]
        have hk := next_known hcan
        have hbd := goOn_bd hcan.1
        have hfb := far1_bd I0 s1 j
        obtain ⟨c, hc⟩ : ∃ c, c = farS1 I0 s1 j := ⟨_, rfl⟩
        rw [← hc] at hk hfb ⊢
        clear hc
        have e2 : IntKind.i64.wrap (s1.time + c) = s1.time + c := IntWalk.i64_in _ (by omega)
        have e3 : IntKind.i64.wrap (s1.car + 1) = s1.car + 1 := IntWalk.i64_in _ (by omega)
        have hnl : (n : Int) < (L.length : Int) := by omega
        have d2 := decide_eq_true hnl
        have d3 : decide (n < L.length) = true := decide_eq_true hcnt.1
        have HL5 := Lib.hid hcnt
        clear hcnt
        obtain ⟨po, ca, ti, lo, fi, mu, ma, on, HM0⟩ : ∃ po ca ti lo fi mu ma on, nextS I0 s1 j = ⟨po, ca, ti, lo, fi, mu, ma, on⟩ := ⟨_, _, _, _, _, _, _, _, rfl⟩
        rw [HM0]
        have HM := Lib.hid HM0
        clear HM0
        rw [HM.out] at hk
        simp only at hk
        obtain ⟨hpo, hk2, hk3, hk4⟩ := hk
        have hpo2 := hpo.symm
        clear hpo
        subst hpo2
        unfold staV
        have HK3 := Lib.hid hk3
        have HK4 := Lib.hid hk4
        have d4 : decide (c < 0) = false := decide_eq_false (by omega)
        clear hk2 hk3 hk4 hfb hbd
        go_upto_region 10 with fail
        have HU := Lib.hid (st_new w5 ⟨j, ca, ti, lo, fi, mu, ma, on⟩)
        have HYn := Lib.hid (HY.out.later ((Below.refl _ w5).alloc (Nat.le_refl _) (boxSt ⟨j, ca, ti, lo, fi, mu, ma, on⟩)))
        have HTn := Lib.hid (HT.out.later ((Below.refl _ w5).alloc (Nat.le_refl _) (boxSt ⟨j, ca, ti, lo, fi, mu, ma, on⟩)))
        have HOn := Lib.hid (HO.out.below ((Below.refl _ w5).alloc (Nat.le_refl _) (boxSt ⟨j, ca, ti, lo, fi, mu, ma, on⟩)))
        have HBn := Lib.hid (HB.out.alloc HB.out.size (boxSt ⟨j, ca, ti, lo, fi, mu, ma, on⟩))
        clear HY HT HO HB
        have HY := HYn
        have HT := HTn
        have HO := HOn
        have HB := HBn
        clear HYn HTn HOn HBn
        change Code.wp _ _ _ _ (w5.alloc (boxSt ⟨j, ca, ti, lo, fi, mu, ma, on⟩))
        generalize w5.alloc (boxSt ⟨j, ca, ti, lo, fi, mu, ma, on⟩) = W6 at *
        generalize w5.heap.size = bm at *
        obtain ⟨b1, o1, c1, he1, hc1, _, _⟩ := row_at (p := n) HO.out.row (by rw [ints_len]; exact HL5.out.1)
        rw [ints_at _ n HL5.out.1] at hc1
        simp only [ints_len, Value.slice.injEq, true_and] at he1
        obtain ⟨rfl, rfl⟩ := he1
        rw [HL5.out.2] at hc1
        have z0 := HU.out.c0
        have z1 := HU.out.c1
        have z2 := HU.out.c2
        have q1 := HT.out.c1
        have q2 := HT.out.c2
        by_cases h0 : j = 0
        · have b0 : (j == 0) = true := by simp [h0]
          have d5 : decide (0 < j) = false := decide_eq_false (by omega)
          obtain rfl := HK4.out h0
          clear h0 hcan
          go_wp2
          go_roundw
          case rel => exact ⟨m + 1, by have := HKL.out; omega, by first | rfl | (simp only [Value.int.injEq, true_and]; omega) | go_num, by rw [HN.out]; first | done | rfl, HY.out, HT.out, HO.out, HB.out⟩
          case measure => have := HKL.out; have := HJ.out; simp [intOf]; omega
        · have h1 := can_rng hcan
          have b0 : (j == 0) = false := by simp [h0]
          have d5 : decide (0 < j) = true := decide_eq_true (by omega)
          obtain ⟨ht, rfl⟩ := HK3.out (by omega)
          have d6 : decide (ti < s1.time + c) = false := decide_eq_false (by omega)
          clear h0 h1 ht hcan
          go_wp2
          go_roundw
          case rel => exact ⟨m + 1, by have := HKL.out; omega, by first | rfl | (simp only [Value.int.injEq, true_and]; omega) | go_num, by rw [HN.out]; first | done | rfl, HY.out, HT.out, HO.out, HB.out⟩
          case measure => have := HKL.out; have := HJ.out; simp [intOf]; omega
      · rw [if_neg hcan] at HN
        rw [decide_eq_false hcan, (move_no hcan).1, (move_no hcan).2.1]
        have HNA := Lib.hid (show ¬ (n < L.length ∧ L.getD n 0 = j) from fun h => hcan (HA.out.1 h))
        clear hcan
        unfold staV
        go_upto_region 10 with fail
        have HU := Lib.hid (st_new w5 s1)
        have HYn := Lib.hid (HY.out.later ((Below.refl _ w5).alloc (Nat.le_refl _) (boxSt s1)))
        have HTn := Lib.hid (HT.out.later ((Below.refl _ w5).alloc (Nat.le_refl _) (boxSt s1)))
        have HOn := Lib.hid (HO.out.below ((Below.refl _ w5).alloc (Nat.le_refl _) (boxSt s1)))
        have HBn := Lib.hid (HB.out.alloc HB.out.size (boxSt s1))
        clear HY HT HO HB
        have HY := HYn
        have HT := HTn
        have HO := HOn
        have HB := HBn
        clear HYn HTn HOn HBn
        change Code.wp _ _ _ _ (w5.alloc (boxSt s1))
        generalize w5.alloc (boxSt s1) = W6 at *
        generalize w5.heap.size = bm at *
        have z0 := HU.out.c0
        have z1 := HU.out.c1
        have z2 := HU.out.c2
        have z3 := HU.out.c3
        have z4 := HU.out.c4
        have z5 := HU.out.c5
        have z6 := HU.out.c6
        have z7 := HU.out.c7
        have q0 := HT.out.c0
        have q1 := HT.out.c1
        have q2 := HT.out.c2
        have q3 := HT.out.c3
        have q4 := HT.out.c4
        have q5 := HT.out.c5
        have q6 := HT.out.c6
        have q7 := HT.out.c7
        have keq := equalSta s1 s1
        rw [decide_eq_true (rfl : s1 = s1)] at keq
        have kg := guardSta
        by_cases hnl : n < L.length
        · have d2 : decide ((n : Int) < (L.length : Int)) = true := decide_eq_true (by omega)
          have d3 := decide_eq_true hnl
          have hni : (n : Int) < (L.length : Int) := by omega
          obtain ⟨b1, o1, c1, he1, hc1, _, _⟩ := row_at (p := n) HO.out.row (by rw [ints_len]; exact hnl)
          rw [ints_at _ n hnl] at hc1
          simp only [ints_len, Value.slice.injEq, true_and] at he1
          obtain ⟨rfl, rfl⟩ := he1
          have hne : L.getD n 0 ≠ j := fun h => HNA.out ⟨hnl, h⟩
          obtain ⟨xx, hxx⟩ : ∃ xx, L.getD n 0 = xx := ⟨_, rfl⟩
          rw [hxx] at hc1 hne
          have b0 : (xx == j) = false := by simp [hne]
          clear hxx hne
          go_wp2
          go_roundw
          case rel => exact ⟨m + 1, by have := HKL.out; omega, by first | rfl | (simp only [Value.int.injEq, true_and]; omega) | go_num, by rw [HN.out]; first | done | rfl, HY.out, HT.out, HO.out, HB.out⟩
          case measure => have := HKL.out; have := HJ.out; simp [intOf]; omega
        · have d2 : decide ((n : Int) < (L.length : Int)) = false := decide_eq_false (by omega)
          have d3 := decide_eq_false hnl
          clear hnl
          go_wp2
          go_roundw
          case rel => exact ⟨m + 1, by have := HKL.out; omega, by first | rfl | (simp only [Value.int.injEq, true_and]; omega) | go_num, by rw [HN.out]; first | done | rfl, HY.out, HT.out, HO.out, HB.out⟩
          case measure => have := HKL.out; have := HJ.out; simp [intOf]; omega
    · obtain rfl : m = I0.l.length + 2 := by omega
      have hcE : cnt I0 s1 (I0.l.length + 2) = L.length := by rw [HCL.out, show I0.l.length + 2 - 1 = I0.l.length + 1 by omega, HMV.out]
      rw [hcE]
      have d1 : decide (j ≤ (I0.l.length : Int)) = false := decide_eq_false (by omega)
      clear hlt hm hj HA HN hcE
      go_wp2
      go_ret
      exact ⟨rfl, HB.out⟩

set_option maxRecDepth 100000 in
theorem lifted (os : Os) (started : os.Started) (H : Type) (enc : TypeId × Value → H) :
    ReturnsInHanded {} Try.checked os 20 .any (Rows.stateStepsSpec.pre6 enc Try.prog Try.f20 Rows.stateStepsRow.domain false) (Rows.stateStepsSpec.post enc Try.prog Try.f20 false true false false) := by
  refine returnsInHanded_of_change (C := Try.checked) own started (by kernel_rfl) Try.func20
    (ChangeSpec.witness6 (enc := enc) (C := Try.checked) false ⟨#[], #[.agg #[.int .i64 0, .int .i64 0, .int .i64 0, .slice none 0 0], .agg #[.int .i64 0, .int .i64 0, .int .i64 0, .int .i64 0, .int .i64 0, .int .u64 0, .int .u64 0, .int .u64 0]], []⟩ 8 (by kernel_rfl) (by kernel_rfl) (by kernel_rfl) (by kernel_rfl)) ?_
  intro W base args ds gs before hval0 hW hcnd _
  have hval : ∀ (j : Nat) t v, Try.f20.params[j]? = some t → args[j]? = some v → Value.okWide Try.prog W .any base t v := hval0
  have hW' := hW
  obtain ⟨p, q, hA0, hV, rfl, hfz, hnd⟩ := hW
  have hA : DataW.TrodAll enc Try.prog W 0 (fun _ => true) true Try.f20.params.toList args.toList ds p := hA0
  rw [Try.params20] at hA hval
  obtain ⟨v0, vs0, d0, ds0, p0, q0, hargs, rfl, rfl, h0, r0⟩ := trodAll_cons hA
  obtain ⟨v1, vs1, d1, ds1, p1, q1, rfl, rfl, rfl, h1, r1⟩ := trodAll_cons r0
  obtain ⟨rfl, rfl, rfl⟩ := trodAll_nil r1
  obtain rfl : args = #[v0, v1] := by cases args; simp_all
  obtain ⟨rfl, rfl⟩ := trodVars_none hV
  have k0 := h0
  have lt0 : ∀ x ∈ p0, x.block < W.heap.size := by obtain ⟨m, hm⟩ := k0; exact DataW.trod_lt m _ _ _ hm
  have k1 := h1
  have lt1 : ∀ x ∈ p1, x.block < W.heap.size := by obtain ⟨m, hm⟩ := k1; exact DataW.trod_lt m _ _ _ hm
  obtain ⟨I0, u0, rfl, e0, _⟩ := open_inst (hval 0 26 v0 rfl rfl) h0
  obtain ⟨s1, rfl, _, e1⟩ := open_state (hval 1 55 v1 rfl rfl) h1
  clear hA0 hval0
  refine (walk I0 _ s1 W e0 e1).mono fun e W' ⟨he, bel⟩ => ?_
  subst he
  exact ⟨_, rfl, _, _, _, [], _, [], hW', trodAll_mk1 (shut_bool Try.underlying4 _), (trodAll_cons_mk (Below.trod laidOut (by kernel_rfl) (of_decide_eq_true (by kernel_rfl)) k0 bel lt0) (trodAll_cons_mk (Below.trod laidOut (by kernel_rfl) (of_decide_eq_true (by kernel_rfl)) k1 bel lt1) trodAll_mk0)), rfl, bel.frame _, fun h => by cases h⟩

theorem over : Rows.stateStepsRow.holds Try.pinned (OpenSpec.ofChange Rows.stateStepsSpec) :=
  OpenClaim.holds_of_wide 20 Try.f20 rfl rfl rfl rfl rfl rfl rfl ⟨rfl, rfl, rfl, rfl, rfl⟩ rfl rfl rfl rfl rfl (by kernel_rfl) Try.func20 (by show joinedFacts Try.checked.prog _ _ _ _ = true; unfold joinedFacts; rw [ord_may, ord_lifts, ord_make]; kernel_rfl)
    (of_decide_eq_true (by kernel_rfl)) (by unfold Func.isWrapper; first | (rw [if_pos (by decide +kernel)]; kernel_rfl) | (rw [if_neg (by decide +kernel)]; exact ⟨rfl, rfl⟩))
    (fun os started H enc _ => lifted os started H enc)

theorem proved : Rows.StateStepsSaid := over
#print axioms proved
end Go.Proofs.Ytpgbbnmflnhlbaa.stateSteps
