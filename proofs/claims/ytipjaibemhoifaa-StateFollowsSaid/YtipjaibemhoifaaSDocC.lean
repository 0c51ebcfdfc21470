/- The document's own Moves, End and Follow. -/
import Derived.Test.YtipjaibemhoifaaSDocB
import Derived.Test.YtipjaibemhoifaaSStore
namespace Go.Proofs.Ytipjaibemhoifaa
open Go.ChangeShapes Go.WideShapes Go.ChangeAt Go.RowKit

theorem movesN_mayD {I : Ins} {s : Sta} {n : Nat} (h : I.l.length ≤ n) : movesN I s n = movesS I s := by
  cases hm : mayB I with
  | true => exact movesN_all (by have := (fine_of hm).len; omega)
  | false =>
    have hg : ¬ GoOn I s := fun h => by have := h.1; rw [hm] at this; cases this
    rw [moves_none hg]
    unfold movesN
    rw [List.filter_eq_nil_iff]
    intro j _
    simp only [decide_eq_true_eq]
    exact fun hc => hg hc.1
theorem movesN_few {I : Ins} {s : Sta} {n : Nat} : (movesN I s n).length ≤ 33 := by
  cases hm : mayB I with
  | false =>
    have : movesN I s n = [] := by
      unfold movesN
      rw [List.filter_eq_nil_iff]
      intro j _
      simp only [decide_eq_true_eq]
      exact fun hc => by have := hc.1.1; rw [hm] at this; cases this
    rw [this]
    exact Nat.zero_le _
  | true =>
    have hp := (fine_of hm).p1
    have hp0 := (fine_of hm).p0
    by_cases h : (2 * I.p + 1).toNat ≤ n
    · rw [movesN_all h]
      have := movesN_len I s (2 * I.p + 1).toNat
      unfold movesS
      omega
    · have := movesN_len I s n
      omega
set_option maxRecDepth 1000000 in
set_option maxHeartbeats 4000000 in
theorem dmoves_any {w : World} {v : Value} {I : Ins} {s : Sta} (hr : SRow w v I.l) (hs : SetsOk s) :
    Calls Try.prog 18 #[insV I v, staV s] w fun e w' => ∃ u, e = .returned u ∧ OwnI w' w.heap.size u (movesS I s) ∧ Below w.heap.size w w' := by
  have HR := Lib.hid hr
  have HS := Lib.hid hs
  obtain ⟨ad, cap, rfl, hlm, _⟩ := hr.form
  clear hr hs
  unfold insV
  rw [show staV s = .agg #[.int .i64 s.pos, .int .i64 s.car, .int .i64 s.time, .int .i64 s.load, .int .i64 s.first, .int .u64 s.must, .int .u64 s.may, .int .u64 s.on] from rfl]
  have hlm2 : I.l.length ≤ 9223372036854775807 := by unfold maxLen at hlm; omega
  clear hlm
  have HALL := Lib.hid (movesN_mayD (I := I) (s := s) (Nat.le_refl _))
  go_enter Try.func18, Try.ntmps18
  go_wp2_with fail
  obtain ⟨b1, b2, b3⟩ := boxes_two w I (.slice ad I.l.length cap) s
  have HY := Lib.hid b1
  have HT := Lib.hid b2
  have HB := Lib.hid b3
  clear b1 b2 b3
  change Code.wp _ _ _ _ ((w.alloc (boxI I (.slice ad I.l.length cap))).alloc (boxSt s))
  generalize (w.alloc (boxI I (.slice ad I.l.length cap))).alloc (boxSt s) = W at *
  go_loopw [5, 6] (fun u i wr => ∃ k : Nat, k ≤ I.l.length ∧ i = .int .i64 k ∧ OwnI wr W.heap.size u (movesN I s k) ∧ Below W.heap.size W wr) (fun _ i _ => I.l.length - (intOf i).toNat)
  case atStart => exact ⟨0, Nat.zero_le _, rfl, ownI_nil _ _, Below.refl _ _⟩
  case round =>
    obtain ⟨k, hk, rfl, hu, hbw⟩ := hrel
    have HU2 := Lib.hid hu
    have HY2 := Lib.hid (HY.out.later hbw)
    have HT2 := Lib.hid (HT.out.later hbw)
    have HB2 := Lib.hid hbw
    have HBB := Lib.hid (HB.out.trans (hbw.mono HB.out.size))
    clear hu hbw
    have y3 := HY2.out.cells.2.2.2
    by_cases hltk : k < I.l.length
    · have hki : (k : Int) < (I.l.length : Int) := by omega
      have HKL := Lib.hid hltk
      clear hk
      have y0 := HY2.out.cells.1
      have y1 := HY2.out.cells.2.1
      have y2 := HY2.out.cells.2.2.1
      have q0 := (HT2.out).c0
      have q1 := (HT2.out).c1
      have q2 := (HT2.out).c2
      have q3 := (HT2.out).c3
      have q4 := (HT2.out).c4
      have q5 := (HT2.out).c5
      have q6 := (HT2.out).c6
      have q7 := (HT2.out).c7
      go_wp2_with fail
      clear y0 y1 y2 y3 q0 q1 q2 q3 q4 q5 q6 q7
      change Calls _ _ #[insV I (.slice ad I.l.length cap), staV s, _] _ _
      refine (dmove_any (HR.out.below HBB.out) HS.out).mono ?_
      rintro e w3 ⟨rfl, hb⟩
      have HU3 := Lib.hid (HU2.out.below hb)
      have HB3 := Lib.hid (HB2.out.trans (hb.mono HB2.out.size))
      clear hb HU2 HB2 HY2 HT2 HBB
      obtain ⟨po, ca, ti, lo, fi, mu, ma, on, HMV0⟩ : ∃ po ca ti lo fi mu ma on, moveS I s k = ⟨po, ca, ti, lo, fi, mu, ma, on⟩ := ⟨_, _, _, _, _, _, _, _, rfl⟩
      rw [HMV0]
      have HMV := Lib.hid HMV0
      clear HMV0
      unfold staV
      go_upto_region 6 with fail
      have HU4 := Lib.hid (HU3.out.alloc (boxSt ⟨po, ca, ti, lo, fi, mu, ma, on⟩))
      have HB4 := Lib.hid (HB3.out.alloc HB3.out.size (boxSt ⟨po, ca, ti, lo, fi, mu, ma, on⟩))
      clear HU3 HB3
      change Code.wp _ _ _ _ (w3.alloc (boxSt ⟨po, ca, ti, lo, fi, mu, ma, on⟩))
      generalize w3.alloc (boxSt ⟨po, ca, ti, lo, fi, mu, ma, on⟩) = w4 at *
      generalize w3.heap.size = bm at *
      by_cases hcan : Can I s k
      · have HE := Lib.hid (show movesN I s (k + 1) = movesN I s k ++ [(k : Int)] by rw [movesN_succ, if_pos hcan])
        rw [decide_eq_true hcan]
        clear hcan
        have hml := movesN_few (I := I) (s := s) (n := k)
        generalize movesN I s k = L at *
        obtain ⟨ua, uc, rfl⟩ := HU4.out.shape
        go_wp2_with (first | (at_builtin; refine app_ints rfl _ _ rfl W.heap.size _ L rfl (HU4.out.alloc _) _ [(k : Int)] rfl (row_newi _ _) (by simp; omega) (by have := HB4.out.size; simp; omega) ?_))
        intro v' w' hown hgrow _
        have HN := Lib.hid hown
        have HBN := Lib.hid (HB4.out.trans (grown_below (grown_alloc hgrow) HB4.out.size (fun q hq => (World.ownsRow.lt HU4.out q hq).1)))
        clear hown hgrow hml
        go_wp2
        go_roundw
        case rel => exact ⟨k + 1, by have := HKL.out; omega, by go_num, by rw [HE.out]; exact HN.out, HBN.out⟩
        case measure => have := HKL.out; simp [intOf]; omega
      · have HE := Lib.hid (show movesN I s (k + 1) = movesN I s k by rw [movesN_succ, if_neg hcan])
        rw [decide_eq_false hcan]
        clear hcan
        go_wp2
        go_roundw
        case rel => exact ⟨k + 1, by have := HKL.out; omega, by go_num, by rw [HE.out]; exact HU4.out, HB4.out⟩
        case measure => have := HKL.out; simp [intOf]; omega
    · obtain rfl : k = I.l.length := by omega
      rw [HALL.out] at HU2
      clear hltk hk
      go_wp2
      go_ret
      exact ⟨_, rfl, HU2.out.less HB.out.size, HBB.out⟩
set_option maxRecDepth 1000000 in
set_option maxHeartbeats 4000000 in
theorem dend_any {w : World} {v : Value} {I : Ins} {s : Sta} (hr : SRow w v I.l) (hs : SetsOk s) :
    Calls Try.prog 15 #[insV I v, staV s] w fun e w' => e = .returned (.tuple #[.int .i64 (endC I s), .bool (decide (EndS I s))]) ∧ Below w.heap.size w w' := by
  have HR := Lib.hid hr
  have HS := Lib.hid hs
  obtain ⟨ad, cap, rfl, hlm, _⟩ := hr.form
  clear hr hs
  unfold insV
  rw [show staV s = .agg #[.int .i64 s.pos, .int .i64 s.car, .int .i64 s.time, .int .i64 s.load, .int .i64 s.first, .int .u64 s.must, .int .u64 s.may, .int .u64 s.on] from rfl]
  go_enter Try.func15, Try.ntmps15
  go_wp2_with fail
  obtain ⟨b1, b2, b3⟩ := boxes_two w I (.slice ad I.l.length cap) s
  have HY := Lib.hid b1
  have HT := Lib.hid b2
  have HB := Lib.hid b3
  clear b1 b2 b3
  change Calls _ _ #[insV I (.slice ad I.l.length cap)] ((w.alloc (boxI I (.slice ad I.l.length cap))).alloc (boxSt s)) _
  generalize (w.alloc (boxI I (.slice ad I.l.length cap))).alloc (boxSt s) = W at *
  refine (rmay_any (HR.out.below HB.out)).mono ?_
  rintro e w1 ⟨rfl, hb⟩
  have HYn := Lib.hid (HY.out.later hb)
  have HTn := Lib.hid (HT.out.later hb)
  have HBn := Lib.hid (HB.out.trans (hb.mono HB.out.size))
  clear hb HY HT HB
  have HY := HYn
  have HT := HTn
  have HB := HBn
  clear HYn HTn HBn
  obtain ⟨mb, hmb⟩ : ∃ mb, mayB I = mb := ⟨_, rfl⟩
  rw [hmb]
  have HMB := Lib.hid hmb
  clear hmb
  go_upto_region 2 with fail
  go_cut [23] from 12 (fun c wx => c = .bool (decide (FirstS I s)) ∧ YBox wx w.heap.size I (.slice ad I.l.length cap) ∧ StB wx (w.heap.size + 1) s ∧ Below w.heap.size w wx)
  case first =>
    have HYd := Lib.hid (HY.out.later (Below.refl _ _).drew)
    have HTd := Lib.hid (HT.out.later (Below.refl _ _).drew)
    have HBd := Lib.hid HB.out.drew
    have HS0 := Lib.hid (show Holds (cellsI w.heap.size I (.slice ad I.l.length cap) ++ cellsSt (w.heap.size + 1) s) w1.drew from Holds.app.2 ⟨⟨HYd.out.cells.1, HYd.out.cells.2.1, HYd.out.cells.2.2.1, HYd.out.cells.2.2.2, trivial⟩, HTd.out.holds⟩)
    refine wp_region_held_drew (S := Holds (cellsI w.heap.size I (.slice ad I.l.length cap) ++ cellsSt (w.heap.size + 1) s)) (by kernel_rfl) HS0.out (fun hSn => ?_)
    clear HY HT HB
    generalize w1.drew = V at *
    have hlt := Lib.hid (show Lows V.heap.size (cellsI w.heap.size I (.slice ad I.l.length cap) ++ cellsSt (w.heap.size + 1) s) from Lows.app ⟨HYd.out.lt, HYd.out.lt, HYd.out.lt, HYd.out.lt, trivial⟩ (lows_St HTd.out.lt))
    have Bc := Lib.hid (Below.refl V.heap.size V)
    simp only [cellsI, cellsSt, List.cons_append, List.nil_append] at HS0 hlt hSn ⊢
    cases mb
    case' false =>
      have HE := Lib.hid (show decide (FirstS I s) = false from decide_eq_false (fun h => by have := HMB.out; rw [h.1] at this; cases this))
      refine tks [0, 1] 2 rfl (by kernel_rfl) (fun _ _ _ _ h => h) (by assumption) (fun KT hKT => ?_)
      iterate 2 (refine tkT (by (simp only [gA, gB, gC]; rfl)) (by rfl) (by (intro w hSw; (simp only [Holds] at hSw); go_simp <;> with_reducible rfl)) ?_; simp only [Act.put, pA, pB, pC])
      refine hKT _ ?_
      clear KT hKT
      refine tks [2, 3, 4] 3 rfl (by kernel_rfl) (fun _ _ _ _ h => h) (by assumption) (fun KT hKT => ?_)
      iterate 3 (refine tkS (by (simp only [gA, gB, gC]; rfl)) (by rfl) ?_; simp only [Act.put, pA, pB, pC])
      refine hKT _ ?_
      clear KT hKT
      refine tks [5, 6] 2 rfl (by kernel_rfl) (fun _ _ _ _ h => h) (by assumption) (fun KT hKT => ?_)
      iterate 2 (refine tkT (by (simp only [gA, gB, gC]; rfl)) (by rfl) (by (intro w hSw; (simp only [Holds] at hSw); go_simp <;> with_reducible rfl)) ?_; simp only [Act.put, pA, pB, pC])
      refine hKT _ ?_
      clear KT hKT
      refine tks [7, 8, 9, 10] 4 rfl (by kernel_rfl) (fun _ _ _ _ h => h) (by assumption) (fun KT hKT => ?_)
      iterate 4 (refine tkS (by (simp only [gA, gB, gC]; rfl)) (by rfl) ?_; simp only [Act.put, pA, pB, pC])
      refine hKT _ ?_
      clear KT hKT
      refine tks [11] 1 rfl (by kernel_rfl) (fun _ _ _ _ h => h) (by assumption) (fun KT hKT => ?_)
      refine tkT (by (simp only [gA, gB, gC]; rfl)) (by rfl) (by (intro w hSw; (simp only [Holds] at hSw); go_simp <;> with_reducible rfl)) ?_
      simp only [Act.put, pA, pB, pC]
      refine hKT _ ?_
      clear KT hKT
      refine wpAnyH_done (by kernel_rfl) ?_ _
      go_wp2_with fail
      go_meet
      exact ⟨by rw [HE.out], HYd.out.later Bc.out, HTd.out.later Bc.out, HBd.out.trans (Bc.out.mono HBd.out.size)⟩
    have HM := Lib.hid HMB.out
    refine tks [0, 1] 2 rfl (by kernel_rfl) (fun _ _ _ _ h => h) (by assumption) (fun KT hKT => ?_)
    iterate 2 (refine tkT (by (simp only [gA, gB, gC]; rfl)) (by rfl) (by (intro w hSw; (simp only [Holds] at hSw); go_simp <;> with_reducible rfl)) ?_; simp only [Act.put, pA, pB, pC])
    refine hKT _ ?_
    clear KT hKT
    by_cases h0 : I.p = 0
    case' neg =>
      have HE := Lib.hid (show decide (FirstS I s) = false from decide_eq_false (fun h => h0 h.2.1))
      have b0 : (I.p == 0) = false := by simp [h0]
      clear h0
      refine tks [2, 3, 4] 3 rfl (by kernel_rfl) (fun _ _ _ _ h => h) (by assumption) (fun KT hKT => ?_)
      iterate 3 (refine tkT (by (simp only [gA, gB, gC]; rfl)) (by rfl) (by (intro w hSw; (simp only [Holds] at hSw); go_simp <;> with_reducible rfl)) ?_; simp only [Act.put, pA, pB, pC])
      refine hKT _ ?_
      clear KT hKT
      refine tks [5, 6] 2 rfl (by kernel_rfl) (fun _ _ _ _ h => h) (by assumption) (fun KT hKT => ?_)
      iterate 2 (refine tkT (by (simp only [gA, gB, gC]; rfl)) (by rfl) (by (intro w hSw; (simp only [Holds] at hSw); go_simp <;> with_reducible rfl)) ?_; simp only [Act.put, pA, pB, pC])
      refine hKT _ ?_
      clear KT hKT
      refine tks [7, 8, 9, 10] 4 rfl (by kernel_rfl) (fun _ _ _ _ h => h) (by assumption) (fun KT hKT => ?_)
      iterate 4 (refine tkS (by (simp only [gA, gB, gC]; rfl)) (by rfl) ?_; simp only [Act.put, pA, pB, pC])
      refine hKT _ ?_
      clear KT hKT
      refine tks [11] 1 rfl (by kernel_rfl) (fun _ _ _ _ h => h) (by assumption) (fun KT hKT => ?_)
      refine tkT (by (simp only [gA, gB, gC]; rfl)) (by rfl) (by (intro w hSw; (simp only [Holds] at hSw); go_simp <;> with_reducible rfl)) ?_
      simp only [Act.put, pA, pB, pC]
      refine hKT _ ?_
      clear KT hKT
      refine wpAnyH_done (by kernel_rfl) ?_ _
      go_wp2_with fail
      go_meet
      exact ⟨by rw [HE.out], HYd.out.later Bc.out, HTd.out.later Bc.out, HBd.out.trans (Bc.out.mono HBd.out.size)⟩
    have H0 := Lib.hid h0
    have b0 : (I.p == 0) = true := by simp [h0]
    clear h0
    refine tks [2, 3, 4] 3 rfl (by kernel_rfl) (fun _ _ _ _ h => h) (by assumption) (fun KT hKT => ?_)
    iterate 3 (refine tkT (by (simp only [gA, gB, gC]; rfl)) (by rfl) (by (intro w hSw; (simp only [Holds] at hSw); go_simp <;> with_reducible rfl)) ?_; simp only [Act.put, pA, pB, pC])
    refine hKT _ ?_
    clear KT hKT
    refine tks [5, 6] 2 rfl (by kernel_rfl) (fun _ _ _ _ h => h) (by assumption) (fun KT hKT => ?_)
    iterate 2 (refine tkT (by (simp only [gA, gB, gC]; rfl)) (by rfl) (by (intro w hSw; (simp only [Holds] at hSw); go_simp <;> with_reducible rfl)) ?_; simp only [Act.put, pA, pB, pC])
    refine hKT _ ?_
    clear KT hKT
    refine tks [7, 8] 2 rfl (by kernel_rfl) (fun _ _ _ _ h => h) (by assumption) (fun KT hKT => ?_)
    iterate 2 (refine tkT (by (simp only [gA, gB, gC]; rfl)) (by rfl) (by (intro w hSw; (simp only [Holds] at hSw); go_simp <;> with_reducible rfl)) ?_; simp only [Act.put, pA, pB, pC])
    refine hKT _ ?_
    clear KT hKT
    refine wpAnyH_ready (rs := [9]) (by kernel_rfl) (by simp) ?_
    refine AllReadyH.cons (o := ?oz1) ?iz1 (fun K hK => ?kz1) AllReadyH.nil
    case iz1 => (simp only [List.getElem?_toArray, List.getElem?_cons_zero, List.getElem?_cons_succ]; rfl)
    go_simp
    change Calls _ _ #[insV I (.slice ad I.l.length cap)] _ _
    refine (droot_any (HR.out.below (HBd.out.trans (Bc.out.mono HBd.out.size)))).mono ?_
    rintro e w' ⟨rfl, hb⟩
    refine held_more hK HS0.out hlt (Bc.out.trans (hb.mono Bc.out.size)) (fun Bc hSn => ?_)
    clear hb hK
    have keq := equalSta s (rootS I)
    have kg := guardSta
    have HE := Lib.hid (show decide (FirstS I s) = decide (s = rootS I) from decide_eq_decide.2 ⟨fun h => h.2.2, fun h => ⟨HM.out, H0.out, h⟩⟩)
    unfold staV
    by_cases hq : s = rootS I
    · rw [decide_eq_true hq] at keq HE
      clear hq
      refine tks [10] 1 rfl (by kernel_rfl) (fun _ _ _ _ h => h) (by assumption) (fun KT hKT => ?_)
      refine tkT (by (simp only [gA, gB, gC]; rfl)) (by rfl) (by (intro w hSw; (simp only [Holds] at hSw); go_simp <;> with_reducible rfl)) ?_
      simp only [Act.put, pA, pB, pC]
      refine hKT _ ?_
      clear KT hKT
      refine tks [11] 1 rfl (by kernel_rfl) (fun _ _ _ _ h => h) (by assumption) (fun KT hKT => ?_)
      refine tkT (by (simp only [gA, gB, gC]; rfl)) (by rfl) (by (intro w hSw; (simp only [Holds] at hSw); go_simp <;> with_reducible rfl)) ?_
      simp only [Act.put, pA, pB, pC]
      refine hKT _ ?_
      clear KT hKT
      refine wpAnyH_done (by kernel_rfl) ?_ _
      go_wp2_with fail
      go_meet
      exact ⟨by rw [HE.out], HYd.out.later Bc.out, HTd.out.later Bc.out, HBd.out.trans (Bc.out.mono HBd.out.size)⟩
    · rw [decide_eq_false hq] at keq HE
      clear hq
      refine tks [10] 1 rfl (by kernel_rfl) (fun _ _ _ _ h => h) (by assumption) (fun KT hKT => ?_)
      refine tkT (by (simp only [gA, gB, gC]; rfl)) (by rfl) (by (intro w hSw; (simp only [Holds] at hSw); go_simp <;> with_reducible rfl)) ?_
      simp only [Act.put, pA, pB, pC]
      refine hKT _ ?_
      clear KT hKT
      refine tks [11] 1 rfl (by kernel_rfl) (fun _ _ _ _ h => h) (by assumption) (fun KT hKT => ?_)
      refine tkT (by (simp only [gA, gB, gC]; rfl)) (by rfl) (by (intro w hSw; (simp only [Holds] at hSw); go_simp <;> with_reducible rfl)) ?_
      simp only [Act.put, pA, pB, pC]
      refine hKT _ ?_
      clear KT hKT
      refine wpAnyH_done (by kernel_rfl) ?_ _
      go_wp2_with fail
      go_meet
      exact ⟨by rw [HE.out], HYd.out.later Bc.out, HTd.out.later Bc.out, HBd.out.trans (Bc.out.mono HBd.out.size)⟩
  case rest =>
  obtain ⟨rfl, hy, ht, hb⟩ := hcut
  clear HY HT HB
  have HY := Lib.hid hy
  have HT := Lib.hid ht
  have HB := Lib.hid hb
  clear hy ht hb
  by_cases hf : FirstS I s
  · have HE := Lib.hid (end_first hf)
    rw [decide_eq_true hf]
    clear hf
    go_wp2
    exact bodyPost_ret (v := .tuple #[.int .i64 0, .bool true]) (by simp [results, Try.results15, go_sem]) rfl ⟨by rw [HE.out.1, HE.out.2], HB.out⟩
  rw [decide_eq_false hf]
  have HF := Lib.hid hf
  clear hf
  have y0 := (HY.out).cells.1
  have y1 := (HY.out).cells.2.1
  have y2 := (HY.out).cells.2.2.1
  have y3 := (HY.out).cells.2.2.2
  have q0 := (HT.out).c0
  have q1 := (HT.out).c1
  have q2 := (HT.out).c2
  have q3 := (HT.out).c3
  have q4 := (HT.out).c4
  have q5 := (HT.out).c5
  have q6 := (HT.out).c6
  have q7 := (HT.out).c7
  go_wp2_with fail
  clear y0 y1 y2 y3 q0 q1 q2 q3 q4 q5 q6 q7
  change Calls _ _ #[insV I (.slice ad I.l.length cap), staV s] _ _
  refine (dmay_any (HR.out.below HB.out)).mono ?_
  rintro e w1 ⟨rfl, hb⟩
  have HYn := Lib.hid (HY.out.later hb)
  have HTn := Lib.hid (HT.out.later hb)
  have HBn := Lib.hid (HB.out.trans (hb.mono HB.out.size))
  clear hb HY HT HB
  have HY := HYn
  have HT := HTn
  have HB := HBn
  clear HYn HTn HBn
  by_cases hg : GoOn I s
  rotate_left
  · rw [decide_eq_false hg]
    have HE := Lib.hid (end_no HF.out (fun h => hg h.1))
    clear hg
    go_wp2
    exact bodyPost_ret (v := .tuple #[.int .i64 0, .bool false]) (by simp [results, Try.results15, go_sem]) rfl ⟨by rw [HE.out.1, HE.out.2], HB.out⟩
  rw [decide_eq_true hg]
  have HG := Lib.hid hg
  have HM := Lib.hid hg.1
  clear hg
  have q0 := (HT.out).c0
  have q6 := (HT.out).c6
  have q7 := (HT.out).c7
  by_cases hpz : s.pos = 0
  · have b0 : (s.pos == 0) = true := by simp [hpz]
    have HE := Lib.hid (end_no HF.out (fun h => h.2.1.1 hpz))
    clear hpz
    go_wp2
    exact bodyPost_ret (v := .tuple #[.int .i64 0, .bool false]) (by simp [results, Try.results15, go_sem]) rfl ⟨by rw [HE.out.1, HE.out.2], HB.out⟩
  have b0 : (s.pos == 0) = false := by simp [hpz]
  have HPZ := Lib.hid hpz
  clear hpz
  by_cases hon : s.on = 0
  rotate_left
  · have b1 : ((s.on : Int) != 0) = true := by simp [hon]
    have HE := Lib.hid (end_no HF.out (fun h => hon h.2.1.2.1))
    clear hon
    go_wp2
    exact bodyPost_ret (v := .tuple #[.int .i64 0, .bool false]) (by simp [results, Try.results15, go_sem]) rfl ⟨by rw [HE.out.1, HE.out.2], HB.out⟩
  have b1 : ((s.on : Int) != 0) = false := by simp [hon]
  have HON := Lib.hid hon
  clear hon
  have y0 := (HY.out).cells.1
  have y1 := (HY.out).cells.2.1
  have y2 := (HY.out).cells.2.2.1
  have y3 := (HY.out).cells.2.2.2
  go_wp2_with fail
  clear q0 q6 q7 y0 y1 y2 y3 b0 b1
  change Calls _ _ #[insV I (.slice ad I.l.length cap), _] _ _
  refine (dall_any (HR.out.below HB.out) HM.out HS.out.2.1).mono ?_
  rintro e w1 ⟨rfl, hb⟩
  have HYn := Lib.hid (HY.out.later hb)
  have HTn := Lib.hid (HT.out.later hb)
  have HBn := Lib.hid (HB.out.trans (hb.mono HB.out.size))
  clear hb HY HT HB
  have HY := HYn
  have HT := HTn
  have HB := HBn
  clear HYn HTn HBn
  have hl0 : 0 < I.l.length := (pmay_len HM.out).1
  have hki : (0 : Int) < (I.l.length : Int) := by omega
  obtain ⟨q, hq, hql, eq⟩ := num_stop HM.out HG.out.2.1
  obtain ⟨tb, off, rfl, hkq, hlt0⟩ := srow_at HR.out q hql
  have HQ := Lib.hid hq
  have HKQ := Lib.hid hkq
  have HLT := Lib.hid hlt0
  have hqi : (q : Int) < (I.l.length : Int) := by omega
  have HKT := Lib.hid (show At w tb off (nth I.l 0) by have := srow_here HR.out 0 hl0; rw [Nat.zero_mul, Nat.add_zero] at this; exact this)
  obtain ⟨d, hd⟩ : ∃ d, d = farS1 I s 0 := ⟨_, rfl⟩
  have HFR := Lib.hid (show farF (nth I.l q) (nth I.l 0) = d by rw [hd]; unfold farS1; rw [eq]; rfl)
  have hbd := goOn_bd HG.out
  have hfb := far1_bd I s 0
  rw [← hd] at hfb
  have e1 : IntKind.i64.wrap (s.time + d) = s.time + d := IntWalk.i64_in _ (by omega)
  have HD := Lib.hid hd
  have HCO := Lib.hid (show comeS I s 0 = s.time + d by rw [hd]; rfl)
  clear hkq hlt0 eq hql hq hbd hfb hd
  go_upto_region 8 with fail
  have HBd := Lib.hid HB.out.drew
  have HYd := Lib.hid (HY.out.later (Below.refl _ _).drew)
  have HTd := Lib.hid (HT.out.later (Below.refl _ _).drew)
  have HXd := Lib.hid (HY.out.later (Below.refl _ _).drew)
  clear HB HY HT
  have HS0 := Lib.hid (show Holds (cellsI w.heap.size I (.slice (some ⟨tb, off, none⟩) I.l.length cap) ++ ((⟨w.heap.size + 1, 0, none⟩, .int .i64 (q : Int)) :: (cellsF tb (off + q * 6) (nth I.l q) ++ cellsF tb off (nth I.l 0)))) w1.drew from Holds.app.2 ⟨⟨HYd.out.cells.1, HYd.out.cells.2.1, HYd.out.cells.2.2.1, HYd.out.cells.2.2.2, trivial⟩, by have c0 := HTd.out.c0; rw [HQ.out] at c0; exact c0, Holds.app.2 ⟨holds_at (HKQ.out.below HLT.out HBd.out), holds_at (HKT.out.below HLT.out HBd.out)⟩⟩)
  refine wp_region_held_drew (S := Holds (cellsI w.heap.size I (.slice (some ⟨tb, off, none⟩) I.l.length cap) ++ ((⟨w.heap.size + 1, 0, none⟩, .int .i64 (q : Int)) :: (cellsF tb (off + q * 6) (nth I.l q) ++ cellsF tb off (nth I.l 0))))) (by kernel_rfl) HS0.out (fun hSn => ?_)
  generalize w1.drew = V at *
  have hlt := Lib.hid (show Lows V.heap.size (cellsI w.heap.size I (.slice (some ⟨tb, off, none⟩) I.l.length cap) ++ ((⟨w.heap.size + 1, 0, none⟩, .int .i64 (q : Int)) :: (cellsF tb (off + q * 6) (nth I.l q) ++ cellsF tb off (nth I.l 0)))) from Lows.app ⟨HYd.out.lt, HYd.out.lt, HYd.out.lt, HYd.out.lt, trivial⟩ ⟨HTd.out.lt, Lows.app (lows_at (Nat.lt_of_lt_of_le HLT.out HBd.out.size)) (lows_at (Nat.lt_of_lt_of_le HLT.out HBd.out.size))⟩)
  have Bc := Lib.hid (Below.refl V.heap.size V)
  simp only [cellsI, cellsF, List.cons_append, List.nil_append] at HS0 hlt hSn ⊢
  refine tks [0, 1, 2, 3, 4, 5, 6, 7, 8, 9] 10 rfl (by kernel_rfl) (fun _ _ _ _ h => h) (by assumption) (fun KT hKT => ?_)
  iterate 10 (refine tkT (by (simp only [gA, gB, gC]; rfl)) (by rfl) (by (intro w hSw; (simp only [Holds] at hSw); go_simp <;> with_reducible rfl)) ?_; simp only [Act.put, pA, pB, pC])
  refine hKT _ ?_
  clear KT hKT
  refine wpAnyH_ready (rs := [10]) (by kernel_rfl) (by simp) ?_
  refine AllReadyH.cons (o := ?oz2) ?iz2 (fun K hK => ?kz2) AllReadyH.nil
  case iz2 => (simp only [List.getElem?_toArray, List.getElem?_cons_zero, List.getElem?_cons_succ]; rfl)
  go_simp
  change Calls _ _ #[stopV (nth I.l q), stopV (nth I.l 0)] _ _
  refine (rfar_any _ _ _).mono ?_
  rintro e w' ⟨rfl, hb⟩
  rw [HFR.out]
  refine held_more hK HS0.out hlt (Bc.out.trans (hb.mono Bc.out.size)) (fun Bc hSn => ?_)
  clear hb hK
  refine tks [11] 1 rfl (by kernel_rfl) (fun _ _ _ _ h => h) (by assumption) (fun KT hKT => ?_)
  refine tkT (by (simp only [gA, gB, gC]; rfl)) (by rfl) (by (intro w hSw; (simp only [Holds] at hSw); go_simp <;> with_reducible rfl)) ?_
  simp only [Act.put, pA, pB, pC]
  refine hKT _ ?_
  clear KT hKT
  refine wpAnyH_done (by kernel_rfl) ?_ _
  have HY := Lib.hid (HYd.out.later Bc.out)
  have HT := Lib.hid (HTd.out.later Bc.out)
  have HB := Lib.hid (HBd.out.trans (Bc.out.mono HBd.out.size))
  clear HYd HTd HXd HBd HS0 hlt Bc hSn
  obtain ⟨k0, k1, k2, k3, k4, k5⟩ := HKT.out.below HLT.out HB.out
  clear k0 k1 k2 k3 k5
  have y3 := HY.out.cells.2.2.2
  have q2 := HT.out.c2
  by_cases hwi : within (allS I) s.may = true
  rotate_left
  · have HE := Lib.hid (end_no HF.out (fun h => hwi h.2.2))
    rw [Bool.not_eq_true] at hwi
    rw [hwi]
    clear hwi
    go_wp2_with fail
    go_quiet (fail)
    have hb := below_drewN (Below.refl w'.heap.size w') nq
    generalize w'.drewN nq = wq at *
    have HYn := Lib.hid (HY.out.later hb)
    have HTn := Lib.hid (HT.out.later hb)
    have HBn := Lib.hid (HB.out.trans (hb.mono HB.out.size))
    clear hb HY HT HB
    have HY := HYn
    have HT := HTn
    have HB := HBn
    clear HYn HTn HBn
    clear y3 q2 k4
    go_wp2
    exact bodyPost_ret (v := .tuple #[.int .i64 0, .bool false]) (by simp [results, Try.results15, go_sem]) rfl ⟨by rw [HE.out.1, HE.out.2], HB.out⟩
  have HWI := Lib.hid hwi
  rw [hwi]
  clear hwi
  by_cases hla : (nth I.l 0).u < s.time + d
  · have d1 := decide_eq_true hla
    have HE := Lib.hid (end_no HF.out (fun h => by have := h.2.1.2.2; rw [HCO.out] at this; omega))
    clear hla
    go_wp2_with fail
    go_quiet (fail)
    have hb := below_drewN (Below.refl w'.heap.size w') nq
    generalize w'.drewN nq = wq at *
    have HYn := Lib.hid (HY.out.later hb)
    have HTn := Lib.hid (HT.out.later hb)
    have HBn := Lib.hid (HB.out.trans (hb.mono HB.out.size))
    clear hb HY HT HB
    have HY := HYn
    have HT := HTn
    have HB := HBn
    clear HYn HTn HBn
    clear y3 q2 k4
    go_wp2
    exact bodyPost_ret (v := .tuple #[.int .i64 0, .bool false]) (by simp [results, Try.results15, go_sem]) rfl ⟨by rw [HE.out.1, HE.out.2], HB.out⟩
  have d1 := decide_eq_false hla
  have HE := Lib.hid (end_back (I := I) (s := s) ⟨HG.out, ⟨HPZ.out, HON.out, by rw [HCO.out]; omega⟩, HWI.out⟩)
  clear hla
  go_wp2_with fail
  go_quiet (fail)
  have hb := below_drewN (Below.refl w'.heap.size w') nq
  generalize w'.drewN nq = wq at *
  have HYn := Lib.hid (HY.out.later hb)
  have HTn := Lib.hid (HT.out.later hb)
  have HBn := Lib.hid (HB.out.trans (hb.mono HB.out.size))
  clear hb HY HT HB
  have HY := HYn
  have HT := HTn
  have HB := HBn
  clear HYn HTn HBn
  clear y3 q2 k4
  go_wp2
  exact bodyPost_ret (v := .tuple #[.int .i64 d, .bool true]) (by simp [results, Try.results15, go_sem]) rfl ⟨by rw [HE.out.1, HE.out.2, HD.out], HB.out⟩
set_option maxRecDepth 1000000 in
set_option maxHeartbeats 4000000 in
theorem dfollow_any {w : World} {v pv : Value} {I : Ins} {l : List Int} (hr : SRow w v I.l) (hl : Row w pv (ints l)) :
    Calls Try.prog 22 #[insV I v, pv] w fun e w' => e = .returned (.tuple #[staV (stO (folS I l)), .int .i64 (coO (folS I l)), .int .i64 (folE I l)]) ∧ Below w.heap.size w w' := by
  have HR := Lib.hid hr
  have HL := Lib.hid hl
  obtain ⟨ad, cap, rfl, _⟩ := hr.form
  obtain ⟨ad2, cap2, rfl, hmx⟩ := hl.form
  rw [ints_len] at *
  have hmx2 : l.length ≤ 9223372036854775807 := by unfold maxLen at hmx; omega
  clear hr hl hmx
  unfold insV
  go_enter Try.func22, Try.ntmps22
  go_wp2_with fail
  have HY0 := Lib.hid ((ybox_new w I (.slice ad I.l.length cap)).later ((Below.refl _ _).alloc (Nat.le_refl _) (boxSt noughtS)))
  have HX0 := Lib.hid (st_new (w.alloc (boxI I (.slice ad I.l.length cap))) noughtS)
  have HB0 := Lib.hid (((Below.refl w.heap.size w).alloc (Nat.le_refl _) (boxI I (.slice ad I.l.length cap))).alloc (by simp) (boxSt noughtS))
  have hsz : (w.alloc (boxI I (.slice ad I.l.length cap))).heap.size = w.heap.size + 1 := by simp
  rw [hsz] at HX0
  clear hsz
  change Calls _ _ #[insV I (.slice ad I.l.length cap)] ((w.alloc (boxI I (.slice ad I.l.length cap))).alloc (boxSt noughtS)) _
  generalize (w.alloc (boxI I (.slice ad I.l.length cap))).alloc (boxSt noughtS) = W at *
  refine (rmay_any (HR.out.below HB0.out)).mono ?_
  rintro e w1 ⟨rfl, hb⟩
  have HY1 := Lib.hid (HY0.out.later hb)
  have HX1 := Lib.hid (HX0.out.later hb)
  have HB1 := Lib.hid (HB0.out.trans (hb.mono HB0.out.size))
  clear hb HY0 HX0 HB0
  cases hm : mayB I
  · have HE := Lib.hid (fol_bad hm l)
    go_wp2_with (refine wpList_store_state (by rfl) (.tmp 4) (.tmp 18) (by rfl) (w.heap.size + 1) _ (noughtS) (by rfl) (by rfl) HX1.out ?_)
    intro WE hE hbE
    have z0 := hE.c0
    have z1 := hE.c1
    have z2 := hE.c2
    have z3 := hE.c3
    have z4 := hE.c4
    have z5 := hE.c5
    have z6 := hE.c6
    have z7 := hE.c7
    go_wp2
    exact bodyPost_ret (v := .tuple #[staV (noughtS), .int .i64 (0), .int .i64 1]) (by simp [results, Try.results22, go_sem, z0, z1, z2, z3, z4, z5, z6, z7, staV]) rfl ⟨by rw [HE.out.1, HE.out.2]; rfl, HB1.out.trans (hbE _ (Nat.le_succ _))⟩
  have HM := Lib.hid hm
  clear hm
  obtain ⟨y0, y1, y2, y3⟩ := HY1.out.cells
  go_wp2_with fail
  clear y0 y1 y2 y3
  change Calls _ _ #[insV I (.slice ad I.l.length cap)] _ _
  refine (droot_any (HR.out.below HB1.out)).mono ?_
  rintro e w2 ⟨rfl, hb⟩
  have HY2 := Lib.hid (HY1.out.later hb)
  have HX2 := Lib.hid (HX1.out.later hb)
  have HB2 := Lib.hid (HB1.out.trans (hb.mono HB1.out.size))
  clear hb HY1 HX1 HB1
  obtain ⟨po, ca, ti, lo, fi, mu, ma, on, hrt⟩ : ∃ po ca ti lo fi mu ma on, rootS I = ⟨po, ca, ti, lo, fi, mu, ma, on⟩ := ⟨_, _, _, _, _, _, _, _, rfl⟩
  rw [hrt]
  have HRT := Lib.hid hrt
  clear hrt
  unfold staV
  go_wp2_with fail
  have HT3 := Lib.hid (st_new w2 ⟨po, ca, ti, lo, fi, mu, ma, on⟩)
  have HY3 := Lib.hid (HY2.out.later ((Below.refl _ _).alloc (Nat.le_refl _) (boxSt ⟨po, ca, ti, lo, fi, mu, ma, on⟩)))
  have HX3 := Lib.hid (HX2.out.later ((Below.refl _ _).alloc (Nat.le_refl _) (boxSt ⟨po, ca, ti, lo, fi, mu, ma, on⟩)))
  have HB3 := Lib.hid (HB2.out.alloc HB2.out.size (boxSt ⟨po, ca, ti, lo, fi, mu, ma, on⟩))
  have HXlt := Lib.hid (show w.heap.size + 1 < w2.heap.size from HX2.out.lt)
  clear HY2 HX2 HB2
  change Code.wp _ _ _ _ (w2.alloc (boxSt ⟨po, ca, ti, lo, fi, mu, ma, on⟩))
  generalize w2.alloc (boxSt ⟨po, ca, ti, lo, fi, mu, ma, on⟩) = W3 at *
  generalize w2.heap.size = x at *
  go_loopw [9, 10] (fun c i wr => ∃ (k : Nat) (s : Sta) (n : Int), k ≤ l.length ∧ i = .int .i64 k ∧ c = .int .i64 n ∧ followS I (l.take k) = some (s, n) ∧ YBox wr w.heap.size I (.slice ad I.l.length cap) ∧ StB wr (w.heap.size + 1) noughtS ∧ StB wr x s ∧ Below w.heap.size w wr) (fun _ i _ => l.length - (intOf i).toNat)
  case atStart => exact ⟨0, _, 0, Nat.zero_le _, rfl, rfl, by rw [List.take_zero, follow_nil, HRT.out], HY3.out, HX3.out, HT3.out, HB3.out⟩
  case round =>
    obtain ⟨k, s, n, hk, rfl, rfl, hf, hy, hx, ht, hb⟩ := hrel
    have HF := Lib.hid hf
    have HY4 := Lib.hid hy
    have HX4 := Lib.hid hx
    have HT4 := Lib.hid ht
    have HB4 := Lib.hid hb
    clear hf hy hx ht hb HY3 HX3 HT3 HB3
    by_cases hltk : k < l.length
    · have hki : (k : Int) < (l.length : Int) := by omega
      have HKL := Lib.hid hltk
      have HNX := Lib.hid (follow_next hltk HF.out)
      have hcb := follow_cost _ _ _ HF.out
      have hfw := follow_few HM.out HF.out
      have hfb := far1_bd I s (l.getD k 0)
      have hcl : (l.take k).length = k := by rw [List.length_take]; omega
      rw [hcl] at hcb hfw
      have e1 : IntKind.i64.wrap (n + farS1 I s (l.getD k 0)) = n + farS1 I s (l.getD k 0) := IntWalk.i64_in _ (by omega)
      have e2 : IntKind.i64.wrap ((k : Int) + 1) = (k : Int) + 1 := IntWalk.i64_in _ (by omega)
      obtain ⟨rb, ro, rfl, hcell, hrb⟩ := row_cell HL.out k (by rw [ints_len]; exact hltk)
      rw [ints_at _ k hltk] at hcell
      clear hcb hfw hfb hcl hk
      generalize l.getD k 0 = j at *
      have x0 := (HB4.out.cell (p := ⟨rb, ro + k, none⟩) hrb).trans hcell
      have HCL := Lib.hid hcell
      obtain ⟨y0, y1, y2, y3⟩ := HY4.out.cells
      have q0 := HT4.out.c0
      have q1 := HT4.out.c1
      have q2 := HT4.out.c2
      have q3 := HT4.out.c3
      have q4 := HT4.out.c4
      have q5 := HT4.out.c5
      have q6 := HT4.out.c6
      have q7 := HT4.out.c7
      clear hcell
      clear x0 y0 y1 y2 y3 q0 q1 q2 q3 q4 q5 q6 q7
      go_upto_region 9 with fail
      have HYd := Lib.hid (HY4.out.later (Below.refl _ _).drew)
      have HXd := Lib.hid (HX4.out.later (Below.refl _ _).drew)
      have HTd := Lib.hid (HT4.out.later (Below.refl _ _).drew)
      have HBd := Lib.hid HB4.out.drew
      have x0 := (HBd.out.cell (p := ⟨rb, ro + k, none⟩) hrb).trans HCL.out
      have HS0 := Lib.hid (show Holds (cellsI w.heap.size I (.slice ad I.l.length cap) ++ (cellsSt x s ++ [(⟨rb, ro + k, none⟩, .int .i64 j)])) wr.drew from Holds.app.2 ⟨⟨HYd.out.cells.1, HYd.out.cells.2.1, HYd.out.cells.2.2.1, HYd.out.cells.2.2.2, trivial⟩, Holds.app.2 ⟨HTd.out.holds, x0, trivial⟩⟩)
      have hrb2 := World.block_lt_of_cell? _ _ x0
      clear HY4 HX4 HT4 HB4 x0
      refine wp_region_held_drew (S := Holds (cellsI w.heap.size I (.slice ad I.l.length cap) ++ (cellsSt x s ++ [(⟨rb, ro + k, none⟩, .int .i64 j)]))) (by kernel_rfl) HS0.out (fun hSn => ?_)
      generalize wr.drew = V at *
      have hlt := Lib.hid (show Lows V.heap.size (cellsI w.heap.size I (.slice ad I.l.length cap) ++ (cellsSt x s ++ [(⟨rb, ro + k, none⟩, .int .i64 j)])) from Lows.app ⟨HYd.out.lt, HYd.out.lt, HYd.out.lt, HYd.out.lt, trivial⟩ (Lows.app (lows_St HTd.out.lt) ⟨hrb2, trivial⟩))
      have Bc := Lib.hid (Below.refl V.heap.size V)
      simp only [cellsI, cellsSt, List.cons_append, List.nil_append] at HS0 hlt hSn ⊢
      refine tks [0, 1, 2, 3, 4, 5] 6 rfl (by kernel_rfl) (fun _ _ _ _ h => h) (by assumption) (fun KT hKT => ?_)
      iterate 6 (refine tkT (by (simp only [gA, gB, gC]; rfl)) (by rfl) (by (intro w hSw; (simp only [Holds] at hSw); go_simp <;> with_reducible rfl)) ?_; simp only [Act.put, pA, pB, pC])
      refine hKT _ ?_
      clear KT hKT
      refine wpAnyH_ready (rs := [6, 11]) (by kernel_rfl) (by simp) ?_
      refine (AllReadyH.cons (o := ?oz3) ?iz3 (fun K hK => ?kz3) (AllReadyH.cons (o := ?oz4) ?iz4 (fun K hK => ?kz4) AllReadyH.nil))
      case iz3 => (simp only [List.getElem?_toArray, List.getElem?_cons_zero, List.getElem?_cons_succ]; rfl)
      case iz4 => (simp only [List.getElem?_toArray, List.getElem?_cons_zero, List.getElem?_cons_succ]; rfl)
      · skip
        go_simp
        change Calls _ _ #[insV I (.slice ad I.l.length cap), staV s, .int .i64 j] _ _
        refine (dmove_any (HR.out.below (HBd.out.trans (Bc.out.mono HBd.out.size))) (follow_sets HM.out HF.out)).mono ?_
        rintro e w5 ⟨rfl, hb⟩
        refine held_more hK HS0.out hlt (Bc.out.trans (hb.mono Bc.out.size)) (fun Bc hSn => ?_)
        clear hb hK
        obtain ⟨po, ca, ti, lo, fi, mu, ma, on, hms⟩ : ∃ po ca ti lo fi mu ma on, moveS I s j = ⟨po, ca, ti, lo, fi, mu, ma, on⟩ := ⟨_, _, _, _, _, _, _, _, rfl⟩
        rw [hms]
        have HMS := Lib.hid hms
        clear hms
        unfold staV
        refine tks [7, 8, 9, 10] 4 rfl (by kernel_rfl) (fun _ _ _ _ h => h) (by assumption) (fun KT hKT => ?_)
        iterate 4 (refine tkT (by (simp only [gA, gB, gC]; rfl)) (by rfl) (by (intro w hSw; (simp only [Holds] at hSw); go_simp <;> with_reducible rfl)) ?_; simp only [Act.put, pA, pB, pC])
        refine hKT _ ?_
        clear KT hKT
        have HSZ := Lib.hid Bc.out.size
        refine wpAnyH_ready (rs := [11]) (by kernel_rfl) (by simp) ?_
        refine AllReadyH.cons (o := ?oz5) ?iz5 (fun K hK => ?kz5) AllReadyH.nil
        case iz5 => (simp only [List.getElem?_toArray, List.getElem?_cons_zero, List.getElem?_cons_succ]; rfl)
        go_simp
        refine held_more hK HS0.out hlt (Bc.out.alloc Bc.out.size _) (fun Bc hSn => ?_)
        have HN := Lib.hid (st_new w5 noughtS)
        change wpAnyH _ _ _ _ _ _ _ _ (w5.alloc (boxSt noughtS))
        have Bc2 := Lib.hid (show Below V.heap.size V (w5.alloc (boxSt noughtS)) from Bc.out)
        clear Bc
        have Bc := Bc2
        clear Bc2
        generalize w5.alloc (boxSt noughtS) = Xn at *
        obtain ⟨bm, hbm⟩ : ∃ bm, bm = w5.heap.size := ⟨_, rfl⟩
        have HLE := Lib.hid (show V.heap.size ≤ bm by rw [hbm]; exact HSZ.out)
        rw [← hbm] at HN ⊢
        clear hbm HSZ
        refine wpAnyH_ready (rs := [12]) (by kernel_rfl) (by simp) ?_
        refine (AllReadyH.cons (o := ?oz6) ?iz6 (fun K hK => ?kz6) AllReadyH.nil)
        case iz6 => (simp only [List.getElem?_toArray, List.getElem?_cons_zero, List.getElem?_cons_succ]; rfl)
        simp only [Act.put]
        rw [if_pos (by rfl)]
        refine wp_store_state (.tmp 11) (.tmp 35) (by rfl) bm _ ⟨po, ca, ti, lo, fi, mu, ma, on⟩ (by rfl) (by rfl) HN.out ?_
        intro wE hE hbE
        refine held_more hK HS0.out hlt (Bc.out.trans (hbE _ HLE.out)) (fun Bc hSn => ?_)
        clear hK
        refine tks [13, 14] 2 rfl (by kernel_rfl) (fun _ _ _ _ h => h) (by assumption) (fun KT hKT => ?_)
        iterate 2 (refine tkT (by (simp only [gA, gB, gC]; rfl)) (by rfl) (by (intro w hSw; (simp only [Holds] at hSw); go_simp <;> with_reducible rfl)) ?_; simp only [Act.put, pA, pB, pC])
        refine hKT _ ?_
        clear KT hKT
        refine wpAnyH_done (by kernel_rfl) ?_ _
        have HY5 := Lib.hid (HYd.out.later Bc.out)
        have HX5 := Lib.hid (HXd.out.later Bc.out)
        have HT5 := Lib.hid (HTd.out.later Bc.out)
        have HB5 := Lib.hid (HBd.out.trans (Bc.out.mono HBd.out.size))
        have HN5 := Lib.hid hE
        clear HYd HXd HTd HBd HN hE hbE HLE HS0 hlt Bc hSn
        by_cases hcan : Can I s j
        case' neg =>
          have HE := Lib.hid (fol_no HM.out (HNX.out.2 hcan))
          rw [decide_eq_false hcan]
          clear hcan
          have HX6 := Lib.hid (HX5.out)
          have HB6 := Lib.hid (HB5.out)
          go_wp2_with (refine wpList_store_state (by rfl) (.tmp 4) (.tmp 40) (by rfl) (w.heap.size + 1) _ (noughtS) (by rfl) (by rfl) HX6.out ?_)
          intro WE hE hbE
          have z0 := hE.c0
          have z1 := hE.c1
          have z2 := hE.c2
          have z3 := hE.c3
          have z4 := hE.c4
          have z5 := hE.c5
          have z6 := hE.c6
          have z7 := hE.c7
          go_wp2
          exact bodyPost_ret (v := .tuple #[staV (noughtS), .int .i64 (0), .int .i64 4]) (by simp [results, Try.results22, go_sem, z0, z1, z2, z3, z4, z5, z6, z7, staV]) rfl ⟨by rw [HE.out.1, HE.out.2]; rfl, HB6.out.trans (hbE _ (Nat.le_succ _))⟩
        rw [decide_eq_true hcan]
        have HE := Lib.hid (HNX.out.1 hcan)
        rw [(move_yes hcan).2.1]
        have HMS2 := Lib.hid (show nextS I s j = ⟨po, ca, ti, lo, fi, mu, ma, on⟩ from (move_yes hcan).1.symm.trans HMS.out)
        clear hcan HMS
        have HT6 := Lib.hid (HT5.out)
        have q0 := HN5.out.c0
        have q1 := HN5.out.c1
        have q2 := HN5.out.c2
        have q3 := HN5.out.c3
        have q4 := HN5.out.c4
        have q5 := HN5.out.c5
        have q6 := HN5.out.c6
        have q7 := HN5.out.c7
        go_wp2_with (refine wpList_store_state (by rfl) (.tmp 8) (.tmp 41) (by rfl) x _ ⟨po, ca, ti, lo, fi, mu, ma, on⟩ (by rfl) (by rfl) HT6.out ?_)
        intro WE hE hbE
        have HY7 := Lib.hid ((HY5.out).below (by have := HXlt.out; omega) (hbE _ (Nat.le_refl _)))
        have HX7 := Lib.hid ((HX5.out).below HXlt.out (hbE _ (Nat.le_refl _)))
        have HB7 := Lib.hid ((HB5.out).trans (hbE _ (by have := HXlt.out; omega)))
        have HT7 := Lib.hid hE
        clear hE hbE HY5 HX5 HT5 HB5 HT6
        go_wp2
        go_roundw
        case rel => exact ⟨k + 1, _, _, by have := HKL.out; omega, by go_num, rfl, HE.out, HY7.out, HX7.out, by rw [HMS2.out]; exact HT7.out, HB7.out⟩
        case measure => have := HKL.out; simp [intOf]; omega
      · skip
        have HSZ := Lib.hid Bc.out.size
        go_simp
        refine held_more hK HS0.out hlt (Bc.out.alloc Bc.out.size _) (fun Bc hSn => ?_)
        clear hK
        have HN := Lib.hid (st_new V noughtS)
        change wpAnyH _ _ _ _ _ _ _ _ (V.alloc (boxSt noughtS))
        have Bc2 := Lib.hid (show Below V.heap.size V (V.alloc (boxSt noughtS)) from Bc.out)
        clear Bc
        have Bc := Bc2
        clear Bc2
        generalize V.alloc (boxSt noughtS) = Xn at *
        obtain ⟨bm, hbm⟩ : ∃ bm, bm = V.heap.size := ⟨_, rfl⟩
        have HLE := Lib.hid (show V.heap.size ≤ bm by rw [hbm]; exact HSZ.out)
        rw [← hbm] at HN ⊢
        clear hbm HSZ
        refine wpAnyH_ready (rs := [6]) (by kernel_rfl) (by simp) ?_
        refine AllReadyH.cons (o := ?oz7) ?iz7 (fun K hK => ?kz7) AllReadyH.nil
        case iz7 => (simp only [List.getElem?_toArray, List.getElem?_cons_zero, List.getElem?_cons_succ]; rfl)
        go_simp
        change Calls _ _ #[insV I (.slice ad I.l.length cap), staV s, .int .i64 j] _ _
        refine (dmove_any (HR.out.below (HBd.out.trans (Bc.out.mono HBd.out.size))) (follow_sets HM.out HF.out)).mono ?_
        rintro e w5 ⟨rfl, hb⟩
        have HNn := Lib.hid (HN.out.later hb)
        clear HN
        have HN := HNn
        clear HNn
        refine held_more hK HS0.out hlt (Bc.out.trans (hb.mono Bc.out.size)) (fun Bc hSn => ?_)
        clear hb hK
        obtain ⟨po, ca, ti, lo, fi, mu, ma, on, hms⟩ : ∃ po ca ti lo fi mu ma on, moveS I s j = ⟨po, ca, ti, lo, fi, mu, ma, on⟩ := ⟨_, _, _, _, _, _, _, _, rfl⟩
        rw [hms]
        have HMS := Lib.hid hms
        clear hms
        unfold staV
        refine tks [7, 8, 9, 10] 4 rfl (by kernel_rfl) (fun _ _ _ _ h => h) (by assumption) (fun KT hKT => ?_)
        iterate 4 (refine tkT (by (simp only [gA, gB, gC]; rfl)) (by rfl) (by (intro w hSw; (simp only [Holds] at hSw); go_simp <;> with_reducible rfl)) ?_; simp only [Act.put, pA, pB, pC])
        refine hKT _ ?_
        clear KT hKT
        refine wpAnyH_ready (rs := [12]) (by kernel_rfl) (by simp) ?_
        refine (AllReadyH.cons (o := ?oz8) ?iz8 (fun K hK => ?kz8) AllReadyH.nil)
        case iz8 => (simp only [List.getElem?_toArray, List.getElem?_cons_zero, List.getElem?_cons_succ]; rfl)
        simp only [Act.put]
        rw [if_pos (by rfl)]
        refine wp_store_state (.tmp 11) (.tmp 35) (by rfl) bm _ ⟨po, ca, ti, lo, fi, mu, ma, on⟩ (by rfl) (by rfl) HN.out ?_
        intro wE hE hbE
        refine held_more hK HS0.out hlt (Bc.out.trans (hbE _ HLE.out)) (fun Bc hSn => ?_)
        clear hK
        refine tks [13, 14] 2 rfl (by kernel_rfl) (fun _ _ _ _ h => h) (by assumption) (fun KT hKT => ?_)
        iterate 2 (refine tkT (by (simp only [gA, gB, gC]; rfl)) (by rfl) (by (intro w hSw; (simp only [Holds] at hSw); go_simp <;> with_reducible rfl)) ?_; simp only [Act.put, pA, pB, pC])
        refine hKT _ ?_
        clear KT hKT
        refine wpAnyH_done (by kernel_rfl) ?_ _
        have HY5 := Lib.hid (HYd.out.later Bc.out)
        have HX5 := Lib.hid (HXd.out.later Bc.out)
        have HT5 := Lib.hid (HTd.out.later Bc.out)
        have HB5 := Lib.hid (HBd.out.trans (Bc.out.mono HBd.out.size))
        have HN5 := Lib.hid hE
        clear HYd HXd HTd HBd HN hE hbE HLE HS0 hlt Bc hSn
        by_cases hcan : Can I s j
        case' neg =>
          have HE := Lib.hid (fol_no HM.out (HNX.out.2 hcan))
          rw [decide_eq_false hcan]
          clear hcan
          have HX6 := Lib.hid (HX5.out)
          have HB6 := Lib.hid (HB5.out)
          go_wp2_with (refine wpList_store_state (by rfl) (.tmp 4) (.tmp 40) (by rfl) (w.heap.size + 1) _ (noughtS) (by rfl) (by rfl) HX6.out ?_)
          intro WE hE hbE
          have z0 := hE.c0
          have z1 := hE.c1
          have z2 := hE.c2
          have z3 := hE.c3
          have z4 := hE.c4
          have z5 := hE.c5
          have z6 := hE.c6
          have z7 := hE.c7
          go_wp2
          exact bodyPost_ret (v := .tuple #[staV (noughtS), .int .i64 (0), .int .i64 4]) (by simp [results, Try.results22, go_sem, z0, z1, z2, z3, z4, z5, z6, z7, staV]) rfl ⟨by rw [HE.out.1, HE.out.2]; rfl, HB6.out.trans (hbE _ (Nat.le_succ _))⟩
        rw [decide_eq_true hcan]
        have HE := Lib.hid (HNX.out.1 hcan)
        rw [(move_yes hcan).2.1]
        have HMS2 := Lib.hid (show nextS I s j = ⟨po, ca, ti, lo, fi, mu, ma, on⟩ from (move_yes hcan).1.symm.trans HMS.out)
        clear hcan HMS
        have HT6 := Lib.hid (HT5.out)
        have q0 := HN5.out.c0
        have q1 := HN5.out.c1
        have q2 := HN5.out.c2
        have q3 := HN5.out.c3
        have q4 := HN5.out.c4
        have q5 := HN5.out.c5
        have q6 := HN5.out.c6
        have q7 := HN5.out.c7
        go_wp2_with (refine wpList_store_state (by rfl) (.tmp 8) (.tmp 41) (by rfl) x _ ⟨po, ca, ti, lo, fi, mu, ma, on⟩ (by rfl) (by rfl) HT6.out ?_)
        intro WE hE hbE
        have HY7 := Lib.hid ((HY5.out).below (by have := HXlt.out; omega) (hbE _ (Nat.le_refl _)))
        have HX7 := Lib.hid ((HX5.out).below HXlt.out (hbE _ (Nat.le_refl _)))
        have HB7 := Lib.hid ((HB5.out).trans (hbE _ (by have := HXlt.out; omega)))
        have HT7 := Lib.hid hE
        clear hE hbE HY5 HX5 HT5 HB5 HT6
        go_wp2
        go_roundw
        case rel => exact ⟨k + 1, _, _, by have := HKL.out; omega, by go_num, rfl, HE.out, HY7.out, HX7.out, by rw [HMS2.out]; exact HT7.out, HB7.out⟩
        case measure => have := HKL.out; simp [intOf]; omega
    · obtain rfl : k = l.length := by omega
      rw [List.take_length] at HF
      have HE := Lib.hid (fol_yes HM.out HF.out)
      have q0 := HT4.out.c0
      have q1 := HT4.out.c1
      have q2 := HT4.out.c2
      have q3 := HT4.out.c3
      have q4 := HT4.out.c4
      have q5 := HT4.out.c5
      have q6 := HT4.out.c6
      have q7 := HT4.out.c7
      go_wp2_with (refine wpList_store_state (by rfl) (.tmp 4) (.tmp 45) (by rfl) (w.heap.size + 1) _ (s) (by rfl) (by rfl) HX4.out ?_)
      intro WE hE hbE
      have z0 := hE.c0
      have z1 := hE.c1
      have z2 := hE.c2
      have z3 := hE.c3
      have z4 := hE.c4
      have z5 := hE.c5
      have z6 := hE.c6
      have z7 := hE.c7
      go_wp2
      exact bodyPost_ret (v := .tuple #[staV (s), .int .i64 (n), .int .i64 0]) (by simp [results, Try.results22, go_sem, z0, z1, z2, z3, z4, z5, z6, z7, staV]) rfl ⟨by rw [HE.out.1, HE.out.2]; rfl, HB4.out.trans (hbE _ (Nat.le_succ _))⟩
end Go.Proofs.Ytipjaibemhoifaa
