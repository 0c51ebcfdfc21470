/- RelaxWays holds for all instances, states and rows of moves: whatever can be done from a state can be done from one that covers it, for as much; no condition beyond what the statement gives. -/
import Derived.Test.YtpgbbnmflnhlbaaOrd
import Derived.Test.YtpgbbnmflnhlbaaRows
import Derived.Test.YtpgbbnmflnhlbaaXR3
import Derived.Test.YtpgbbnmflnhlbaaXU
namespace Go.Proofs.Ytpgbbnmflnhlbaa.relaxWays
open Go.ChangeShapes Go.WideShapes Go.ChangeAt Go.RowKit

theorem boxes_ist (w : World) (I : Ins) (v : Value) (s t : Sta) : YBox (((w.alloc (boxI I v)).alloc (boxSt s)).alloc (boxSt t)) w.heap.size I v ∧ StB (((w.alloc (boxI I v)).alloc (boxSt s)).alloc (boxSt t)) (w.heap.size + 1) s ∧
    StB (((w.alloc (boxI I v)).alloc (boxSt s)).alloc (boxSt t)) (w.heap.size + 2) t ∧ Below w.heap.size w (((w.alloc (boxI I v)).alloc (boxSt s)).alloc (boxSt t)) := by
  obtain ⟨h1, h2, h3⟩ := boxes_two w I v s
  have e1 : ((w.alloc (boxI I v)).alloc (boxSt s)).heap.size = w.heap.size + 2 := by simp
  have a3 := st_new ((w.alloc (boxI I v)).alloc (boxSt s)) t
  rw [e1] at a3
  exact ⟨h1.later ((Below.refl _ _).alloc (Nat.le_refl _) _), h2.later ((Below.refl _ _).alloc (Nat.le_refl _) _), a3, h3.alloc h3.size _⟩
set_option maxRecDepth 1000000 in
set_option maxHeartbeats 4000000 in
theorem walk (I0 : Ins) (v0 : Value) (s1 : Sta) (s2 : Sta) (v3 : Value) (l3 : List Int) (w : World) (e0 : SRow w v0 I0.l) (e1 : SetsOk s1) (e2 : SetsOk s2) (e3 : Row w v3 (ints l3)) :
    Calls Try.prog 24 #[insV I0 v0, staV s1, staV s2, v3] w fun e w' => e = .returned (.bool true) ∧ Below w.heap.size w w' := by
  have HR := Lib.hid e0
  have H1 := Lib.hid e1
  have H2 := Lib.hid e2
  have HL := Lib.hid e3
  obtain ⟨ad, cap, rfl, hlm, _⟩ := e0.form
  obtain ⟨ad3, cap3, rfl, hmx⟩ := e3.form
  rw [ints_len] at *
  have hmx2 : l3.length ≤ 9223372036854775807 := by unfold maxLen at hmx; omega
  clear e0 e1 e2 e3 hmx
  unfold insV staV
  go_enter Try.func24, Try.ntmps24
  go_upto_region 1 with fail
  obtain ⟨k1, k2, k3, k4⟩ := boxes_ist w I0 (.slice ad I0.l.length cap) s1 s2
  have HY := Lib.hid k1
  have HA := Lib.hid k2
  have HC := Lib.hid k3
  have HB := Lib.hid k4
  clear k1 k2 k3 k4
  change Code.wp _ _ _ _ (((w.alloc (boxI I0 (.slice ad I0.l.length cap))).alloc (boxSt s1)).alloc (boxSt s2))
  generalize ((w.alloc (boxI I0 (.slice ad I0.l.length cap))).alloc (boxSt s1)).alloc (boxSt s2) = W at *
  go_wp2_with fail
  refine (xawake_any _).mono ?_
  rintro e w1 ⟨rfl, hb⟩
  have HYn := Lib.hid (HY.out.later hb)
  have HAn := Lib.hid (HA.out.later hb)
  have HCn := Lib.hid (HC.out.later hb)
  have HBn := Lib.hid (HB.out.trans (hb.mono HB.out.size))
  clear hb HY HA HC HB
  have HY := HYn
  have HA := HAn
  have HC := HCn
  have HB := HBn
  clear HYn HAn HCn HBn
  have y3 := HY.out.cells.2.2.2
  have y0 := HY.out.cells.1
  by_cases g1 : 33 < I0.l.length
  · have d1 : decide (33 < (I0.l.length : Int)) = true := decide_eq_true (by omega)
    have d2 := decide_eq_true g1
    clear g1
    go_wp2
    go_ret
    exact ⟨rfl, HB.out⟩
  have d1 : decide (33 < (I0.l.length : Int)) = false := decide_eq_false (by omega)
  have d2 := decide_eq_false g1
  clear g1
  by_cases g2 : 100 < l3.length
  · have d3 : decide (100 < (l3.length : Int)) = true := decide_eq_true (by omega)
    have d4 := decide_eq_true g2
    clear g2
    go_wp2
    go_ret
    exact ⟨rfl, HB.out⟩
  have d3 : decide (100 < (l3.length : Int)) = false := decide_eq_false (by omega)
  have d4 := decide_eq_false g2
  have HG2 := Lib.hid g2
  clear g2
  by_cases hp0 : I0.p = 0
  · have b0 : (I0.p == 0) = true := by simp [hp0]
    clear hp0
    go_wp2
    go_ret
    exact ⟨rfl, HB.out⟩
  have b0 : (I0.p == 0) = false := by simp [hp0]
  have HP0 := Lib.hid hp0
  clear hp0
  have x0 := HA.out.c0
  have x1 := HA.out.c1
  have x2 := HA.out.c2
  have x3 := HA.out.c3
  have x4 := HA.out.c4
  have x5 := HA.out.c5
  have x6 := HA.out.c6
  have x7 := HA.out.c7
  have z0 := HC.out.c0
  have z1 := HC.out.c1
  have z2 := HC.out.c2
  have z3 := HC.out.c3
  have z4 := HC.out.c4
  have z5 := HC.out.c5
  have z6 := HC.out.c6
  have z7 := HC.out.c7
  go_wp2_with fail
  change Calls _ _ #[staV s1, staV s2] _ _
  refine (covers_any _ H1.out H2.out).mono ?_
  clear x0 x1 x2 x3 x4 x5 x6 x7 z0 z1 z2 z3 z4 z5 z6 z7
  clear y3 y0
  rintro e w2 ⟨rfl, hb⟩
  have HYn := Lib.hid (HY.out.later hb)
  have HAn := Lib.hid (HA.out.later hb)
  have HCn := Lib.hid (HC.out.later hb)
  have HBn := Lib.hid (HB.out.trans (hb.mono HB.out.size))
  clear hb HY HA HC HB
  have HY := HYn
  have HA := HAn
  have HC := HCn
  have HB := HBn
  clear HYn HAn HCn HBn
  by_cases hcv : Covers s1 s2
  rotate_left
  · rw [decide_eq_false hcv]
    clear hcv
    go_wp2
    go_ret
    exact ⟨rfl, HB.out⟩
  rw [decide_eq_true hcv]
  have HCV := Lib.hid hcv
  clear hcv
  have x0 := HA.out.c0
  have x1 := HA.out.c1
  have x2 := HA.out.c2
  have x3 := HA.out.c3
  have x4 := HA.out.c4
  have x5 := HA.out.c5
  have x6 := HA.out.c6
  have x7 := HA.out.c7
  by_cases n0 : s1.car < 1
  · have m0 := decide_eq_true n0
    clear n0
    go_wp2
    go_ret
    exact ⟨rfl, HB.out⟩
  have m0 := decide_eq_false n0
  by_cases n1 : s1.time < 0
  · have m1 := decide_eq_true n1
    clear n1
    go_wp2
    go_ret
    exact ⟨rfl, HB.out⟩
  have m1 := decide_eq_false n1
  by_cases n2 : s1.load < 0
  · have m2 := decide_eq_true n2
    clear n2
    go_wp2
    go_ret
    exact ⟨rfl, HB.out⟩
  have m2 := decide_eq_false n2
  have HNM := Lib.hid (show NumOk s1 from ⟨by omega, by omega, by omega⟩)
  clear n0 n1 n2
  go_wp2_with fail
  clear m0 m1 m2 d1 d2 d3 d4 b0
  clear x0 x1 x2 x3 x4 x5 x6 x7
  go_loopw [10, 11, 12] (fun nn mm i wr => ∃ (k : Nat) (c : Int) (qa qb : Sta), k ≤ l3.length ∧ i = .int .i64 k ∧ nn = .int .i64 c ∧ mm = .int .i64 c ∧ (0 ≤ c ∧ c ≤ 20000 * (k : Int)) ∧ (Covers qa qb ∧ NumOk qa ∧ SetsOk qa ∧ SetsOk qb) ∧ YBox wr w.heap.size I0 (.slice ad I0.l.length cap) ∧ StB wr (w.heap.size + 1) qa ∧ StB wr (w.heap.size + 2) qb ∧ Below w.heap.size w wr) (fun _ _ i _ => l3.length - (intOf i).toNat)
  case atStart => exact ⟨0, 0, s1, s2, Nat.zero_le _, rfl, rfl, rfl, ⟨by omega, by omega⟩, ⟨HCV.out, HNM.out, H1.out, H2.out⟩, HY.out, HA.out, HC.out, HB.out⟩
  case round =>
    obtain ⟨k, c, qa, qb, hk, rfl, rfl, rfl, hc, hq, hy, ha, hcb, hb⟩ := hrel
    clear HY HA HC HB
    have HY := Lib.hid hy
    have HA := Lib.hid ha
    have HC := Lib.hid hcb
    have HB := Lib.hid hb
    have HQ := Lib.hid hq
    have HCC := Lib.hid hc
    clear hy ha hcb hb hq hc
    by_cases hlt : k < l3.length
    rotate_left
    · obtain rfl : k = l3.length := by omega
      clear hlt hk
      obtain ⟨y0, y1, y2, y3⟩ := HY.out.cells
      have x0 := HC.out.c0
      have x1 := HC.out.c1
      have x2 := HC.out.c2
      have x3 := HC.out.c3
      have x4 := HC.out.c4
      have x5 := HC.out.c5
      have x6 := HC.out.c6
      have x7 := HC.out.c7
      go_wp2_with fail
      clear y0 y1 y2 y3
      clear x0 x1 x2 x3 x4 x5 x6 x7
      change Calls _ _ #[insV I0 (.slice ad I0.l.length cap), staV qb] _ _
      refine (send_any (HR.out.below HB.out) HQ.out.2.2.2).mono ?_
      rintro e w4 ⟨rfl, hb⟩
      have HYn := Lib.hid (HY.out.later hb)
      have HAn := Lib.hid (HA.out.later hb)
      have HCn := Lib.hid (HC.out.later hb)
      have HBn := Lib.hid (HB.out.trans (hb.mono HB.out.size))
      clear hb HY HA HC HB
      have HY := HYn
      have HA := HAn
      have HC := HCn
      have HB := HBn
      clear HYn HAn HCn HBn
      obtain ⟨y0, y1, y2, y3⟩ := HY.out.cells
      have z0 := HA.out.c0
      have z1 := HA.out.c1
      have z2 := HA.out.c2
      have z3 := HA.out.c3
      have z4 := HA.out.c4
      have z5 := HA.out.c5
      have z6 := HA.out.c6
      have z7 := HA.out.c7
      go_wp2_with fail
      clear y0 y1 y2 y3
      clear z0 z1 z2 z3 z4 z5 z6 z7
      change Calls _ _ #[insV I0 (.slice ad I0.l.length cap), staV qa] _ _
      refine (send_any (HR.out.below HB.out) HQ.out.2.2.1).mono ?_
      rintro e w5 ⟨rfl, hb⟩
      have HYn := Lib.hid (HY.out.later hb)
      have HAn := Lib.hid (HA.out.later hb)
      have HCn := Lib.hid (HC.out.later hb)
      have HBn := Lib.hid (HB.out.trans (hb.mono HB.out.size))
      clear hb HY HA HC HB
      have HY := HYn
      have HA := HAn
      have HC := HCn
      have HB := HBn
      clear HYn HAn HCn HBn
      have bc : (c == c) = true := by simp
      by_cases he2 : EndS I0 qb
      rotate_left
      · rw [decide_eq_false he2]
        clear he2
        go_wp2
        go_ret
        exact ⟨rfl, HB.out⟩
      rw [decide_eq_true he2]
      obtain ⟨h1, h2⟩ := covers_end (fits_of HQ.out.2.2.1) (fits_of HQ.out.2.2.2) HQ.out.1 HQ.out.2.1 HP0.out he2
      rw [decide_eq_true h1, h2]
      clear h1 h2 he2
      have b1 : (endC I0 qb == endC I0 qb) = true := by simp
      go_wp2
      go_ret
      exact ⟨rfl, HB.out⟩
    have HK := Lib.hid hlt
    obtain ⟨b1, o1, c1, he1, hc1, -, hb1⟩ := row_at (p := k) HL.out (by rw [ints_len]; exact hlt)
    rw [ints_at _ k hlt] at hc1
    simp only [ints_len, Value.slice.injEq, true_and] at he1
    obtain ⟨rfl, rfl⟩ := he1
    generalize l3.getD k 0 = j at *
    obtain ⟨xa, hxa⟩ : ∃ x, moveS I0 qa j = x := ⟨_, rfl⟩
    obtain ⟨xb, hxb⟩ : ∃ x, moveS I0 qb j = x := ⟨_, rfl⟩
    obtain ⟨ca, hca⟩ : ∃ x, moveC I0 qa j = x := ⟨_, rfl⟩
    obtain ⟨cb, hcb⟩ : ∃ x, moveC I0 qb j = x := ⟨_, rfl⟩
    obtain ⟨pa, hpa⟩ : ∃ x, decide (Can I0 qa j) = x := ⟨_, rfl⟩
    obtain ⟨pb, hpb⟩ : ∃ x, decide (Can I0 qb j) = x := ⟨_, rfl⟩
    have HXA := Lib.hid hxa
    have HXB := Lib.hid hxb
    have HCA := Lib.hid hca
    have HCB := Lib.hid hcb
    have HPA := Lib.hid hpa
    have HPB := Lib.hid hpb
    clear hxa hxb hca hcb hpa hpb
    have HC1 := Lib.hid (show ∀ w', Below w.heap.size w w' → w'.cell? ⟨b1, o1 + k, none⟩ = some (.int .i64 j) from fun w' hb' => (hb'.cell (p := ⟨b1, o1 + k, none⟩) hb1).trans hc1)
    have HB1 := Lib.hid hb1
    clear hc1 hb1
    have hki : (k : Int) < (l3.length : Int) := by omega
    have HBR := Lib.hid (Below.refl wr.heap.size wr)
    have HCL := Lib.hid HC.out.lt
    clear hk hlt
    go_upto_region 9 with fail
    go_cut [13, 14, 15] from 70 to 103 (fun p c e wx => ∃ bm, p = .pointer (some ⟨bm, 0, none⟩) ∧ c = .int .i64 cb ∧ e = .bool pb ∧ wr.heap.size ≤ bm ∧ StB wx bm xb ∧ YBox wx w.heap.size I0 (.slice ad I0.l.length cap) ∧ StB wx (w.heap.size + 1) qa ∧ StB wx (w.heap.size + 2) qb ∧ Below w.heap.size w wx ∧ Below wr.heap.size wr wx)
    case first =>
      have HBRd := Lib.hid HBR.out.drew
      have HYn := Lib.hid (HY.out.later (Below.refl _ wr).drew)
      have HAn := Lib.hid (HA.out.later (Below.refl _ wr).drew)
      have HCn := Lib.hid (HC.out.later (Below.refl _ wr).drew)
      have HBn := Lib.hid HB.out.drew
      clear HY HA HC HB
      have HY := HYn
      have HA := HAn
      have HC := HCn
      have HB := HBn
      clear HYn HAn HCn HBn
      have HS0 := Lib.hid (show Holds (cellsI w.heap.size I0 (.slice ad I0.l.length cap) ++ (cellsSt (w.heap.size + 2) qb ++ [((⟨b1, o1 + k, none⟩ : Addr), (.int .i64 j : Value))])) wr.drew from (Holds.app.2 ⟨⟨HY.out.cells.1, HY.out.cells.2.1, HY.out.cells.2.2.1, HY.out.cells.2.2.2, trivial⟩, (Holds.app.2 ⟨HC.out.holds, ⟨HC1.out _ HB.out, trivial⟩⟩)⟩))
      refine wp_region_held_drew (S := Holds (cellsI w.heap.size I0 (.slice ad I0.l.length cap) ++ (cellsSt (w.heap.size + 2) qb ++ [((⟨b1, o1 + k, none⟩ : Addr), (.int .i64 j : Value))]))) (by kernel_rfl) HS0.out (fun hSn => ?_)
      generalize wr.drew = V at *
      have hlt := Lib.hid (show Lows V.heap.size (cellsI w.heap.size I0 (.slice ad I0.l.length cap) ++ (cellsSt (w.heap.size + 2) qb ++ [((⟨b1, o1 + k, none⟩ : Addr), (.int .i64 j : Value))])) from (Lows.app (show Lows _ (cellsI w.heap.size I0 (.slice ad I0.l.length cap)) from ⟨HY.out.lt, HY.out.lt, HY.out.lt, HY.out.lt, trivial⟩) (Lows.app (lows_St HC.out.lt) ⟨Nat.lt_of_lt_of_le HB1.out HB.out.size, trivial⟩)))
      have Bc := Lib.hid (Below.refl V.heap.size V)
      simp only [cellsI, cellsSt, List.cons_append, List.nil_append] at HS0 hlt hSn ⊢
      refine tks [0, 1, 2, 3, 4, 5] 6 rfl (by kernel_rfl) (fun _ _ _ _ h => h) (by assumption) (fun KT hKT => ?_)
      iterate 6 (refine tkT (by (simp only [gA, gB, gC]; rfl)) (by rfl) (by (intro w hSw; (simp only [Holds] at hSw); go_simp <;> with_reducible rfl)) ?_; simp only [Act.put, pA, pB, pC])
      refine hKT _ ?_
      clear KT hKT
      refine wpAnyH_ready (rs := [6, 11]) (by kernel_rfl) (by simp) ?_
      refine (AllReadyH.cons (o := ?oz318) ?iz318 (fun K hK => ?kz318) (AllReadyH.cons (o := ?oz319) ?iz319 (fun K hK => ?kz319) AllReadyH.nil))
      case iz318 => (simp only [List.getElem?_toArray, List.getElem?_cons_zero, List.getElem?_cons_succ]; rfl)
      case iz319 => (simp only [List.getElem?_toArray, List.getElem?_cons_zero, List.getElem?_cons_succ]; rfl)
      · skip
        go_simp
        change Calls _ _ #[insV I0 (.slice ad I0.l.length cap), staV qb, .int .i64 j] _ _
        have BCUR := Lib.hid (HB.out.trans (Bc.out.mono HB.out.size))
        refine (smove_any (HR.out.below BCUR.out) HQ.out.2.2.2).mono ?_
        clear BCUR
        rintro e w7 ⟨rfl, hb⟩
        rw [HXB.out, HCB.out, HPB.out]
        rw [show staV xb = .agg #[.int .i64 xb.pos, .int .i64 xb.car, .int .i64 xb.time, .int .i64 xb.load, .int .i64 xb.first, .int .u64 xb.must, .int .u64 xb.may, .int .u64 xb.on] from rfl]
        refine held_more hK HS0.out hlt (Bc.out.trans (hb.mono Bc.out.size)) (fun Bc hSn => ?_)
        clear hb hK
        refine tks [7, 8, 9, 10] 4 rfl (by kernel_rfl) (fun _ _ _ _ h => h) (by assumption) (fun KT hKT => ?_)
        iterate 4 (refine tkT (by (simp only [gA, gB, gC]; rfl)) (by rfl) (by (intro w hSw; (simp only [Holds] at hSw); go_simp <;> with_reducible rfl)) ?_; simp only [Act.put, pA, pB, pC])
        refine hKT _ ?_
        clear KT hKT
        have HSZ := Lib.hid Bc.out.size
        refine wpAnyH_ready (rs := [11]) (by kernel_rfl) (by simp) ?_
        refine AllReadyH.cons (o := ?oz320) ?iz320 (fun K hK => ?kz320) AllReadyH.nil
        case iz320 => (simp only [List.getElem?_toArray, List.getElem?_cons_zero, List.getElem?_cons_succ]; rfl)
        go_simp
        refine held_more hK HS0.out hlt (Bc.out.alloc Bc.out.size _) (fun Bc hSn => ?_)
        have HN := Lib.hid (st_new w7 noughtS)
        change wpAnyH _ _ _ _ _ _ _ _ (w7.alloc (boxSt noughtS))
        have Bc2 := Lib.hid (show Below V.heap.size V (w7.alloc (boxSt noughtS)) from Bc.out)
        clear Bc
        have Bc := Bc2
        clear Bc2
        generalize w7.alloc (boxSt noughtS) = Xn at *
        obtain ⟨bm, hbm⟩ : ∃ bm, bm = w7.heap.size := ⟨_, rfl⟩
        have HLE := Lib.hid (show V.heap.size ≤ bm by rw [hbm]; exact HSZ.out)
        rw [← hbm] at HN ⊢
        clear hbm HSZ
        refine wpAnyH_ready (rs := [12]) (by kernel_rfl) (by simp) ?_
        refine (AllReadyH.cons (o := ?oz321) ?iz321 (fun K hK => ?kz321) AllReadyH.nil)
        case iz321 => (simp only [List.getElem?_toArray, List.getElem?_cons_zero, List.getElem?_cons_succ]; rfl)
        simp only [Act.put]
        rw [if_pos (by rfl)]
        refine wp_store_state (.tmp 13) (.tmp 78) (by rfl) bm _ xb (by rfl) (by rfl) HN.out ?_
        intro wE hE hbE
        refine held_more hK HS0.out hlt (Bc.out.trans (hbE _ HLE.out)) (fun Bc hSn => ?_)
        clear hK
        refine tks [13, 14] 2 rfl (by kernel_rfl) (fun _ _ _ _ h => h) (by assumption) (fun KT hKT => ?_)
        iterate 2 (refine tkT (by (simp only [gA, gB, gC]; rfl)) (by rfl) (by (intro w hSw; (simp only [Holds] at hSw); go_simp <;> with_reducible rfl)) ?_; simp only [Act.put, pA, pB, pC])
        refine hKT _ ?_
        clear KT hKT
        refine wpAnyH_done (by kernel_rfl) ?_ _
        go_wp2_with fail
        go_meet
        exact ⟨bm, rfl, rfl, rfl, Nat.le_trans HBRd.out.size HLE.out, hE, HY.out.later Bc.out, HA.out.later Bc.out, HC.out.later Bc.out, HB.out.trans (Bc.out.mono HB.out.size), HBRd.out.trans (Bc.out.mono HBRd.out.size)⟩
      · skip
        have HSZ := Lib.hid Bc.out.size
        go_simp
        refine held_more hK HS0.out hlt (Bc.out.alloc Bc.out.size _) (fun Bc hSn => ?_)
        clear hK
        have HN := Lib.hid (st_new V noughtS)
        change wpAnyH _ _ _ _ _ _ _ _ (V.alloc (boxSt noughtS))
        have Bc2 := Lib.hid (show Below V.heap.size V (V.alloc (boxSt noughtS)) from Bc.out)
        clear Bc
        have Bc := Bc2
        clear Bc2
        generalize V.alloc (boxSt noughtS) = Xn at *
        obtain ⟨bm, hbm⟩ : ∃ bm, bm = V.heap.size := ⟨_, rfl⟩
        have HLE := Lib.hid (show V.heap.size ≤ bm by rw [hbm]; exact HSZ.out)
        rw [← hbm] at HN ⊢
        clear hbm HSZ
        refine wpAnyH_ready (rs := [6]) (by kernel_rfl) (by simp) ?_
        refine AllReadyH.cons (o := ?oz322) ?iz322 (fun K hK => ?kz322) AllReadyH.nil
        case iz322 => (simp only [List.getElem?_toArray, List.getElem?_cons_zero, List.getElem?_cons_succ]; rfl)
        go_simp
        change Calls _ _ #[insV I0 (.slice ad I0.l.length cap), staV qb, .int .i64 j] _ _
        have BCUR := Lib.hid (HB.out.trans (Bc.out.mono HB.out.size))
        refine (smove_any (HR.out.below BCUR.out) HQ.out.2.2.2).mono ?_
        clear BCUR
        rintro e w7 ⟨rfl, hb⟩
        have HNn := Lib.hid (HN.out.later hb)
        clear HN
        have HN := HNn
        clear HNn
        rw [HXB.out, HCB.out, HPB.out]
        rw [show staV xb = .agg #[.int .i64 xb.pos, .int .i64 xb.car, .int .i64 xb.time, .int .i64 xb.load, .int .i64 xb.first, .int .u64 xb.must, .int .u64 xb.may, .int .u64 xb.on] from rfl]
        refine held_more hK HS0.out hlt (Bc.out.trans (hb.mono Bc.out.size)) (fun Bc hSn => ?_)
        clear hb hK
        refine tks [7, 8, 9, 10] 4 rfl (by kernel_rfl) (fun _ _ _ _ h => h) (by assumption) (fun KT hKT => ?_)
        iterate 4 (refine tkT (by (simp only [gA, gB, gC]; rfl)) (by rfl) (by (intro w hSw; (simp only [Holds] at hSw); go_simp <;> with_reducible rfl)) ?_; simp only [Act.put, pA, pB, pC])
        refine hKT _ ?_
        clear KT hKT
        refine wpAnyH_ready (rs := [12]) (by kernel_rfl) (by simp) ?_
        refine (AllReadyH.cons (o := ?oz323) ?iz323 (fun K hK => ?kz323) AllReadyH.nil)
        case iz323 => (simp only [List.getElem?_toArray, List.getElem?_cons_zero, List.getElem?_cons_succ]; rfl)
        simp only [Act.put]
        rw [if_pos (by rfl)]
        refine wp_store_state (.tmp 13) (.tmp 78) (by rfl) bm _ xb (by rfl) (by rfl) HN.out ?_
        intro wE hE hbE
        refine held_more hK HS0.out hlt (Bc.out.trans (hbE _ HLE.out)) (fun Bc hSn => ?_)
        clear hK
        refine tks [13, 14] 2 rfl (by kernel_rfl) (fun _ _ _ _ h => h) (by assumption) (fun KT hKT => ?_)
        iterate 2 (refine tkT (by (simp only [gA, gB, gC]; rfl)) (by rfl) (by (intro w hSw; (simp only [Holds] at hSw); go_simp <;> with_reducible rfl)) ?_; simp only [Act.put, pA, pB, pC])
        refine hKT _ ?_
        clear KT hKT
        refine wpAnyH_done (by kernel_rfl) ?_ _
        go_wp2_with fail
        go_meet
        exact ⟨bm, rfl, rfl, rfl, Nat.le_trans HBRd.out.size HLE.out, hE, HY.out.later Bc.out, HA.out.later Bc.out, HC.out.later Bc.out, HB.out.trans (Bc.out.mono HB.out.size), HBRd.out.trans (Bc.out.mono HBRd.out.size)⟩
    case rest =>
    obtain ⟨bp, rfl, rfl, rfl, fl, fn, fHY, fHA, fHC, fb, fbr⟩ := hcut
    clear HY HA HC HB HBR
    have HY := Lib.hid fHY
    have HA := Lib.hid fHA
    have HC := Lib.hid fHC
    have HP := Lib.hid fn
    have HPL := Lib.hid fl
    have HB := Lib.hid fb
    have HBR := Lib.hid fbr
    clear fb fbr fn fl fHY fHA fHC
    generalize wc = W8 at *
    go_upto_region 10 with fail
    go_cut [16, 17, 18] from 81 to 103 (fun p c e wx => ∃ bm, p = .pointer (some ⟨bm, 0, none⟩) ∧ c = .int .i64 ca ∧ e = .bool pa ∧ wr.heap.size ≤ bm ∧ StB wx bm xa ∧ YBox wx w.heap.size I0 (.slice ad I0.l.length cap) ∧ StB wx (w.heap.size + 1) qa ∧ StB wx (w.heap.size + 2) qb ∧ StB wx bp xb ∧ Below w.heap.size w wx ∧ Below wr.heap.size wr wx)
    case first =>
      have HBRd := Lib.hid HBR.out.drew
      have HYn := Lib.hid (HY.out.later (Below.refl _ W8).drew)
      have HAn := Lib.hid (HA.out.later (Below.refl _ W8).drew)
      have HCn := Lib.hid (HC.out.later (Below.refl _ W8).drew)
      have HPn := Lib.hid (HP.out.later (Below.refl _ W8).drew)
      have HBn := Lib.hid HB.out.drew
      clear HY HA HC HP HB
      have HY := HYn
      have HA := HAn
      have HC := HCn
      have HP := HPn
      have HB := HBn
      clear HYn HAn HCn HPn HBn
      have HS0 := Lib.hid (show Holds (cellsI w.heap.size I0 (.slice ad I0.l.length cap) ++ (cellsSt (w.heap.size + 1) qa ++ [((⟨b1, o1 + k, none⟩ : Addr), (.int .i64 j : Value))])) W8.drew from (Holds.app.2 ⟨⟨HY.out.cells.1, HY.out.cells.2.1, HY.out.cells.2.2.1, HY.out.cells.2.2.2, trivial⟩, (Holds.app.2 ⟨HA.out.holds, ⟨HC1.out _ HB.out, trivial⟩⟩)⟩))
      refine wp_region_held_drew (S := Holds (cellsI w.heap.size I0 (.slice ad I0.l.length cap) ++ (cellsSt (w.heap.size + 1) qa ++ [((⟨b1, o1 + k, none⟩ : Addr), (.int .i64 j : Value))]))) (by kernel_rfl) HS0.out (fun hSn => ?_)
      generalize W8.drew = V at *
      have hlt := Lib.hid (show Lows V.heap.size (cellsI w.heap.size I0 (.slice ad I0.l.length cap) ++ (cellsSt (w.heap.size + 1) qa ++ [((⟨b1, o1 + k, none⟩ : Addr), (.int .i64 j : Value))])) from (Lows.app (show Lows _ (cellsI w.heap.size I0 (.slice ad I0.l.length cap)) from ⟨HY.out.lt, HY.out.lt, HY.out.lt, HY.out.lt, trivial⟩) (Lows.app (lows_St HA.out.lt) ⟨Nat.lt_of_lt_of_le HB1.out HB.out.size, trivial⟩)))
      have Bc := Lib.hid (Below.refl V.heap.size V)
      simp only [cellsI, cellsSt, List.cons_append, List.nil_append] at HS0 hlt hSn ⊢
      refine tks [0, 1, 2, 3, 4, 5] 6 rfl (by kernel_rfl) (fun _ _ _ _ h => h) (by assumption) (fun KT hKT => ?_)
      iterate 6 (refine tkT (by (simp only [gA, gB, gC]; rfl)) (by rfl) (by (intro w hSw; (simp only [Holds] at hSw); go_simp <;> with_reducible rfl)) ?_; simp only [Act.put, pA, pB, pC])
      refine hKT _ ?_
      clear KT hKT
      refine wpAnyH_ready (rs := [6, 11]) (by kernel_rfl) (by simp) ?_
      refine (AllReadyH.cons (o := ?oz324) ?iz324 (fun K hK => ?kz324) (AllReadyH.cons (o := ?oz325) ?iz325 (fun K hK => ?kz325) AllReadyH.nil))
      case iz324 => (simp only [List.getElem?_toArray, List.getElem?_cons_zero, List.getElem?_cons_succ]; rfl)
      case iz325 => (simp only [List.getElem?_toArray, List.getElem?_cons_zero, List.getElem?_cons_succ]; rfl)
      · skip
        go_simp
        change Calls _ _ #[insV I0 (.slice ad I0.l.length cap), staV qa, .int .i64 j] _ _
        have BCUR := Lib.hid (HB.out.trans (Bc.out.mono HB.out.size))
        refine (smove_any (HR.out.below BCUR.out) HQ.out.2.2.1).mono ?_
        clear BCUR
        rintro e w7 ⟨rfl, hb⟩
        rw [HXA.out, HCA.out, HPA.out]
        rw [show staV xa = .agg #[.int .i64 xa.pos, .int .i64 xa.car, .int .i64 xa.time, .int .i64 xa.load, .int .i64 xa.first, .int .u64 xa.must, .int .u64 xa.may, .int .u64 xa.on] from rfl]
        refine held_more hK HS0.out hlt (Bc.out.trans (hb.mono Bc.out.size)) (fun Bc hSn => ?_)
        clear hb hK
        refine tks [7, 8, 9, 10] 4 rfl (by kernel_rfl) (fun _ _ _ _ h => h) (by assumption) (fun KT hKT => ?_)
        iterate 4 (refine tkT (by (simp only [gA, gB, gC]; rfl)) (by rfl) (by (intro w hSw; (simp only [Holds] at hSw); go_simp <;> with_reducible rfl)) ?_; simp only [Act.put, pA, pB, pC])
        refine hKT _ ?_
        clear KT hKT
        have HSZ := Lib.hid Bc.out.size
        refine wpAnyH_ready (rs := [11]) (by kernel_rfl) (by simp) ?_
        refine AllReadyH.cons (o := ?oz326) ?iz326 (fun K hK => ?kz326) AllReadyH.nil
        case iz326 => (simp only [List.getElem?_toArray, List.getElem?_cons_zero, List.getElem?_cons_succ]; rfl)
        go_simp
        refine held_more hK HS0.out hlt (Bc.out.alloc Bc.out.size _) (fun Bc hSn => ?_)
        have HN := Lib.hid (st_new w7 noughtS)
        change wpAnyH _ _ _ _ _ _ _ _ (w7.alloc (boxSt noughtS))
        have Bc2 := Lib.hid (show Below V.heap.size V (w7.alloc (boxSt noughtS)) from Bc.out)
        clear Bc
        have Bc := Bc2
        clear Bc2
        generalize w7.alloc (boxSt noughtS) = Xn at *
        obtain ⟨bm, hbm⟩ : ∃ bm, bm = w7.heap.size := ⟨_, rfl⟩
        have HLE := Lib.hid (show V.heap.size ≤ bm by rw [hbm]; exact HSZ.out)
        rw [← hbm] at HN ⊢
        clear hbm HSZ
        refine wpAnyH_ready (rs := [12]) (by kernel_rfl) (by simp) ?_
        refine (AllReadyH.cons (o := ?oz327) ?iz327 (fun K hK => ?kz327) AllReadyH.nil)
        case iz327 => (simp only [List.getElem?_toArray, List.getElem?_cons_zero, List.getElem?_cons_succ]; rfl)
        simp only [Act.put]
        rw [if_pos (by rfl)]
        refine wp_store_state (.tmp 16) (.tmp 89) (by rfl) bm _ xa (by rfl) (by rfl) HN.out ?_
        intro wE hE hbE
        refine held_more hK HS0.out hlt (Bc.out.trans (hbE _ HLE.out)) (fun Bc hSn => ?_)
        clear hK
        refine tks [13, 14] 2 rfl (by kernel_rfl) (fun _ _ _ _ h => h) (by assumption) (fun KT hKT => ?_)
        iterate 2 (refine tkT (by (simp only [gA, gB, gC]; rfl)) (by rfl) (by (intro w hSw; (simp only [Holds] at hSw); go_simp <;> with_reducible rfl)) ?_; simp only [Act.put, pA, pB, pC])
        refine hKT _ ?_
        clear KT hKT
        refine wpAnyH_done (by kernel_rfl) ?_ _
        go_wp2_with fail
        go_meet
        exact ⟨bm, rfl, rfl, rfl, Nat.le_trans HBRd.out.size HLE.out, hE, HY.out.later Bc.out, HA.out.later Bc.out, HC.out.later Bc.out, HP.out.later Bc.out, HB.out.trans (Bc.out.mono HB.out.size), HBRd.out.trans (Bc.out.mono HBRd.out.size)⟩
      · skip
        have HSZ := Lib.hid Bc.out.size
        go_simp
        refine held_more hK HS0.out hlt (Bc.out.alloc Bc.out.size _) (fun Bc hSn => ?_)
        clear hK
        have HN := Lib.hid (st_new V noughtS)
        change wpAnyH _ _ _ _ _ _ _ _ (V.alloc (boxSt noughtS))
        have Bc2 := Lib.hid (show Below V.heap.size V (V.alloc (boxSt noughtS)) from Bc.out)
        clear Bc
        have Bc := Bc2
        clear Bc2
        generalize V.alloc (boxSt noughtS) = Xn at *
        obtain ⟨bm, hbm⟩ : ∃ bm, bm = V.heap.size := ⟨_, rfl⟩
        have HLE := Lib.hid (show V.heap.size ≤ bm by rw [hbm]; exact HSZ.out)
        rw [← hbm] at HN ⊢
        clear hbm HSZ
        refine wpAnyH_ready (rs := [6]) (by kernel_rfl) (by simp) ?_
        refine AllReadyH.cons (o := ?oz328) ?iz328 (fun K hK => ?kz328) AllReadyH.nil
        case iz328 => (simp only [List.getElem?_toArray, List.getElem?_cons_zero, List.getElem?_cons_succ]; rfl)
        go_simp
        change Calls _ _ #[insV I0 (.slice ad I0.l.length cap), staV qa, .int .i64 j] _ _
        have BCUR := Lib.hid (HB.out.trans (Bc.out.mono HB.out.size))
        refine (smove_any (HR.out.below BCUR.out) HQ.out.2.2.1).mono ?_
        clear BCUR
        rintro e w7 ⟨rfl, hb⟩
        have HNn := Lib.hid (HN.out.later hb)
        clear HN
        have HN := HNn
        clear HNn
        rw [HXA.out, HCA.out, HPA.out]
        rw [show staV xa = .agg #[.int .i64 xa.pos, .int .i64 xa.car, .int .i64 xa.time, .int .i64 xa.load, .int .i64 xa.first, .int .u64 xa.must, .int .u64 xa.may, .int .u64 xa.on] from rfl]
        refine held_more hK HS0.out hlt (Bc.out.trans (hb.mono Bc.out.size)) (fun Bc hSn => ?_)
        clear hb hK
        refine tks [7, 8, 9, 10] 4 rfl (by kernel_rfl) (fun _ _ _ _ h => h) (by assumption) (fun KT hKT => ?_)
        iterate 4 (refine tkT (by (simp only [gA, gB, gC]; rfl)) (by rfl) (by (intro w hSw; (simp only [Holds] at hSw); go_simp <;> with_reducible rfl)) ?_; simp only [Act.put, pA, pB, pC])
        refine hKT _ ?_
        clear KT hKT
        refine wpAnyH_ready (rs := [12]) (by kernel_rfl) (by simp) ?_
        refine (AllReadyH.cons (o := ?oz329) ?iz329 (fun K hK => ?kz329) AllReadyH.nil)
        case iz329 => (simp only [List.getElem?_toArray, List.getElem?_cons_zero, List.getElem?_cons_succ]; rfl)
        simp only [Act.put]
        rw [if_pos (by rfl)]
        refine wp_store_state (.tmp 16) (.tmp 89) (by rfl) bm _ xa (by rfl) (by rfl) HN.out ?_
        intro wE hE hbE
        refine held_more hK HS0.out hlt (Bc.out.trans (hbE _ HLE.out)) (fun Bc hSn => ?_)
        clear hK
        refine tks [13, 14] 2 rfl (by kernel_rfl) (fun _ _ _ _ h => h) (by assumption) (fun KT hKT => ?_)
        iterate 2 (refine tkT (by (simp only [gA, gB, gC]; rfl)) (by rfl) (by (intro w hSw; (simp only [Holds] at hSw); go_simp <;> with_reducible rfl)) ?_; simp only [Act.put, pA, pB, pC])
        refine hKT _ ?_
        clear KT hKT
        refine wpAnyH_done (by kernel_rfl) ?_ _
        go_wp2_with fail
        go_meet
        exact ⟨bm, rfl, rfl, rfl, Nat.le_trans HBRd.out.size HLE.out, hE, HY.out.later Bc.out, HA.out.later Bc.out, HC.out.later Bc.out, HP.out.later Bc.out, HB.out.trans (Bc.out.mono HB.out.size), HBRd.out.trans (Bc.out.mono HBRd.out.size)⟩
    case rest =>
    obtain ⟨bq, rfl, rfl, rfl, fl, fn, fHY, fHA, fHC, fHP, fb, fbr⟩ := hcut
    clear HY HA HC HP HB HBR
    have HY := Lib.hid fHY
    have HA := Lib.hid fHA
    have HC := Lib.hid fHC
    have HP := Lib.hid fHP
    have HX := Lib.hid fn
    have HXL := Lib.hid fl
    have HB := Lib.hid fb
    have HBR := Lib.hid fbr
    clear fb fbr fn fl fHY fHA fHC fHP
    generalize wc = W9 at *
    cases pb with
    | false =>
      go_wp2
      go_ret
      exact ⟨rfl, HB.out⟩
    | true =>
      have hcb := of_decide_eq_true HPB.out
      have hca := covers_can (fits_of HQ.out.2.2.1) (fits_of HQ.out.2.2.2) HQ.out.1 HQ.out.2.1 hcb
      have hcn := covers_next (I := I0) (fits_of HQ.out.2.2.1) (fits_of HQ.out.2.2.2) HQ.out.1 j
      have hnm := covers_num HQ.out.2.1 hca
      have hcc := (covers_beg (I := I0) HQ.out.1 j).2.2
      have hma := move_yes hca
      have hmb := move_yes hcb
      have hsa := of_fits (fits_next (I := I0) (fits_of HQ.out.2.2.1) j)
      have hsb := of_fits (fits_next (I := I0) (fits_of HQ.out.2.2.2) j)
      have hfb := far1_bd I0 qb j
      rw [← hma.1, HXA.out] at hcn hnm hsa
      rw [← hmb.1, HXB.out] at hcn hsb
      have e1 : ca = cb := by rw [← HCA.out, ← HCB.out, hma.2.1, hmb.2.1, hcc]
      rw [← hmb.2.1, HCB.out] at hfb
      have e2 : pa = true := by rw [← HPA.out]; exact decide_eq_true hca
      subst e1 e2
      have HQ2 := Lib.hid (show Covers xa xb ∧ NumOk xa ∧ SetsOk xa ∧ SetsOk xb from ⟨hcn, hnm, hsa, hsb⟩)
      have HFB := Lib.hid hfb
      have hcc2 := HCC.out
      have hg2 := HG2.out
      have hkk := HK.out
      have e3 : IntKind.i64.wrap (c + ca) = c + ca := IntWalk.i64_in _ (by omega)
      clear hcb hca hcn hnm hcc hma hmb hsa hsb hfb hcc2 hg2 hkk
      have hl1 := HPL.out
      have hl2 := HXL.out
      have hl3 := HCL.out
      have n1 : bp ≠ w.heap.size + 1 := by omega
      have HN1 := Lib.hid n1
      clear n1 hl1 hl2 hl3
      have z0 := HX.out.c0
      have z1 := HX.out.c1
      have z2 := HX.out.c2
      have z3 := HX.out.c3
      have z4 := HX.out.c4
      have z5 := HX.out.c5
      have z6 := HX.out.c6
      have z7 := HX.out.c7
      go_wp2_with (refine wpList_store_over (by rfl) (.tmp 5) (.tmp 102) (by rfl) (w.heap.size + 1) _ xa (by rfl) (by rfl) HA.out ?_)
      clear z0 z1 z2 z3 z4 z5 z6 z7
      intro wE hE hbE hoE
      have HAE := Lib.hid hE
      have HYE := Lib.hid (HY.out.below (Nat.lt_succ_self _) (hbE _ (Nat.le_refl _)))
      have HCE := Lib.hid (HC.out.same (hoE _ (by omega)))
      have HPE := Lib.hid (HP.out.same (hoE _ HN1.out))
      have HBE := Lib.hid (HB.out.trans (hbE _ (Nat.le_succ _)))
      clear hE hbE hoE HY HA HC HP HX HB HBR
      have z0 := HPE.out.c0
      have z1 := HPE.out.c1
      have z2 := HPE.out.c2
      have z3 := HPE.out.c3
      have z4 := HPE.out.c4
      have z5 := HPE.out.c5
      have z6 := HPE.out.c6
      have z7 := HPE.out.c7
      go_wp2_with (refine wpList_store_over (by rfl) (.tmp 6) (.tmp 103) (by rfl) (w.heap.size + 2) _ xb (by rfl) (by rfl) HCE.out ?_)
      clear z0 z1 z2 z3 z4 z5 z6 z7
      intro wF hE hbE hoE
      have HCF := Lib.hid hE
      have HYF := Lib.hid (HYE.out.below (show w.heap.size < w.heap.size + 2 by omega) (hbE _ (Nat.le_refl _)))
      have HAF := Lib.hid (HAE.out.same (hoE _ (by omega)))
      have HBF := Lib.hid (HBE.out.trans (hbE _ (show w.heap.size ≤ w.heap.size + 2 by omega)))
      clear hE hbE hoE HYE HAE HCE HPE HBE
      go_wp2
      go_roundw
      case rel => exact ⟨k + 1, c + ca, xa, xb, by have := HK.out; omega, by go_num, rfl, rfl, ⟨by have := HCC.out; have := HFB.out; omega, by have := HCC.out; have := HFB.out; omega⟩, HQ2.out, HYF.out, HAF.out, HCF.out, HBF.out⟩
      case measure => have := HK.out; simp [intOf]; omega

set_option maxRecDepth 100000 in
theorem lifted (os : Os) (started : os.Started) (H : Type) (enc : TypeId × Value → H) :
    ReturnsInHanded {} Try.checked os 24 .any (Rows.relaxWaysSpec.pre6 enc Try.prog Try.f24 Rows.relaxWaysRow.domain false) (Rows.relaxWaysSpec.post enc Try.prog Try.f24 false true false false) := by
  refine returnsInHanded_of_change (C := Try.checked) own started (by kernel_rfl) Try.func24
    (ChangeSpec.witness6 (enc := enc) (C := Try.checked) false ⟨#[], #[.agg #[.int .i64 0, .int .i64 0, .int .i64 0, .slice none 0 0], .agg #[.int .i64 0, .int .i64 0, .int .i64 0, .int .i64 0, .int .i64 0, .int .u64 0, .int .u64 0, .int .u64 0], .agg #[.int .i64 0, .int .i64 0, .int .i64 0, .int .i64 0, .int .i64 0, .int .u64 0, .int .u64 0, .int .u64 0], .slice none 0 0], []⟩ 8 (by kernel_rfl) (by kernel_rfl) (by kernel_rfl) (by kernel_rfl)) ?_
  intro W base args ds gs before hval0 hW hcnd _
  have hval : ∀ (j : Nat) t v, Try.f24.params[j]? = some t → args[j]? = some v → Value.okWide Try.prog W .any base t v := hval0
  have hW' := hW
  obtain ⟨p, q, hA0, hV, rfl, hfz, hnd⟩ := hW
  have hA : DataW.TrodAll enc Try.prog W 0 (fun _ => true) true Try.f24.params.toList args.toList ds p := hA0
  rw [Try.params24] at hA hval
  obtain ⟨v0, vs0, d0, ds0, p0, q0, hargs, rfl, rfl, h0, r0⟩ := trodAll_cons hA
  obtain ⟨v1, vs1, d1, ds1, p1, q1, rfl, rfl, rfl, h1, r1⟩ := trodAll_cons r0
  obtain ⟨v2, vs2, d2, ds2, p2, q2, rfl, rfl, rfl, h2, r2⟩ := trodAll_cons r1
  obtain ⟨v3, vs3, d3, ds3, p3, q3, rfl, rfl, rfl, h3, r3⟩ := trodAll_cons r2
  obtain ⟨rfl, rfl, rfl⟩ := trodAll_nil r3
  obtain rfl : args = #[v0, v1, v2, v3] := by cases args; simp_all
  obtain ⟨rfl, rfl⟩ := trodVars_none hV
  have k0 := h0
  have lt0 : ∀ x ∈ p0, x.block < W.heap.size := by obtain ⟨m, hm⟩ := k0; exact DataW.trod_lt m _ _ _ hm
  have k1 := h1
  have lt1 : ∀ x ∈ p1, x.block < W.heap.size := by obtain ⟨m, hm⟩ := k1; exact DataW.trod_lt m _ _ _ hm
  have k2 := h2
  have lt2 : ∀ x ∈ p2, x.block < W.heap.size := by obtain ⟨m, hm⟩ := k2; exact DataW.trod_lt m _ _ _ hm
  have k3 := h3
  have lt3 : ∀ x ∈ p3, x.block < W.heap.size := by obtain ⟨m, hm⟩ := k3; exact DataW.trod_lt m _ _ _ hm
  obtain ⟨I0, u0, rfl, e0, _⟩ := open_inst (hval 0 26 v0 rfl rfl) h0
  obtain ⟨s1, rfl, _, e1⟩ := open_state (hval 1 55 v1 rfl rfl) h1
  obtain ⟨s2, rfl, _, e2⟩ := open_state (hval 2 55 v2 rfl rfl) h2
  obtain ⟨a3, len3, cap3, rfl⟩ := okWide_slice Try.underlying32 (hval 3 32 v3 rfl rfl)
  obtain ⟨l3, e3, _⟩ := uopen_row h3
  clear hA0 hval0
  refine (walk I0 _ s1 s2 _ l3 W e0 e1 e2 e3).mono fun e W' ⟨he, bel⟩ => ?_
  subst he
  exact ⟨_, rfl, _, _, _, [], _, [], hW', trodAll_mk1 (shut_bool Try.underlying4 _), (trodAll_cons_mk (Below.trod laidOut (by kernel_rfl) (of_decide_eq_true (by kernel_rfl)) k0 bel lt0) (trodAll_cons_mk (Below.trod laidOut (by kernel_rfl) (of_decide_eq_true (by kernel_rfl)) k1 bel lt1) (trodAll_cons_mk (Below.trod laidOut (by kernel_rfl) (of_decide_eq_true (by kernel_rfl)) k2 bel lt2) (trodAll_cons_mk (Below.trod laidOut (by kernel_rfl) (of_decide_eq_true (by kernel_rfl)) k3 bel lt3) trodAll_mk0)))), rfl, bel.frame _, fun h => by cases h⟩

theorem over : Rows.relaxWaysRow.holds Try.pinned (OpenSpec.ofChange Rows.relaxWaysSpec) :=
  OpenClaim.holds_of_wide 24 Try.f24 rfl rfl rfl rfl rfl rfl rfl ⟨rfl, rfl, rfl, rfl, rfl⟩ rfl rfl rfl rfl rfl (by kernel_rfl) Try.func24 (by show joinedFacts Try.checked.prog _ _ _ _ = true; unfold joinedFacts; rw [ord_may, ord_lifts, ord_make]; kernel_rfl)
    (of_decide_eq_true (by kernel_rfl)) (by unfold Func.isWrapper; first | (rw [if_pos (by decide +kernel)]; kernel_rfl) | (rw [if_neg (by decide +kernel)]; exact ⟨rfl, rfl⟩))
    (fun os started H enc _ => lifted os started H enc)

theorem proved : Rows.RelaxWaysSaid := over
#print axioms proved
end Go.Proofs.Ytpgbbnmflnhlbaa.relaxWays
