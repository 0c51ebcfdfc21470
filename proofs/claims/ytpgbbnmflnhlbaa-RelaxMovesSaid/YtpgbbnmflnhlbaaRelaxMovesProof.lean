/- RelaxMoves holds for all instances and states: what covers a state can make each of its moves, for as much, and is left covering; no condition beyond what the statement gives. -/
import Derived.Test.YtpgbbnmflnhlbaaOrd
import Derived.Test.YtpgbbnmflnhlbaaRows
import Derived.Test.YtpgbbnmflnhlbaaXR3
import Derived.Test.YtpgbbnmflnhlbaaXSDoc
import Derived.Test.YtpgbbnmflnhlbaaXSNext
namespace Go.Proofs.Ytpgbbnmflnhlbaa.relaxMoves
open Go.ChangeShapes Go.WideShapes Go.ChangeAt Go.RowKit

theorem moves_can {I : Ins} {s : Sta} {k : Nat} (h : k < (movesS I s).length) : Can I s ((movesS I s).getD k 0) := by
  have hm : (movesS I s).getD k 0 ∈ movesS I s := by
    rw [List.getD_eq_getElem?_getD, List.getElem?_eq_getElem h]
    exact List.getElem_mem h
  generalize (movesS I s).getD k 0 = j at *
  unfold movesS movesN at hm
  exact of_decide_eq_true (List.mem_filter.1 hm).2
theorem boxes_ist (w : World) (I : Ins) (v : Value) (s t : Sta) : YBox (((w.alloc (boxI I v)).alloc (boxSt s)).alloc (boxSt t)) w.heap.size I v ∧ StB (((w.alloc (boxI I v)).alloc (boxSt s)).alloc (boxSt t)) (w.heap.size + 1) s ∧
    StB (((w.alloc (boxI I v)).alloc (boxSt s)).alloc (boxSt t)) (w.heap.size + 2) t ∧ Below w.heap.size w (((w.alloc (boxI I v)).alloc (boxSt s)).alloc (boxSt t)) := by
  obtain ⟨h1, h2, h3⟩ := boxes_two w I v s
  have e1 : ((w.alloc (boxI I v)).alloc (boxSt s)).heap.size = w.heap.size + 2 := by simp
  have a3 := st_new ((w.alloc (boxI I v)).alloc (boxSt s)) t
  rw [e1] at a3
  exact ⟨h1.later ((Below.refl _ _).alloc (Nat.le_refl _) _), h2.later ((Below.refl _ _).alloc (Nat.le_refl _) _), a3, h3.alloc h3.size _⟩
set_option maxRecDepth 1000000 in
set_option maxHeartbeats 4000000 in
theorem walk (I0 : Ins) (v0 : Value) (s1 : Sta) (s2 : Sta) (w : World) (e0 : SRow w v0 I0.l) (e1 : SetsOk s1) (e2 : SetsOk s2) :
    Calls Try.prog 23 #[insV I0 v0, staV s1, staV s2] w fun e w' => e = .returned (.bool true) ∧ Below w.heap.size w w' := by
  have HR := Lib.hid e0
  have H1 := Lib.hid e1
  have H2 := Lib.hid e2
  obtain ⟨ad, cap, rfl, hlm, _⟩ := e0.form
  clear e0 e1 e2
  unfold insV staV
  go_enter Try.func23, Try.ntmps23
  go_upto_region 1 with fail
  obtain ⟨k1, k2, k3, k4⟩ := boxes_ist w I0 (.slice ad I0.l.length cap) s1 s2
  have HY := Lib.hid k1
  have HA := Lib.hid k2
  have HC := Lib.hid k3
  have HB := Lib.hid k4
  clear k1 k2 k3 k4
  change Code.wp _ _ _ _ (((w.alloc (boxI I0 (.slice ad I0.l.length cap))).alloc (boxSt s1)).alloc (boxSt s2))
  generalize ((w.alloc (boxI I0 (.slice ad I0.l.length cap))).alloc (boxSt s1)).alloc (boxSt s2) = W at *
  go_wp2_with fail
  refine (xawake_any _).mono ?_
  rintro e w1 ⟨rfl, hb⟩
  have HYn := Lib.hid (HY.out.later hb)
  have HAn := Lib.hid (HA.out.later hb)
  have HCn := Lib.hid (HC.out.later hb)
  have HBn := Lib.hid (HB.out.trans (hb.mono HB.out.size))
  clear hb HY HA HC HB
  have HY := HYn
  have HA := HAn
  have HC := HCn
  have HB := HBn
  clear HYn HAn HCn HBn
  have y3 := HY.out.cells.2.2.2
  by_cases g1 : 100 < I0.l.length
  · have d1 : decide (100 < (I0.l.length : Int)) = true := decide_eq_true (by omega)
    have d2 := decide_eq_true g1
    clear g1
    go_wp2
    go_ret
    exact ⟨rfl, HB.out⟩
  have d1 : decide (100 < (I0.l.length : Int)) = false := decide_eq_false (by omega)
  have d2 := decide_eq_false g1
  have HG1 := Lib.hid g1
  clear g1
  have x0 := HA.out.c0
  have x1 := HA.out.c1
  have x2 := HA.out.c2
  have x3 := HA.out.c3
  have x4 := HA.out.c4
  have x5 := HA.out.c5
  have x6 := HA.out.c6
  have x7 := HA.out.c7
  have z0 := HC.out.c0
  have z1 := HC.out.c1
  have z2 := HC.out.c2
  have z3 := HC.out.c3
  have z4 := HC.out.c4
  have z5 := HC.out.c5
  have z6 := HC.out.c6
  have z7 := HC.out.c7
  go_wp2_with fail
  change Calls _ _ #[staV s1, staV s2] _ _
  refine (covers_any _ H1.out H2.out).mono ?_
  clear x0 x1 x2 x3 x4 x5 x6 x7 z0 z1 z2 z3 z4 z5 z6 z7
  clear y3
  rintro e w2 ⟨rfl, hb⟩
  have HYn := Lib.hid (HY.out.later hb)
  have HAn := Lib.hid (HA.out.later hb)
  have HCn := Lib.hid (HC.out.later hb)
  have HBn := Lib.hid (HB.out.trans (hb.mono HB.out.size))
  clear hb HY HA HC HB
  have HY := HYn
  have HA := HAn
  have HC := HCn
  have HB := HBn
  clear HYn HAn HCn HBn
  by_cases hcv : Covers s1 s2
  rotate_left
  · rw [decide_eq_false hcv]
    clear hcv
    go_wp2
    go_ret
    exact ⟨rfl, HB.out⟩
  rw [decide_eq_true hcv]
  have HCV := Lib.hid hcv
  clear hcv
  have x0 := HA.out.c0
  have x1 := HA.out.c1
  have x2 := HA.out.c2
  have x3 := HA.out.c3
  have x4 := HA.out.c4
  have x5 := HA.out.c5
  have x6 := HA.out.c6
  have x7 := HA.out.c7
  by_cases n0 : s1.car < 1
  · have m0 := decide_eq_true n0
    clear n0
    go_wp2
    go_ret
    exact ⟨rfl, HB.out⟩
  have m0 := decide_eq_false n0
  by_cases n1 : s1.time < 0
  · have m1 := decide_eq_true n1
    clear n1
    go_wp2
    go_ret
    exact ⟨rfl, HB.out⟩
  have m1 := decide_eq_false n1
  by_cases n2 : s1.load < 0
  · have m2 := decide_eq_true n2
    clear n2
    go_wp2
    go_ret
    exact ⟨rfl, HB.out⟩
  have m2 := decide_eq_false n2
  have HNM := Lib.hid (show NumOk s1 from ⟨by omega, by omega, by omega⟩)
  clear n0 n1 n2
  obtain ⟨y0, y1, y2, y3⟩ := HY.out.cells
  have z0 := HC.out.c0
  have z1 := HC.out.c1
  have z2 := HC.out.c2
  have z3 := HC.out.c3
  have z4 := HC.out.c4
  have z5 := HC.out.c5
  have z6 := HC.out.c6
  have z7 := HC.out.c7
  go_wp2_with fail
  clear y0 y1 y2 y3 m0 m1 m2 d1 d2
  clear x0 x1 x2 x3 x4 x5 x6 x7 z0 z1 z2 z3 z4 z5 z6 z7
  change Calls _ _ #[insV I0 (.slice ad I0.l.length cap), staV s2] _ _
  refine (smoves_any (HR.out.below HB.out) H2.out).mono ?_
  rintro e w3 ⟨u, rfl, hu, hb⟩
  have HO := Lib.hid (hu.less HB.out.size)
  clear hu
  have HYn := Lib.hid (HY.out.later hb)
  have HAn := Lib.hid (HA.out.later hb)
  have HCn := Lib.hid (HC.out.later hb)
  have HBn := Lib.hid (HB.out.trans (hb.mono HB.out.size))
  clear hb HY HA HC HB
  have HY := HYn
  have HA := HAn
  have HC := HCn
  have HB := HBn
  clear HYn HAn HCn HBn
  have HMC := Lib.hid (fun k => moves_can (I := I0) (s := s2) (k := k))
  generalize movesS I0 s2 = L at *
  obtain ⟨ua, uc, rfl⟩ := HO.out.shape
  have hrl := HO.out.row.form
  obtain ⟨_, _, -, hll⟩ := hrl
  rw [ints_len] at hll
  unfold maxLen at hll
  go_wp2_with fail
  go_loopw [9] (fun i wr => ∃ k : Nat, k ≤ L.length ∧ i = .int .i64 k ∧ YBox wr w.heap.size I0 (.slice ad I0.l.length cap) ∧ StB wr (w.heap.size + 1) s1 ∧ StB wr (w.heap.size + 2) s2 ∧ OwnI wr w.heap.size (.slice ua L.length uc) L ∧ Below w.heap.size w wr) (fun i _ => L.length - (intOf i).toNat)
  case atStart => exact ⟨0, Nat.zero_le _, rfl, HY.out, HA.out, HC.out, HO.out, HB.out⟩
  case round =>
    obtain ⟨k, hk, rfl, hy, ha, hc, ho, hb⟩ := hrel
    clear HY HA HC HO HB
    have HY := Lib.hid hy
    have HA := Lib.hid ha
    have HC := Lib.hid hc
    have HO := Lib.hid ho
    have HB := Lib.hid hb
    clear hy ha hc ho hb
    by_cases hlt : k < L.length
    rotate_left
    · obtain rfl : k = L.length := by omega
      clear hlt hk
      obtain ⟨y0, y1, y2, y3⟩ := HY.out.cells
      have x0 := HA.out.c0
      have x1 := HA.out.c1
      have x2 := HA.out.c2
      have x3 := HA.out.c3
      have x4 := HA.out.c4
      have x5 := HA.out.c5
      have x6 := HA.out.c6
      have x7 := HA.out.c7
      go_wp2_with fail
      clear y0 y1 y2 y3
      clear x0 x1 x2 x3 x4 x5 x6 x7
      change Calls _ _ #[insV I0 (.slice ad I0.l.length cap), staV s1] _ _
      refine (send_any (HR.out.below HB.out) H1.out).mono ?_
      rintro e w4 ⟨rfl, hb⟩
      have HYn := Lib.hid (HY.out.later hb)
      have HAn := Lib.hid (HA.out.later hb)
      have HCn := Lib.hid (HC.out.later hb)
      have HBn := Lib.hid (HB.out.trans (hb.mono HB.out.size))
      clear hb HY HA HC HB
      have HY := HYn
      have HA := HAn
      have HC := HCn
      have HB := HBn
      clear HYn HAn HCn HBn
      obtain ⟨y0, y1, y2, y3⟩ := HY.out.cells
      have z0 := HC.out.c0
      have z1 := HC.out.c1
      have z2 := HC.out.c2
      have z3 := HC.out.c3
      have z4 := HC.out.c4
      have z5 := HC.out.c5
      have z6 := HC.out.c6
      have z7 := HC.out.c7
      go_wp2_with fail
      clear y0 y1 y2 y3
      clear z0 z1 z2 z3 z4 z5 z6 z7
      change Calls _ _ #[insV I0 (.slice ad I0.l.length cap), staV s2] _ _
      refine (send_any (HR.out.below HB.out) H2.out).mono ?_
      rintro e w5 ⟨rfl, hb⟩
      have HYn := Lib.hid (HY.out.later hb)
      have HAn := Lib.hid (HA.out.later hb)
      have HCn := Lib.hid (HC.out.later hb)
      have HBn := Lib.hid (HB.out.trans (hb.mono HB.out.size))
      clear hb HY HA HC HB
      have HY := HYn
      have HA := HAn
      have HC := HCn
      have HB := HBn
      clear HYn HAn HCn HBn
      by_cases he2 : EndS I0 s2
      rotate_left
      · rw [decide_eq_false he2]
        clear he2
        go_wp2
        go_ret
        exact ⟨rfl, HB.out⟩
      rw [decide_eq_true he2]
      have y0 := HY.out.cells.1
      by_cases hp0 : I0.p = 0
      · have b0 : (I0.p == 0) = true := by simp [hp0]
        clear he2 hp0
        by_cases he1 : EndS I0 s1
        · rw [decide_eq_true he1]
          clear he1
          by_cases hee : endC I0 s1 = endC I0 s2
          · have b1 : (endC I0 s1 == endC I0 s2) = true := by simp [hee]
            clear hee
            go_wp2
            go_ret
            exact ⟨rfl, HB.out⟩
          · have b1 : (endC I0 s1 == endC I0 s2) = false := by simp [hee]
            clear hee
            go_wp2
            go_ret
            exact ⟨rfl, HB.out⟩
        · rw [decide_eq_false he1]
          clear he1
          go_wp2
          go_ret
          exact ⟨rfl, HB.out⟩
      · obtain ⟨h1, h2⟩ := covers_end (fits_of H1.out) (fits_of H2.out) HCV.out HNM.out hp0 he2
        rw [decide_eq_true h1, h2]
        clear h1 h2 he2 hp0
        have b1 : (endC I0 s2 == endC I0 s2) = true := by simp
        go_wp2
        go_ret
        exact ⟨rfl, HB.out⟩
    have HK := Lib.hid hlt
    have hcb := HMC.out k hlt
    obtain ⟨b1, o1, c1, he1, hc1, -, hb1⟩ := row_at (p := k) HO.out.row (by rw [ints_len]; exact hlt)
    rw [ints_at _ k hlt] at hc1
    simp only [ints_len, Value.slice.injEq, true_and] at he1
    obtain ⟨rfl, rfl⟩ := he1
    obtain ⟨j, hj⟩ : ∃ j, j = L.getD k 0 := ⟨_, rfl⟩
    rw [← hj] at hcb hc1
    clear hj
    have hca := covers_can (fits_of H1.out) (fits_of H2.out) HCV.out HNM.out hcb
    have hcn := covers_next (I := I0) (fits_of H1.out) (fits_of H2.out) HCV.out j
    have hcc := (covers_beg (I := I0) HCV.out j).2.2
    have hma := move_yes hca
    have hmb := move_yes hcb
    have hsa := of_fits (fits_next (I := I0) (fits_of H1.out) j)
    have hsb := of_fits (fits_next (I := I0) (fits_of H2.out) j)
    generalize nextS I0 s1 j = qa at *
    generalize nextS I0 s2 j = qb at *
    rw [hcc] at hma
    clear hcc
    generalize farS1 I0 s2 j = cc at *
    have HMA := Lib.hid hma
    have HMB := Lib.hid hmb
    have HCA := Lib.hid (decide_eq_true hca)
    have HCB := Lib.hid (decide_eq_true hcb)
    have HCN := Lib.hid (decide_eq_true hcn)
    have HSA := Lib.hid hsa
    have HSB := Lib.hid hsb
    have HC1 := Lib.hid (show ∀ w', Below wr.heap.size wr w' → w'.cell? ⟨b1, o1 + k, none⟩ = some (.int .i64 j) from fun w' hb' => (hb'.cell (p := ⟨b1, o1 + k, none⟩) hb1).trans hc1)
    have HB1 := Lib.hid hb1
    clear hma hmb hca hcb hcn hsa hsb hc1 hb1
    have hki : (k : Int) < (L.length : Int) := by omega
    have HBR := Lib.hid (Below.refl wr.heap.size wr)
    clear hk hlt
    go_upto_region 8 with fail
    go_cut [10, 11, 12] from 60 to 98 (fun p c e wx => ∃ bm, p = .pointer (some ⟨bm, 0, none⟩) ∧ c = .int .i64 cc ∧ e = .bool true ∧ StB wx bm qa ∧ YBox wx w.heap.size I0 (.slice ad I0.l.length cap) ∧ StB wx (w.heap.size + 1) s1 ∧ StB wx (w.heap.size + 2) s2 ∧ OwnI wx w.heap.size (.slice (some ⟨b1, o1, none⟩) L.length uc) L ∧ Below w.heap.size w wx ∧ Below wr.heap.size wr wx)
    case first =>
      have HBRd := Lib.hid HBR.out.drew
      have HYn := Lib.hid (HY.out.later (Below.refl _ wr).drew)
      have HAn := Lib.hid (HA.out.later (Below.refl _ wr).drew)
      have HCn := Lib.hid (HC.out.later (Below.refl _ wr).drew)
      have HOn := Lib.hid (HO.out.below (Below.refl _ wr).drew)
      have HBn := Lib.hid HB.out.drew
      clear HY HA HC HO HB
      have HY := HYn
      have HA := HAn
      have HC := HCn
      have HO := HOn
      have HB := HBn
      clear HYn HAn HCn HOn HBn
      have HS0 := Lib.hid (show Holds (cellsI w.heap.size I0 (.slice ad I0.l.length cap) ++ (cellsSt (w.heap.size + 1) s1 ++ [((⟨b1, o1 + k, none⟩ : Addr), (.int .i64 j : Value))])) wr.drew from (Holds.app.2 ⟨⟨HY.out.cells.1, HY.out.cells.2.1, HY.out.cells.2.2.1, HY.out.cells.2.2.2, trivial⟩, (Holds.app.2 ⟨HA.out.holds, ⟨HC1.out _ HBRd.out, trivial⟩⟩)⟩))
      refine wp_region_held_drew (S := Holds (cellsI w.heap.size I0 (.slice ad I0.l.length cap) ++ (cellsSt (w.heap.size + 1) s1 ++ [((⟨b1, o1 + k, none⟩ : Addr), (.int .i64 j : Value))]))) (by kernel_rfl) HS0.out (fun hSn => ?_)
      generalize wr.drew = V at *
      have hlt := Lib.hid (show Lows V.heap.size (cellsI w.heap.size I0 (.slice ad I0.l.length cap) ++ (cellsSt (w.heap.size + 1) s1 ++ [((⟨b1, o1 + k, none⟩ : Addr), (.int .i64 j : Value))])) from (Lows.app (show Lows _ (cellsI w.heap.size I0 (.slice ad I0.l.length cap)) from ⟨HY.out.lt, HY.out.lt, HY.out.lt, HY.out.lt, trivial⟩) (Lows.app (lows_St HA.out.lt) ⟨Nat.lt_of_lt_of_le HB1.out HBRd.out.size, trivial⟩)))
      have Bc := Lib.hid (Below.refl V.heap.size V)
      simp only [cellsI, cellsSt, List.cons_append, List.nil_append] at HS0 hlt hSn ⊢
      refine tks [0, 1, 2, 3, 4, 5] 6 rfl (by kernel_rfl) (fun _ _ _ _ h => h) (by assumption) (fun KT hKT => ?_)
      iterate 6 (refine tkT (by (simp only [gA, gB, gC]; rfl)) (by rfl) (by (intro w hSw; (simp only [Holds] at hSw); go_simp <;> with_reducible rfl)) ?_; simp only [Act.put, pA, pB, pC])
      refine hKT _ ?_
      clear KT hKT
      refine wpAnyH_ready (rs := [6, 11]) (by kernel_rfl) (by simp) ?_
      refine (AllReadyH.cons (o := ?oz306) ?iz306 (fun K hK => ?kz306) (AllReadyH.cons (o := ?oz307) ?iz307 (fun K hK => ?kz307) AllReadyH.nil))
      case iz306 => (simp only [List.getElem?_toArray, List.getElem?_cons_zero, List.getElem?_cons_succ]; rfl)
      case iz307 => (simp only [List.getElem?_toArray, List.getElem?_cons_zero, List.getElem?_cons_succ]; rfl)
      · skip
        go_simp
        change Calls _ _ #[insV I0 (.slice ad I0.l.length cap), staV s1, .int .i64 j] _ _
        have BCUR := Lib.hid (HB.out.trans (Bc.out.mono HB.out.size))
        refine (smove_any (HR.out.below BCUR.out) H1.out).mono ?_
        clear BCUR
        rintro e w7 ⟨rfl, hb⟩
        rw [HMA.out.1, HMA.out.2.1, HCA.out]
        rw [show staV qa = .agg #[.int .i64 qa.pos, .int .i64 qa.car, .int .i64 qa.time, .int .i64 qa.load, .int .i64 qa.first, .int .u64 qa.must, .int .u64 qa.may, .int .u64 qa.on] from rfl]
        refine held_more hK HS0.out hlt (Bc.out.trans (hb.mono Bc.out.size)) (fun Bc hSn => ?_)
        clear hb hK
        refine tks [7, 8, 9, 10] 4 rfl (by kernel_rfl) (fun _ _ _ _ h => h) (by assumption) (fun KT hKT => ?_)
        iterate 4 (refine tkT (by (simp only [gA, gB, gC]; rfl)) (by rfl) (by (intro w hSw; (simp only [Holds] at hSw); go_simp <;> with_reducible rfl)) ?_; simp only [Act.put, pA, pB, pC])
        refine hKT _ ?_
        clear KT hKT
        have HSZ := Lib.hid Bc.out.size
        refine wpAnyH_ready (rs := [11]) (by kernel_rfl) (by simp) ?_
        refine AllReadyH.cons (o := ?oz308) ?iz308 (fun K hK => ?kz308) AllReadyH.nil
        case iz308 => (simp only [List.getElem?_toArray, List.getElem?_cons_zero, List.getElem?_cons_succ]; rfl)
        go_simp
        refine held_more hK HS0.out hlt (Bc.out.alloc Bc.out.size _) (fun Bc hSn => ?_)
        have HN := Lib.hid (st_new w7 noughtS)
        change wpAnyH _ _ _ _ _ _ _ _ (w7.alloc (boxSt noughtS))
        have Bc2 := Lib.hid (show Below V.heap.size V (w7.alloc (boxSt noughtS)) from Bc.out)
        clear Bc
        have Bc := Bc2
        clear Bc2
        generalize w7.alloc (boxSt noughtS) = Xn at *
        obtain ⟨bm, hbm⟩ : ∃ bm, bm = w7.heap.size := ⟨_, rfl⟩
        have HLE := Lib.hid (show V.heap.size ≤ bm by rw [hbm]; exact HSZ.out)
        rw [← hbm] at HN ⊢
        clear hbm HSZ
        refine wpAnyH_ready (rs := [12]) (by kernel_rfl) (by simp) ?_
        refine (AllReadyH.cons (o := ?oz309) ?iz309 (fun K hK => ?kz309) AllReadyH.nil)
        case iz309 => (simp only [List.getElem?_toArray, List.getElem?_cons_zero, List.getElem?_cons_succ]; rfl)
        simp only [Act.put]
        rw [if_pos (by rfl)]
        refine wp_store_state (.tmp 10) (.tmp 68) (by rfl) bm _ qa (by rfl) (by rfl) HN.out ?_
        intro wE hE hbE
        refine held_more hK HS0.out hlt (Bc.out.trans (hbE _ HLE.out)) (fun Bc hSn => ?_)
        clear hK
        refine tks [13, 14] 2 rfl (by kernel_rfl) (fun _ _ _ _ h => h) (by assumption) (fun KT hKT => ?_)
        iterate 2 (refine tkT (by (simp only [gA, gB, gC]; rfl)) (by rfl) (by (intro w hSw; (simp only [Holds] at hSw); go_simp <;> with_reducible rfl)) ?_; simp only [Act.put, pA, pB, pC])
        refine hKT _ ?_
        clear KT hKT
        refine wpAnyH_done (by kernel_rfl) ?_ _
        go_wp2_with fail
        go_meet
        exact ⟨bm, rfl, rfl, rfl, hE, HY.out.later Bc.out, HA.out.later Bc.out, HC.out.later Bc.out, HO.out.below Bc.out, HB.out.trans (Bc.out.mono HB.out.size), HBRd.out.trans (Bc.out.mono HBRd.out.size)⟩
      · skip
        have HSZ := Lib.hid Bc.out.size
        go_simp
        refine held_more hK HS0.out hlt (Bc.out.alloc Bc.out.size _) (fun Bc hSn => ?_)
        clear hK
        have HN := Lib.hid (st_new V noughtS)
        change wpAnyH _ _ _ _ _ _ _ _ (V.alloc (boxSt noughtS))
        have Bc2 := Lib.hid (show Below V.heap.size V (V.alloc (boxSt noughtS)) from Bc.out)
        clear Bc
        have Bc := Bc2
        clear Bc2
        generalize V.alloc (boxSt noughtS) = Xn at *
        obtain ⟨bm, hbm⟩ : ∃ bm, bm = V.heap.size := ⟨_, rfl⟩
        have HLE := Lib.hid (show V.heap.size ≤ bm by rw [hbm]; exact HSZ.out)
        rw [← hbm] at HN ⊢
        clear hbm HSZ
        refine wpAnyH_ready (rs := [6]) (by kernel_rfl) (by simp) ?_
        refine AllReadyH.cons (o := ?oz310) ?iz310 (fun K hK => ?kz310) AllReadyH.nil
        case iz310 => (simp only [List.getElem?_toArray, List.getElem?_cons_zero, List.getElem?_cons_succ]; rfl)
        go_simp
        change Calls _ _ #[insV I0 (.slice ad I0.l.length cap), staV s1, .int .i64 j] _ _
        have BCUR := Lib.hid (HB.out.trans (Bc.out.mono HB.out.size))
        refine (smove_any (HR.out.below BCUR.out) H1.out).mono ?_
        clear BCUR
        rintro e w7 ⟨rfl, hb⟩
        have HNn := Lib.hid (HN.out.later hb)
        clear HN
        have HN := HNn
        clear HNn
        rw [HMA.out.1, HMA.out.2.1, HCA.out]
        rw [show staV qa = .agg #[.int .i64 qa.pos, .int .i64 qa.car, .int .i64 qa.time, .int .i64 qa.load, .int .i64 qa.first, .int .u64 qa.must, .int .u64 qa.may, .int .u64 qa.on] from rfl]
        refine held_more hK HS0.out hlt (Bc.out.trans (hb.mono Bc.out.size)) (fun Bc hSn => ?_)
        clear hb hK
        refine tks [7, 8, 9, 10] 4 rfl (by kernel_rfl) (fun _ _ _ _ h => h) (by assumption) (fun KT hKT => ?_)
        iterate 4 (refine tkT (by (simp only [gA, gB, gC]; rfl)) (by rfl) (by (intro w hSw; (simp only [Holds] at hSw); go_simp <;> with_reducible rfl)) ?_; simp only [Act.put, pA, pB, pC])
        refine hKT _ ?_
        clear KT hKT
        refine wpAnyH_ready (rs := [12]) (by kernel_rfl) (by simp) ?_
        refine (AllReadyH.cons (o := ?oz311) ?iz311 (fun K hK => ?kz311) AllReadyH.nil)
        case iz311 => (simp only [List.getElem?_toArray, List.getElem?_cons_zero, List.getElem?_cons_succ]; rfl)
        simp only [Act.put]
        rw [if_pos (by rfl)]
        refine wp_store_state (.tmp 10) (.tmp 68) (by rfl) bm _ qa (by rfl) (by rfl) HN.out ?_
        intro wE hE hbE
        refine held_more hK HS0.out hlt (Bc.out.trans (hbE _ HLE.out)) (fun Bc hSn => ?_)
        clear hK
        refine tks [13, 14] 2 rfl (by kernel_rfl) (fun _ _ _ _ h => h) (by assumption) (fun KT hKT => ?_)
        iterate 2 (refine tkT (by (simp only [gA, gB, gC]; rfl)) (by rfl) (by (intro w hSw; (simp only [Holds] at hSw); go_simp <;> with_reducible rfl)) ?_; simp only [Act.put, pA, pB, pC])
        refine hKT _ ?_
        clear KT hKT
        refine wpAnyH_done (by kernel_rfl) ?_ _
        go_wp2_with fail
        go_meet
        exact ⟨bm, rfl, rfl, rfl, hE, HY.out.later Bc.out, HA.out.later Bc.out, HC.out.later Bc.out, HO.out.below Bc.out, HB.out.trans (Bc.out.mono HB.out.size), HBRd.out.trans (Bc.out.mono HBRd.out.size)⟩
    case rest =>
    obtain ⟨bp, rfl, rfl, rfl, hn, fHY, fHA, fHC, fo, fb, fbr⟩ := hcut
    clear HY HA HC HO HB HBR
    have HY := Lib.hid fHY
    have HA := Lib.hid fHA
    have HC := Lib.hid fHC
    have HO := Lib.hid fo
    have HB := Lib.hid fb
    have HBR := Lib.hid fbr
    clear fo fb fbr fHY fHA fHC
    have HP := Lib.hid hn
    clear hn
    generalize wc = W8 at *
    go_upto_region 9 with fail
    go_cut [13, 14, 15] from 71 to 98 (fun p c e wx => ∃ bm, p = .pointer (some ⟨bm, 0, none⟩) ∧ c = .int .i64 cc ∧ e = .bool true ∧ StB wx bm qb ∧ YBox wx w.heap.size I0 (.slice ad I0.l.length cap) ∧ StB wx (w.heap.size + 1) s1 ∧ StB wx (w.heap.size + 2) s2 ∧ StB wx bp qa ∧ OwnI wx w.heap.size (.slice (some ⟨b1, o1, none⟩) L.length uc) L ∧ Below w.heap.size w wx ∧ Below wr.heap.size wr wx)
    case first =>
      have HBRd := Lib.hid HBR.out.drew
      have HYn := Lib.hid (HY.out.later (Below.refl _ W8).drew)
      have HAn := Lib.hid (HA.out.later (Below.refl _ W8).drew)
      have HCn := Lib.hid (HC.out.later (Below.refl _ W8).drew)
      have HPn := Lib.hid (HP.out.later (Below.refl _ W8).drew)
      have HOn := Lib.hid (HO.out.below (Below.refl _ W8).drew)
      have HBn := Lib.hid HB.out.drew
      clear HY HA HC HP HO HB
      have HY := HYn
      have HA := HAn
      have HC := HCn
      have HP := HPn
      have HO := HOn
      have HB := HBn
      clear HYn HAn HCn HPn HOn HBn
      have HS0 := Lib.hid (show Holds (cellsI w.heap.size I0 (.slice ad I0.l.length cap) ++ (cellsSt (w.heap.size + 2) s2 ++ [((⟨b1, o1 + k, none⟩ : Addr), (.int .i64 j : Value))])) W8.drew from (Holds.app.2 ⟨⟨HY.out.cells.1, HY.out.cells.2.1, HY.out.cells.2.2.1, HY.out.cells.2.2.2, trivial⟩, (Holds.app.2 ⟨HC.out.holds, ⟨HC1.out _ HBRd.out, trivial⟩⟩)⟩))
      refine wp_region_held_drew (S := Holds (cellsI w.heap.size I0 (.slice ad I0.l.length cap) ++ (cellsSt (w.heap.size + 2) s2 ++ [((⟨b1, o1 + k, none⟩ : Addr), (.int .i64 j : Value))]))) (by kernel_rfl) HS0.out (fun hSn => ?_)
      generalize W8.drew = V at *
      have hlt := Lib.hid (show Lows V.heap.size (cellsI w.heap.size I0 (.slice ad I0.l.length cap) ++ (cellsSt (w.heap.size + 2) s2 ++ [((⟨b1, o1 + k, none⟩ : Addr), (.int .i64 j : Value))])) from (Lows.app (show Lows _ (cellsI w.heap.size I0 (.slice ad I0.l.length cap)) from ⟨HY.out.lt, HY.out.lt, HY.out.lt, HY.out.lt, trivial⟩) (Lows.app (lows_St HC.out.lt) ⟨Nat.lt_of_lt_of_le HB1.out HBRd.out.size, trivial⟩)))
      have Bc := Lib.hid (Below.refl V.heap.size V)
      simp only [cellsI, cellsSt, List.cons_append, List.nil_append] at HS0 hlt hSn ⊢
      refine tks [0, 1, 2, 3, 4, 5] 6 rfl (by kernel_rfl) (fun _ _ _ _ h => h) (by assumption) (fun KT hKT => ?_)
      iterate 6 (refine tkT (by (simp only [gA, gB, gC]; rfl)) (by rfl) (by (intro w hSw; (simp only [Holds] at hSw); go_simp <;> with_reducible rfl)) ?_; simp only [Act.put, pA, pB, pC])
      refine hKT _ ?_
      clear KT hKT
      refine wpAnyH_ready (rs := [6, 11]) (by kernel_rfl) (by simp) ?_
      refine (AllReadyH.cons (o := ?oz312) ?iz312 (fun K hK => ?kz312) (AllReadyH.cons (o := ?oz313) ?iz313 (fun K hK => ?kz313) AllReadyH.nil))
      case iz312 => (simp only [List.getElem?_toArray, List.getElem?_cons_zero, List.getElem?_cons_succ]; rfl)
      case iz313 => (simp only [List.getElem?_toArray, List.getElem?_cons_zero, List.getElem?_cons_succ]; rfl)
      · skip
        go_simp
        change Calls _ _ #[insV I0 (.slice ad I0.l.length cap), staV s2, .int .i64 j] _ _
        have BCUR := Lib.hid (HB.out.trans (Bc.out.mono HB.out.size))
        refine (smove_any (HR.out.below BCUR.out) H2.out).mono ?_
        clear BCUR
        rintro e w7 ⟨rfl, hb⟩
        rw [HMB.out.1, HMB.out.2.1, HCB.out]
        rw [show staV qb = .agg #[.int .i64 qb.pos, .int .i64 qb.car, .int .i64 qb.time, .int .i64 qb.load, .int .i64 qb.first, .int .u64 qb.must, .int .u64 qb.may, .int .u64 qb.on] from rfl]
        refine held_more hK HS0.out hlt (Bc.out.trans (hb.mono Bc.out.size)) (fun Bc hSn => ?_)
        clear hb hK
        refine tks [7, 8, 9, 10] 4 rfl (by kernel_rfl) (fun _ _ _ _ h => h) (by assumption) (fun KT hKT => ?_)
        iterate 4 (refine tkT (by (simp only [gA, gB, gC]; rfl)) (by rfl) (by (intro w hSw; (simp only [Holds] at hSw); go_simp <;> with_reducible rfl)) ?_; simp only [Act.put, pA, pB, pC])
        refine hKT _ ?_
        clear KT hKT
        have HSZ := Lib.hid Bc.out.size
        refine wpAnyH_ready (rs := [11]) (by kernel_rfl) (by simp) ?_
        refine AllReadyH.cons (o := ?oz314) ?iz314 (fun K hK => ?kz314) AllReadyH.nil
        case iz314 => (simp only [List.getElem?_toArray, List.getElem?_cons_zero, List.getElem?_cons_succ]; rfl)
        go_simp
        refine held_more hK HS0.out hlt (Bc.out.alloc Bc.out.size _) (fun Bc hSn => ?_)
        have HN := Lib.hid (st_new w7 noughtS)
        change wpAnyH _ _ _ _ _ _ _ _ (w7.alloc (boxSt noughtS))
        have Bc2 := Lib.hid (show Below V.heap.size V (w7.alloc (boxSt noughtS)) from Bc.out)
        clear Bc
        have Bc := Bc2
        clear Bc2
        generalize w7.alloc (boxSt noughtS) = Xn at *
        obtain ⟨bm, hbm⟩ : ∃ bm, bm = w7.heap.size := ⟨_, rfl⟩
        have HLE := Lib.hid (show V.heap.size ≤ bm by rw [hbm]; exact HSZ.out)
        rw [← hbm] at HN ⊢
        clear hbm HSZ
        refine wpAnyH_ready (rs := [12]) (by kernel_rfl) (by simp) ?_
        refine (AllReadyH.cons (o := ?oz315) ?iz315 (fun K hK => ?kz315) AllReadyH.nil)
        case iz315 => (simp only [List.getElem?_toArray, List.getElem?_cons_zero, List.getElem?_cons_succ]; rfl)
        simp only [Act.put]
        rw [if_pos (by rfl)]
        refine wp_store_state (.tmp 13) (.tmp 79) (by rfl) bm _ qb (by rfl) (by rfl) HN.out ?_
        intro wE hE hbE
        refine held_more hK HS0.out hlt (Bc.out.trans (hbE _ HLE.out)) (fun Bc hSn => ?_)
        clear hK
        refine tks [13, 14] 2 rfl (by kernel_rfl) (fun _ _ _ _ h => h) (by assumption) (fun KT hKT => ?_)
        iterate 2 (refine tkT (by (simp only [gA, gB, gC]; rfl)) (by rfl) (by (intro w hSw; (simp only [Holds] at hSw); go_simp <;> with_reducible rfl)) ?_; simp only [Act.put, pA, pB, pC])
        refine hKT _ ?_
        clear KT hKT
        refine wpAnyH_done (by kernel_rfl) ?_ _
        go_wp2_with fail
        go_meet
        exact ⟨bm, rfl, rfl, rfl, hE, HY.out.later Bc.out, HA.out.later Bc.out, HC.out.later Bc.out, HP.out.later Bc.out, HO.out.below Bc.out, HB.out.trans (Bc.out.mono HB.out.size), HBRd.out.trans (Bc.out.mono HBRd.out.size)⟩
      · skip
        have HSZ := Lib.hid Bc.out.size
        go_simp
        refine held_more hK HS0.out hlt (Bc.out.alloc Bc.out.size _) (fun Bc hSn => ?_)
        clear hK
        have HN := Lib.hid (st_new V noughtS)
        change wpAnyH _ _ _ _ _ _ _ _ (V.alloc (boxSt noughtS))
        have Bc2 := Lib.hid (show Below V.heap.size V (V.alloc (boxSt noughtS)) from Bc.out)
        clear Bc
        have Bc := Bc2
        clear Bc2
        generalize V.alloc (boxSt noughtS) = Xn at *
        obtain ⟨bm, hbm⟩ : ∃ bm, bm = V.heap.size := ⟨_, rfl⟩
        have HLE := Lib.hid (show V.heap.size ≤ bm by rw [hbm]; exact HSZ.out)
        rw [← hbm] at HN ⊢
        clear hbm HSZ
        refine wpAnyH_ready (rs := [6]) (by kernel_rfl) (by simp) ?_
        refine AllReadyH.cons (o := ?oz316) ?iz316 (fun K hK => ?kz316) AllReadyH.nil
        case iz316 => (simp only [List.getElem?_toArray, List.getElem?_cons_zero, List.getElem?_cons_succ]; rfl)
        go_simp
        change Calls _ _ #[insV I0 (.slice ad I0.l.length cap), staV s2, .int .i64 j] _ _
        have BCUR := Lib.hid (HB.out.trans (Bc.out.mono HB.out.size))
        refine (smove_any (HR.out.below BCUR.out) H2.out).mono ?_
        clear BCUR
        rintro e w7 ⟨rfl, hb⟩
        have HNn := Lib.hid (HN.out.later hb)
        clear HN
        have HN := HNn
        clear HNn
        rw [HMB.out.1, HMB.out.2.1, HCB.out]
        rw [show staV qb = .agg #[.int .i64 qb.pos, .int .i64 qb.car, .int .i64 qb.time, .int .i64 qb.load, .int .i64 qb.first, .int .u64 qb.must, .int .u64 qb.may, .int .u64 qb.on] from rfl]
        refine held_more hK HS0.out hlt (Bc.out.trans (hb.mono Bc.out.size)) (fun Bc hSn => ?_)
        clear hb hK
        refine tks [7, 8, 9, 10] 4 rfl (by kernel_rfl) (fun _ _ _ _ h => h) (by assumption) (fun KT hKT => ?_)
        iterate 4 (refine tkT (by (simp only [gA, gB, gC]; rfl)) (by rfl) (by (intro w hSw; (simp only [Holds] at hSw); go_simp <;> with_reducible rfl)) ?_; simp only [Act.put, pA, pB, pC])
        refine hKT _ ?_
        clear KT hKT
        refine wpAnyH_ready (rs := [12]) (by kernel_rfl) (by simp) ?_
        refine (AllReadyH.cons (o := ?oz317) ?iz317 (fun K hK => ?kz317) AllReadyH.nil)
        case iz317 => (simp only [List.getElem?_toArray, List.getElem?_cons_zero, List.getElem?_cons_succ]; rfl)
        simp only [Act.put]
        rw [if_pos (by rfl)]
        refine wp_store_state (.tmp 13) (.tmp 79) (by rfl) bm _ qb (by rfl) (by rfl) HN.out ?_
        intro wE hE hbE
        refine held_more hK HS0.out hlt (Bc.out.trans (hbE _ HLE.out)) (fun Bc hSn => ?_)
        clear hK
        refine tks [13, 14] 2 rfl (by kernel_rfl) (fun _ _ _ _ h => h) (by assumption) (fun KT hKT => ?_)
        iterate 2 (refine tkT (by (simp only [gA, gB, gC]; rfl)) (by rfl) (by (intro w hSw; (simp only [Holds] at hSw); go_simp <;> with_reducible rfl)) ?_; simp only [Act.put, pA, pB, pC])
        refine hKT _ ?_
        clear KT hKT
        refine wpAnyH_done (by kernel_rfl) ?_ _
        go_wp2_with fail
        go_meet
        exact ⟨bm, rfl, rfl, rfl, hE, HY.out.later Bc.out, HA.out.later Bc.out, HC.out.later Bc.out, HP.out.later Bc.out, HO.out.below Bc.out, HB.out.trans (Bc.out.mono HB.out.size), HBRd.out.trans (Bc.out.mono HBRd.out.size)⟩
    case rest =>
    obtain ⟨bq, rfl, rfl, rfl, hn, fHY, fHA, fHC, fHP, fo, fb, fbr⟩ := hcut
    clear HY HA HC HP HO HB HBR
    have HY := Lib.hid fHY
    have HA := Lib.hid fHA
    have HC := Lib.hid fHC
    have HP := Lib.hid fHP
    have HO := Lib.hid fo
    have HB := Lib.hid fb
    have HBR := Lib.hid fbr
    clear fo fb fbr fHY fHA fHC fHP
    have HQ := Lib.hid hn
    clear hn
    generalize wc = W9 at *
    have b9 : (cc != cc) = false := by simp
    have x0 := HP.out.c0
    have x1 := HP.out.c1
    have x2 := HP.out.c2
    have x3 := HP.out.c3
    have x4 := HP.out.c4
    have x5 := HP.out.c5
    have x6 := HP.out.c6
    have x7 := HP.out.c7
    have z0 := HQ.out.c0
    have z1 := HQ.out.c1
    have z2 := HQ.out.c2
    have z3 := HQ.out.c3
    have z4 := HQ.out.c4
    have z5 := HQ.out.c5
    have z6 := HQ.out.c6
    have z7 := HQ.out.c7
    go_wp2_with fail
    clear x0 x1 x2 x3 x4 x5 x6 x7 z0 z1 z2 z3 z4 z5 z6 z7
    change Calls _ _ #[staV qa, staV qb] _ _
    refine (covers_any _ HSA.out HSB.out).mono ?_
    rw [HCN.out]
    rintro e w10 ⟨rfl, hb⟩
    have HOn := Lib.hid (HO.out.below hb)
    clear HO
    have HO := HOn
    clear HOn
    have HYn := Lib.hid (HY.out.later hb)
    have HAn := Lib.hid (HA.out.later hb)
    have HCn := Lib.hid (HC.out.later hb)
    have HBn := Lib.hid (HB.out.trans (hb.mono HB.out.size))
    clear hb HY HA HC HB
    have HY := HYn
    have HA := HAn
    have HC := HCn
    have HB := HBn
    clear HYn HAn HCn HBn
    go_wp2
    go_roundw
    case rel => exact ⟨k + 1, by have := HK.out; omega, by go_num, HY.out, HA.out, HC.out, HO.out, HB.out⟩
    case measure => have := HK.out; simp [intOf]; omega

set_option maxRecDepth 100000 in
theorem lifted (os : Os) (started : os.Started) (H : Type) (enc : TypeId × Value → H) :
    ReturnsInHanded {} Try.checked os 23 .any (Rows.relaxMovesSpec.pre6 enc Try.prog Try.f23 Rows.relaxMovesRow.domain false) (Rows.relaxMovesSpec.post enc Try.prog Try.f23 false true false false) := by
  refine returnsInHanded_of_change (C := Try.checked) own started (by kernel_rfl) Try.func23
    (ChangeSpec.witness6 (enc := enc) (C := Try.checked) false ⟨#[], #[.agg #[.int .i64 0, .int .i64 0, .int .i64 0, .slice none 0 0], .agg #[.int .i64 0, .int .i64 0, .int .i64 0, .int .i64 0, .int .i64 0, .int .u64 0, .int .u64 0, .int .u64 0], .agg #[.int .i64 0, .int .i64 0, .int .i64 0, .int .i64 0, .int .i64 0, .int .u64 0, .int .u64 0, .int .u64 0]], []⟩ 8 (by kernel_rfl) (by kernel_rfl) (by kernel_rfl) (by kernel_rfl)) ?_
  intro W base args ds gs before hval0 hW hcnd _
  have hval : ∀ (j : Nat) t v, Try.f23.params[j]? = some t → args[j]? = some v → Value.okWide Try.prog W .any base t v := hval0
  have hW' := hW
  obtain ⟨p, q, hA0, hV, rfl, hfz, hnd⟩ := hW
  have hA : DataW.TrodAll enc Try.prog W 0 (fun _ => true) true Try.f23.params.toList args.toList ds p := hA0
  rw [Try.params23] at hA hval
  obtain ⟨v0, vs0, d0, ds0, p0, q0, hargs, rfl, rfl, h0, r0⟩ := trodAll_cons hA
  obtain ⟨v1, vs1, d1, ds1, p1, q1, rfl, rfl, rfl, h1, r1⟩ := trodAll_cons r0
  obtain ⟨v2, vs2, d2, ds2, p2, q2, rfl, rfl, rfl, h2, r2⟩ := trodAll_cons r1
  obtain ⟨rfl, rfl, rfl⟩ := trodAll_nil r2
  obtain rfl : args = #[v0, v1, v2] := by cases args; simp_all
  obtain ⟨rfl, rfl⟩ := trodVars_none hV
  have k0 := h0
  have lt0 : ∀ x ∈ p0, x.block < W.heap.size := by obtain ⟨m, hm⟩ := k0; exact DataW.trod_lt m _ _ _ hm
  have k1 := h1
  have lt1 : ∀ x ∈ p1, x.block < W.heap.size := by obtain ⟨m, hm⟩ := k1; exact DataW.trod_lt m _ _ _ hm
  have k2 := h2
  have lt2 : ∀ x ∈ p2, x.block < W.heap.size := by obtain ⟨m, hm⟩ := k2; exact DataW.trod_lt m _ _ _ hm
  obtain ⟨I0, u0, rfl, e0, _⟩ := open_inst (hval 0 26 v0 rfl rfl) h0
  obtain ⟨s1, rfl, _, e1⟩ := open_state (hval 1 55 v1 rfl rfl) h1
  obtain ⟨s2, rfl, _, e2⟩ := open_state (hval 2 55 v2 rfl rfl) h2
  clear hA0 hval0
  refine (walk I0 _ s1 s2 W e0 e1 e2).mono fun e W' ⟨he, bel⟩ => ?_
  subst he
  exact ⟨_, rfl, _, _, _, [], _, [], hW', trodAll_mk1 (shut_bool Try.underlying4 _), (trodAll_cons_mk (Below.trod laidOut (by kernel_rfl) (of_decide_eq_true (by kernel_rfl)) k0 bel lt0) (trodAll_cons_mk (Below.trod laidOut (by kernel_rfl) (of_decide_eq_true (by kernel_rfl)) k1 bel lt1) (trodAll_cons_mk (Below.trod laidOut (by kernel_rfl) (of_decide_eq_true (by kernel_rfl)) k2 bel lt2) trodAll_mk0))), rfl, bel.frame _, fun h => by cases h⟩

theorem over : Rows.relaxMovesRow.holds Try.pinned (OpenSpec.ofChange Rows.relaxMovesSpec) :=
  OpenClaim.holds_of_wide 23 Try.f23 rfl rfl rfl rfl rfl rfl rfl ⟨rfl, rfl, rfl, rfl, rfl⟩ rfl rfl rfl rfl rfl (by kernel_rfl) Try.func23 (by show joinedFacts Try.checked.prog _ _ _ _ = true; unfold joinedFacts; rw [ord_may, ord_lifts, ord_make]; kernel_rfl)
    (of_decide_eq_true (by kernel_rfl)) (by unfold Func.isWrapper; first | (rw [if_pos (by decide +kernel)]; kernel_rfl) | (rw [if_neg (by decide +kernel)]; exact ⟨rfl, rfl⟩))
    (fun os started H enc _ => lifted os started H enc)

theorem proved : Rows.RelaxMovesSaid := over
#print axioms proved
end Go.Proofs.Ytpgbbnmflnhlbaa.relaxMoves
