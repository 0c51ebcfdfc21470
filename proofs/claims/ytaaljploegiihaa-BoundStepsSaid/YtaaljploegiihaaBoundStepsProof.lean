/- From any state whose stop is the yard, or was surely seen, bound.At is not above what any move costs with what it is behind that, nor above what it costs to end: haulierlaw12.BoundSteps answers true. Condition: none. -/
import Derived.Test.YtaaljploegiihaaOrd
import Derived.Test.YtaaljploegiihaaRows
import Derived.Test.YtaaljploegiihaaBAwake
import Derived.Test.YtaaljploegiihaaYC
import Derived.Test.YtaaljploegiihaaXB
import Derived.Test.YtaaljploegiihaaYG
namespace Go.Proofs.Ytaaljploegiihaa.boundSteps
open Go.ChangeShapes Go.WideShapes Go.ChangeAt Go.RowKit

set_option maxRecDepth 1000000 in
set_option maxHeartbeats 4000000 in
theorem walk (I0 : Ins) (v0 : Value) (s1 : Sta) (w : World) (e0 : SRow w v0 I0.l) (e1 : SetsOk s1) :
    Calls Try.prog 4 #[insV I0 v0, staV s1] w fun e w' => e = .returned (.bool true) ∧ Below w.heap.size w w' := by
  have HR := Lib.hid e0
  have H1 := Lib.hid e1
  obtain ⟨ad, cap, rfl, hlm, _⟩ := e0.form
  clear e0 e1
  unfold insV staV
  go_enter Try.func4, Try.ntmps4
  go_upto_region 1 with fail
  obtain ⟨k1, k2, k3⟩ := boxes_is w I0 (.slice ad I0.l.length cap) s1
  have HY := Lib.hid k1
  have HA := Lib.hid k2
  have HB := Lib.hid k3
  clear k1 k2 k3
  change Code.wp _ _ _ _ ((w.alloc (boxI I0 (.slice ad I0.l.length cap))).alloc (boxSt s1))
  generalize (w.alloc (boxI I0 (.slice ad I0.l.length cap))).alloc (boxSt s1) = W at *
  go_wp2_with fail
  refine (bawake_any _).mono ?_
  rintro e w1 ⟨rfl, hb⟩
  have HYn := Lib.hid (HY.out.later hb)
  have HAn := Lib.hid (HA.out.later hb)
  have HBn := Lib.hid (HB.out.trans (hb.mono HB.out.size))
  clear hb HY HA HB
  have HY := HYn
  have HA := HAn
  have HB := HBn
  clear HYn HAn HBn
  go_upto_region 2 with fail
  generalize Value.agg #[.int .i64 s1.pos, .int .i64 s1.car, .int .i64 s1.time, .int .i64 s1.load, .int .i64 s1.first, .int .u64 s1.must, .int .u64 s1.may, .int .u64 s1.on] = sv
  go_cut [35] from 15 (fun g wx => ∃ gd : Bool, g = .bool gd ∧ (gd = false → s1.pos = 0 ∨ has s1.must s1.pos = true) ∧ wx = w1)
  case first =>
    have y3 := HY.out.cells.2.2.2
    have x0 := HA.out.c0
    have x5 := HA.out.c5
    by_cases g1 : 100 < I0.l.length
    · have d1 : decide (100 < (I0.l.length : Int)) = true := decide_eq_true (by omega)
      have d2 := decide_eq_true g1
      clear g1
      go_wp2_with fail
      go_meet
      exact ⟨true, rfl, (fun h => by cases h), rfl⟩
    have d1 : decide (100 < (I0.l.length : Int)) = false := decide_eq_false (by omega)
    have d2 := decide_eq_false g1
    clear g1
    by_cases hp : s1.pos = 0
    · have b0 : (s1.pos == 0) = true := by simp [hp]
      have HP := Lib.hid hp
      clear hp
      go_wp2_with fail
      go_meet
      exact ⟨false, rfl, fun _ => .inl HP.out, rfl⟩
    have b0 : (s1.pos == 0) = false := by simp [hp]
    have b1 : decide (s1.pos = 0) = false := decide_eq_false hp
    go_wp2_with fail
    refine (ehas_any s1.must _ _ H1.out.1).mono ?_
    rintro e w' ⟨rfl, rfl⟩
    by_cases hh : has s1.must s1.pos = true
    · rw [hh]
      have HH := Lib.hid hh
      clear hh
      go_wp2_with fail
      go_meet
      exact ⟨false, rfl, fun _ => .inr HH.out, rfl⟩
    · rw [show has s1.must s1.pos = false by simpa using hh]
      clear hh
      go_wp2_with fail
      go_meet
      exact ⟨true, by simp [hp], (fun h => by cases h), rfl⟩
  case rest =>
  obtain ⟨gd, rfl, hg, rfl⟩ := hcut
  cases gd with
  | true =>
    clear hg
    go_wp2
    go_ret
    exact ⟨rfl, HB.out⟩
  | false =>
  have HG := Lib.hid (hg rfl)
  clear hg
  obtain ⟨y0, y1, y2, y3⟩ := HY.out.cells
  have x0 := HA.out.c0
  have x1 := HA.out.c1
  have x2 := HA.out.c2
  have x3 := HA.out.c3
  have x4 := HA.out.c4
  have x5 := HA.out.c5
  have x6 := HA.out.c6
  have x7 := HA.out.c7
  go_wp2_with fail
  clear y0 y1 y2 y3
  clear x0 x1 x2 x3 x4 x5 x6 x7
  obtain ⟨n, hn⟩ : ∃ n, boundS I0 s1 = n := ⟨_, rfl⟩
  have HN := Lib.hid hn
  clear hn
  change Calls _ _ #[insV I0 (.slice ad I0.l.length cap), staV s1] _ _
  refine (bat_any (HR.out.below HB.out) H1.out).mono ?_
  rw [HN.out]
  rintro e w2 ⟨rfl, hb⟩
  have HYn := Lib.hid (HY.out.later hb)
  have HAn := Lib.hid (HA.out.later hb)
  have HBn := Lib.hid (HB.out.trans (hb.mono HB.out.size))
  clear hb HY HA HB
  have HY := HYn
  have HA := HAn
  have HB := HBn
  clear HYn HAn HBn
  obtain ⟨y0, y1, y2, y3⟩ := HY.out.cells
  have x0 := HA.out.c0
  have x1 := HA.out.c1
  have x2 := HA.out.c2
  have x3 := HA.out.c3
  have x4 := HA.out.c4
  have x5 := HA.out.c5
  have x6 := HA.out.c6
  have x7 := HA.out.c7
  go_wp2_with fail
  clear y0 y1 y2 y3
  clear x0 x1 x2 x3 x4 x5 x6 x7
  change Calls _ _ #[insV I0 (.slice ad I0.l.length cap), staV s1] _ _
  refine (smoves_any (HR.out.below HB.out) H1.out).mono ?_
  rintro e w3 ⟨u, rfl, hu, hb⟩
  have HYn := Lib.hid (HY.out.later hb)
  have HAn := Lib.hid (HA.out.later hb)
  have HBn := Lib.hid (HB.out.trans (hb.mono HB.out.size))
  clear hb HY HA HB
  have HY := HYn
  have HA := HAn
  have HB := HBn
  clear HYn HAn HBn
  obtain ⟨L, hL⟩ : ∃ L, movesS I0 s1 = L := ⟨_, rfl⟩
  have HC := Lib.hid (fun j (hj : j ∈ movesS I0 s1) => mem_moves.1 hj)
  rw [hL] at hu HC
  clear hL
  obtain ⟨la, lc, rfl⟩ := hu.shape
  have HL := Lib.hid hu.row
  have hlx : L.length ≤ 9223372036854775807 := by
    obtain ⟨_, _, _, hm⟩ := hu.row.form
    rw [ints_len] at hm
    unfold maxLen at hm; omega
  clear hu
  go_wp2_with fail
  go_loopw [8] (fun i wr => ∃ k : Nat, k ≤ L.length ∧ i = .int .i64 k ∧ Below w3.heap.size w3 wr) (fun i _ => L.length - (intOf i).toNat)
  case atStart => exact ⟨0, Nat.zero_le _, rfl, Below.refl _ _⟩
  case round =>
    obtain ⟨k, hk, rfl, hbr⟩ := hrel
    have HY3 := Lib.hid (HY.out.later hbr)
    have HA3 := Lib.hid (HA.out.later hbr)
    have HB3 := Lib.hid (HB.out.trans (hbr.mono HB.out.size))
    clear HY HA
    have HY := HY3
    have HA := HA3
    clear HY3 HA3
    by_cases hlt : k < L.length
    rotate_left
    · obtain rfl : k = L.length := by omega
      clear hlt hk hbr HB
      have HB := HB3
      clear HB3
      obtain ⟨y0, y1, y2, y3⟩ := HY.out.cells
      have x0 := HA.out.c0
      have x1 := HA.out.c1
      have x2 := HA.out.c2
      have x3 := HA.out.c3
      have x4 := HA.out.c4
      have x5 := HA.out.c5
      have x6 := HA.out.c6
      have x7 := HA.out.c7
      go_wp2_with fail
      clear y0 y1 y2 y3
      clear x0 x1 x2 x3 x4 x5 x6 x7
      change Calls _ _ #[insV I0 (.slice ad I0.l.length cap), staV s1] _ _
      refine (send_any (HR.out.below HB.out) H1.out).mono ?_
      rintro e w4 ⟨rfl, hb⟩
      have HYn := Lib.hid (HY.out.later hb)
      have HAn := Lib.hid (HA.out.later hb)
      have HBn := Lib.hid (HB.out.trans (hb.mono HB.out.size))
      clear hb HY HA HB
      have HY := HYn
      have HA := HAn
      have HB := HBn
      clear HYn HAn HBn
      have dn : decide (0 ≤ n) = true := decide_eq_true (by rw [← HN.out]; exact bound_pos I0 s1)
      by_cases he : EndS I0 s1
      · rw [decide_eq_true he]
        have hle := bound_end he
        rw [HN.out] at hle
        generalize endC I0 s1 = c at *
        have dc := decide_eq_true hle
        clear hle he
        go_wp2
        go_ret
        exact ⟨rfl, HB.out⟩
      · rw [decide_eq_false he]
        clear he
        go_wp2
        go_ret
        exact ⟨rfl, HB.out⟩
    have HK := Lib.hid hlt
    have HBR := Lib.hid hbr
    have hcj := HC.out (L.getD k 0) (by rw [List.getD_eq_getElem?_getD, List.getElem?_eq_getElem hlt]; exact List.getElem_mem hlt)
    obtain ⟨b1, o1, c1, he1, hc1, -, hb1⟩ := row_at (p := k) HL.out (by rw [ints_len]; exact hlt)
    rw [ints_at _ k hlt] at hc1
    simp only [ints_len, Value.slice.injEq, true_and] at he1
    obtain ⟨rfl, rfl⟩ := he1
    generalize L.getD k 0 = j at *
    have hst := bound_step hcj HG.out
    have hmy := move_yes hcj
    rw [← hmy.1, ← hmy.2.1, HN.out] at hst
    have hsx : SetsOk (moveS I0 s1 j) := by
      rw [hmy.1]
      exact of_fits (fits_next (I := I0) (fits_of H1.out) j)
    have hfb := far1_bd I0 s1 j
    rw [← hmy.2.1] at hfb
    have hbb := bound_pos I0 (moveS I0 s1 j)
    have hbh := bound_hi I0 (moveS I0 s1 j)
    obtain ⟨xa, hxa⟩ : ∃ x, moveS I0 s1 j = x := ⟨_, rfl⟩
    obtain ⟨ca, hca⟩ : ∃ x, moveC I0 s1 j = x := ⟨_, rfl⟩
    obtain ⟨m, hm⟩ : ∃ x, boundS I0 xa = x := ⟨_, rfl⟩
    rw [hxa, hm] at hbb hbh
    rw [hxa, hca, hm] at hst
    rw [hxa] at hsx
    rw [hca] at hfb
    have e3 : IntKind.i64.wrap (ca + m) = ca + m := IntWalk.i64_in _ (by omega)
    have dlt : decide (ca + m < n) = false := decide_eq_false (by omega)
    have HXA := Lib.hid hxa
    have HCA := Lib.hid hca
    have HPA := Lib.hid (decide_eq_true hcj)
    have HM := Lib.hid hm
    have HSX := Lib.hid hsx
    have HC1 := Lib.hid (show ∀ w', Below w3.heap.size w3 w' → w'.cell? ⟨b1, o1 + k, none⟩ = some (.int .i64 j) from fun w' hb' => (hb'.cell (p := ⟨b1, o1 + k, none⟩) hb1).trans hc1)
    have HB1 := Lib.hid hb1
    have hki : (k : Int) < (L.length : Int) := by omega
    have hk2 : IntKind.i64.wrap ((k : Int) + 1) = (k : Int) + 1 := IntWalk.i64_in _ (by omega)
    clear hk hlt hbr hcj hst hmy hsx hfb hbb hbh hxa hca hm hb1 hc1
    have HB0 := HB
    clear HB
    have HB := HB3
    clear HB3
    go_upto_region 9 with fail
    go_cut [9, 10, 11] from 49 to 70 (fun p c e wx => ∃ bm, p = .pointer (some ⟨bm, 0, none⟩) ∧ c = .int .i64 ca ∧ e = .bool true ∧ StB wx bm xa ∧ YBox wx w.heap.size I0 (.slice ad I0.l.length cap) ∧ StB wx (w.heap.size + 1) s1 ∧ Below w3.heap.size w3 wx)
    case first =>
      have HSZ3 := Lib.hid HBR.out.size
      have HBRd := Lib.hid HBR.out.drew
      have HYn := Lib.hid (HY.out.later (Below.refl _ wr).drew)
      have HAn := Lib.hid (HA.out.later (Below.refl _ wr).drew)
      have HBn := Lib.hid HB.out.drew
      clear HY HA HB
      have HY := HYn
      have HA := HAn
      have HB := HBn
      clear HYn HAn HBn
      have HS0 := Lib.hid (show Holds (cellsI w.heap.size I0 (.slice ad I0.l.length cap) ++ (cellsSt (w.heap.size + 1) s1 ++ [((⟨b1, o1 + k, none⟩ : Addr), (.int .i64 j : Value))])) wr.drew from (Holds.app.2 ⟨⟨HY.out.cells.1, HY.out.cells.2.1, HY.out.cells.2.2.1, HY.out.cells.2.2.2, trivial⟩, (Holds.app.2 ⟨HA.out.holds, ⟨HC1.out _ HBRd.out, trivial⟩⟩)⟩))
      refine wp_region_held_drew (S := Holds (cellsI w.heap.size I0 (.slice ad I0.l.length cap) ++ (cellsSt (w.heap.size + 1) s1 ++ [((⟨b1, o1 + k, none⟩ : Addr), (.int .i64 j : Value))]))) (by kernel_rfl) HS0.out (fun hSn => ?_)
      generalize wr.drew = V at *
      have hlt := Lib.hid (show Lows V.heap.size (cellsI w.heap.size I0 (.slice ad I0.l.length cap) ++ (cellsSt (w.heap.size + 1) s1 ++ [((⟨b1, o1 + k, none⟩ : Addr), (.int .i64 j : Value))])) from (Lows.app (show Lows _ (cellsI w.heap.size I0 (.slice ad I0.l.length cap)) from ⟨HY.out.lt, HY.out.lt, HY.out.lt, HY.out.lt, trivial⟩) (Lows.app (lows_St HA.out.lt) ⟨Nat.lt_of_lt_of_le HB1.out HBRd.out.size, trivial⟩)))
      have Bc := Lib.hid (Below.refl V.heap.size V)
      simp only [cellsI, cellsSt, List.cons_append, List.nil_append] at HS0 hlt hSn ⊢
      refine tks [0, 1, 2, 3, 4, 5] 6 rfl (by kernel_rfl) (fun _ _ _ _ h => h) (by assumption) (fun KT hKT => ?_)
      iterate 6 (refine tkT (by (simp only [gA, gB, gC]; rfl)) (by rfl) (by (intro w hSw; (simp only [Holds] at hSw); go_simp <;> with_reducible rfl)) ?_; simp only [Act.put, pA, pB, pC])
      refine hKT _ ?_
      clear KT hKT
      refine wpAnyH_ready (rs := [6, 11]) (by kernel_rfl) (by simp) ?_
      refine (AllReadyH.cons (o := ?oz194) ?iz194 (fun K hK => ?kz194) (AllReadyH.cons (o := ?oz195) ?iz195 (fun K hK => ?kz195) AllReadyH.nil))
      case iz194 => (simp only [List.getElem?_toArray, List.getElem?_cons_zero, List.getElem?_cons_succ]; rfl)
      case iz195 => (simp only [List.getElem?_toArray, List.getElem?_cons_zero, List.getElem?_cons_succ]; rfl)
      · skip
        go_simp
        change Calls _ _ #[insV I0 (.slice ad I0.l.length cap), staV s1, .int .i64 j] _ _
        have BCUR := Lib.hid (HB.out.trans (Bc.out.mono HB.out.size))
        refine (smove_any (HR.out.below BCUR.out) H1.out).mono ?_
        clear BCUR
        rintro e w7 ⟨rfl, hb⟩
        rw [HXA.out, HCA.out, HPA.out]
        rw [show staV xa = .agg #[.int .i64 xa.pos, .int .i64 xa.car, .int .i64 xa.time, .int .i64 xa.load, .int .i64 xa.first, .int .u64 xa.must, .int .u64 xa.may, .int .u64 xa.on] from rfl]
        refine held_more hK HS0.out hlt (Bc.out.trans (hb.mono Bc.out.size)) (fun Bc hSn => ?_)
        clear hb hK
        refine tks [7, 8, 9, 10] 4 rfl (by kernel_rfl) (fun _ _ _ _ h => h) (by assumption) (fun KT hKT => ?_)
        iterate 4 (refine tkT (by (simp only [gA, gB, gC]; rfl)) (by rfl) (by (intro w hSw; (simp only [Holds] at hSw); go_simp <;> with_reducible rfl)) ?_; simp only [Act.put, pA, pB, pC])
        refine hKT _ ?_
        clear KT hKT
        have HSZ := Lib.hid Bc.out.size
        refine wpAnyH_ready (rs := [11]) (by kernel_rfl) (by simp) ?_
        refine AllReadyH.cons (o := ?oz196) ?iz196 (fun K hK => ?kz196) AllReadyH.nil
        case iz196 => (simp only [List.getElem?_toArray, List.getElem?_cons_zero, List.getElem?_cons_succ]; rfl)
        go_simp
        refine held_more hK HS0.out hlt (Bc.out.alloc Bc.out.size _) (fun Bc hSn => ?_)
        have HN := Lib.hid (st_new w7 noughtS)
        change wpAnyH _ _ _ _ _ _ _ _ (w7.alloc (boxSt noughtS))
        have Bc2 := Lib.hid (show Below V.heap.size V (w7.alloc (boxSt noughtS)) from Bc.out)
        clear Bc
        have Bc := Bc2
        clear Bc2
        generalize w7.alloc (boxSt noughtS) = Xn at *
        obtain ⟨bm, hbm⟩ : ∃ bm, bm = w7.heap.size := ⟨_, rfl⟩
        have HLE := Lib.hid (show V.heap.size ≤ bm by rw [hbm]; exact HSZ.out)
        rw [← hbm] at HN ⊢
        clear hbm HSZ
        refine wpAnyH_ready (rs := [12]) (by kernel_rfl) (by simp) ?_
        refine (AllReadyH.cons (o := ?oz197) ?iz197 (fun K hK => ?kz197) AllReadyH.nil)
        case iz197 => (simp only [List.getElem?_toArray, List.getElem?_cons_zero, List.getElem?_cons_succ]; rfl)
        simp only [Act.put]
        rw [if_pos (by rfl)]
        refine wp_store_state (.tmp 9) (.tmp 57) (by rfl) bm _ xa (by rfl) (by rfl) HN.out ?_
        intro wE hE hbE
        refine held_more hK HS0.out hlt (Bc.out.trans (hbE _ HLE.out)) (fun Bc hSn => ?_)
        clear hK
        refine tks [13, 14] 2 rfl (by kernel_rfl) (fun _ _ _ _ h => h) (by assumption) (fun KT hKT => ?_)
        iterate 2 (refine tkT (by (simp only [gA, gB, gC]; rfl)) (by rfl) (by (intro w hSw; (simp only [Holds] at hSw); go_simp <;> with_reducible rfl)) ?_; simp only [Act.put, pA, pB, pC])
        refine hKT _ ?_
        clear KT hKT
        refine wpAnyH_done (by kernel_rfl) ?_ _
        go_wp2_with fail
        go_meet
        exact ⟨bm, rfl, rfl, rfl, hE, HY.out.later Bc.out, HA.out.later Bc.out, HBRd.out.trans (Bc.out.mono HBRd.out.size)⟩
      · skip
        have HSZ := Lib.hid Bc.out.size
        go_simp
        refine held_more hK HS0.out hlt (Bc.out.alloc Bc.out.size _) (fun Bc hSn => ?_)
        clear hK
        have HN := Lib.hid (st_new V noughtS)
        change wpAnyH _ _ _ _ _ _ _ _ (V.alloc (boxSt noughtS))
        have Bc2 := Lib.hid (show Below V.heap.size V (V.alloc (boxSt noughtS)) from Bc.out)
        clear Bc
        have Bc := Bc2
        clear Bc2
        generalize V.alloc (boxSt noughtS) = Xn at *
        obtain ⟨bm, hbm⟩ : ∃ bm, bm = V.heap.size := ⟨_, rfl⟩
        have HLE := Lib.hid (show V.heap.size ≤ bm by rw [hbm]; exact HSZ.out)
        rw [← hbm] at HN ⊢
        clear hbm HSZ
        refine wpAnyH_ready (rs := [6]) (by kernel_rfl) (by simp) ?_
        refine AllReadyH.cons (o := ?oz198) ?iz198 (fun K hK => ?kz198) AllReadyH.nil
        case iz198 => (simp only [List.getElem?_toArray, List.getElem?_cons_zero, List.getElem?_cons_succ]; rfl)
        go_simp
        change Calls _ _ #[insV I0 (.slice ad I0.l.length cap), staV s1, .int .i64 j] _ _
        have BCUR := Lib.hid (HB.out.trans (Bc.out.mono HB.out.size))
        refine (smove_any (HR.out.below BCUR.out) H1.out).mono ?_
        clear BCUR
        rintro e w7 ⟨rfl, hb⟩
        have HNn := Lib.hid (HN.out.later hb)
        clear HN
        have HN := HNn
        clear HNn
        rw [HXA.out, HCA.out, HPA.out]
        rw [show staV xa = .agg #[.int .i64 xa.pos, .int .i64 xa.car, .int .i64 xa.time, .int .i64 xa.load, .int .i64 xa.first, .int .u64 xa.must, .int .u64 xa.may, .int .u64 xa.on] from rfl]
        refine held_more hK HS0.out hlt (Bc.out.trans (hb.mono Bc.out.size)) (fun Bc hSn => ?_)
        clear hb hK
        refine tks [7, 8, 9, 10] 4 rfl (by kernel_rfl) (fun _ _ _ _ h => h) (by assumption) (fun KT hKT => ?_)
        iterate 4 (refine tkT (by (simp only [gA, gB, gC]; rfl)) (by rfl) (by (intro w hSw; (simp only [Holds] at hSw); go_simp <;> with_reducible rfl)) ?_; simp only [Act.put, pA, pB, pC])
        refine hKT _ ?_
        clear KT hKT
        refine wpAnyH_ready (rs := [12]) (by kernel_rfl) (by simp) ?_
        refine (AllReadyH.cons (o := ?oz199) ?iz199 (fun K hK => ?kz199) AllReadyH.nil)
        case iz199 => (simp only [List.getElem?_toArray, List.getElem?_cons_zero, List.getElem?_cons_succ]; rfl)
        simp only [Act.put]
        rw [if_pos (by rfl)]
        refine wp_store_state (.tmp 9) (.tmp 57) (by rfl) bm _ xa (by rfl) (by rfl) HN.out ?_
        intro wE hE hbE
        refine held_more hK HS0.out hlt (Bc.out.trans (hbE _ HLE.out)) (fun Bc hSn => ?_)
        clear hK
        refine tks [13, 14] 2 rfl (by kernel_rfl) (fun _ _ _ _ h => h) (by assumption) (fun KT hKT => ?_)
        iterate 2 (refine tkT (by (simp only [gA, gB, gC]; rfl)) (by rfl) (by (intro w hSw; (simp only [Holds] at hSw); go_simp <;> with_reducible rfl)) ?_; simp only [Act.put, pA, pB, pC])
        refine hKT _ ?_
        clear KT hKT
        refine wpAnyH_done (by kernel_rfl) ?_ _
        go_wp2_with fail
        go_meet
        exact ⟨bm, rfl, rfl, rfl, hE, HY.out.later Bc.out, HA.out.later Bc.out, HBRd.out.trans (Bc.out.mono HBRd.out.size)⟩
    case rest =>
    obtain ⟨bm, rfl, rfl, rfl, f1, f2, f3, f4⟩ := hcut
    clear HY HA HB HBR
    have HX := Lib.hid f1
    have HY := Lib.hid f2
    have HA := Lib.hid f3
    have HBR := Lib.hid f4
    have HB := Lib.hid (HB0.out.trans (f4.mono HB0.out.size))
    clear f1 f2 f3 f4
    generalize wc = W8 at *
    obtain ⟨y0, y1, y2, y3⟩ := HY.out.cells
    have x0 := HX.out.c0
    have x1 := HX.out.c1
    have x2 := HX.out.c2
    have x3 := HX.out.c3
    have x4 := HX.out.c4
    have x5 := HX.out.c5
    have x6 := HX.out.c6
    have x7 := HX.out.c7
    go_wp2_with fail
    clear y0 y1 y2 y3
    clear x0 x1 x2 x3 x4 x5 x6 x7
    change Calls _ _ #[insV I0 (.slice ad I0.l.length cap), staV xa] _ _
    refine (bat_any (HR.out.below HB.out) HSX.out).mono ?_
    rw [HM.out]
    rintro e w9 ⟨rfl, hb⟩
    have HBR2 := Lib.hid (HBR.out.trans (hb.mono HBR.out.size))
    clear hb HBR HB HY HA HX
    go_wp2_with fail
    go_roundw
    case rel => exact ⟨k + 1, by have := HK.out; omega, by go_num, HBR2.out⟩
    case measure => have := HK.out; simp [intOf]; omega

set_option maxRecDepth 100000 in
theorem lifted (os : Os) (started : os.Started) (H : Type) (enc : TypeId × Value → H) :
    ReturnsInHanded {} Try.checked os 4 .any (Rows.boundStepsSpec.pre6 enc Try.prog Try.f4 Rows.boundStepsRow.domain false) (Rows.boundStepsSpec.post enc Try.prog Try.f4 false true false false) := by
  refine returnsInHanded_of_change (C := Try.checked) own started (by kernel_rfl) Try.func4
    (ChangeSpec.witness6 (enc := enc) (C := Try.checked) false ⟨#[], #[.agg #[.int .i64 0, .int .i64 0, .int .i64 0, .slice none 0 0], .agg #[.int .i64 0, .int .i64 0, .int .i64 0, .int .i64 0, .int .i64 0, .int .u64 0, .int .u64 0, .int .u64 0]], []⟩ 8 (by kernel_rfl) (by kernel_rfl) (by kernel_rfl) (by kernel_rfl)) ?_
  intro W base args ds gs before hval0 hW hcnd _
  have hval : ∀ (j : Nat) t v, Try.f4.params[j]? = some t → args[j]? = some v → Value.okWide Try.prog W .any base t v := hval0
  have hW' := hW
  obtain ⟨p, q, hA0, hV, rfl, hfz, hnd⟩ := hW
  have hA : DataW.TrodAll enc Try.prog W 0 (fun _ => true) true Try.f4.params.toList args.toList ds p := hA0
  rw [Try.params4] at hA hval
  obtain ⟨v0, vs0, d0, ds0, p0, q0, hargs, rfl, rfl, h0, r0⟩ := trodAll_cons hA
  obtain ⟨v1, vs1, d1, ds1, p1, q1, rfl, rfl, rfl, h1, r1⟩ := trodAll_cons r0
  obtain ⟨rfl, rfl, rfl⟩ := trodAll_nil r1
  obtain rfl : args = #[v0, v1] := by cases args; simp_all
  obtain ⟨rfl, rfl⟩ := trodVars_none hV
  have k0 := h0
  have lt0 : ∀ x ∈ p0, x.block < W.heap.size := by obtain ⟨m, hm⟩ := k0; exact DataW.trod_lt m _ _ _ hm
  have k1 := h1
  have lt1 : ∀ x ∈ p1, x.block < W.heap.size := by obtain ⟨m, hm⟩ := k1; exact DataW.trod_lt m _ _ _ hm
  obtain ⟨I0, u0, rfl, e0, _⟩ := open_inst (hval 0 24 v0 rfl rfl) h0
  obtain ⟨s1, rfl, _, e1⟩ := open_state (hval 1 27 v1 rfl rfl) h1
  clear hA0 hval0
  refine (walk I0 _ s1 W e0 e1).mono fun e W' ⟨he, bel⟩ => ?_
  subst he
  exact ⟨_, rfl, _, _, _, [], _, [], hW', trodAll_mk1 (shut_bool Try.underlying4 _), (trodAll_cons_mk (Below.trod laidOut (by kernel_rfl) (of_decide_eq_true (by kernel_rfl)) k0 bel lt0) (trodAll_cons_mk (Below.trod laidOut (by kernel_rfl) (of_decide_eq_true (by kernel_rfl)) k1 bel lt1) trodAll_mk0)), rfl, bel.frame _, fun h => by cases h⟩

theorem over : Rows.boundStepsRow.holds Try.pinned (OpenSpec.ofChange Rows.boundStepsSpec) :=
  OpenClaim.holds_of_wide 4 Try.f4 rfl rfl rfl rfl rfl rfl rfl ⟨rfl, rfl, rfl, rfl, rfl⟩ rfl rfl rfl rfl rfl (by kernel_rfl) Try.func4 (by show joinedFacts Try.checked.prog _ _ _ _ = true; unfold joinedFacts; rw [ord_may, ord_lifts, ord_make]; kernel_rfl)
    (of_decide_eq_true (by kernel_rfl)) (by unfold Func.isWrapper; first | (rw [if_pos (by decide +kernel)]; kernel_rfl) | (rw [if_neg (by decide +kernel)]; exact ⟨rfl, rfl⟩))
    (fun os started H enc _ => lifted os started H enc)

theorem proved : Rows.BoundStepsSaid := over
#print axioms proved
end Go.Proofs.Ytaaljploegiihaa.boundSteps
