/- Looking at each way alone (law 15's own every), for any state and any depth. -/
import Derived.Test.YtaaljploegiihaaXB
import Derived.Test.YtaaljploegiihaaYI
import Derived.Test.YtaaljploegiihaaYF
import Derived.Test.YtaaljploegiihaaYG
namespace Go.Proofs.Ytaaljploegiihaa
open Go.ChangeShapes Go.WideShapes Go.ChangeAt Go.RowKit

/-- The least of what is told of the first moves. -/
def everyK (I : Ins) (d : Nat) (s : Sta) (k : Nat) : Int := ((movesS I s).take k).foldl (fun least j => if everyF I d (nextS I s j) < infN ∧ farS1 I s j + everyF I d (nextS I s j) < least then farS1 I s j + everyF I d (nextS I s j) else least) (if EndS I s then endC I s else infN)
theorem everyK_next {I : Ins} {d : Nat} {s : Sta} {k : Nat} (hk : k < (movesS I s).length) : everyK I d s (k + 1) = if everyF I d (nextS I s ((movesS I s).getD k 0)) < infN ∧ farS1 I s ((movesS I s).getD k 0) + everyF I d (nextS I s ((movesS I s).getD k 0)) < everyK I d s k then farS1 I s ((movesS I s).getD k 0) + everyF I d (nextS I s ((movesS I s).getD k 0)) else everyK I d s k := by
  unfold everyK
  rw [List.take_succ_eq_append_getElem hk, List.foldl_append, List.getD_eq_getElem?_getD, List.getElem?_eq_getElem hk]
  rfl
theorem everyK_all {I : Ins} {d : Nat} {s : Sta} : everyK I d s (movesS I s).length = everyF I (d + 1) s := by
  unfold everyK
  rw [List.take_length]; rfl
set_option maxRecDepth 1000000 in
set_option maxHeartbeats 4000000 in
theorem qev_step {I : Ins} (d : Nat) (hd : d ≤ 1000000) (ih : ∀ d', d' + 1 = d → ∀ {w : World} {v : Value} {s : Sta} {x : Int}, x = d' → SRow w v I.l → SetsOk s →
      Calls Try.prog 50 #[insV I v, staV s, .int .i64 x] w fun e w' => e = .returned (.int .i64 (everyF I d' s)) ∧ Below w.heap.size w w') {w : World} {v : Value} {s : Sta} {x : Int} (hx : x = d) (h : SRow w v I.l) (hs : SetsOk s) :
    Calls Try.prog 50 #[insV I v, staV s, .int .i64 x] w fun e w' => e = .returned (.int .i64 (everyF I d s)) ∧ Below w.heap.size w w' := by
  have HR := Lib.hid h
  have HS := Lib.hid hs
  have HX := Lib.hid hx
  have HI := Lib.hid @ih
  obtain ⟨ad, cap, rfl, hlm, _⟩ := h.form
  clear h hs hx ih
  unfold insV staV
  go_enter Try.func50, Try.ntmps50
  go_upto_region 1 with fail
  obtain ⟨k1, k2, k3⟩ := boxes_is w I (.slice ad I.l.length cap) s
  have HY := Lib.hid k1
  have HA := Lib.hid k2
  have HB := Lib.hid k3
  clear k1 k2 k3
  change Code.wp _ _ _ _ ((w.alloc (boxI I (.slice ad I.l.length cap))).alloc (boxSt s))
  generalize (w.alloc (boxI I (.slice ad I.l.length cap))).alloc (boxSt s) = W at *
  obtain ⟨y0, y1, y2, y3⟩ := HY.out.cells
  have x0 := HA.out.c0
  have x1 := HA.out.c1
  have x2 := HA.out.c2
  have x3 := HA.out.c3
  have x4 := HA.out.c4
  have x5 := HA.out.c5
  have x6 := HA.out.c6
  have x7 := HA.out.c7
  go_wp2_with fail
  clear y0 y1 y2 y3
  clear x0 x1 x2 x3 x4 x5 x6 x7
  change Calls _ _ #[insV I (.slice ad I.l.length cap), staV s] _ _
  refine (send_any (HR.out.below HB.out) HS.out).mono ?_
  rintro e w1 ⟨rfl, hb⟩
  have HYn := Lib.hid (HY.out.later hb)
  have HAn := Lib.hid (HA.out.later hb)
  have HBn := Lib.hid (HB.out.trans (hb.mono HB.out.size))
  clear hb HY HA HB
  have HY := HYn
  have HA := HAn
  have HB := HBn
  clear HYn HAn HBn
  obtain ⟨ie, hie⟩ : ∃ ie, decide (EndS I s) = ie := ⟨_, rfl⟩
  obtain ⟨ec, hec⟩ : ∃ ec, endC I s = ec := ⟨_, rfl⟩
  have HA0 := Lib.hid (show (if EndS I s then endC I s else infN) = if ie = true then ec else 1152921504606846976 by
    rw [← hie, hec]
    by_cases he : EndS I s
    · rw [if_pos he, if_pos (decide_eq_true he)]
    · rw [if_neg he, decide_eq_false he]; rfl)
  rw [hie, hec]
  clear hie hec
  obtain ⟨a0, ha0⟩ : ∃ a0, (if ie = true then ec else (1152921504606846976 : Int)) = a0 := ⟨_, rfl⟩
  rw [ha0] at HA0
  have HAE := Lib.hid ha0
  clear ha0
  go_upto_if 22 with fail
  go_cut [7] from 22 (fun l wx => l = .int .i64 a0 ∧ wx = w1)
  case first =>
    cases ie with
    | true =>
      go_wp2_with fail
      go_meet
      exact ⟨by rw [← HAE.out]; rfl, rfl⟩
    | false =>
      go_wp2_with fail
      go_meet
      exact ⟨by rw [← HAE.out]; rfl, rfl⟩
  case rest =>
  obtain ⟨rfl, rfl⟩ := hcut
  cases d with
  | zero =>
    have dx : decide (x ≤ 0) = true := decide_eq_true (by have := HX.out; omega)
    have hx0 : x ≤ 0 := by have := HX.out; omega
    clear HI
    go_wp2
    go_ret
    exact ⟨by rw [show everyF I 0 s = a0 from HA0.out]; rfl, HB.out⟩
  | succ d =>
  have dx : decide (x ≤ 0) = false := decide_eq_false (by have := HX.out; omega)
  have hx0 : ¬ x ≤ 0 := by have := HX.out; omega
  have ex : IntKind.i64.wrap (x - 1) = x - 1 := IntWalk.i64_in _ (by have := HX.out; omega)
  have HX1 := Lib.hid (show x - 1 = (d : Nat) by have := HX.out; omega)
  obtain ⟨y0, y1, y2, y3⟩ := HY.out.cells
  have x0 := HA.out.c0
  have x1 := HA.out.c1
  have x2 := HA.out.c2
  have x3 := HA.out.c3
  have x4 := HA.out.c4
  have x5 := HA.out.c5
  have x6 := HA.out.c6
  have x7 := HA.out.c7
  go_wp2_with fail
  clear y0 y1 y2 y3
  clear x0 x1 x2 x3 x4 x5 x6 x7
  change Calls _ _ #[insV I (.slice ad I.l.length cap), staV s] _ _
  refine (smoves_any (HR.out.below HB.out) HS.out).mono ?_
  rintro e w3 ⟨u, rfl, hu, hb⟩
  have HYn := Lib.hid (HY.out.later hb)
  have HAn := Lib.hid (HA.out.later hb)
  have HBn := Lib.hid (HB.out.trans (hb.mono HB.out.size))
  clear hb HY HA HB
  have HY := HYn
  have HA := HAn
  have HB := HBn
  clear HYn HAn HBn
  have HNX := Lib.hid (fun k (hk : k < (movesS I s).length) => everyK_next (I := I) (d := d) (s := s) hk)
  have HAL := Lib.hid (everyK_all (I := I) (d := d) (s := s))
  have HC := Lib.hid (fun j (hj : j ∈ movesS I s) => mem_moves.1 hj)
  have HE0 := Lib.hid (show everyK I d s 0 = a0 from HA0.out)
  generalize everyK I d s = F at *
  obtain ⟨L, hL⟩ : ∃ L, movesS I s = L := ⟨_, rfl⟩
  rw [hL] at hu HC HNX HAL
  clear hL
  obtain ⟨la, lc, rfl⟩ := hu.shape
  have HL := Lib.hid hu.row
  have hlx : L.length ≤ 9223372036854775807 := by
    obtain ⟨_, _, _, hm⟩ := hu.row.form
    rw [ints_len] at hm
    unfold maxLen at hm; omega
  clear hu
  go_wp2_with fail
  go_loopw [7, 11] (fun a i wr => ∃ k : Nat, k ≤ L.length ∧ i = .int .i64 k ∧ a = .int .i64 (F k) ∧ Below w3.heap.size w3 wr) (fun _ i _ => L.length - (intOf i).toNat)
  case atStart => exact ⟨0, Nat.zero_le _, rfl, by rw [HE0.out], Below.refl _ _⟩
  case round =>
    obtain ⟨k, hk, rfl, rfl, hbr⟩ := hrel
    have HY3 := Lib.hid (HY.out.later hbr)
    have HA3 := Lib.hid (HA.out.later hbr)
    have HB3 := Lib.hid (HB.out.trans (hbr.mono HB.out.size))
    clear HY HA
    have HY := HY3
    have HA := HA3
    clear HY3 HA3
    by_cases hlt : k < L.length
    rotate_left
    · obtain rfl : k = L.length := by omega
      clear hlt hk hbr HB
      go_wp2
      go_ret
      exact ⟨by rw [← HAL.out]; rfl, HB3.out⟩
    have HK := Lib.hid hlt
    have HBR := Lib.hid hbr
    have hcj := HC.out (L.getD k 0) (by rw [List.getD_eq_getElem?_getD, List.getElem?_eq_getElem hlt]; exact List.getElem_mem hlt)
    have hnx := HNX.out k hlt
    obtain ⟨b1, o1, c1, he1, hc1, -, hb1⟩ := row_at (p := k) HL.out (by rw [ints_len]; exact hlt)
    rw [ints_at _ k hlt] at hc1
    simp only [ints_len, Value.slice.injEq, true_and] at he1
    obtain ⟨rfl, rfl⟩ := he1
    generalize L.getD k 0 = j at *
    have hmy := move_yes hcj
    have hsx : SetsOk (moveS I s j) := by
      rw [hmy.1]
      exact of_fits (fits_next (I := I) (fits_of HS.out) j)
    have hfb := far1_bd I s j
    rw [← hmy.2.1] at hfb hnx
    rw [← hmy.1] at hnx
    have hvb := every_bd I d (moveS I s j)
    obtain ⟨xa, hxa⟩ : ∃ x, moveS I s j = x := ⟨_, rfl⟩
    obtain ⟨ca, hca⟩ : ∃ x, moveC I s j = x := ⟨_, rfl⟩
    obtain ⟨m, hm⟩ : ∃ x, everyF I d xa = x := ⟨_, rfl⟩
    rw [hxa, hm] at hvb
    rw [hxa, hca, hm] at hnx
    rw [hxa] at hsx
    rw [hca] at hfb
    unfold infN at hvb hnx
    obtain ⟨p, hp⟩ : ∃ p, F k = p := ⟨_, rfl⟩
    rw [hp] at hnx
    have HNN := Lib.hid hnx
    have HPP := Lib.hid hp
    rw [hp]
    have e3 : IntKind.i64.wrap (ca + m) = ca + m := IntWalk.i64_in _ (by omega)
    have HXA := Lib.hid hxa
    have HCA := Lib.hid hca
    have HPA := Lib.hid (decide_eq_true hcj)
    have HM := Lib.hid hm
    have HSX := Lib.hid hsx
    have HC1 := Lib.hid (show ∀ w', Below w3.heap.size w3 w' → w'.cell? ⟨b1, o1 + k, none⟩ = some (.int .i64 j) from fun w' hb' => (hb'.cell (p := ⟨b1, o1 + k, none⟩) hb1).trans hc1)
    have HB1 := Lib.hid hb1
    have hki : (k : Int) < (L.length : Int) := by omega
    have hk2 : IntKind.i64.wrap ((k : Int) + 1) = (k : Int) + 1 := IntWalk.i64_in _ (by omega)
    clear hk hlt hbr hcj hmy hsx hfb hvb hnx hp hxa hca hm hb1 hc1
    have HB0 := HB
    clear HB
    have HB := HB3
    clear HB3
    go_upto_region 11 with fail
    go_cut [12, 13, 14] from 36 to 66 (fun p c e wx => ∃ bm, p = .pointer (some ⟨bm, 0, none⟩) ∧ c = .int .i64 ca ∧ e = .bool true ∧ StB wx bm xa ∧ YBox wx w.heap.size I (.slice ad I.l.length cap) ∧ StB wx (w.heap.size + 1) s ∧ Below w3.heap.size w3 wx)
    case first =>
      have HBRd := Lib.hid HBR.out.drew
      have HYn := Lib.hid (HY.out.later (Below.refl _ wr).drew)
      have HAn := Lib.hid (HA.out.later (Below.refl _ wr).drew)
      have HBn := Lib.hid HB.out.drew
      clear HY HA HB
      have HY := HYn
      have HA := HAn
      have HB := HBn
      clear HYn HAn HBn
      have HS0 := Lib.hid (show Holds (cellsI w.heap.size I (.slice ad I.l.length cap) ++ (cellsSt (w.heap.size + 1) s ++ [((⟨b1, o1 + k, none⟩ : Addr), (.int .i64 j : Value))])) wr.drew from (Holds.app.2 ⟨⟨HY.out.cells.1, HY.out.cells.2.1, HY.out.cells.2.2.1, HY.out.cells.2.2.2, trivial⟩, (Holds.app.2 ⟨HA.out.holds, ⟨HC1.out _ HBRd.out, trivial⟩⟩)⟩))
      refine wp_region_held_drew (S := Holds (cellsI w.heap.size I (.slice ad I.l.length cap) ++ (cellsSt (w.heap.size + 1) s ++ [((⟨b1, o1 + k, none⟩ : Addr), (.int .i64 j : Value))]))) (by kernel_rfl) HS0.out (fun hSn => ?_)
      generalize wr.drew = V at *
      have hlt := Lib.hid (show Lows V.heap.size (cellsI w.heap.size I (.slice ad I.l.length cap) ++ (cellsSt (w.heap.size + 1) s ++ [((⟨b1, o1 + k, none⟩ : Addr), (.int .i64 j : Value))])) from (Lows.app (show Lows _ (cellsI w.heap.size I (.slice ad I.l.length cap)) from ⟨HY.out.lt, HY.out.lt, HY.out.lt, HY.out.lt, trivial⟩) (Lows.app (lows_St HA.out.lt) ⟨Nat.lt_of_lt_of_le HB1.out HBRd.out.size, trivial⟩)))
      have Bc := Lib.hid (Below.refl V.heap.size V)
      simp only [cellsI, cellsSt, List.cons_append, List.nil_append] at HS0 hlt hSn ⊢
      refine tks [0, 1, 2, 3, 4, 5] 6 rfl (by kernel_rfl) (fun _ _ _ _ h => h) (by assumption) (fun KT hKT => ?_)
      iterate 6 (refine tkT (by (simp only [gA, gB, gC]; rfl)) (by rfl) (by (intro w hSw; (simp only [Holds] at hSw); go_simp <;> with_reducible rfl)) ?_; simp only [Act.put, pA, pB, pC])
      refine hKT _ ?_
      clear KT hKT
      refine wpAnyH_ready (rs := [6, 11]) (by kernel_rfl) (by simp) ?_
      refine (AllReadyH.cons (o := ?oz104) ?iz104 (fun K hK => ?kz104) (AllReadyH.cons (o := ?oz105) ?iz105 (fun K hK => ?kz105) AllReadyH.nil))
      case iz104 => (simp only [List.getElem?_toArray, List.getElem?_cons_zero, List.getElem?_cons_succ]; rfl)
      case iz105 => (simp only [List.getElem?_toArray, List.getElem?_cons_zero, List.getElem?_cons_succ]; rfl)
      · skip
        go_simp
        change Calls _ _ #[insV I (.slice ad I.l.length cap), staV s, .int .i64 j] _ _
        have BCUR := Lib.hid (HB.out.trans (Bc.out.mono HB.out.size))
        refine (smove_any (HR.out.below BCUR.out) HS.out).mono ?_
        clear BCUR
        rintro e w7 ⟨rfl, hb⟩
        rw [HXA.out, HCA.out, HPA.out]
        rw [show staV xa = .agg #[.int .i64 xa.pos, .int .i64 xa.car, .int .i64 xa.time, .int .i64 xa.load, .int .i64 xa.first, .int .u64 xa.must, .int .u64 xa.may, .int .u64 xa.on] from rfl]
        refine held_more hK HS0.out hlt (Bc.out.trans (hb.mono Bc.out.size)) (fun Bc hSn => ?_)
        clear hb hK
        refine tks [7, 8, 9, 10] 4 rfl (by kernel_rfl) (fun _ _ _ _ h => h) (by assumption) (fun KT hKT => ?_)
        iterate 4 (refine tkT (by (simp only [gA, gB, gC]; rfl)) (by rfl) (by (intro w hSw; (simp only [Holds] at hSw); go_simp <;> with_reducible rfl)) ?_; simp only [Act.put, pA, pB, pC])
        refine hKT _ ?_
        clear KT hKT
        have HSZ := Lib.hid Bc.out.size
        refine wpAnyH_ready (rs := [11]) (by kernel_rfl) (by simp) ?_
        refine AllReadyH.cons (o := ?oz106) ?iz106 (fun K hK => ?kz106) AllReadyH.nil
        case iz106 => (simp only [List.getElem?_toArray, List.getElem?_cons_zero, List.getElem?_cons_succ]; rfl)
        go_simp
        refine held_more hK HS0.out hlt (Bc.out.alloc Bc.out.size _) (fun Bc hSn => ?_)
        have HN := Lib.hid (st_new w7 noughtS)
        change wpAnyH _ _ _ _ _ _ _ _ (w7.alloc (boxSt noughtS))
        have Bc2 := Lib.hid (show Below V.heap.size V (w7.alloc (boxSt noughtS)) from Bc.out)
        clear Bc
        have Bc := Bc2
        clear Bc2
        generalize w7.alloc (boxSt noughtS) = Xn at *
        obtain ⟨bm, hbm⟩ : ∃ bm, bm = w7.heap.size := ⟨_, rfl⟩
        have HLE := Lib.hid (show V.heap.size ≤ bm by rw [hbm]; exact HSZ.out)
        rw [← hbm] at HN ⊢
        clear hbm HSZ
        refine wpAnyH_ready (rs := [12]) (by kernel_rfl) (by simp) ?_
        refine (AllReadyH.cons (o := ?oz107) ?iz107 (fun K hK => ?kz107) AllReadyH.nil)
        case iz107 => (simp only [List.getElem?_toArray, List.getElem?_cons_zero, List.getElem?_cons_succ]; rfl)
        simp only [Act.put]
        rw [if_pos (by rfl)]
        refine wp_store_state (.tmp 12) (.tmp 44) (by rfl) bm _ xa (by rfl) (by rfl) HN.out ?_
        intro wE hE hbE
        refine held_more hK HS0.out hlt (Bc.out.trans (hbE _ HLE.out)) (fun Bc hSn => ?_)
        clear hK
        refine tks [13, 14] 2 rfl (by kernel_rfl) (fun _ _ _ _ h => h) (by assumption) (fun KT hKT => ?_)
        iterate 2 (refine tkT (by (simp only [gA, gB, gC]; rfl)) (by rfl) (by (intro w hSw; (simp only [Holds] at hSw); go_simp <;> with_reducible rfl)) ?_; simp only [Act.put, pA, pB, pC])
        refine hKT _ ?_
        clear KT hKT
        refine wpAnyH_done (by kernel_rfl) ?_ _
        go_wp2_with fail
        go_meet
        exact ⟨bm, rfl, rfl, rfl, hE, HY.out.later Bc.out, HA.out.later Bc.out, HBRd.out.trans (Bc.out.mono HBRd.out.size)⟩
      · skip
        have HSZ := Lib.hid Bc.out.size
        go_simp
        refine held_more hK HS0.out hlt (Bc.out.alloc Bc.out.size _) (fun Bc hSn => ?_)
        clear hK
        have HN := Lib.hid (st_new V noughtS)
        change wpAnyH _ _ _ _ _ _ _ _ (V.alloc (boxSt noughtS))
        have Bc2 := Lib.hid (show Below V.heap.size V (V.alloc (boxSt noughtS)) from Bc.out)
        clear Bc
        have Bc := Bc2
        clear Bc2
        generalize V.alloc (boxSt noughtS) = Xn at *
        obtain ⟨bm, hbm⟩ : ∃ bm, bm = V.heap.size := ⟨_, rfl⟩
        have HLE := Lib.hid (show V.heap.size ≤ bm by rw [hbm]; exact HSZ.out)
        rw [← hbm] at HN ⊢
        clear hbm HSZ
        refine wpAnyH_ready (rs := [6]) (by kernel_rfl) (by simp) ?_
        refine AllReadyH.cons (o := ?oz108) ?iz108 (fun K hK => ?kz108) AllReadyH.nil
        case iz108 => (simp only [List.getElem?_toArray, List.getElem?_cons_zero, List.getElem?_cons_succ]; rfl)
        go_simp
        change Calls _ _ #[insV I (.slice ad I.l.length cap), staV s, .int .i64 j] _ _
        have BCUR := Lib.hid (HB.out.trans (Bc.out.mono HB.out.size))
        refine (smove_any (HR.out.below BCUR.out) HS.out).mono ?_
        clear BCUR
        rintro e w7 ⟨rfl, hb⟩
        have HNn := Lib.hid (HN.out.later hb)
        clear HN
        have HN := HNn
        clear HNn
        rw [HXA.out, HCA.out, HPA.out]
        rw [show staV xa = .agg #[.int .i64 xa.pos, .int .i64 xa.car, .int .i64 xa.time, .int .i64 xa.load, .int .i64 xa.first, .int .u64 xa.must, .int .u64 xa.may, .int .u64 xa.on] from rfl]
        refine held_more hK HS0.out hlt (Bc.out.trans (hb.mono Bc.out.size)) (fun Bc hSn => ?_)
        clear hb hK
        refine tks [7, 8, 9, 10] 4 rfl (by kernel_rfl) (fun _ _ _ _ h => h) (by assumption) (fun KT hKT => ?_)
        iterate 4 (refine tkT (by (simp only [gA, gB, gC]; rfl)) (by rfl) (by (intro w hSw; (simp only [Holds] at hSw); go_simp <;> with_reducible rfl)) ?_; simp only [Act.put, pA, pB, pC])
        refine hKT _ ?_
        clear KT hKT
        refine wpAnyH_ready (rs := [12]) (by kernel_rfl) (by simp) ?_
        refine (AllReadyH.cons (o := ?oz109) ?iz109 (fun K hK => ?kz109) AllReadyH.nil)
        case iz109 => (simp only [List.getElem?_toArray, List.getElem?_cons_zero, List.getElem?_cons_succ]; rfl)
        simp only [Act.put]
        rw [if_pos (by rfl)]
        refine wp_store_state (.tmp 12) (.tmp 44) (by rfl) bm _ xa (by rfl) (by rfl) HN.out ?_
        intro wE hE hbE
        refine held_more hK HS0.out hlt (Bc.out.trans (hbE _ HLE.out)) (fun Bc hSn => ?_)
        clear hK
        refine tks [13, 14] 2 rfl (by kernel_rfl) (fun _ _ _ _ h => h) (by assumption) (fun KT hKT => ?_)
        iterate 2 (refine tkT (by (simp only [gA, gB, gC]; rfl)) (by rfl) (by (intro w hSw; (simp only [Holds] at hSw); go_simp <;> with_reducible rfl)) ?_; simp only [Act.put, pA, pB, pC])
        refine hKT _ ?_
        clear KT hKT
        refine wpAnyH_done (by kernel_rfl) ?_ _
        go_wp2_with fail
        go_meet
        exact ⟨bm, rfl, rfl, rfl, hE, HY.out.later Bc.out, HA.out.later Bc.out, HBRd.out.trans (Bc.out.mono HBRd.out.size)⟩
    case rest =>
    obtain ⟨bm, rfl, rfl, rfl, f1, f2, f3, f4⟩ := hcut
    clear HY HA HB HBR
    have HX8 := Lib.hid f1
    have HY := Lib.hid f2
    have HA := Lib.hid f3
    have HBR := Lib.hid f4
    have HB := Lib.hid (HB0.out.trans (f4.mono HB0.out.size))
    clear f1 f2 f3 f4
    generalize wc = W8 at *
    obtain ⟨y0, y1, y2, y3⟩ := HY.out.cells
    have x0 := HX8.out.c0
    have x1 := HX8.out.c1
    have x2 := HX8.out.c2
    have x3 := HX8.out.c3
    have x4 := HX8.out.c4
    have x5 := HX8.out.c5
    have x6 := HX8.out.c6
    have x7 := HX8.out.c7
    go_wp2_with fail
    clear y0 y1 y2 y3
    clear x0 x1 x2 x3 x4 x5 x6 x7
    change Calls _ _ #[insV I (.slice ad I.l.length cap), staV xa, .int .i64 (x - 1)] _ _
    refine (HI.out d rfl HX1.out (HR.out.below HB.out) HSX.out).mono ?_
    rw [HM.out]
    rintro e w9 ⟨rfl, hb⟩
    have HBR2 := Lib.hid (HBR.out.trans (hb.mono HBR.out.size))
    clear hb HBR HB HY HA HX8
    by_cases v1 : m < 1152921504606846976
    · have dv1 := decide_eq_true v1
      by_cases v2 : ca + m < p
      · have dv2 := decide_eq_true v2
        have HF := Lib.hid (HNN.out.trans (if_pos ⟨v1, v2⟩))
        clear v1 v2
        go_wp2_with fail
        go_roundw
        case rel => exact ⟨k + 1, by have := HK.out; omega, by go_num, by rw [HF.out], HBR2.out⟩
        case measure => have := HK.out; simp [intOf]; omega
      · have dv2 := decide_eq_false v2
        have HF := Lib.hid (HNN.out.trans (if_neg (fun h => v2 h.2)))
        clear v1 v2
        go_wp2_with fail
        go_roundw
        case rel => exact ⟨k + 1, by have := HK.out; omega, by go_num, by rw [HF.out], HBR2.out⟩
        case measure => have := HK.out; simp [intOf]; omega
    · have dv1 := decide_eq_false v1
      have HF := Lib.hid (HNN.out.trans (if_neg (fun h => v1 h.1)))
      clear v1
      go_wp2_with fail
      go_roundw
      case rel => exact ⟨k + 1, by have := HK.out; omega, by go_num, by rw [HF.out], HBR2.out⟩
      case measure => have := HK.out; simp [intOf]; omega
theorem qev_any {I : Ins} : ∀ (d : Nat), d ≤ 1000000 → ∀ {w : World} {v : Value} {s : Sta} {x : Int}, x = d → SRow w v I.l → SetsOk s →
    Calls Try.prog 50 #[insV I v, staV s, .int .i64 x] w fun e w' => e = .returned (.int .i64 (everyF I d s)) ∧ Below w.heap.size w w'
  | 0, hd => fun hx h hs => qev_step 0 hd (fun d' he => absurd he (by omega)) hx h hs
  | d + 1, hd => fun hx h hs => qev_step (d + 1) hd (fun d' he => by
    obtain rfl : d' = d := by omega
    exact fun hx h hs => qev_any d' (by omega) hx h hs) hx h hs
set_option maxRecDepth 1000000 in
set_option maxHeartbeats 4000000 in
theorem qevery_any {w : World} {v : Value} {I : Ins} (h : SRow w v I.l) (hm : mayB I = true) :
    Calls Try.prog 26 #[insV I v] w fun e w' => e = .returned (.int .i64 (everyF I (2 * I.p + I.c - 1).toNat (rootS I))) ∧ Below w.heap.size w w' := by
  have HR := Lib.hid h
  have hp0 := (fine_of hm).p0
  have hp1 := (fine_of hm).p1
  have hcc := (inb_iff _ _ _).1 ((may_iff I).1 hm).2.1
  have e1 : IntKind.i64.wrap (2 * I.p) = 2 * I.p := IntWalk.i64_in _ (by omega)
  have e2 : IntKind.i64.wrap (2 * I.p + I.c) = 2 * I.p + I.c := IntWalk.i64_in _ (by omega)
  have e3 : IntKind.i64.wrap (2 * I.p + I.c - 1) = 2 * I.p + I.c - 1 := IntWalk.i64_in _ (by omega)
  have HD := Lib.hid (show 2 * I.p + I.c - 1 = ((2 * I.p + I.c - 1).toNat : Int) ∧ (2 * I.p + I.c - 1).toNat ≤ 1000000 by omega)
  have HSR := Lib.hid (show SetsOk (rootS I) by rw [root_may hm]; exact ⟨Nat.two_pow_pos 64, Nat.two_pow_pos 64, Nat.two_pow_pos 64⟩)
  obtain ⟨D, hDD⟩ : ∃ D : Nat, (2 * I.p + I.c - 1).toNat = D := ⟨_, rfl⟩
  rw [hDD] at HD
  have HDD := Lib.hid hDD
  clear hDD
  obtain ⟨ad, cap, rfl, hlm, _⟩ := h.form
  clear h hm hp0 hp1 hcc
  unfold insV
  go_enter Try.func26, Try.ntmps26
  go_upto_region 1 with fail
  have HY := Lib.hid (ybox_new w I (.slice ad I.l.length cap))
  have HB := Lib.hid ((Below.refl w.heap.size w).alloc (Nat.le_refl _) (boxI I (.slice ad I.l.length cap)))
  change Code.wp _ _ _ _ (w.alloc (boxI I (.slice ad I.l.length cap)))
  generalize w.alloc (boxI I (.slice ad I.l.length cap)) = W at *
  have HRV := Lib.hid (HR.out.below HB.out)
  have HRD := Lib.hid (HRV.out.below (Below.refl _ _).drew)
  clear HRV
  have HYn := Lib.hid (HY.out.later (Below.refl _ W).drew)
  have HBn := Lib.hid HB.out.drew
  clear HY HB
  have HY := HYn
  have HB := HBn
  clear HYn HBn
  have HS0 := Lib.hid (show Holds (cellsI w.heap.size I (.slice ad I.l.length cap)) W.drew from ⟨HY.out.cells.1, HY.out.cells.2.1, HY.out.cells.2.2.1, HY.out.cells.2.2.2, trivial⟩)
  refine wp_region_held_drew (S := Holds (cellsI w.heap.size I (.slice ad I.l.length cap))) (by kernel_rfl) HS0.out (fun hSn => ?_)
  generalize W.drew = V at *
  have hlt := Lib.hid (show Lows V.heap.size (cellsI w.heap.size I (.slice ad I.l.length cap)) from ⟨HY.out.lt, HY.out.lt, HY.out.lt, HY.out.lt, trivial⟩)
  have Bc := Lib.hid (Below.refl V.heap.size V)
  simp only [cellsI] at HS0 hlt hSn ⊢
  refine tks [0, 1, 3, 4, 5, 6, 7, 8, 9] 9 rfl (by kernel_rfl) (fun _ _ _ _ h => h) (by assumption) (fun KT hKT => ?_)
  iterate 9 (refine tkT (by (simp only [gA, gB, gC]; rfl)) (by rfl) (by (intro w hSw; (simp only [Holds] at hSw); go_simp <;> with_reducible rfl)) ?_; simp only [Act.put, pA, pB, pC])
  refine hKT _ ?_
  clear KT hKT
  refine wpAnyH_ready (rs := [2]) (by kernel_rfl) (by simp) ?_
  refine AllReadyH.cons (o := ?oz110) ?iz110 (fun K hK => ?kz110) AllReadyH.nil
  case iz110 => (simp only [List.getElem?_toArray, List.getElem?_cons_zero, List.getElem?_cons_succ]; rfl)
  go_simp
  change Calls _ _ #[insV I (.slice ad I.l.length cap)] _ _
  refine (sroot_any (I := I) (HRD.out.below Bc.out)).mono ?_
  rintro e w2 ⟨rfl, hb⟩
  refine held_more hK HS0.out hlt (Bc.out.trans (hb.mono Bc.out.size)) (fun Bc hSn => ?_)
  clear hb hK
  refine wpAnyH_ready (rs := [10]) (by kernel_rfl) (by simp) ?_
  refine AllReadyH.cons (o := ?oz111) ?iz111 (fun K hK => ?kz111) AllReadyH.nil
  case iz111 => (simp only [List.getElem?_toArray, List.getElem?_cons_zero, List.getElem?_cons_succ]; rfl)
  go_simp
  change Calls _ _ #[insV I (.slice ad I.l.length cap), staV (rootS I), .int .i64 (2 * I.p + I.c - 1)] _ _
  refine (qev_any (I := I) D HD.out.2 HD.out.1 (HRD.out.below Bc.out) HSR.out).mono ?_
  rintro e w3 ⟨rfl, hb⟩
  refine held_more hK HS0.out hlt (Bc.out.trans (hb.mono Bc.out.size)) (fun Bc hSn => ?_)
  clear hb hK
  refine tks [11] 1 rfl (by kernel_rfl) (fun _ _ _ _ h => h) (by assumption) (fun KT hKT => ?_)
  refine tkT (by (simp only [gA, gB, gC]; rfl)) (by rfl) (by (intro w hSw; (simp only [Holds] at hSw); go_simp <;> with_reducible rfl)) ?_
  simp only [Act.put, pA, pB, pC]
  refine hKT _ ?_
  clear KT hKT
  refine wpAnyH_done (by kernel_rfl) ?_ _
  go_wp2
  go_ret
  exact ⟨by rw [HDD.out]; rfl, HB.out.trans (Bc.out.mono HB.out.size)⟩
end Go.Proofs.Ytaaljploegiihaa
