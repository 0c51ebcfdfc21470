/- Whatever can be followed and ended costs no less in the end than any node on its way does at least: haulierlaw12.BoundWays answers true. Condition: none. -/
import Derived.Test.YtaaljploegiihaaOrd
import Derived.Test.YtaaljploegiihaaRows
import Derived.Test.YtaaljploegiihaaBAwake
import Derived.Test.YtaaljploegiihaaYC
import Derived.Test.YtaaljploegiihaaXB
import Derived.Test.YtaaljploegiihaaYG
import Derived.Test.YtaaljploegiihaaYI
namespace Go.Proofs.Ytaaljploegiihaa.boundWays
open Go.ChangeShapes Go.WideShapes Go.ChangeAt Go.RowKit

theorem row_cut {w : World} {a : Option Addr} {n cap : Nat} {l : List Int} (h : Row w (.slice a n cap) (ints l)) (k : Nat) (hk : k ≤ l.length) : Row w (.slice a k cap) (ints (l.take k)) := by
  obtain ⟨hm, a', cap', hv, hc, hc2, hor⟩ := h
  simp only [Value.slice.injEq] at hv
  obtain ⟨rfl, -, rfl⟩ := hv
  rw [ints_len] at hm hc hor
  have e : (ints (l.take k)).length = k := by rw [ints_len, List.length_take]; omega
  refine ⟨by rw [e]; omega, a, cap, by rw [e], by rw [e]; omega, hc2, ?_⟩
  rcases hor with h0 | ⟨b, off, ha, hcell⟩
  · left
    have := congrArg List.length h0
    rw [ints_len] at this
    refine List.eq_nil_of_length_eq_zero ?_
    rw [e]; rw [List.length_nil] at this; omega
  · right
    refine ⟨b, off, ha, fun i hi => ?_⟩
    rw [e] at hi
    rw [hcell i (by omega), ← ints_take, List.getElem?_take_of_lt hi]
set_option maxRecDepth 1000000 in
set_option maxHeartbeats 4000000 in
theorem walk (I0 : Ins) (v0 : Value) (v1 : Value) (l1 : List Int) (a2 : Int) (w : World) (e0 : SRow w v0 I0.l) (e1 : Row w v1 (ints l1)) :
    Calls Try.prog 5 #[insV I0 v0, v1, .int .i64 a2] w fun e w' => e = .returned (.bool true) ∧ Below w.heap.size w w' := by
  have HR := Lib.hid e0
  have HU := Lib.hid e1
  obtain ⟨ad, cap, rfl, hlm, _⟩ := e0.form
  obtain ⟨au, cu, rfl, hmx⟩ := e1.form
  rw [ints_len] at *
  have hcu : l1.length ≤ cu := by
    obtain ⟨_, _, _, hv, hc, _⟩ := e1
    simp only [Value.slice.injEq] at hv
    obtain ⟨rfl, _, rfl⟩ := hv
    rw [ints_len] at hc
    exact hc
  have hmx2 : l1.length ≤ 9223372036854775807 := by unfold maxLen at hmx; omega
  have HCU := Lib.hid hcu
  clear e0 e1 hmx hcu
  unfold insV
  go_enter Try.func5, Try.ntmps5
  go_upto_region 1 with fail
  have HY := Lib.hid (ybox_new w I0 (.slice ad I0.l.length cap))
  have HB := Lib.hid ((Below.refl w.heap.size w).alloc (Nat.le_refl _) (boxI I0 (.slice ad I0.l.length cap)))
  change Code.wp _ _ _ _ (w.alloc (boxI I0 (.slice ad I0.l.length cap)))
  generalize w.alloc (boxI I0 (.slice ad I0.l.length cap)) = W at *
  go_wp2_with fail
  refine (bawake_any _).mono ?_
  rintro e w1 ⟨rfl, hb⟩
  have HYn := Lib.hid (HY.out.later hb)
  have HBn := Lib.hid (HB.out.trans (hb.mono HB.out.size))
  clear hb HY HB
  have HY := HYn
  have HB := HBn
  clear HYn HBn
  have y3 := HY.out.cells.2.2.2
  by_cases g1 : 100 < I0.l.length
  · have d1 : decide (100 < (I0.l.length : Int)) = true := decide_eq_true (by omega)
    have d2 := decide_eq_true g1
    clear g1
    go_wp2
    go_ret
    exact ⟨rfl, HB.out⟩
  have d1 : decide (100 < (I0.l.length : Int)) = false := decide_eq_false (by omega)
  have d2 := decide_eq_false g1
  clear g1
  by_cases g2 : 100 < l1.length
  · have d3 : decide (100 < (l1.length : Int)) = true := decide_eq_true (by omega)
    have d4 := decide_eq_true g2
    clear g2
    go_wp2
    go_ret
    exact ⟨rfl, HB.out⟩
  have d3 : decide (100 < (l1.length : Int)) = false := decide_eq_false (by omega)
  have d4 := decide_eq_false g2
  have HG2 := Lib.hid g2
  clear g2
  by_cases g3 : a2 < 0
  · have d5 := decide_eq_true g3
    clear g3
    go_wp2
    go_ret
    exact ⟨rfl, HB.out⟩
  have d5 := decide_eq_false g3
  by_cases g4 : (l1.length : Int) < a2
  · have d6 := decide_eq_true g4
    clear g4 g3
    go_wp2
    go_ret
    exact ⟨rfl, HB.out⟩
  have d6 := decide_eq_false g4
  go_upto_region 4 with fail
  clear d1 d2 d3 d4 d5 d6 y3
  obtain ⟨c, rfl⟩ : ∃ c : Nat, a2 = c := ⟨a2.toNat, by omega⟩
  have HCL := Lib.hid (show c ≤ l1.length by omega)
  clear g3 g4
  obtain ⟨y0, y1, y2, y3⟩ := HY.out.cells
  go_wp2_with fail
  clear y0 y1 y2 y3
  change Calls _ _ #[insV I0 (.slice ad I0.l.length cap), (.slice au l1.length cu)] _ _
  refine (sfollow_any (I := I0) (HR.out.below HB.out) (HU.out.below HB.out)).mono ?_
  rintro e w2 ⟨rfl, hb⟩
  have HYn := Lib.hid (HY.out.later hb)
  have HBn := Lib.hid (HB.out.trans (hb.mono HB.out.size))
  clear hb HY HB
  have HY := HYn
  have HB := HBn
  clear HYn HBn
  have HSQ := Lib.hid (fol_sets I0 l1)
  have HCASE := Lib.hid (show folE I0 l1 = 1 ∨ folE I0 l1 = 4 ∨ (folE I0 l1 = 0 ∧ mayB I0 = true ∧ followS I0 l1 = some (stO (folS I0 l1), coO (folS I0 l1))) by
    cases hm : mayB I0 with
    | false => exact .inl (fol_bad hm l1).2
    | true =>
      cases hf : followS I0 l1 with
      | none => exact .inr (.inl (fol_no hm hf).2)
      | some x =>
        obtain ⟨s, d⟩ := x
        exact .inr (.inr ⟨(fol_yes hm hf).2, rfl, by rw [(fol_yes hm hf).1]; rfl⟩))
  generalize stO (folS I0 l1) = q at *
  generalize coO (folS I0 l1) = co at *
  generalize folE I0 l1 = fe at *
  rw [show staV q = .agg #[.int .i64 q.pos, .int .i64 q.car, .int .i64 q.time, .int .i64 q.load, .int .i64 q.first, .int .u64 q.must, .int .u64 q.may, .int .u64 q.on] from rfl]
  go_upto_region 5 with fail
  have HP := Lib.hid (st_new w2 q)
  have HYn := Lib.hid (HY.out.later ((Below.refl _ w2).alloc (Nat.le_refl _) (boxSt q)))
  have HBn := Lib.hid (HB.out.alloc HB.out.size (boxSt q))
  clear HY HB
  have HY := HYn
  have HB := HBn
  clear HYn HBn
  change Code.wp _ _ _ _ (w2.alloc (boxSt q))
  generalize w2.alloc (boxSt q) = W3 at *
  generalize w2.heap.size = bp at *
  obtain ⟨y0, y1, y2, y3⟩ := HY.out.cells
  have x0 := HP.out.c0
  have x1 := HP.out.c1
  have x2 := HP.out.c2
  have x3 := HP.out.c3
  have x4 := HP.out.c4
  have x5 := HP.out.c5
  have x6 := HP.out.c6
  have x7 := HP.out.c7
  go_wp2_with fail
  clear y0 y1 y2 y3
  clear x0 x1 x2 x3 x4 x5 x6 x7
  change Calls _ _ #[insV I0 (.slice ad I0.l.length cap), staV q] _ _
  refine (send_any (HR.out.below HB.out) HSQ.out).mono ?_
  rintro e w4 ⟨rfl, hb⟩
  have HYn := Lib.hid (HY.out.later hb)
  have HBn := Lib.hid (HB.out.trans (hb.mono HB.out.size))
  clear hb HY HB
  have HY := HYn
  have HB := HBn
  clear HYn HBn
  rcases HCASE.out with rfl | rfl | ⟨rfl, hm, hfol⟩
  · clear HP HSQ HCASE
    go_wp2
    go_ret
    exact ⟨rfl, HB.out⟩
  · clear HP HSQ HCASE
    go_wp2
    go_ret
    exact ⟨rfl, HB.out⟩
  by_cases he : EndS I0 q
  rotate_left
  · rw [decide_eq_false he]
    clear he hfol hm HP HSQ HCASE
    go_wp2
    go_ret
    exact ⟨rfl, HB.out⟩
  rw [decide_eq_true he]
  obtain ⟨s2, c2, hf2, hle⟩ := bound_all hm hfol he c
  obtain ⟨g1, g2⟩ := fol_yes hm hf2
  have hs2 := fol_sets I0 (l1.take c)
  rw [g1] at hs2
  have HS2 := Lib.hid (show SetsOk s2 from hs2)
  have hco := follow_cost _ _ _ hfol
  have hc2 := follow_cost _ _ _ hf2
  have hec := endC_bd I0 q
  have hsl := sum_le hc2.1 (bound_pos I0 s2)
  have hg2 := HG2.out
  have E1 := Lib.hid (show stO (folS I0 (l1.take c)) = s2 by rw [g1]; rfl)
  have E2 := Lib.hid (show coO (folS I0 (l1.take c)) = c2 by rw [g1]; rfl)
  have E3 := Lib.hid g2
  obtain ⟨n, hn⟩ : ∃ n, sumOf [c2, boundS I0 s2] = n := ⟨_, rfl⟩
  have HN := Lib.hid hn
  rw [hn] at hsl
  generalize endC I0 q = ec at *
  have e3 : IntKind.i64.wrap (co + ec) = co + ec := IntWalk.i64_in _ (by omega)
  have dn : decide (n ≤ co + ec) = true := decide_eq_true (by omega)
  clear hfol hm he HP HSQ HCASE hf2 hle g1 g2 hs2 hco hc2 hec hsl hg2 hn
  go_upto_region 8 with fail
  go_cut [13, 14, 15] from 60 (fun p d e wx => ∃ bm, p = .pointer (some ⟨bm, 0, none⟩) ∧ d = .int .i64 c2 ∧ e = .int .i64 0 ∧ StB wx bm s2 ∧ YBox wx w.heap.size I0 (.slice ad I0.l.length cap) ∧ Below w.heap.size w wx)
  case first =>
    have hc1 : c ≤ cu := Nat.le_trans HCL.out HCU.out
    have hc3 : (c : Int) ≤ (cu : Int) := by omega
    have hc4 : (0 : Int) ≤ (c : Int) := by omega
    have HYn := Lib.hid (HY.out.later (Below.refl _ w4).drew)
    have HBn := Lib.hid HB.out.drew
    clear HY HB
    have HY := HYn
    have HB := HBn
    clear HYn HBn
    have HS0 := Lib.hid (show Holds (cellsI w.heap.size I0 (.slice ad I0.l.length cap)) w4.drew from ⟨HY.out.cells.1, HY.out.cells.2.1, HY.out.cells.2.2.1, HY.out.cells.2.2.2, trivial⟩)
    refine wp_region_held_drew (S := Holds (cellsI w.heap.size I0 (.slice ad I0.l.length cap))) (by kernel_rfl) HS0.out (fun hSn => ?_)
    generalize w4.drew = V at *
    have hlt := Lib.hid (show Lows V.heap.size (cellsI w.heap.size I0 (.slice ad I0.l.length cap)) from ⟨HY.out.lt, HY.out.lt, HY.out.lt, HY.out.lt, trivial⟩)
    have Bc := Lib.hid (Below.refl V.heap.size V)
    simp only [cellsI] at HS0 hlt hSn ⊢
    refine tks [0, 1, 2, 3] 4 rfl (by kernel_rfl) (fun _ _ _ _ h => h) (by assumption) (fun KT hKT => ?_)
    iterate 4 (refine tkT (by (simp only [gA, gB, gC]; rfl)) (by rfl) (by (intro w hSw; (simp only [Holds] at hSw); go_simp <;> with_reducible rfl)) ?_; simp only [Act.put, pA, pB, pC])
    refine hKT _ ?_
    clear KT hKT
    refine wpAnyH_ready (rs := [4, 9]) (by kernel_rfl) (by simp) ?_
    refine (AllReadyH.cons (o := ?oz200) ?iz200 (fun K hK => ?kz200) (AllReadyH.cons (o := ?oz201) ?iz201 (fun K hK => ?kz201) AllReadyH.nil))
    case iz200 => (simp only [List.getElem?_toArray, List.getElem?_cons_zero, List.getElem?_cons_succ]; rfl)
    case iz201 => (simp only [List.getElem?_toArray, List.getElem?_cons_zero, List.getElem?_cons_succ]; rfl)
    · skip
      go_simp
      change Calls _ _ #[insV I0 (.slice ad I0.l.length cap), .slice au c cu] _ _
      have BCUR := Lib.hid (HB.out.trans (Bc.out.mono HB.out.size))
      refine (sfollow_any (I := I0) (l := l1.take c) (HR.out.below BCUR.out) (row_cut (HU.out.below BCUR.out) c HCL.out)).mono ?_
      clear BCUR
      rintro e w7 ⟨rfl, hb⟩
      rw [E1.out, E2.out, E3.out]
      rw [show staV s2 = .agg #[.int .i64 s2.pos, .int .i64 s2.car, .int .i64 s2.time, .int .i64 s2.load, .int .i64 s2.first, .int .u64 s2.must, .int .u64 s2.may, .int .u64 s2.on] from rfl]
      refine held_more hK HS0.out hlt (Bc.out.trans (hb.mono Bc.out.size)) (fun Bc hSn => ?_)
      clear hb hK
      refine tks [5, 6, 7, 8] 4 rfl (by kernel_rfl) (fun _ _ _ _ h => h) (by assumption) (fun KT hKT => ?_)
      iterate 4 (refine tkT (by (simp only [gA, gB, gC]; rfl)) (by rfl) (by (intro w hSw; (simp only [Holds] at hSw); go_simp <;> with_reducible rfl)) ?_; simp only [Act.put, pA, pB, pC])
      refine hKT _ ?_
      clear KT hKT
      have HSZ := Lib.hid Bc.out.size
      refine wpAnyH_ready (rs := [9]) (by kernel_rfl) (by simp) ?_
      refine AllReadyH.cons (o := ?oz202) ?iz202 (fun K hK => ?kz202) AllReadyH.nil
      case iz202 => (simp only [List.getElem?_toArray, List.getElem?_cons_zero, List.getElem?_cons_succ]; rfl)
      go_simp
      refine held_more hK HS0.out hlt (Bc.out.alloc Bc.out.size _) (fun Bc hSn => ?_)
      have HN := Lib.hid (st_new w7 noughtS)
      change wpAnyH _ _ _ _ _ _ _ _ (w7.alloc (boxSt noughtS))
      have Bc2 := Lib.hid (show Below V.heap.size V (w7.alloc (boxSt noughtS)) from Bc.out)
      clear Bc
      have Bc := Bc2
      clear Bc2
      generalize w7.alloc (boxSt noughtS) = Xn at *
      obtain ⟨bm, hbm⟩ : ∃ bm, bm = w7.heap.size := ⟨_, rfl⟩
      have HLE := Lib.hid (show V.heap.size ≤ bm by rw [hbm]; exact HSZ.out)
      rw [← hbm] at HN ⊢
      clear hbm HSZ
      refine wpAnyH_ready (rs := [10]) (by kernel_rfl) (by simp) ?_
      refine (AllReadyH.cons (o := ?oz203) ?iz203 (fun K hK => ?kz203) AllReadyH.nil)
      case iz203 => (simp only [List.getElem?_toArray, List.getElem?_cons_zero, List.getElem?_cons_succ]; rfl)
      simp only [Act.put]
      rw [if_pos (by rfl)]
      refine wp_store_state (.tmp 13) (.tmp 66) (by rfl) bm _ s2 (by rfl) (by rfl) HN.out ?_
      intro wE hE hbE
      refine held_more hK HS0.out hlt (Bc.out.trans (hbE _ HLE.out)) (fun Bc hSn => ?_)
      clear hK
      refine tks [11, 12] 2 rfl (by kernel_rfl) (fun _ _ _ _ h => h) (by assumption) (fun KT hKT => ?_)
      iterate 2 (refine tkT (by (simp only [gA, gB, gC]; rfl)) (by rfl) (by (intro w hSw; (simp only [Holds] at hSw); go_simp <;> with_reducible rfl)) ?_; simp only [Act.put, pA, pB, pC])
      refine hKT _ ?_
      clear KT hKT
      refine wpAnyH_done (by kernel_rfl) ?_ _
      go_wp2_with fail
      go_meet
      exact ⟨bm, rfl, rfl, rfl, hE, HY.out.later Bc.out, HB.out.trans (Bc.out.mono HB.out.size)⟩
    · skip
      have HSZ := Lib.hid Bc.out.size
      go_simp
      refine held_more hK HS0.out hlt (Bc.out.alloc Bc.out.size _) (fun Bc hSn => ?_)
      clear hK
      have HN := Lib.hid (st_new V noughtS)
      change wpAnyH _ _ _ _ _ _ _ _ (V.alloc (boxSt noughtS))
      have Bc2 := Lib.hid (show Below V.heap.size V (V.alloc (boxSt noughtS)) from Bc.out)
      clear Bc
      have Bc := Bc2
      clear Bc2
      generalize V.alloc (boxSt noughtS) = Xn at *
      obtain ⟨bm, hbm⟩ : ∃ bm, bm = V.heap.size := ⟨_, rfl⟩
      have HLE := Lib.hid (show V.heap.size ≤ bm by rw [hbm]; exact HSZ.out)
      rw [← hbm] at HN ⊢
      clear hbm HSZ
      refine wpAnyH_ready (rs := [4]) (by kernel_rfl) (by simp) ?_
      refine AllReadyH.cons (o := ?oz204) ?iz204 (fun K hK => ?kz204) AllReadyH.nil
      case iz204 => (simp only [List.getElem?_toArray, List.getElem?_cons_zero, List.getElem?_cons_succ]; rfl)
      go_simp
      change Calls _ _ #[insV I0 (.slice ad I0.l.length cap), .slice au c cu] _ _
      have BCUR := Lib.hid (HB.out.trans (Bc.out.mono HB.out.size))
      refine (sfollow_any (I := I0) (l := l1.take c) (HR.out.below BCUR.out) (row_cut (HU.out.below BCUR.out) c HCL.out)).mono ?_
      clear BCUR
      rintro e w7 ⟨rfl, hb⟩
      have HNn := Lib.hid (HN.out.later hb)
      clear HN
      have HN := HNn
      clear HNn
      rw [E1.out, E2.out, E3.out]
      rw [show staV s2 = .agg #[.int .i64 s2.pos, .int .i64 s2.car, .int .i64 s2.time, .int .i64 s2.load, .int .i64 s2.first, .int .u64 s2.must, .int .u64 s2.may, .int .u64 s2.on] from rfl]
      refine held_more hK HS0.out hlt (Bc.out.trans (hb.mono Bc.out.size)) (fun Bc hSn => ?_)
      clear hb hK
      refine tks [5, 6, 7, 8] 4 rfl (by kernel_rfl) (fun _ _ _ _ h => h) (by assumption) (fun KT hKT => ?_)
      iterate 4 (refine tkT (by (simp only [gA, gB, gC]; rfl)) (by rfl) (by (intro w hSw; (simp only [Holds] at hSw); go_simp <;> with_reducible rfl)) ?_; simp only [Act.put, pA, pB, pC])
      refine hKT _ ?_
      clear KT hKT
      refine wpAnyH_ready (rs := [10]) (by kernel_rfl) (by simp) ?_
      refine (AllReadyH.cons (o := ?oz205) ?iz205 (fun K hK => ?kz205) AllReadyH.nil)
      case iz205 => (simp only [List.getElem?_toArray, List.getElem?_cons_zero, List.getElem?_cons_succ]; rfl)
      simp only [Act.put]
      rw [if_pos (by rfl)]
      refine wp_store_state (.tmp 13) (.tmp 66) (by rfl) bm _ s2 (by rfl) (by rfl) HN.out ?_
      intro wE hE hbE
      refine held_more hK HS0.out hlt (Bc.out.trans (hbE _ HLE.out)) (fun Bc hSn => ?_)
      clear hK
      refine tks [11, 12] 2 rfl (by kernel_rfl) (fun _ _ _ _ h => h) (by assumption) (fun KT hKT => ?_)
      iterate 2 (refine tkT (by (simp only [gA, gB, gC]; rfl)) (by rfl) (by (intro w hSw; (simp only [Holds] at hSw); go_simp <;> with_reducible rfl)) ?_; simp only [Act.put, pA, pB, pC])
      refine hKT _ ?_
      clear KT hKT
      refine wpAnyH_done (by kernel_rfl) ?_ _
      go_wp2_with fail
      go_meet
      exact ⟨bm, rfl, rfl, rfl, hE, HY.out.later Bc.out, HB.out.trans (Bc.out.mono HB.out.size)⟩
  case rest =>
  obtain ⟨bm, rfl, rfl, rfl, f1, f2, f3⟩ := hcut
  clear HY HB
  have HX := Lib.hid f1
  have HY := Lib.hid f2
  have HB := Lib.hid f3
  clear f1 f2 f3
  generalize wc = W8 at *
  obtain ⟨y0, y1, y2, y3⟩ := HY.out.cells
  have x0 := HX.out.c0
  have x1 := HX.out.c1
  have x2 := HX.out.c2
  have x3 := HX.out.c3
  have x4 := HX.out.c4
  have x5 := HX.out.c5
  have x6 := HX.out.c6
  have x7 := HX.out.c7
  go_wp2_with fail
  clear y0 y1 y2 y3
  clear x0 x1 x2 x3 x4 x5 x6 x7
  change Calls _ _ #[insV I0 (.slice ad I0.l.length cap), nodeV s2 c2 (.slice none 0 0)] _ _
  refine (bof_any (I := I0) (l := []) (HR.out.below HB.out) HS2.out (row_nil _)).mono ?_
  rw [HN.out]
  rintro e w9 ⟨rfl, hb⟩
  have HB9 := Lib.hid (HB.out.trans (hb.mono HB.out.size))
  clear hb HB HY HX
  go_wp2
  go_ret
  exact ⟨rfl, HB9.out⟩

set_option maxRecDepth 100000 in
theorem lifted (os : Os) (started : os.Started) (H : Type) (enc : TypeId × Value → H) :
    ReturnsInHanded {} Try.checked os 5 .any (Rows.boundWaysSpec.pre6 enc Try.prog Try.f5 Rows.boundWaysRow.domain false) (Rows.boundWaysSpec.post enc Try.prog Try.f5 false true false false) := by
  refine returnsInHanded_of_change (C := Try.checked) own started (by kernel_rfl) Try.func5
    (ChangeSpec.witness6 (enc := enc) (C := Try.checked) false ⟨#[], #[.agg #[.int .i64 0, .int .i64 0, .int .i64 0, .slice none 0 0], .slice none 0 0, .int .i64 0], []⟩ 8 (by kernel_rfl) (by kernel_rfl) (by kernel_rfl) (by kernel_rfl)) ?_
  intro W base args ds gs before hval0 hW hcnd _
  have hval : ∀ (j : Nat) t v, Try.f5.params[j]? = some t → args[j]? = some v → Value.okWide Try.prog W .any base t v := hval0
  have hW' := hW
  obtain ⟨p, q, hA0, hV, rfl, hfz, hnd⟩ := hW
  have hA : DataW.TrodAll enc Try.prog W 0 (fun _ => true) true Try.f5.params.toList args.toList ds p := hA0
  rw [Try.params5] at hA hval
  obtain ⟨v0, vs0, d0, ds0, p0, q0, hargs, rfl, rfl, h0, r0⟩ := trodAll_cons hA
  obtain ⟨v1, vs1, d1, ds1, p1, q1, rfl, rfl, rfl, h1, r1⟩ := trodAll_cons r0
  obtain ⟨v2, vs2, d2, ds2, p2, q2, rfl, rfl, rfl, h2, r2⟩ := trodAll_cons r1
  obtain ⟨rfl, rfl, rfl⟩ := trodAll_nil r2
  obtain rfl : args = #[v0, v1, v2] := by cases args; simp_all
  obtain ⟨rfl, rfl⟩ := trodVars_none hV
  have k0 := h0
  have lt0 : ∀ x ∈ p0, x.block < W.heap.size := by obtain ⟨m, hm⟩ := k0; exact DataW.trod_lt m _ _ _ hm
  have k1 := h1
  have lt1 : ∀ x ∈ p1, x.block < W.heap.size := by obtain ⟨m, hm⟩ := k1; exact DataW.trod_lt m _ _ _ hm
  have k2 := h2
  have lt2 : ∀ x ∈ p2, x.block < W.heap.size := by obtain ⟨m, hm⟩ := k2; exact DataW.trod_lt m _ _ _ hm
  obtain ⟨I0, u0, rfl, e0, _⟩ := open_inst (hval 0 24 v0 rfl rfl) h0
  obtain ⟨a1, len1, cap1, rfl⟩ := okWide_slice Try.underlying28 (hval 1 28 v1 rfl rfl)
  obtain ⟨l1, e1, _⟩ := uopen_row h1
  obtain ⟨a2, rfl, rfl, rfl, i2⟩ := open_int Try.underlying3 (hval 2 3 v2 rfl rfl) h2
  clear hA0 hval0
  refine (walk I0 _ _ l1 a2 W e0 e1).mono fun e W' ⟨he, bel⟩ => ?_
  subst he
  exact ⟨_, rfl, _, _, _, [], _, [], hW', trodAll_mk1 (shut_bool Try.underlying4 _), (trodAll_cons_mk (Below.trod laidOut (by kernel_rfl) (of_decide_eq_true (by kernel_rfl)) k0 bel lt0) (trodAll_cons_mk (Below.trod laidOut (by kernel_rfl) (of_decide_eq_true (by kernel_rfl)) k1 bel lt1) (trodAll_cons_mk (Below.trod laidOut (by kernel_rfl) (of_decide_eq_true (by kernel_rfl)) k2 bel lt2) trodAll_mk0))), rfl, bel.frame _, fun h => by cases h⟩

theorem over : Rows.boundWaysRow.holds Try.pinned (OpenSpec.ofChange Rows.boundWaysSpec) :=
  OpenClaim.holds_of_wide 5 Try.f5 rfl rfl rfl rfl rfl rfl rfl ⟨rfl, rfl, rfl, rfl, rfl⟩ rfl rfl rfl rfl rfl (by kernel_rfl) Try.func5 (by show joinedFacts Try.checked.prog _ _ _ _ = true; unfold joinedFacts; rw [ord_may, ord_lifts, ord_make]; kernel_rfl)
    (of_decide_eq_true (by kernel_rfl)) (by unfold Func.isWrapper; first | (rw [if_pos (by decide +kernel)]; kernel_rfl) | (rw [if_neg (by decide +kernel)]; exact ⟨rfl, rfl⟩))
    (fun os started H enc _ => lifted os started H enc)

theorem proved : Rows.BoundWaysSaid := over
#print axioms proved
end Go.Proofs.Ytaaljploegiihaa.boundWays
