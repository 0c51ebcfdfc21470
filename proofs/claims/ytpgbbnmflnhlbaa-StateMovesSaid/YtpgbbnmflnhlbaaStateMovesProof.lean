/- StateMoves: what is known behind any move, which moves can be made, what it costs to end, and what is known ahead of all, is what the document says. -/
import Derived.Test.YtpgbbnmflnhlbaaOrd
import Derived.Test.YtpgbbnmflnhlbaaRows
import Derived.Test.YtpgbbnmflnhlbaaXSDoc
import Derived.Test.YtpgbbnmflnhlbaaXPMat
namespace Go.Proofs.Ytpgbbnmflnhlbaa.stateMoves
open Go.ChangeShapes Go.WideShapes Go.ChangeAt Go.RowKit

set_option maxRecDepth 1000000 in
set_option maxHeartbeats 4000000 in
theorem walk (I0 : Ins) (v0 : Value) (s1 : Sta) (a2 : Int) (w : World) (e0 : SRow w v0 I0.l) (e1 : SetsOk s1) :
    Calls Try.prog 15 #[insV I0 v0, staV s1, .int .i64 a2] w fun e w' => e = .returned (.bool true) ∧ Below w.heap.size w w' := by
  have HR := Lib.hid e0
  have HS := Lib.hid e1
  obtain ⟨ad, cap, rfl, hlm, _⟩ := e0.form
  clear e0 e1
  unfold insV
  rw [show staV s1 = .agg #[.int .i64 s1.pos, .int .i64 s1.car, .int .i64 s1.time, .int .i64 s1.load, .int .i64 s1.first, .int .u64 s1.must, .int .u64 s1.may, .int .u64 s1.on] from rfl]
  go_enter Try.func15, Try.ntmps15
  go_wp2_with fail
  obtain ⟨b1, b2, b3⟩ := boxes_two w I0 (.slice ad I0.l.length cap) s1
  have HY := Lib.hid b1
  have HT := Lib.hid b2
  have HB := Lib.hid b3
  clear b1 b2 b3
  change Calls _ _ _ ((w.alloc (boxI I0 (.slice ad I0.l.length cap))).alloc (boxSt s1)) _
  generalize (w.alloc (boxI I0 (.slice ad I0.l.length cap))).alloc (boxSt s1) = W at *
  refine (sawake_any _).mono ?_
  rintro e w1 ⟨rfl, hb⟩
  have HYn := Lib.hid (HY.out.later hb)
  have HTn := Lib.hid (HT.out.later hb)
  have HBn := Lib.hid (HB.out.trans (hb.mono HB.out.size))
  clear hb HY HT HB
  have HY := HYn
  have HT := HTn
  have HB := HBn
  clear HYn HTn HBn
  have y3 := HY.out.cells.2.2.2
  by_cases g1 : 100 < I0.l.length
  · have d1 : decide (100 < (I0.l.length : Int)) = true := decide_eq_true (by omega)
    have d2 := decide_eq_true g1
    clear g1
    go_wp2
    go_ret
    exact ⟨rfl, HB.out⟩
  have d1 : decide (100 < (I0.l.length : Int)) = false := decide_eq_false (by omega)
  have d2 := decide_eq_false g1
  clear g1 y3
  obtain ⟨y0, y1, y2, y3⟩ := HY.out.cells
  have q0 := HT.out.c0
  have q1 := HT.out.c1
  have q2 := HT.out.c2
  have q3 := HT.out.c3
  have q4 := HT.out.c4
  have q5 := HT.out.c5
  have q6 := HT.out.c6
  have q7 := HT.out.c7
  go_wp2_with fail
  clear y0 y1 y2 y3 q0 q1 q2 q3 q4 q5 q6 q7 d1 d2
  change Calls _ _ #[insV I0 (.slice ad I0.l.length cap), staV s1, _] _ _
  refine (smove_any (HR.out.below HB.out) HS.out).mono ?_
  rintro e w2 ⟨rfl, hb⟩
  have HYn := Lib.hid (HY.out.later hb)
  have HTn := Lib.hid (HT.out.later hb)
  have HBn := Lib.hid (HB.out.trans (hb.mono HB.out.size))
  clear hb HY HT HB
  have HY := HYn
  have HT := HTn
  have HB := HBn
  clear HYn HTn HBn
  obtain ⟨po, ca, ti, lo, fi, mu, ma, on, HM0⟩ : ∃ po ca ti lo fi mu ma on, moveS I0 s1 a2 = ⟨po, ca, ti, lo, fi, mu, ma, on⟩ := ⟨_, _, _, _, _, _, _, _, rfl⟩
  rw [HM0]
  have HM := Lib.hid HM0
  clear HM0
  obtain ⟨mc, hmc⟩ : ∃ mc, moveC I0 s1 a2 = mc := ⟨_, rfl⟩
  rw [hmc]
  have HMC := Lib.hid hmc
  clear hmc
  obtain ⟨cb, hcb⟩ : ∃ cb, decide (Can I0 s1 a2) = cb := ⟨_, rfl⟩
  rw [hcb]
  have HCB := Lib.hid hcb
  clear hcb
  unfold staV
  go_upto_region 5 with fail
  have HA := Lib.hid (st_new w2 ⟨po, ca, ti, lo, fi, mu, ma, on⟩)
  have HYn := Lib.hid (HY.out.later ((Below.refl _ w2).alloc (Nat.le_refl _) (boxSt ⟨po, ca, ti, lo, fi, mu, ma, on⟩)))
  have HTn := Lib.hid (HT.out.later ((Below.refl _ w2).alloc (Nat.le_refl _) (boxSt ⟨po, ca, ti, lo, fi, mu, ma, on⟩)))
  have HBn := Lib.hid (HB.out.alloc HB.out.size (boxSt ⟨po, ca, ti, lo, fi, mu, ma, on⟩))
  clear HY HT HB
  have HY := HYn
  have HT := HTn
  have HB := HBn
  clear HYn HTn HBn
  change Code.wp _ _ _ _ (w2.alloc (boxSt ⟨po, ca, ti, lo, fi, mu, ma, on⟩))
  generalize w2.alloc (boxSt ⟨po, ca, ti, lo, fi, mu, ma, on⟩) = W3 at *
  generalize w2.heap.size = ba at *
  obtain ⟨y0, y1, y2, y3⟩ := HY.out.cells
  have q0 := HT.out.c0
  have q1 := HT.out.c1
  have q2 := HT.out.c2
  have q3 := HT.out.c3
  have q4 := HT.out.c4
  have q5 := HT.out.c5
  have q6 := HT.out.c6
  have q7 := HT.out.c7
  go_wp2_with fail
  clear y0 y1 y2 y3 q0 q1 q2 q3 q4 q5 q6 q7
  change Calls _ _ #[insV I0 (.slice ad I0.l.length cap), staV s1, _] _ _
  refine (dmove_any (HR.out.below HB.out) HS.out).mono ?_
  rintro e w4 ⟨rfl, hb⟩
  have HYn := Lib.hid (HY.out.later hb)
  have HTn := Lib.hid (HT.out.later hb)
  have HAn := Lib.hid (HA.out.later hb)
  have HBn := Lib.hid (HB.out.trans (hb.mono HB.out.size))
  clear hb HY HT HA HB
  have HY := HYn
  have HT := HTn
  have HA := HAn
  have HB := HBn
  clear HYn HTn HAn HBn
  rw [HM.out, HMC.out, HCB.out]
  unfold staV
  go_upto_region 6 with fail
  have HC := Lib.hid (st_new w4 ⟨po, ca, ti, lo, fi, mu, ma, on⟩)
  have HYn := Lib.hid (HY.out.later ((Below.refl _ w4).alloc (Nat.le_refl _) (boxSt ⟨po, ca, ti, lo, fi, mu, ma, on⟩)))
  have HTn := Lib.hid (HT.out.later ((Below.refl _ w4).alloc (Nat.le_refl _) (boxSt ⟨po, ca, ti, lo, fi, mu, ma, on⟩)))
  have HAn := Lib.hid (HA.out.later ((Below.refl _ w4).alloc (Nat.le_refl _) (boxSt ⟨po, ca, ti, lo, fi, mu, ma, on⟩)))
  have HBn := Lib.hid (HB.out.alloc HB.out.size (boxSt ⟨po, ca, ti, lo, fi, mu, ma, on⟩))
  clear HY HT HA HB
  have HY := HYn
  have HT := HTn
  have HA := HAn
  have HB := HBn
  clear HYn HTn HAn HBn
  change Code.wp _ _ _ _ (w4.alloc (boxSt ⟨po, ca, ti, lo, fi, mu, ma, on⟩))
  generalize w4.alloc (boxSt ⟨po, ca, ti, lo, fi, mu, ma, on⟩) = W5 at *
  generalize w4.heap.size = bc at *
  obtain ⟨y0, y1, y2, y3⟩ := HY.out.cells
  have q0 := HT.out.c0
  have q1 := HT.out.c1
  have q2 := HT.out.c2
  have q3 := HT.out.c3
  have q4 := HT.out.c4
  have q5 := HT.out.c5
  have q6 := HT.out.c6
  have q7 := HT.out.c7
  go_wp2_with fail
  clear y0 y1 y2 y3 q0 q1 q2 q3 q4 q5 q6 q7
  change Calls _ _ #[insV I0 (.slice ad I0.l.length cap), staV s1] _ _
  refine (send_any (HR.out.below HB.out) HS.out).mono ?_
  rintro e w6 ⟨rfl, hb⟩
  have HYn := Lib.hid (HY.out.later hb)
  have HTn := Lib.hid (HT.out.later hb)
  have HAn := Lib.hid (HA.out.later hb)
  have HCn := Lib.hid (HC.out.later hb)
  have HBn := Lib.hid (HB.out.trans (hb.mono HB.out.size))
  clear hb HY HT HA HC HB
  have HY := HYn
  have HT := HTn
  have HA := HAn
  have HC := HCn
  have HB := HBn
  clear HYn HTn HAn HCn HBn
  obtain ⟨ec, hec⟩ : ∃ ec, endC I0 s1 = ec := ⟨_, rfl⟩
  rw [hec]
  have HEC := Lib.hid hec
  clear hec
  obtain ⟨eb, heb⟩ : ∃ eb, decide (EndS I0 s1) = eb := ⟨_, rfl⟩
  rw [heb]
  have HEB := Lib.hid heb
  clear heb
  obtain ⟨y0, y1, y2, y3⟩ := HY.out.cells
  have q0 := HT.out.c0
  have q1 := HT.out.c1
  have q2 := HT.out.c2
  have q3 := HT.out.c3
  have q4 := HT.out.c4
  have q5 := HT.out.c5
  have q6 := HT.out.c6
  have q7 := HT.out.c7
  go_wp2_with fail
  clear y0 y1 y2 y3 q0 q1 q2 q3 q4 q5 q6 q7
  change Calls _ _ #[insV I0 (.slice ad I0.l.length cap), staV s1] _ _
  refine (dend_any (HR.out.below HB.out) HS.out).mono ?_
  rintro e w7 ⟨rfl, hb⟩
  have HYn := Lib.hid (HY.out.later hb)
  have HTn := Lib.hid (HT.out.later hb)
  have HAn := Lib.hid (HA.out.later hb)
  have HCn := Lib.hid (HC.out.later hb)
  have HBn := Lib.hid (HB.out.trans (hb.mono HB.out.size))
  clear hb HY HT HA HC HB
  have HY := HYn
  have HT := HTn
  have HA := HAn
  have HC := HCn
  have HB := HBn
  clear HYn HTn HAn HCn HBn
  rw [HEC.out, HEB.out]
  go_upto_region 8 with fail
  have HYd := Lib.hid (HY.out.later (Below.refl _ _).drew)
  have HTd := Lib.hid (HT.out.later (Below.refl _ _).drew)
  have HAd := Lib.hid (HA.out.later (Below.refl _ _).drew)
  have HCd := Lib.hid (HC.out.later (Below.refl _ _).drew)
  have HBd := Lib.hid HB.out.drew
  clear HY HT HA HC HB
  have HS0 := Lib.hid (show Holds (cellsI w.heap.size I0 (.slice ad I0.l.length cap) ++ cellsSt (w.heap.size + 1) s1) w7.drew from Holds.app.2 ⟨⟨HYd.out.cells.1, HYd.out.cells.2.1, HYd.out.cells.2.2.1, HYd.out.cells.2.2.2, trivial⟩, HTd.out.holds⟩)
  refine wp_region_held_drew (S := Holds (cellsI w.heap.size I0 (.slice ad I0.l.length cap) ++ cellsSt (w.heap.size + 1) s1)) (by kernel_rfl) HS0.out (fun hSn => ?_)
  generalize w7.drew = V at *
  have hlt := Lib.hid (show Lows V.heap.size (cellsI w.heap.size I0 (.slice ad I0.l.length cap) ++ cellsSt (w.heap.size + 1) s1) from Lows.app ⟨HYd.out.lt, HYd.out.lt, HYd.out.lt, HYd.out.lt, trivial⟩ (lows_St HTd.out.lt))
  have Bc := Lib.hid (Below.refl V.heap.size V)
  simp only [cellsI, cellsSt, List.cons_append, List.nil_append] at HS0 hlt hSn ⊢
  refine tks [0, 1, 3, 4] 4 rfl (by kernel_rfl) (fun _ _ _ _ h => h) (by assumption) (fun KT hKT => ?_)
  iterate 4 (refine tkT (by (simp only [gA, gB, gC]; rfl)) (by rfl) (by (intro w hSw; (simp only [Holds] at hSw); go_simp <;> with_reducible rfl)) ?_; simp only [Act.put, pA, pB, pC])
  refine hKT _ ?_
  clear KT hKT
  refine wpAnyH_ready (rs := [2]) (by kernel_rfl) (by simp) ?_
  refine AllReadyH.cons (o := ?oz290) ?iz290 (fun K hK => ?kz290) AllReadyH.nil
  case iz290 => (simp only [List.getElem?_toArray, List.getElem?_cons_zero, List.getElem?_cons_succ]; rfl)
  go_simp
  change Calls _ _ #[insV I0 (.slice ad I0.l.length cap), staV s1] _ _
  refine (smoves_any (HR.out.below (HBd.out.trans (Bc.out.mono HBd.out.size))) HS.out).mono ?_
  rintro e w8 ⟨u, rfl, hu, hb⟩
  have HO := Lib.hid hu
  clear hu
  refine held_more hK HS0.out hlt (Bc.out.trans (hb.mono Bc.out.size)) (fun Bc hSn => ?_)
  clear hb hK
  obtain ⟨ua, uc, rfl⟩ := HO.out.shape
  refine wpAnyH_ready (rs := [5]) (by kernel_rfl) (by simp) ?_
  refine AllReadyH.cons (o := ?oz291) ?iz291 (fun K hK => ?kz291) AllReadyH.nil
  case iz291 => (simp only [List.getElem?_toArray, List.getElem?_cons_zero, List.getElem?_cons_succ]; rfl)
  go_simp
  change Calls _ _ #[insV I0 (.slice ad I0.l.length cap), staV s1] _ _
  refine (dmoves_any (HR.out.below (HBd.out.trans (Bc.out.mono HBd.out.size))) HS.out).mono ?_
  rintro e w9 ⟨x, rfl, hx, hb⟩
  have HP := Lib.hid hx
  clear hx
  have HOn := Lib.hid (HO.out.below hb)
  clear HO
  have HO := HOn
  clear HOn
  refine held_more hK HS0.out hlt (Bc.out.trans (hb.mono Bc.out.size)) (fun Bc hSn => ?_)
  clear hb hK
  obtain ⟨xa, xc, rfl⟩ := HP.out.shape
  refine wpAnyH_ready (rs := [6]) (by kernel_rfl) (by simp) ?_
  refine AllReadyH.cons (o := ?oz292) ?iz292 (fun K hK => ?kz292) AllReadyH.nil
  case iz292 => (simp only [List.getElem?_toArray, List.getElem?_cons_zero, List.getElem?_cons_succ]; rfl)
  go_simp
  refine (same2_any HO.out.row HP.out.row).mono ?_
  rintro e w10 ⟨rfl, hb⟩
  rw [decide_eq_true (rfl : movesS I0 s1 = movesS I0 s1)]
  refine held_more hK HS0.out hlt (Bc.out.trans (hb.mono Bc.out.size)) (fun Bc hSn => ?_)
  clear hb hK
  refine tks [7] 1 rfl (by kernel_rfl) (fun _ _ _ _ h => h) (by assumption) (fun KT hKT => ?_)
  refine tkT (by (simp only [gA, gB, gC]; rfl)) (by rfl) (by (intro w hSw; (simp only [Holds] at hSw); go_simp <;> with_reducible rfl)) ?_
  simp only [Act.put, pA, pB, pC]
  refine hKT _ ?_
  clear KT hKT
  refine wpAnyH_done (by kernel_rfl) ?_ _
  clear HO HP
  have HY := Lib.hid (HYd.out.later Bc.out)
  have HT := Lib.hid (HTd.out.later Bc.out)
  have HA := Lib.hid (HAd.out.later Bc.out)
  have HC := Lib.hid (HCd.out.later Bc.out)
  have HB := Lib.hid (HBd.out.trans (Bc.out.mono HBd.out.size))
  clear HYd HTd HAd HCd HBd HS0 hlt Bc hSn
  go_upto_region 9 with fail
  have HYd := Lib.hid (HY.out.later (Below.refl _ _).drew)
  have HTd := Lib.hid (HT.out.later (Below.refl _ _).drew)
  have HAd := Lib.hid (HA.out.later (Below.refl _ _).drew)
  have HCd := Lib.hid (HC.out.later (Below.refl _ _).drew)
  have HBd := Lib.hid HB.out.drew
  clear HY HT HA HC HB
  have HS0 := Lib.hid (show Holds (cellsI w.heap.size I0 (.slice ad I0.l.length cap) ++ (cellsSt ba ⟨po, ca, ti, lo, fi, mu, ma, on⟩ ++ cellsSt bc ⟨po, ca, ti, lo, fi, mu, ma, on⟩)) w10.drew from Holds.app.2 ⟨⟨HYd.out.cells.1, HYd.out.cells.2.1, HYd.out.cells.2.2.1, HYd.out.cells.2.2.2, trivial⟩, Holds.app.2 ⟨HAd.out.holds, HCd.out.holds⟩⟩)
  refine wp_region_held_drew (S := Holds (cellsI w.heap.size I0 (.slice ad I0.l.length cap) ++ (cellsSt ba ⟨po, ca, ti, lo, fi, mu, ma, on⟩ ++ cellsSt bc ⟨po, ca, ti, lo, fi, mu, ma, on⟩))) (by kernel_rfl) HS0.out (fun hSn => ?_)
  generalize w10.drew = V2 at *
  have hlt := Lib.hid (show Lows V2.heap.size (cellsI w.heap.size I0 (.slice ad I0.l.length cap) ++ (cellsSt ba ⟨po, ca, ti, lo, fi, mu, ma, on⟩ ++ cellsSt bc ⟨po, ca, ti, lo, fi, mu, ma, on⟩)) from Lows.app ⟨HYd.out.lt, HYd.out.lt, HYd.out.lt, HYd.out.lt, trivial⟩ (Lows.app (lows_St HAd.out.lt) (lows_St HCd.out.lt)))
  have Bc := Lib.hid (Below.refl V2.heap.size V2)
  simp only [cellsI, cellsSt, List.cons_append, List.nil_append] at HS0 hlt hSn ⊢
  have keq := equalSta ⟨po, ca, ti, lo, fi, mu, ma, on⟩ ⟨po, ca, ti, lo, fi, mu, ma, on⟩
  rw [decide_eq_true (rfl : (⟨po, ca, ti, lo, fi, mu, ma, on⟩ : Sta) = ⟨po, ca, ti, lo, fi, mu, ma, on⟩)] at keq
  have kg := guardSta
  refine tks [0, 1, 2, 3, 4, 5, 6, 7, 8, 9, 10, 11, 12, 13, 14, 15, 16, 17, 18, 19, 20, 21, 22, 23, 24, 25, 26, 27, 29] 29 rfl (by kernel_rfl) (fun _ _ _ _ h => h) (by assumption) (fun KT hKT => ?_)
  iterate 29 (refine tkT (by (simp only [gA, gB, gC]; rfl)) (by rfl) (by (intro w hSw; (simp only [Holds] at hSw); go_simp <;> with_reducible rfl)) ?_; simp only [Act.put, pA, pB, pC])
  refine hKT _ ?_
  clear KT hKT
  refine wpAnyH_ready (rs := [28]) (by kernel_rfl) (by simp) ?_
  refine AllReadyH.cons (o := ?oz293) ?iz293 (fun K hK => ?kz293) AllReadyH.nil
  case iz293 => (simp only [List.getElem?_toArray, List.getElem?_cons_zero, List.getElem?_cons_succ]; rfl)
  go_simp
  change Calls _ _ #[insV I0 (.slice ad I0.l.length cap)] _ _
  refine (sroot_any (HR.out.below (HBd.out.trans (Bc.out.mono HBd.out.size)))).mono ?_
  rintro e w11 ⟨rfl, hb⟩
  refine held_more hK HS0.out hlt (Bc.out.trans (hb.mono Bc.out.size)) (fun Bc hSn => ?_)
  clear hb hK
  refine wpAnyH_ready (rs := [30]) (by kernel_rfl) (by simp) ?_
  refine AllReadyH.cons (o := ?oz294) ?iz294 (fun K hK => ?kz294) AllReadyH.nil
  case iz294 => (simp only [List.getElem?_toArray, List.getElem?_cons_zero, List.getElem?_cons_succ]; rfl)
  go_simp
  change Calls _ _ #[insV I0 (.slice ad I0.l.length cap)] _ _
  refine (droot_any (HR.out.below (HBd.out.trans (Bc.out.mono HBd.out.size)))).mono ?_
  rintro e w12 ⟨rfl, hb⟩
  refine held_more hK HS0.out hlt (Bc.out.trans (hb.mono Bc.out.size)) (fun Bc hSn => ?_)
  clear hb hK keq
  have keq := equalSta (rootS I0) (rootS I0)
  rw [decide_eq_true (rfl : rootS I0 = rootS I0)] at keq
  unfold staV
  refine tks [31, 32, 33] 3 rfl (by kernel_rfl) (fun _ _ _ _ h => h) (by assumption) (fun KT hKT => ?_)
  iterate 3 (refine tkT (by (simp only [gA, gB, gC]; rfl)) (by rfl) (by (intro w hSw; (simp only [Holds] at hSw); go_simp <;> with_reducible rfl)) ?_; simp only [Act.put, pA, pB, pC])
  refine hKT _ ?_
  clear KT hKT
  refine wpAnyH_done (by kernel_rfl) ?_ _
  have HY := Lib.hid (HYd.out.later Bc.out)
  have HT := Lib.hid (HTd.out.later Bc.out)
  have HA := Lib.hid (HAd.out.later Bc.out)
  have HC := Lib.hid (HCd.out.later Bc.out)
  have HB := Lib.hid (HBd.out.trans (Bc.out.mono HBd.out.size))
  clear HYd HTd HAd HCd HBd HS0 hlt Bc hSn
  go_wp2
  go_ret
  exact ⟨rfl, HB.out⟩

set_option maxRecDepth 100000 in
theorem lifted (os : Os) (started : os.Started) (H : Type) (enc : TypeId × Value → H) :
    ReturnsInHanded {} Try.checked os 15 .any (Rows.stateMovesSpec.pre6 enc Try.prog Try.f15 Rows.stateMovesRow.domain false) (Rows.stateMovesSpec.post enc Try.prog Try.f15 false true false false) := by
  refine returnsInHanded_of_change (C := Try.checked) own started (by kernel_rfl) Try.func15
    (ChangeSpec.witness6 (enc := enc) (C := Try.checked) false ⟨#[], #[.agg #[.int .i64 0, .int .i64 0, .int .i64 0, .slice none 0 0], .agg #[.int .i64 0, .int .i64 0, .int .i64 0, .int .i64 0, .int .i64 0, .int .u64 0, .int .u64 0, .int .u64 0], .int .i64 0], []⟩ 8 (by kernel_rfl) (by kernel_rfl) (by kernel_rfl) (by kernel_rfl)) ?_
  intro W base args ds gs before hval0 hW hcnd _
  have hval : ∀ (j : Nat) t v, Try.f15.params[j]? = some t → args[j]? = some v → Value.okWide Try.prog W .any base t v := hval0
  have hW' := hW
  obtain ⟨p, q, hA0, hV, rfl, hfz, hnd⟩ := hW
  have hA : DataW.TrodAll enc Try.prog W 0 (fun _ => true) true Try.f15.params.toList args.toList ds p := hA0
  rw [Try.params15] at hA hval
  obtain ⟨v0, vs0, d0, ds0, p0, q0, hargs, rfl, rfl, h0, r0⟩ := trodAll_cons hA
  obtain ⟨v1, vs1, d1, ds1, p1, q1, rfl, rfl, rfl, h1, r1⟩ := trodAll_cons r0
  obtain ⟨v2, vs2, d2, ds2, p2, q2, rfl, rfl, rfl, h2, r2⟩ := trodAll_cons r1
  obtain ⟨rfl, rfl, rfl⟩ := trodAll_nil r2
  obtain rfl : args = #[v0, v1, v2] := by cases args; simp_all
  obtain ⟨rfl, rfl⟩ := trodVars_none hV
  have k0 := h0
  have lt0 : ∀ x ∈ p0, x.block < W.heap.size := by obtain ⟨m, hm⟩ := k0; exact DataW.trod_lt m _ _ _ hm
  have k1 := h1
  have lt1 : ∀ x ∈ p1, x.block < W.heap.size := by obtain ⟨m, hm⟩ := k1; exact DataW.trod_lt m _ _ _ hm
  have k2 := h2
  have lt2 : ∀ x ∈ p2, x.block < W.heap.size := by obtain ⟨m, hm⟩ := k2; exact DataW.trod_lt m _ _ _ hm
  obtain ⟨I0, u0, rfl, e0, _⟩ := open_inst (hval 0 26 v0 rfl rfl) h0
  obtain ⟨s1, rfl, _, e1⟩ := open_state (hval 1 55 v1 rfl rfl) h1
  obtain ⟨a2, rfl, rfl, rfl, i2⟩ := open_int Try.underlying3 (hval 2 3 v2 rfl rfl) h2
  clear hA0 hval0
  refine (walk I0 _ s1 a2 W e0 e1).mono fun e W' ⟨he, bel⟩ => ?_
  subst he
  exact ⟨_, rfl, _, _, _, [], _, [], hW', trodAll_mk1 (shut_bool Try.underlying4 _), (trodAll_cons_mk (Below.trod laidOut (by kernel_rfl) (of_decide_eq_true (by kernel_rfl)) k0 bel lt0) (trodAll_cons_mk (Below.trod laidOut (by kernel_rfl) (of_decide_eq_true (by kernel_rfl)) k1 bel lt1) (trodAll_cons_mk (Below.trod laidOut (by kernel_rfl) (of_decide_eq_true (by kernel_rfl)) k2 bel lt2) trodAll_mk0))), rfl, bel.frame _, fun h => by cases h⟩

theorem over : Rows.stateMovesRow.holds Try.pinned (OpenSpec.ofChange Rows.stateMovesSpec) :=
  OpenClaim.holds_of_wide 15 Try.f15 rfl rfl rfl rfl rfl rfl rfl ⟨rfl, rfl, rfl, rfl, rfl⟩ rfl rfl rfl rfl rfl (by kernel_rfl) Try.func15 (by show joinedFacts Try.checked.prog _ _ _ _ = true; unfold joinedFacts; rw [ord_may, ord_lifts, ord_make]; kernel_rfl)
    (of_decide_eq_true (by kernel_rfl)) (by unfold Func.isWrapper; first | (rw [if_pos (by decide +kernel)]; kernel_rfl) | (rw [if_neg (by decide +kernel)]; exact ⟨rfl, rfl⟩))
    (fun os started H enc _ => lifted os started H enc)

theorem proved : Rows.StateMovesSaid := over
#print axioms proved
end Go.Proofs.Ytpgbbnmflnhlbaa.stateMoves
