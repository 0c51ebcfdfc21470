/- The document's own Move. -/
import Derived.Test.YtipjaibemhoifaaSDocA
namespace Go.Proofs.Ytipjaibemhoifaa
open Go.ChangeShapes Go.WideShapes Go.ChangeAt Go.RowKit

set_option maxRecDepth 1000000 in
set_option maxHeartbeats 4000000 in
theorem dmove_any {w : World} {v : Value} {I : Ins} {s : Sta} {j : Int} (hr : SRow w v I.l) (hs : SetsOk s) :
    Calls Try.prog 13 #[insV I v, staV s, .int .i64 j] w fun e w' => e = .returned (.tuple #[staV (moveS I s j), .int .i64 (moveC I s j), .bool (decide (Can I s j))]) ∧ Below w.heap.size w w' := by
  have HR := Lib.hid hr
  have HS := Lib.hid hs
  obtain ⟨ad, cap, rfl, hlm, _⟩ := hr.form
  clear hr hs
  unfold insV
  rw [show staV s = .agg #[.int .i64 s.pos, .int .i64 s.car, .int .i64 s.time, .int .i64 s.load, .int .i64 s.first, .int .u64 s.must, .int .u64 s.may, .int .u64 s.on] from rfl]
  go_enter Try.func13, Try.ntmps13
  go_wp2_with fail
  obtain ⟨b1, b2, b3, b4⟩ := boxes_ans w I (.slice ad I.l.length cap) s
  have HY := Lib.hid b1
  have HT := Lib.hid b2
  have HX := Lib.hid b3
  have HB := Lib.hid b4
  clear b1 b2 b3 b4
  change Calls _ _ #[insV I (.slice ad I.l.length cap), staV s] (((w.alloc (boxI I (.slice ad I.l.length cap))).alloc (boxSt s)).alloc (boxSt noughtS)) _
  generalize ((w.alloc (boxI I (.slice ad I.l.length cap))).alloc (boxSt s)).alloc (boxSt noughtS) = W at *
  refine (dmay_any (HR.out.below HB.out)).mono ?_
  rintro e w1 ⟨rfl, hb⟩
  have HYn := Lib.hid (HY.out.later hb)
  have HTn := Lib.hid (HT.out.later hb)
  have HXn := Lib.hid (HX.out.later hb)
  have HBn := Lib.hid (HB.out.trans (hb.mono HB.out.size))
  clear hb HY HT HX HB
  have HY := HYn
  have HT := HTn
  have HX := HXn
  have HB := HBn
  clear HYn HTn HXn HBn
  by_cases hg : GoOn I s
  rotate_left
  · skip
    have HE := Lib.hid (move_no (I := I) (s := s) (j := j) (fun hc => hg hc.1))
    rw [decide_eq_false hg]
    clear hg
    have x0 := HT.out.c0
    have x1 := HT.out.c1
    have x2 := HT.out.c2
    have x3 := HT.out.c3
    have x4 := HT.out.c4
    have x5 := HT.out.c5
    have x6 := HT.out.c6
    have x7 := HT.out.c7
    go_wp2_with (refine wpList_store_state (by rfl) (.tmp 6) (.tmp 33) (by rfl) (w.heap.size + 1 + 1) _ s (by rfl) (by rfl) HX.out ?_)
    intro WE hE hbE
    have z0 := hE.c0
    have z1 := hE.c1
    have z2 := hE.c2
    have z3 := hE.c3
    have z4 := hE.c4
    have z5 := hE.c5
    have z6 := hE.c6
    have z7 := hE.c7
    go_wp2
    exact bodyPost_ret (v := .tuple #[staV s, .int .i64 0, .bool false]) (by simp [results, Try.results13, go_sem, z0, z1, z2, z3, z4, z5, z6, z7, staV]) rfl ⟨by rw [HE.out.1, HE.out.2.1, HE.out.2.2], HB.out.trans (hbE _ (by omega))⟩
  rw [decide_eq_true hg]
  have HG := Lib.hid hg
  have HM := Lib.hid hg.1
  have hp0 := (fine_of hg.1).p0
  have hp1 := (fine_of hg.1).p1
  have e0 : IntKind.i64.wrap (2 * I.p) = 2 * I.p := IntWalk.i64_in _ (by omega)
  clear hg
  by_cases h0 : j < 0
  · have d0 := decide_eq_true h0
    have HE := Lib.hid (move_no (I := I) (s := s) (j := j) (fun hc => by have := can_rng hc; omega))
    clear h0 hp0 hp1 e0
    have x0 := HT.out.c0
    have x1 := HT.out.c1
    have x2 := HT.out.c2
    have x3 := HT.out.c3
    have x4 := HT.out.c4
    have x5 := HT.out.c5
    have x6 := HT.out.c6
    have x7 := HT.out.c7
    go_wp2_with (refine wpList_store_state (by rfl) (.tmp 6) (.tmp 33) (by rfl) (w.heap.size + 1 + 1) _ s (by rfl) (by rfl) HX.out ?_)
    intro WE hE hbE
    have z0 := hE.c0
    have z1 := hE.c1
    have z2 := hE.c2
    have z3 := hE.c3
    have z4 := hE.c4
    have z5 := hE.c5
    have z6 := hE.c6
    have z7 := hE.c7
    go_wp2
    exact bodyPost_ret (v := .tuple #[staV s, .int .i64 0, .bool false]) (by simp [results, Try.results13, go_sem, z0, z1, z2, z3, z4, z5, z6, z7, staV]) rfl ⟨by rw [HE.out.1, HE.out.2.1, HE.out.2.2], HB.out.trans (hbE _ (by omega))⟩
  have d0 := decide_eq_false h0
  have y0 := HY.out.cells.1
  by_cases h1 : 2 * I.p < j
  · have d1 := decide_eq_true h1
    have HE := Lib.hid (move_no (I := I) (s := s) (j := j) (fun hc => by have := can_rng hc; omega))
    clear h0 h1 hp0 hp1
    have x0 := HT.out.c0
    have x1 := HT.out.c1
    have x2 := HT.out.c2
    have x3 := HT.out.c3
    have x4 := HT.out.c4
    have x5 := HT.out.c5
    have x6 := HT.out.c6
    have x7 := HT.out.c7
    go_wp2_with (refine wpList_store_state (by rfl) (.tmp 6) (.tmp 33) (by rfl) (w.heap.size + 1 + 1) _ s (by rfl) (by rfl) HX.out ?_)
    intro WE hE hbE
    have z0 := hE.c0
    have z1 := hE.c1
    have z2 := hE.c2
    have z3 := hE.c3
    have z4 := hE.c4
    have z5 := hE.c5
    have z6 := hE.c6
    have z7 := hE.c7
    go_wp2
    exact bodyPost_ret (v := .tuple #[staV s, .int .i64 0, .bool false]) (by simp [results, Try.results13, go_sem, z0, z1, z2, z3, z4, z5, z6, z7, staV]) rfl ⟨by rw [HE.out.1, HE.out.2.1, HE.out.2.2], HB.out.trans (hbE _ (by omega))⟩
  have d1 := decide_eq_false h1
  obtain ⟨q, hq, hql, eq⟩ := num_stop HM.out HG.out.2.1
  obtain ⟨tb, off, rfl, hkq, hlt0⟩ := srow_at HR.out q hql
  have HQ := Lib.hid hq
  have HKQ := Lib.hid hkq
  have HLT := Lib.hid hlt0
  have EQ := Lib.hid eq
  have hqi : (q : Int) < (I.l.length : Int) := by omega
  clear hq hkq hlt0 eq
  by_cases hj0 : j = 0
  · subst hj0
    have hl0 : 0 < I.l.length := (pmay_len HM.out).1
    have hki : (0 : Int) < (I.l.length : Int) := by omega
    have HKT := Lib.hid (show At w tb off (nth I.l 0) by have := srow_here HR.out 0 hl0; rw [Nat.zero_mul, Nat.add_zero] at this; exact this)
    have HFR := Lib.hid (show farF (nth I.l q) (nth I.l 0) = farS1 I s 0 by unfold farS1; rw [EQ.out]; rfl)
    clear h0 h1 hp0 hp1 hql
    go_upto_region 4 with fail
    have HBd := Lib.hid HB.out.drew
    have HYd := Lib.hid (HY.out.later (Below.refl _ _).drew)
    have HTd := Lib.hid (HT.out.later (Below.refl _ _).drew)
    have HXd := Lib.hid (HX.out.later (Below.refl _ _).drew)
    clear HB HY HT HX
    have HS0 := Lib.hid (show Holds (cellsI w.heap.size I (.slice (some ⟨tb, off, none⟩) I.l.length cap) ++ ((⟨w.heap.size + 1, 0, none⟩, .int .i64 (q : Int)) :: (cellsF tb (off + q * 6) (nth I.l q) ++ cellsF tb off (nth I.l 0)))) w1.drew from Holds.app.2 ⟨⟨HYd.out.cells.1, HYd.out.cells.2.1, HYd.out.cells.2.2.1, HYd.out.cells.2.2.2, trivial⟩, by have c0 := HTd.out.c0; rw [HQ.out] at c0; exact c0, Holds.app.2 ⟨holds_at (HKQ.out.below HLT.out HBd.out), holds_at (HKT.out.below HLT.out HBd.out)⟩⟩)
    refine wp_region_held_drew (S := Holds (cellsI w.heap.size I (.slice (some ⟨tb, off, none⟩) I.l.length cap) ++ ((⟨w.heap.size + 1, 0, none⟩, .int .i64 (q : Int)) :: (cellsF tb (off + q * 6) (nth I.l q) ++ cellsF tb off (nth I.l 0))))) (by kernel_rfl) HS0.out (fun hSn => ?_)
    generalize w1.drew = V at *
    have hlt := Lib.hid (show Lows V.heap.size (cellsI w.heap.size I (.slice (some ⟨tb, off, none⟩) I.l.length cap) ++ ((⟨w.heap.size + 1, 0, none⟩, .int .i64 (q : Int)) :: (cellsF tb (off + q * 6) (nth I.l q) ++ cellsF tb off (nth I.l 0)))) from Lows.app ⟨HYd.out.lt, HYd.out.lt, HYd.out.lt, HYd.out.lt, trivial⟩ ⟨HTd.out.lt, Lows.app (lows_at (Nat.lt_of_lt_of_le HLT.out HBd.out.size)) (lows_at (Nat.lt_of_lt_of_le HLT.out HBd.out.size))⟩)
    have Bc := Lib.hid (Below.refl V.heap.size V)
    simp only [cellsI, cellsF, List.cons_append, List.nil_append] at HS0 hlt hSn ⊢
    refine tks [0, 1, 2, 3, 4, 5, 6, 7, 8, 9, 10] 11 rfl (by kernel_rfl) (fun _ _ _ _ h => h) (by assumption) (fun KT hKT => ?_)
    iterate 11 (refine tkT (by (simp only [gA, gB, gC]; rfl)) (by rfl) (by (intro w hSw; (simp only [Holds] at hSw); go_simp <;> with_reducible rfl)) ?_; simp only [Act.put, pA, pB, pC])
    refine hKT _ ?_
    clear KT hKT
    refine wpAnyH_ready (rs := [11]) (by kernel_rfl) (by simp) ?_
    refine AllReadyH.cons (o := ?oz1) ?iz1 (fun K hK => ?kz1) AllReadyH.nil
    case iz1 => (simp only [List.getElem?_toArray, List.getElem?_cons_zero, List.getElem?_cons_succ]; rfl)
    go_simp
    change Calls _ _ #[stopV (nth I.l q), stopV (nth I.l 0)] _ _
    refine (rfar_any _ _ _).mono ?_
    rintro e w' ⟨rfl, hb⟩
    rw [HFR.out]
    refine held_more hK HS0.out hlt (Bc.out.trans (hb.mono Bc.out.size)) (fun Bc hSn => ?_)
    clear hb hK
    refine tks [12] 1 rfl (by kernel_rfl) (fun _ _ _ _ h => h) (by assumption) (fun KT hKT => ?_)
    refine tkT (by (simp only [gA, gB, gC]; rfl)) (by rfl) (by (intro w hSw; (simp only [Holds] at hSw); go_simp <;> with_reducible rfl)) ?_
    simp only [Act.put, pA, pB, pC]
    refine hKT _ ?_
    clear KT hKT
    refine wpAnyH_done (by kernel_rfl) ?_ _
    have HY := Lib.hid (HYd.out.later Bc.out)
    have HT := Lib.hid (HTd.out.later Bc.out)
    have HX := Lib.hid (HXd.out.later Bc.out)
    have HB := Lib.hid (HBd.out.trans (Bc.out.mono HBd.out.size))
    clear HYd HTd HXd HBd HS0 hlt Bc hSn
    clear d0 d1 y0 e0 hki hqi hl0
    have y0 := (HY.out).cells.1
    have y1 := (HY.out).cells.2.1
    have y2 := (HY.out).cells.2.2.1
    have y3 := (HY.out).cells.2.2.2
    have q0 := (HT.out).c0
    have q1 := (HT.out).c1
    have q2 := (HT.out).c2
    have q3 := (HT.out).c3
    have q4 := (HT.out).c4
    have q5 := (HT.out).c5
    have q6 := (HT.out).c6
    have q7 := (HT.out).c7
    go_wp2_with fail
    clear y0 y1 y2 y3 q0 q1 q2 q3 q4 q5 q6 q7
    change Calls _ _ #[insV I (.slice (some ⟨tb, off, none⟩) I.l.length cap), staV s, _] _ _
    refine (dhome_any (HR.out.below HB.out) HS.out HG.out rfl).mono ?_
    rintro e w2 ⟨rfl, hb⟩
    have HYn := Lib.hid (HY.out.later hb)
    have HTn := Lib.hid (HT.out.later hb)
    have HXn := Lib.hid (HX.out.later hb)
    have HBn := Lib.hid (HB.out.trans (hb.mono HB.out.size))
    clear hb HY HT HX HB
    have HY := HYn
    have HT := HTn
    have HX := HXn
    have HB := HBn
    clear HYn HTn HXn HBn
    obtain ⟨po, ca, ti, lo, fi, mu, ma, on, HMV0⟩ : ∃ po ca ti lo fi mu ma on, moveS I s 0 = ⟨po, ca, ti, lo, fi, mu, ma, on⟩ := ⟨_, _, _, _, _, _, _, _, rfl⟩
    rw [HMV0]
    have HMV := Lib.hid HMV0
    clear HMV0
    unfold staV
    go_upto_region 7 with fail
    have HU := Lib.hid (st_new w2 ⟨po, ca, ti, lo, fi, mu, ma, on⟩)
    have HYn := Lib.hid (HY.out.later ((Below.refl _ w2).alloc (Nat.le_refl _) (boxSt ⟨po, ca, ti, lo, fi, mu, ma, on⟩)))
    have HTn := Lib.hid (HT.out.later ((Below.refl _ w2).alloc (Nat.le_refl _) (boxSt ⟨po, ca, ti, lo, fi, mu, ma, on⟩)))
    have HXn := Lib.hid (HX.out.later ((Below.refl _ w2).alloc (Nat.le_refl _) (boxSt ⟨po, ca, ti, lo, fi, mu, ma, on⟩)))
    have HBn := Lib.hid (HB.out.alloc HB.out.size (boxSt ⟨po, ca, ti, lo, fi, mu, ma, on⟩))
    clear HY HT HX HB
    have HY := HYn
    have HT := HTn
    have HX := HXn
    have HB := HBn
    clear HYn HTn HXn HBn
    change Code.wp _ _ _ _ (w2.alloc (boxSt ⟨po, ca, ti, lo, fi, mu, ma, on⟩))
    generalize w2.alloc (boxSt ⟨po, ca, ti, lo, fi, mu, ma, on⟩) = W3 at *
    generalize w2.heap.size = bm at *
    have x0 := HU.out.c0
    have x1 := HU.out.c1
    have x2 := HU.out.c2
    have x3 := HU.out.c3
    have x4 := HU.out.c4
    have x5 := HU.out.c5
    have x6 := HU.out.c6
    have x7 := HU.out.c7
    go_wp2_with (refine wpList_store_state (by rfl) (.tmp 6) (.tmp 56) (by rfl) (w.heap.size + 1 + 1) _ ⟨po, ca, ti, lo, fi, mu, ma, on⟩ (by rfl) (by rfl) HX.out ?_)
    intro WE hE hbE
    have z0 := hE.c0
    have z1 := hE.c1
    have z2 := hE.c2
    have z3 := hE.c3
    have z4 := hE.c4
    have z5 := hE.c5
    have z6 := hE.c6
    have z7 := hE.c7
    go_wp2
    exact bodyPost_ret (v := .tuple #[staV ⟨po, ca, ti, lo, fi, mu, ma, on⟩, .int .i64 (moveC I s 0), .bool (decide (Can I s 0))]) (by simp [results, Try.results13, go_sem, z0, z1, z2, z3, z4, z5, z6, z7, staV]) rfl ⟨by rw [HMV.out], HB.out.trans (hbE _ (by omega))⟩
  have HJ0 := Lib.hid hj0
  have HJ := Lib.hid (show 1 ≤ j ∧ j ≤ 2 * I.p by omega)
  have HNV := Lib.hid (next_visit (I := I) (s := s) hj0)
  obtain ⟨k, rfl, hk, ek⟩ := num_stop HM.out (show 0 ≤ j ∧ j ≤ 2 * I.p by omega)
  have bk0 : ((k : Int) == 0) = false := by simp; omega
  have hki : (k : Int) < (I.l.length : Int) := by omega
  have HKT := Lib.hid (show At w tb (off + k * 6) (nth I.l k) from srow_here HR.out k hk)
  obtain ⟨d, hd⟩ : ∃ d, d = farS1 I s k := ⟨_, rfl⟩
  have HFR := Lib.hid (show farF (nth I.l q) (nth I.l k) = d by rw [hd]; unfold farS1; rw [EQ.out, ek])
  have hbd := goOn_bd HG.out
  have hfb := far1_bd I s k
  have hdb := dem_bd HM.out (show 0 ≤ (k : Int) ∧ (k : Int) ≤ 2 * I.p by omega)
  rw [← hd] at hfb
  rw [ek] at hdb
  have e1 : IntKind.i64.wrap (s.time + d) = s.time + d := IntWalk.i64_in _ (by omega)
  have e2 : IntKind.i64.wrap (s.load + (nth I.l k).d) = s.load + (nth I.l k).d := IntWalk.i64_in _ (by omega)
  have e3 : IntKind.i64.wrap ((k : Int) - I.p) = (k : Int) - I.p := IntWalk.i64_in _ (by omega)
  have HBG := Lib.hid (show begS I s k = max (s.time + d) (nth I.l k).r by rw [hd]; unfold begS comeS; rw [ek]; rfl)
  have HD := Lib.hid hd
  have EK := Lib.hid ek
  clear h0 h1 hp0 hp1 hql hj0 hk hbd hfb hdb hd ek
  go_upto_region 4 with fail
  have HBd := Lib.hid HB.out.drew
  have HYd := Lib.hid (HY.out.later (Below.refl _ _).drew)
  have HTd := Lib.hid (HT.out.later (Below.refl _ _).drew)
  have HXd := Lib.hid (HX.out.later (Below.refl _ _).drew)
  clear HB HY HT HX
  have HS0 := Lib.hid (show Holds (cellsI w.heap.size I (.slice (some ⟨tb, off, none⟩) I.l.length cap) ++ ((⟨w.heap.size + 1, 0, none⟩, .int .i64 (q : Int)) :: (cellsF tb (off + q * 6) (nth I.l q) ++ cellsF tb (off + k * 6) (nth I.l k)))) w1.drew from Holds.app.2 ⟨⟨HYd.out.cells.1, HYd.out.cells.2.1, HYd.out.cells.2.2.1, HYd.out.cells.2.2.2, trivial⟩, by have c0 := HTd.out.c0; rw [HQ.out] at c0; exact c0, Holds.app.2 ⟨holds_at (HKQ.out.below HLT.out HBd.out), holds_at (HKT.out.below HLT.out HBd.out)⟩⟩)
  refine wp_region_held_drew (S := Holds (cellsI w.heap.size I (.slice (some ⟨tb, off, none⟩) I.l.length cap) ++ ((⟨w.heap.size + 1, 0, none⟩, .int .i64 (q : Int)) :: (cellsF tb (off + q * 6) (nth I.l q) ++ cellsF tb (off + k * 6) (nth I.l k))))) (by kernel_rfl) HS0.out (fun hSn => ?_)
  generalize w1.drew = V at *
  have hlt := Lib.hid (show Lows V.heap.size (cellsI w.heap.size I (.slice (some ⟨tb, off, none⟩) I.l.length cap) ++ ((⟨w.heap.size + 1, 0, none⟩, .int .i64 (q : Int)) :: (cellsF tb (off + q * 6) (nth I.l q) ++ cellsF tb (off + k * 6) (nth I.l k)))) from Lows.app ⟨HYd.out.lt, HYd.out.lt, HYd.out.lt, HYd.out.lt, trivial⟩ ⟨HTd.out.lt, Lows.app (lows_at (Nat.lt_of_lt_of_le HLT.out HBd.out.size)) (lows_at (Nat.lt_of_lt_of_le HLT.out HBd.out.size))⟩)
  have Bc := Lib.hid (Below.refl V.heap.size V)
  simp only [cellsI, cellsF, List.cons_append, List.nil_append] at HS0 hlt hSn ⊢
  refine tks [0, 1, 2, 3, 4, 5, 6, 7, 8, 9, 10] 11 rfl (by kernel_rfl) (fun _ _ _ _ h => h) (by assumption) (fun KT hKT => ?_)
  iterate 11 (refine tkT (by (simp only [gA, gB, gC]; rfl)) (by rfl) (by (intro w hSw; (simp only [Holds] at hSw); go_simp <;> with_reducible rfl)) ?_; simp only [Act.put, pA, pB, pC])
  refine hKT _ ?_
  clear KT hKT
  refine wpAnyH_ready (rs := [11]) (by kernel_rfl) (by simp) ?_
  refine AllReadyH.cons (o := ?oz2) ?iz2 (fun K hK => ?kz2) AllReadyH.nil
  case iz2 => (simp only [List.getElem?_toArray, List.getElem?_cons_zero, List.getElem?_cons_succ]; rfl)
  go_simp
  change Calls _ _ #[stopV (nth I.l q), stopV (nth I.l k)] _ _
  refine (rfar_any _ _ _).mono ?_
  rintro e w' ⟨rfl, hb⟩
  rw [HFR.out]
  refine held_more hK HS0.out hlt (Bc.out.trans (hb.mono Bc.out.size)) (fun Bc hSn => ?_)
  clear hb hK
  refine tks [12] 1 rfl (by kernel_rfl) (fun _ _ _ _ h => h) (by assumption) (fun KT hKT => ?_)
  refine tkT (by (simp only [gA, gB, gC]; rfl)) (by rfl) (by (intro w hSw; (simp only [Holds] at hSw); go_simp <;> with_reducible rfl)) ?_
  simp only [Act.put, pA, pB, pC]
  refine hKT _ ?_
  clear KT hKT
  refine wpAnyH_done (by kernel_rfl) ?_ _
  have HY := Lib.hid (HYd.out.later Bc.out)
  have HT := Lib.hid (HTd.out.later Bc.out)
  have HX := Lib.hid (HXd.out.later Bc.out)
  have HB := Lib.hid (HBd.out.trans (Bc.out.mono HBd.out.size))
  clear HYd HTd HXd HBd HS0 hlt Bc hSn
  clear d0 d1 y0 e0 hqi
  generalize nth I.l k = t at *
  obtain ⟨k0, k1, k2, k3, k4, k5⟩ := HKT.out.below HLT.out HB.out
  clear k0 k1 k5
  have y0 := (HY.out).cells.1
  have y1 := (HY.out).cells.2.1
  have y2 := (HY.out).cells.2.2.1
  have y3 := (HY.out).cells.2.2.2
  have q0 := (HT.out).c0
  have q1 := (HT.out).c1
  have q2 := (HT.out).c2
  have q3 := (HT.out).c3
  have q4 := (HT.out).c4
  have q5 := (HT.out).c5
  have q6 := (HT.out).c6
  have q7 := (HT.out).c7
  clear y1
  go_upto_if 70 with fail
  go_cut [14] from 17 (fun c wx => c = .int .i64 (begS I s k) ∧ wx = w')
  case first =>
    by_cases hrd : s.time + d < t.r
    · have d2 := decide_eq_true hrd
      have hmx : max (s.time + d) t.r = t.r := by omega
      go_wp2_with fail
      go_meet
      exact ⟨by rw [HBG.out, hmx], rfl⟩
    · have d2 := decide_eq_false hrd
      have hmx : max (s.time + d) t.r = s.time + d := by omega
      go_wp2_with fail
      go_meet
      exact ⟨by rw [HBG.out, hmx], rfl⟩
  case rest =>
  obtain ⟨rfl, rfl⟩ := hcut
  clear HBG e1 k3
  go_wp2_with fail
  refine (erhas_any _ _ _ HS.out.1).mono ?_
  rintro e w9 ⟨rfl, rfl⟩
  by_cases hse : has s.must k = true
  · skip
    have HE := Lib.hid (move_no (I := I) (s := s) (j := k) (fun hc => by rcases hc.2 with h | h | h; (have := h.2.1; rw [hse] at this; cases this); (have := h.2.2.1; rw [hse] at this; cases this); exact HJ0.out h.1))
    rw [hse]
    clear hse k2 k4 y0 y2 y3 e2 e3 q0 q1 q2 q3 q4 q5 q6 q7
    have x0 := HT.out.c0
    have x1 := HT.out.c1
    have x2 := HT.out.c2
    have x3 := HT.out.c3
    have x4 := HT.out.c4
    have x5 := HT.out.c5
    have x6 := HT.out.c6
    have x7 := HT.out.c7
    go_wp2_with (refine wpList_store_state (by rfl) (.tmp 6) (.tmp 92) (by rfl) (w.heap.size + 1 + 1) _ s (by rfl) (by rfl) HX.out ?_)
    intro WE hE hbE
    have z0 := hE.c0
    have z1 := hE.c1
    have z2 := hE.c2
    have z3 := hE.c3
    have z4 := hE.c4
    have z5 := hE.c5
    have z6 := hE.c6
    have z7 := hE.c7
    go_wp2
    exact bodyPost_ret (v := .tuple #[staV s, .int .i64 0, .bool false]) (by simp [results, Try.results13, go_sem, z0, z1, z2, z3, z4, z5, z6, z7, staV]) rfl ⟨by rw [HE.out.1, HE.out.2.1, HE.out.2.2], HB.out.trans (hbE _ (by omega))⟩
  rw [Bool.not_eq_true] at hse
  have HSE := Lib.hid hse
  rw [hse]
  clear hse
  by_cases hla : t.u < begS I s k
  · have d3 := decide_eq_true hla
    have HE := Lib.hid (move_no (I := I) (s := s) (j := k) (fun hc => by rcases hc.2 with h | h | h; (have := h.2.2.2.1; rw [EK.out] at this; omega); (have := h.2.2.2.2; rw [EK.out] at this; omega); exact HJ0.out h.1))
    clear hla k2 y0 y2 e2 e3 q0 q1 q2 q3 q4 q5 q6 q7
    have x0 := HT.out.c0
    have x1 := HT.out.c1
    have x2 := HT.out.c2
    have x3 := HT.out.c3
    have x4 := HT.out.c4
    have x5 := HT.out.c5
    have x6 := HT.out.c6
    have x7 := HT.out.c7
    go_wp2_with (refine wpList_store_state (by rfl) (.tmp 6) (.tmp 92) (by rfl) (w.heap.size + 1 + 1) _ s (by rfl) (by rfl) HX.out ?_)
    intro WE hE hbE
    have z0 := hE.c0
    have z1 := hE.c1
    have z2 := hE.c2
    have z3 := hE.c3
    have z4 := hE.c4
    have z5 := hE.c5
    have z6 := hE.c6
    have z7 := hE.c7
    go_wp2
    exact bodyPost_ret (v := .tuple #[staV s, .int .i64 0, .bool false]) (by simp [results, Try.results13, go_sem, z0, z1, z2, z3, z4, z5, z6, z7, staV]) rfl ⟨by rw [HE.out.1, HE.out.2.1, HE.out.2.2], HB.out.trans (hbE _ (by omega))⟩
  have d3 := decide_eq_false hla
  have HLA := Lib.hid hla
  clear hla
  by_cases hkp : (k : Int) ≤ I.p
  · have d4 := decide_eq_true hkp
    have d5 : decide (I.p < (k : Int)) = false := decide_eq_false (by omega)
    have HKP := Lib.hid hkp
    clear hkp
    by_cases hfu : I.r < s.load + t.d
    · have d6 := decide_eq_true hfu
      have HE := Lib.hid (move_no (I := I) (s := s) (j := k) (fun hc => by rcases hc.2 with h | h | h; (have := h.2.2.1; rw [EK.out] at this; omega); (have := h.1.1; have := HKP.out; omega); exact HJ0.out h.1))
      clear hfu d5
      go_wp2_with fail
      go_quiet (fail)
      have hb := below_drewN (Below.refl wc.heap.size wc) nq
      generalize wc.drewN nq = wq at *
      have HYn := Lib.hid (HY.out.later hb)
      have HTn := Lib.hid (HT.out.later hb)
      have HXn := Lib.hid (HX.out.later hb)
      have HBn := Lib.hid (HB.out.trans (hb.mono HB.out.size))
      clear hb HY HT HX HB
      have HY := HYn
      have HT := HTn
      have HX := HXn
      have HB := HBn
      clear HYn HTn HXn HBn
      clear k2 k4 y0 y2 y3 e2 e3 d3 q0 q1 q2 q3 q4 q5 q6 q7 d4 d6
      have x0 := HT.out.c0
      have x1 := HT.out.c1
      have x2 := HT.out.c2
      have x3 := HT.out.c3
      have x4 := HT.out.c4
      have x5 := HT.out.c5
      have x6 := HT.out.c6
      have x7 := HT.out.c7
      go_wp2_with (refine wpList_store_state (by rfl) (.tmp 6) (.tmp 122) (by rfl) (w.heap.size + 1 + 1) _ s (by rfl) (by rfl) HX.out ?_)
      intro WE hE hbE
      have z0 := hE.c0
      have z1 := hE.c1
      have z2 := hE.c2
      have z3 := hE.c3
      have z4 := hE.c4
      have z5 := hE.c5
      have z6 := hE.c6
      have z7 := hE.c7
      go_wp2
      exact bodyPost_ret (v := .tuple #[staV s, .int .i64 0, .bool false]) (by simp [results, Try.results13, go_sem, z0, z1, z2, z3, z4, z5, z6, z7, staV]) rfl ⟨by rw [HE.out.1, HE.out.2.1, HE.out.2.2], HB.out.trans (hbE _ (by omega))⟩
    have d6 := decide_eq_false hfu
    have HFU := Lib.hid hfu
    clear hfu
    by_cases hpz : s.pos = 0
    · have b0 : (s.pos == 0) = true := by simp [hpz]
      have HPZ := Lib.hid hpz
      clear hpz
      by_cases hfi : (k : Int) ≤ s.first
      · have d7 := decide_eq_true hfi
        have HE := Lib.hid (move_no (I := I) (s := s) (j := k) (fun hc => by rcases hc.2 with h | h | h; (have := h.2.2.2.2 HPZ.out; omega); (have := h.1.1; have := HKP.out; omega); exact HJ0.out h.1))
        clear hfi d5
        go_wp2_with fail
        go_quiet (fail)
        have hb := below_drewN (Below.refl wc.heap.size wc) nq
        generalize wc.drewN nq = wq at *
        have HYn := Lib.hid (HY.out.later hb)
        have HTn := Lib.hid (HT.out.later hb)
        have HXn := Lib.hid (HX.out.later hb)
        have HBn := Lib.hid (HB.out.trans (hb.mono HB.out.size))
        clear hb HY HT HX HB
        have HY := HYn
        have HT := HTn
        have HX := HXn
        have HB := HBn
        clear HYn HTn HXn HBn
        clear k2 k4 y0 y2 y3 e2 e3 d3 q0 q1 q2 q3 q4 q5 q6 q7 d4 d6 d7 b0
        have x0 := HT.out.c0
        have x1 := HT.out.c1
        have x2 := HT.out.c2
        have x3 := HT.out.c3
        have x4 := HT.out.c4
        have x5 := HT.out.c5
        have x6 := HT.out.c6
        have x7 := HT.out.c7
        go_wp2_with (refine wpList_store_state (by rfl) (.tmp 6) (.tmp 122) (by rfl) (w.heap.size + 1 + 1) _ s (by rfl) (by rfl) HX.out ?_)
        intro WE hE hbE
        have z0 := hE.c0
        have z1 := hE.c1
        have z2 := hE.c2
        have z3 := hE.c3
        have z4 := hE.c4
        have z5 := hE.c5
        have z6 := hE.c6
        have z7 := hE.c7
        go_wp2
        exact bodyPost_ret (v := .tuple #[staV s, .int .i64 0, .bool false]) (by simp [results, Try.results13, go_sem, z0, z1, z2, z3, z4, z5, z6, z7, staV]) rfl ⟨by rw [HE.out.1, HE.out.2.1, HE.out.2.2], HB.out.trans (hbE _ (by omega))⟩
      have d7 := decide_eq_false hfi
      have HFI := Lib.hid hfi
      clear hfi
      go_wp2_with fail
      go_quiet (fail)
      have hb := below_drewN (Below.refl wc.heap.size wc) nq
      generalize wc.drewN nq = wq at *
      have HYn := Lib.hid (HY.out.later hb)
      have HTn := Lib.hid (HT.out.later hb)
      have HXn := Lib.hid (HX.out.later hb)
      have HBn := Lib.hid (HB.out.trans (hb.mono HB.out.size))
      clear hb HY HT HX HB
      have HY := HYn
      have HT := HTn
      have HX := HXn
      have HB := HBn
      clear HYn HTn HXn HBn
      clear k2 k4 y0 y2 y3 e2 d3 q0 q1 q2 q3 q4 q5 q6 q7
      clear d4 d6 d7 b0
      have y0 := HY.out.cells.1
      have q6 := HT.out.c6
      go_wp2_with fail
      refine (erhas_any _ _ _ HS.out.2.1).mono ?_
      rintro e w9 ⟨rfl, rfl⟩
      have HE := Lib.hid (move_yes (I := I) (s := s) (j := k) ⟨HG.out, .inl ⟨⟨HJ.out.1, HKP.out⟩, HSE.out, by rw [EK.out]; have := HFU.out; omega, by rw [EK.out]; have := HLA.out; omega, fun _ => by have := HFI.out; omega⟩⟩)
      have HPO := Lib.hid (show I.p < (k : Int) → s.pos ≠ 0 from fun h => by have := HKP.out; omega)
      clear e3 q6 y0
      have y0 := (HY.out).cells.1
      have y1 := (HY.out).cells.2.1
      have y2 := (HY.out).cells.2.2.1
      have y3 := (HY.out).cells.2.2.2
      have q0 := (HT.out).c0
      have q1 := (HT.out).c1
      have q2 := (HT.out).c2
      have q3 := (HT.out).c3
      have q4 := (HT.out).c4
      have q5 := (HT.out).c5
      have q6 := (HT.out).c6
      have q7 := (HT.out).c7
      go_wp2_with fail
      clear y0 y1 y2 y3 q0 q1 q2 q3 q4 q5 q6 q7
      change Calls _ _ #[insV I (.slice (some ⟨tb, off, none⟩) I.l.length cap), staV s, _, _] _ _
      refine (dvisit_any (HR.out.below HB.out) HS.out HG.out HJ.out rfl HPO.out).mono ?_
      rintro e w9 ⟨rfl, hb⟩
      have HYn := Lib.hid (HY.out.later hb)
      have HTn := Lib.hid (HT.out.later hb)
      have HXn := Lib.hid (HX.out.later hb)
      have HBn := Lib.hid (HB.out.trans (hb.mono HB.out.size))
      clear hb HY HT HX HB
      have HY := HYn
      have HT := HTn
      have HX := HXn
      have HB := HBn
      clear HYn HTn HXn HBn
      go_wp2_with (refine wpList_store_state (by rfl) (.tmp 6) (.tmp 148) (by rfl) (w.heap.size + 1 + 1) _ (visitS I s k) (by rfl) (by rfl) HX.out ?_)
      intro WE hE hbE
      have z0 := hE.c0
      have z1 := hE.c1
      have z2 := hE.c2
      have z3 := hE.c3
      have z4 := hE.c4
      have z5 := hE.c5
      have z6 := hE.c6
      have z7 := hE.c7
      go_wp2
      exact bodyPost_ret (v := .tuple #[staV (visitS I s k), .int .i64 d, .bool true]) (by simp [results, Try.results13, go_sem, z0, z1, z2, z3, z4, z5, z6, z7, staV]) rfl ⟨by rw [HE.out.1, HE.out.2.1, HE.out.2.2, HNV.out, HD.out], HB.out.trans (hbE _ (by omega))⟩
    have b0 : (s.pos == 0) = false := by simp [hpz]
    have HPZ := Lib.hid hpz
    clear hpz
    go_wp2_with fail
    go_quiet (fail)
    have hb := below_drewN (Below.refl wc.heap.size wc) nq
    generalize wc.drewN nq = wq at *
    have HYn := Lib.hid (HY.out.later hb)
    have HTn := Lib.hid (HT.out.later hb)
    have HXn := Lib.hid (HX.out.later hb)
    have HBn := Lib.hid (HB.out.trans (hb.mono HB.out.size))
    clear hb HY HT HX HB
    have HY := HYn
    have HT := HTn
    have HX := HXn
    have HB := HBn
    clear HYn HTn HXn HBn
    clear k2 k4 y0 y2 y3 e2 d3 q0 q1 q2 q3 q4 q5 q6 q7
    clear d4 d6 b0
    have y0 := HY.out.cells.1
    have q6 := HT.out.c6
    go_wp2_with fail
    refine (erhas_any _ _ _ HS.out.2.1).mono ?_
    rintro e w9 ⟨rfl, rfl⟩
    have HE := Lib.hid (move_yes (I := I) (s := s) (j := k) ⟨HG.out, .inl ⟨⟨HJ.out.1, HKP.out⟩, HSE.out, by rw [EK.out]; have := HFU.out; omega, by rw [EK.out]; have := HLA.out; omega, fun h => absurd h HPZ.out⟩⟩)
    have HPO := Lib.hid (show I.p < (k : Int) → s.pos ≠ 0 from fun h => by have := HKP.out; omega)
    clear e3 q6 y0
    have y0 := (HY.out).cells.1
    have y1 := (HY.out).cells.2.1
    have y2 := (HY.out).cells.2.2.1
    have y3 := (HY.out).cells.2.2.2
    have q0 := (HT.out).c0
    have q1 := (HT.out).c1
    have q2 := (HT.out).c2
    have q3 := (HT.out).c3
    have q4 := (HT.out).c4
    have q5 := (HT.out).c5
    have q6 := (HT.out).c6
    have q7 := (HT.out).c7
    go_wp2_with fail
    clear y0 y1 y2 y3 q0 q1 q2 q3 q4 q5 q6 q7
    change Calls _ _ #[insV I (.slice (some ⟨tb, off, none⟩) I.l.length cap), staV s, _, _] _ _
    refine (dvisit_any (HR.out.below HB.out) HS.out HG.out HJ.out rfl HPO.out).mono ?_
    rintro e w9 ⟨rfl, hb⟩
    have HYn := Lib.hid (HY.out.later hb)
    have HTn := Lib.hid (HT.out.later hb)
    have HXn := Lib.hid (HX.out.later hb)
    have HBn := Lib.hid (HB.out.trans (hb.mono HB.out.size))
    clear hb HY HT HX HB
    have HY := HYn
    have HT := HTn
    have HX := HXn
    have HB := HBn
    clear HYn HTn HXn HBn
    go_wp2_with (refine wpList_store_state (by rfl) (.tmp 6) (.tmp 148) (by rfl) (w.heap.size + 1 + 1) _ (visitS I s k) (by rfl) (by rfl) HX.out ?_)
    intro WE hE hbE
    have z0 := hE.c0
    have z1 := hE.c1
    have z2 := hE.c2
    have z3 := hE.c3
    have z4 := hE.c4
    have z5 := hE.c5
    have z6 := hE.c6
    have z7 := hE.c7
    go_wp2
    exact bodyPost_ret (v := .tuple #[staV (visitS I s k), .int .i64 d, .bool true]) (by simp [results, Try.results13, go_sem, z0, z1, z2, z3, z4, z5, z6, z7, staV]) rfl ⟨by rw [HE.out.1, HE.out.2.1, HE.out.2.2, HNV.out, HD.out], HB.out.trans (hbE _ (by omega))⟩
  have d4 := decide_eq_false hkp
  have d5 : decide (I.p < (k : Int)) = true := decide_eq_true (by omega)
  have HKP := Lib.hid (show I.p < (k : Int) by omega)
  clear hkp
  go_wp2_with fail
  go_quiet (fail)
  have hb := below_drewN (Below.refl wc.heap.size wc) nq
  generalize wc.drewN nq = wq at *
  have HYn := Lib.hid (HY.out.later hb)
  have HTn := Lib.hid (HT.out.later hb)
  have HXn := Lib.hid (HX.out.later hb)
  have HBn := Lib.hid (HB.out.trans (hb.mono HB.out.size))
  clear hb HY HT HX HB
  have HY := HYn
  have HT := HTn
  have HX := HXn
  have HB := HBn
  clear HYn HTn HXn HBn
  clear k2 k4 y0 y2 y3 e2 d3 q0 q1 q2 q3 q4 q5 q6 q7
  clear d4
  have y0 := HY.out.cells.1
  have q6 := HT.out.c6
  go_wp2_with fail
  refine (erhas_any _ _ _ HS.out.2.1).mono ?_
  rintro e w9 ⟨rfl, rfl⟩
  have q0 := HT.out.c0
  by_cases hpz : s.pos = 0
  · have b0 : (s.pos == 0) = true := by simp [hpz]
    have HE := Lib.hid (move_no (I := I) (s := s) (j := k) (fun hc => by rcases hc.2 with h | h | h; (have := h.1.2; have := HKP.out; omega); exact h.2.1 hpz; exact HJ0.out h.1))
    clear hpz e3 q6 q0
    have x0 := HT.out.c0
    have x1 := HT.out.c1
    have x2 := HT.out.c2
    have x3 := HT.out.c3
    have x4 := HT.out.c4
    have x5 := HT.out.c5
    have x6 := HT.out.c6
    have x7 := HT.out.c7
    go_wp2_with (refine wpList_store_state (by rfl) (.tmp 6) (.tmp 143) (by rfl) (w.heap.size + 1 + 1) _ s (by rfl) (by rfl) HX.out ?_)
    intro WE hE hbE
    have z0 := hE.c0
    have z1 := hE.c1
    have z2 := hE.c2
    have z3 := hE.c3
    have z4 := hE.c4
    have z5 := hE.c5
    have z6 := hE.c6
    have z7 := hE.c7
    go_wp2
    exact bodyPost_ret (v := .tuple #[staV s, .int .i64 0, .bool false]) (by simp [results, Try.results13, go_sem, z0, z1, z2, z3, z4, z5, z6, z7, staV]) rfl ⟨by rw [HE.out.1, HE.out.2.1, HE.out.2.2], HB.out.trans (hbE _ (by omega))⟩
  have b0 : (s.pos == 0) = false := by simp [hpz]
  have HPZ := Lib.hid hpz
  clear hpz
  by_cases hta : has s.may ((k : Int) - I.p) = true
  rotate_left
  · skip
    have HE := Lib.hid (move_no (I := I) (s := s) (j := k) (fun hc => by rcases hc.2 with h | h | h; (have := h.1.2; have := HKP.out; omega); exact hta h.2.2.2.1; exact HJ0.out h.1))
    rw [Bool.not_eq_true] at hta
    rw [hta]
    clear hta e3 q6
    clear q0
    have q0 := HT.out.c0
    have x0 := HT.out.c0
    have x1 := HT.out.c1
    have x2 := HT.out.c2
    have x3 := HT.out.c3
    have x4 := HT.out.c4
    have x5 := HT.out.c5
    have x6 := HT.out.c6
    have x7 := HT.out.c7
    go_wp2_with (refine wpList_store_state (by rfl) (.tmp 6) (.tmp 143) (by rfl) (w.heap.size + 1 + 1) _ s (by rfl) (by rfl) HX.out ?_)
    intro WE hE hbE
    have z0 := hE.c0
    have z1 := hE.c1
    have z2 := hE.c2
    have z3 := hE.c3
    have z4 := hE.c4
    have z5 := hE.c5
    have z6 := hE.c6
    have z7 := hE.c7
    go_wp2
    exact bodyPost_ret (v := .tuple #[staV s, .int .i64 0, .bool false]) (by simp [results, Try.results13, go_sem, z0, z1, z2, z3, z4, z5, z6, z7, staV]) rfl ⟨by rw [HE.out.1, HE.out.2.1, HE.out.2.2], HB.out.trans (hbE _ (by omega))⟩
  have HTA := Lib.hid hta
  rw [hta]
  clear hta
  have HE := Lib.hid (move_yes (I := I) (s := s) (j := k) ⟨HG.out, .inr (.inl ⟨⟨HKP.out, HJ.out.2⟩, HPZ.out, HSE.out, HTA.out, by rw [EK.out]; have := HLA.out; omega⟩)⟩)
  have HPO := Lib.hid (show I.p < (k : Int) → s.pos ≠ 0 from fun _ => HPZ.out)
  clear e3 q6 y0 q0
  have y0 := (HY.out).cells.1
  have y1 := (HY.out).cells.2.1
  have y2 := (HY.out).cells.2.2.1
  have y3 := (HY.out).cells.2.2.2
  have q0 := (HT.out).c0
  have q1 := (HT.out).c1
  have q2 := (HT.out).c2
  have q3 := (HT.out).c3
  have q4 := (HT.out).c4
  have q5 := (HT.out).c5
  have q6 := (HT.out).c6
  have q7 := (HT.out).c7
  go_wp2_with fail
  clear y0 y1 y2 y3 q0 q1 q2 q3 q4 q5 q6 q7
  change Calls _ _ #[insV I (.slice (some ⟨tb, off, none⟩) I.l.length cap), staV s, _, _] _ _
  refine (dvisit_any (HR.out.below HB.out) HS.out HG.out HJ.out rfl HPO.out).mono ?_
  rintro e w9 ⟨rfl, hb⟩
  have HYn := Lib.hid (HY.out.later hb)
  have HTn := Lib.hid (HT.out.later hb)
  have HXn := Lib.hid (HX.out.later hb)
  have HBn := Lib.hid (HB.out.trans (hb.mono HB.out.size))
  clear hb HY HT HX HB
  have HY := HYn
  have HT := HTn
  have HX := HXn
  have HB := HBn
  clear HYn HTn HXn HBn
  go_wp2_with (refine wpList_store_state (by rfl) (.tmp 6) (.tmp 148) (by rfl) (w.heap.size + 1 + 1) _ (visitS I s k) (by rfl) (by rfl) HX.out ?_)
  intro WE hE hbE
  have z0 := hE.c0
  have z1 := hE.c1
  have z2 := hE.c2
  have z3 := hE.c3
  have z4 := hE.c4
  have z5 := hE.c5
  have z6 := hE.c6
  have z7 := hE.c7
  go_wp2
  exact bodyPost_ret (v := .tuple #[staV (visitS I s k), .int .i64 d, .bool true]) (by simp [results, Try.results13, go_sem, z0, z1, z2, z3, z4, z5, z6, z7, staV]) rfl ⟨by rw [HE.out.1, HE.out.2.1, HE.out.2.2, HNV.out, HD.out], HB.out.trans (hbE _ (by omega))⟩
end Go.Proofs.Ytipjaibemhoifaa
