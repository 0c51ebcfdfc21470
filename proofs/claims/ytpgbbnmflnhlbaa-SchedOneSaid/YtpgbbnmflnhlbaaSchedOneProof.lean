/- SchedOne holds for every instance and every pair; there is no further condition. -/
import Derived.Test.YtpgbbnmflnhlbaaOrd
import Derived.Test.YtpgbbnmflnhlbaaRows
import Derived.Test.YtpgbbnmflnhlbaaXTSched
namespace Go.Proofs.Ytpgbbnmflnhlbaa.schedOne
open Go.ChangeShapes Go.WideShapes Go.ChangeAt Go.RowKit

theorem nthT_lit0 (t0 t1 : Tm) : nthT [t0, t1] 0 = t0 ∧ nthT [t0, t1] 1 = t1 := ⟨rfl, rfl⟩
theorem max_or (x y : Int) (h : x < y) : max x y = y := Int.max_eq_right (Int.le_of_lt h)
theorem one_facts {I : Ins} (hm : mayB I = true) {j g : Nat} {beg the back : Int} (hj : 1 ≤ j) (hp : (j : Int) ≤ I.p) (hg : (j : Int) + I.p = (g : Int))
    (hb : beg = max ((nth I.l 0).r + farF (nth I.l 0) (nth I.l j)) (nth I.l j).r) (ht : the = max (beg + (nth I.l j).s + farF (nth I.l j) (nth I.l g)) (nth I.l g).r) (hk : back = the + (nth I.l g).s + farF (nth I.l g) (nth I.l 0)) :
    ((nth I.l j).d ≤ I.r ∧ beg ≤ (nth I.l j).u ∧ the ≤ (nth I.l g).u ∧ back ≤ (nth I.l 0).u → errT I [(j : Int), (g : Int)] = 0 ∧ farT I [(j : Int), (g : Int)] = farF (nth I.l 0) (nth I.l j) + farF (nth I.l j) (nth I.l g) + farF (nth I.l g) (nth I.l 0) ∧
      ∃ t0 t1, outT I [(j : Int), (g : Int)] = [t0, t1] ∧ t0.begn = beg ∧ t1.begn = the) ∧
    (¬ ((nth I.l j).d ≤ I.r ∧ beg ≤ (nth I.l j).u ∧ the ≤ (nth I.l g).u ∧ back ≤ (nth I.l 0).u) → errT I [(j : Int), (g : Int)] = 6 ∨ errT I [(j : Int), (g : Int)] = 7) := by
  have h := alone hm (c := (j : Int)) ⟨by omega, hp⟩
  have e1 : stp I (j : Int) = nth I.l j := rfl
  have e2 : stp I (g : Int) = nth I.l g := rfl
  have e3 : aloneOk I (j : Int) ↔ ((nth I.l j).d ≤ I.r ∧ beg ≤ (nth I.l j).u ∧ the ≤ (nth I.l g).u ∧ back ≤ (nth I.l 0).u) := by
    unfold aloneOk backF thenF begF
    rw [hg, e1, e2, ← hb, ← ht, ← hk]
  unfold thenF begF at h
  rw [hg, e1, e2, ← hb, ← ht] at h
  rw [← e3]
  refine ⟨fun ho => ?_, h.2⟩
  obtain ⟨s, h1, h2, ⟨t0, t1, h3, h4, h5⟩, h6⟩ := h.1 ho
  obtain ⟨k1, k2, k3, _⟩ := ok_of h1
  exact ⟨k1, k3.trans h6, t0, t1, k2.trans h3, h4, h5⟩
set_option maxRecDepth 1000000 in
set_option maxHeartbeats 4000000 in
theorem walk (I0 : Ins) (v0 : Value) (a1 : Int) (w : World) (e0 : SRow w v0 I0.l) :
    Calls Try.prog 13 #[insV I0 v0, .int .i64 a1] w fun e w' => e = .returned (.bool true) ∧ Below w.heap.size w w' := by
  have HE := Lib.hid e0
  obtain ⟨a, cap, rfl, hm, _⟩ := e0.form
  have hx0 : I0.l.length ≤ 9223372036854775807 := by unfold maxLen at hm; omega
  clear e0 hm
  unfold insV
  go_enter Try.func13, Try.ntmps13
  go_wp2_with fail
  change Calls _ _ _ (w.alloc (boxI I0 (.slice a I0.l.length cap))) _
  have HB0 := Lib.hid ((Below.refl _ w).alloc (Nat.le_refl _) (boxI I0 (.slice a I0.l.length cap)))
  have HXB := Lib.hid (ybox_new w I0 (.slice a I0.l.length cap))
  generalize w.alloc (boxI I0 (.slice a I0.l.length cap)) = W at *
  refine (tawake_any _).mono ?_
  rintro e w1 ⟨rfl, hb⟩
  have HB1 := Lib.hid (HB0.out.trans (hb.mono HB0.out.size))
  have HX1 := Lib.hid ((show YBox W w.heap.size I0 (.slice a I0.l.length cap) from HXB.out).later hb)
  clear hb
  obtain ⟨c0, c1, c2, c3⟩ := HX1.out.cells
  go_wp2_with fail
  change Calls _ _ #[insV I0 (.slice a I0.l.length cap)] _ _
  refine (may_any (HE.out.below HB1.out)).mono ?_
  rintro e w2 ⟨rfl, hb⟩
  have HB2 := Lib.hid (HB1.out.trans (hb.mono HB1.out.size))
  have HX2 := Lib.hid (HX1.out.later hb)
  clear hb c0 c1 c2 c3
  obtain ⟨c0, c1, c2, c3⟩ := HX2.out.cells
  cases hmy : mayB I0
  · clear hmy
    go_wp2
    go_ret
    exact ⟨rfl, HB2.out⟩
  have HMY := Lib.hid hmy
  have hl33 := (pmay_len hmy).2
  have hl0 := (pmay_len hmy).1
  have HF := Lib.hid (fine_of hmy)
  have hfl := HF.out.len
  have hp16 := HF.out.p1
  have hp0 := HF.out.p0
  have d1 : decide ((33 : Int) < (I0.l.length : Int)) = false := decide_eq_false (by omega)
  have e1 : IntKind.i64.wrap (2 * I0.p) = 2 * I0.p := IntWalk.i64_in _ (by omega)
  have e2 : IntKind.i64.wrap (2 * I0.p + 1) = 2 * I0.p + 1 := IntWalk.i64_in _ (by omega)
  have d2 : ((I0.l.length : Int) != 2 * I0.p + 1) = false := by rw [bne_eq_false_iff_eq]; exact hfl
  have HLN := Lib.hid hfl
  clear hmy hfl
  by_cases q1 : a1 < 1
  · have d3 := decide_eq_true q1
    clear q1
    go_wp2
    go_ret
    exact ⟨rfl, HB2.out⟩
  have d3 := decide_eq_false q1
  by_cases q2 : I0.p < a1
  · have d4 := decide_eq_true q2
    clear q1 q2
    go_wp2
    go_ret
    exact ⟨rfl, HB2.out⟩
  have d4 := decide_eq_false q2
  go_upto_region 4 with fail
  clear d1 d2 d3 d4 e1 e2
  obtain ⟨j, rfl⟩ : ∃ j : Nat, a1 = (j : Int) := ⟨a1.toNat, by omega⟩
  obtain ⟨g, hg⟩ : ∃ g : Nat, (j : Int) + I0.p = (g : Int) := ⟨((j : Int) + I0.p).toNat, by omega⟩
  have HLN2 := HLN.out
  have hjl : j < I0.l.length := by omega
  have hgl : g < I0.l.length := by omega
  have HON := Lib.hid (fun beg the back => one_facts (beg := beg) (the := the) (back := back) HMY.out (show 1 ≤ j by omega) (show (j : Int) ≤ I0.p by omega) hg)
  have hA := stop_in (HF.out.ok (j : Int) (by omega) (by omega))
  have hB := stop_in (HF.out.ok (g : Int) (by omega) (by omega))
  have h0 := stop_in (HF.out.ok 0 (by omega) (by omega))
  rw [show stp I0 0 = nth I0.l 0 from rfl] at h0
  rw [show stp I0 (j : Int) = nth I0.l j from rfl] at hA
  rw [show stp I0 (g : Int) = nth I0.l g from rfl] at hB
  have hfa := farF_bd (nth I0.l 0) (nth I0.l j)
  have hfb := farF_bd (nth I0.l j) (nth I0.l g)
  have hfc := farF_bd (nth I0.l g) (nth I0.l 0)
  have e1 : IntKind.i64.wrap ((j : Int) + I0.p) = (g : Int) := by rw [← hg]; exact IntWalk.i64_in _ (by omega)
  have hji : (j : Int) < (I0.l.length : Int) := by omega
  have hgi : (g : Int) < (I0.l.length : Int) := by omega
  have h0i : (0 : Int) < (I0.l.length : Int) := by omega
  obtain ⟨tb, off, rfl, hat0, htb⟩ := srow_at HE.out 0 hl0
  rw [Nat.zero_mul, Nat.add_zero] at hat0
  have HA0 := Lib.hid (show ∀ w', Below w.heap.size w w' → At w' tb off (nth I0.l 0) from fun w' hb' => hat0.below htb hb')
  have HAJ := Lib.hid (show ∀ w', Below w.heap.size w w' → At w' tb (off + j * 6) (nth I0.l j) from fun w' hb' => (srow_here HE.out j hjl).below htb hb')
  have HAG := Lib.hid (show ∀ w', Below w.heap.size w w' → At w' tb (off + g * 6) (nth I0.l g) from fun w' hb' => (srow_here HE.out g hgl).below htb hb')
  obtain ⟨d1, hd1⟩ : ∃ d, farF (nth I0.l 0) (nth I0.l j) = d := ⟨_, rfl⟩
  obtain ⟨d2, hd2⟩ : ∃ d, farF (nth I0.l j) (nth I0.l g) = d := ⟨_, rfl⟩
  obtain ⟨d3, hd3⟩ : ∃ d, farF (nth I0.l g) (nth I0.l 0) = d := ⟨_, rfl⟩
  have HD1 := Lib.hid hd1
  have HD2 := Lib.hid hd2
  have HD3 := Lib.hid hd3
  rw [hd1] at hfa HON
  rw [hd2] at hfb HON
  rw [hd3] at hfc HON
  clear hd1 hd2 hd3 hat0 hg q1 q2 c0 c1 c2 c3
  generalize nth I0.l 0 = Y at *
  generalize nth I0.l j = A at *
  generalize nth I0.l g = B at *
  obtain ⟨t0, t1, t2, t3, t4, t5⟩ := HAJ.out w2 HB2.out
  obtain ⟨c0, c1, c2, c3⟩ := HX2.out.cells
  clear HLN2
  go_upto_region 5 with fail
  have HB3 := Lib.hid (HB2.out.alloc HB2.out.size (boxS A))
  have HX3 := Lib.hid (HX2.out.later ((Below.refl _ w2).alloc (Nat.le_refl _) (boxS A)))
  have HZA := Lib.hid (holds_boxS w2 A)
  have HSA := Lib.hid (show (w2.alloc (boxS A)).heap.size = w2.heap.size + 1 by simp)
  change Code.wp _ _ _ _ (w2.alloc (boxS A))
  generalize w2.alloc (boxS A) = w3 at *
  generalize w2.heap.size = NA at *
  clear t0 t1 t2 t3 t4 t5 c0 c1 c2 c3
  obtain ⟨t0, t1, t2, t3, t4, t5⟩ := HAG.out w3 HB3.out
  obtain ⟨c0, c1, c2, c3⟩ := HX3.out.cells
  go_upto_region 6 with fail
  have HB4 := Lib.hid (HB3.out.alloc HB3.out.size (boxS B))
  have HX4 := Lib.hid (HX3.out.later ((Below.refl _ w3).alloc (Nat.le_refl _) (boxS B)))
  have HZA4 := Lib.hid (Holds.below ((Below.refl _ w3).alloc (Nat.le_refl _) (boxS B)) HZA.out (lows_P (by have := HSA.out; omega)))
  have HZB := Lib.hid (holds_boxS w3 B)
  have HSB := Lib.hid (show (w3.alloc (boxS B)).heap.size = w3.heap.size + 1 by simp)
  change Code.wp _ _ _ _ (w3.alloc (boxS B))
  generalize w3.alloc (boxS B) = w4 at *
  generalize w3.heap.size = NB at *
  clear t0 t1 t2 t3 t4 t5 c0 c1 c2 c3
  obtain ⟨c0, c1, c2, c3⟩ := HX4.out.cells
  go_wp2_with fail
  have hrow := row_two w4 (j : Int) (g : Int)
  have HB5 := Lib.hid (HB4.out.alloc HB4.out.size (.cells #[.int .i64 (j : Int), .int .i64 (g : Int)] 3))
  have hb5 := (Below.refl w4.heap.size w4).alloc (Nat.le_refl _) (.cells #[.int .i64 (j : Int), .int .i64 (g : Int)] 3)
  refine (times_any (I := I0) (HE.out.below HB5.out) hrow).mono ?_
  rintro e w6 ⟨u, rfl, ht, hb⟩
  have HB46 := Lib.hid (hb5.trans (hb.mono hb5.size))
  have HB6 := Lib.hid (HB4.out.trans (HB46.out.mono HB4.out.size))
  have HX6 := Lib.hid (HX4.out.later HB46.out)
  have HZA6 := Lib.hid (Holds.below HB46.out HZA4.out (lows_P (by have := HSA.out; have := HSB.out; omega)))
  have HZB6 := Lib.hid (Holds.below HB46.out HZB.out (lows_P (by have := HSB.out; omega)))
  have HT6 := Lib.hid ht.row
  have hs6 : NA < w6.heap.size ∧ NB < w6.heap.size ∧ w.heap.size < w6.heap.size ∧ tb < w6.heap.size := ⟨by have := HB46.out.size; have := HSA.out; have := HSB.out; omega, by have := HB46.out.size; have := HSB.out; omega, HX6.out.lt, Nat.lt_of_lt_of_le htb HB6.out.size⟩
  obtain ⟨ua, uc, rfl⟩ := ht.shape
  clear ht hb hb5 hrow c0 c1 c2 c3
  obtain ⟨er, her⟩ : ∃ er, errT I0 [(j : Int), (g : Int)] = er := ⟨_, rfl⟩
  obtain ⟨far, hfar⟩ : ∃ far, farT I0 [(j : Int), (g : Int)] = far := ⟨_, rfl⟩
  obtain ⟨O, hO⟩ : ∃ O, outT I0 [(j : Int), (g : Int)] = O := ⟨_, rfl⟩
  rw [her, hfar, hO] at HON
  rw [hO] at HT6
  rw [her, hfar, hO]
  clear her hfar hO
  go_wp2_with fail
  have HS0 := Lib.hid (show Holds ((⟨w.heap.size, 3, none⟩, .slice (some ⟨tb, off, none⟩) I0.l.length cap) :: (cellsF tb off Y ++ cellsP NA A)) w6.drew from
    ⟨(HX6.out.later ((Below.refl _ w6).drew)).cells.2.2.2, Holds.app.2 ⟨holds_at (HA0.out _ HB6.out.drew), Holds.below ((Below.refl _ w6).drew) HZA6.out (lows_P hs6.1)⟩⟩)
  have hlt := Lib.hid (show Lows w6.drew.heap.size ((⟨w.heap.size, 3, none⟩, .slice (some ⟨tb, off, none⟩) I0.l.length cap) :: (cellsF tb off Y ++ cellsP NA A)) from ⟨hs6.2.2.1, Lows.app (lows_at hs6.2.2.2) (lows_P hs6.1)⟩)
  refine wp_region_held_drew (S := Holds ((⟨w.heap.size, 3, none⟩, .slice (some ⟨tb, off, none⟩) I0.l.length cap) :: (cellsF tb off Y ++ cellsP NA A))) (by kernel_rfl) HS0.out (fun hSn => ?_)
  have Bc := Lib.hid (Below.refl w6.drew.heap.size w6.drew)
  simp only [cellsF, cellsP, List.cons_append, List.nil_append] at HS0 hlt hSn ⊢
  have e5 : IntKind.i64.wrap (Y.r + d1) = Y.r + d1 := IntWalk.i64_in _ (by omega)
  refine tks [0, 1, 2, 3, 4, 5, 6, 7, 8, 9] 10 rfl (by kernel_rfl) (fun _ _ _ _ h => h) (by assumption) (fun KT hKT => ?_)
  iterate 10 (refine tkT (by (simp only [gA, gB, gC]; rfl)) (by rfl) (by (intro w hSw; (simp only [Holds] at hSw); go_simp <;> with_reducible rfl)) ?_; simp only [Act.put, pA, pB, pC])
  refine hKT _ ?_
  clear KT hKT
  refine wpAnyH_ready (rs := [10]) (by kernel_rfl) (by simp) ?_
  refine AllReadyH.cons (o := ?oz186) ?iz186 (fun K hK => ?kz186) AllReadyH.nil
  case iz186 => (simp only [List.getElem?_toArray, List.getElem?_cons_zero, List.getElem?_cons_succ]; rfl)
  go_simp
  change Calls _ _ #[stopV Y, stopV A] _ _
  refine (far_any Y A _).mono ?_
  rw [HD1.out]
  rintro e w7 ⟨rfl, hb⟩
  refine held_more hK HS0.out hlt (Bc.out.trans (hb.mono Bc.out.size)) (fun Bc hSn => ?_)
  clear hb hK
  refine tks [11, 12] 2 rfl (by kernel_rfl) (fun _ _ _ _ h => h) (by assumption) (fun KT hKT => ?_)
  iterate 2 (refine tkT (by (simp only [gA, gB, gC]; rfl)) (by rfl) (by (intro w hSw; (simp only [Holds] at hSw); go_simp <;> with_reducible rfl)) ?_; simp only [Act.put, pA, pB, pC])
  refine hKT _ ?_
  clear KT hKT
  refine wpAnyH_done (by kernel_rfl) ?_ _
  have HB67 := Lib.hid ((Below.refl w6.heap.size w6).drew.trans Bc.out)
  have HB7 := Lib.hid (HB6.out.trans (HB67.out.mono HB6.out.size))
  have HX7 := Lib.hid (HX6.out.later HB67.out)
  have HZA7 := Lib.hid (Holds.below HB67.out HZA6.out (lows_P hs6.1))
  have HZB7 := Lib.hid (Holds.below HB67.out HZB6.out (lows_P hs6.2.1))
  have HT7 := Lib.hid (HT6.out.below HB67.out)
  have hs7 : NA < w7.heap.size ∧ NB < w7.heap.size ∧ w.heap.size < w7.heap.size ∧ tb < w7.heap.size := ⟨by have := HB67.out.size; omega, by have := HB67.out.size; omega, HX7.out.lt, Nat.lt_of_lt_of_le htb HB7.out.size⟩
  clear HS0 hlt hSn Bc e5
  obtain ⟨x0, x1, x2, x3, x4, x5, _⟩ := HZA7.out
  obtain ⟨beg, hbeg⟩ : ∃ x, max (Y.r + d1) A.r = x := ⟨_, rfl⟩
  have hbb : 0 ≤ beg ∧ beg ≤ 1100000 := by omega
  have HBG := Lib.hid hbeg
  clear hbeg
  go_upto_if 90 with fail
  go_cut [11] from 87 (fun v wx => v = .int .i64 beg ∧ wx = w7)
  case first =>
    by_cases hq : Y.r + d1 < A.r
    · have hd := decide_eq_true hq
      go_wp2_with fail
      go_meet
      case rel => exact ⟨by rw [← HBG.out, max_or _ _ hq], rfl⟩
    · have hd := decide_eq_false hq
      go_wp2_with fail
      go_meet
      case rel => exact ⟨by rw [← HBG.out, Int.max_eq_left hq], rfl⟩
  case rest =>
    obtain ⟨rfl, rfl⟩ := hcut
    clear x0 x1 x2 x3 x4 x5
    go_upto_region 10 with fail
    have e5 : IntKind.i64.wrap (beg + A.s) = beg + A.s := IntWalk.i64_in _ (by omega)
    have e6 : IntKind.i64.wrap (beg + A.s + d2) = beg + A.s + d2 := IntWalk.i64_in _ (by omega)
    have HS0 := Lib.hid (show Holds (cellsP NA A ++ cellsP NB B) wc.drew from Holds.app.2 ⟨Holds.below ((Below.refl _ wc).drew) HZA7.out (lows_P hs7.1), Holds.below ((Below.refl _ wc).drew) HZB7.out (lows_P hs7.2.1)⟩)
    have hlt := Lib.hid (show Lows wc.drew.heap.size (cellsP NA A ++ cellsP NB B) from Lows.app (lows_P hs7.1) (lows_P hs7.2.1))
    refine wp_region_held_drew (S := Holds (cellsP NA A ++ cellsP NB B)) (by kernel_rfl) HS0.out (fun hSn => ?_)
    have Bc := Lib.hid (Below.refl wc.drew.heap.size wc.drew)
    simp only [cellsP, List.cons_append, List.nil_append] at HS0 hlt hSn ⊢
    refine tks [0, 1, 2, 3, 4, 5] 6 rfl (by kernel_rfl) (fun _ _ _ _ h => h) (by assumption) (fun KT hKT => ?_)
    iterate 6 (refine tkT (by (simp only [gA, gB, gC]; rfl)) (by rfl) (by (intro w hSw; (simp only [Holds] at hSw); go_simp <;> with_reducible rfl)) ?_; simp only [Act.put, pA, pB, pC])
    refine hKT _ ?_
    clear KT hKT
    refine wpAnyH_ready (rs := [6]) (by kernel_rfl) (by simp) ?_
    refine AllReadyH.cons (o := ?oz187) ?iz187 (fun K hK => ?kz187) AllReadyH.nil
    case iz187 => (simp only [List.getElem?_toArray, List.getElem?_cons_zero, List.getElem?_cons_succ]; rfl)
    go_simp
    change Calls _ _ #[stopV A, stopV B] _ _
    refine (far_any A B _).mono ?_
    rw [HD2.out]
    rintro e w8 ⟨rfl, hb⟩
    refine held_more hK HS0.out hlt (Bc.out.trans (hb.mono Bc.out.size)) (fun Bc hSn => ?_)
    clear hb hK
    refine tks [7, 8] 2 rfl (by kernel_rfl) (fun _ _ _ _ h => h) (by assumption) (fun KT hKT => ?_)
    iterate 2 (refine tkT (by (simp only [gA, gB, gC]; rfl)) (by rfl) (by (intro w hSw; (simp only [Holds] at hSw); go_simp <;> with_reducible rfl)) ?_; simp only [Act.put, pA, pB, pC])
    refine hKT _ ?_
    clear KT hKT
    refine wpAnyH_done (by kernel_rfl) ?_ _
    have HB78 := Lib.hid ((Below.refl wc.heap.size wc).drew.trans Bc.out)
    have HB8 := Lib.hid (HB7.out.trans (HB78.out.mono HB7.out.size))
    have HX8 := Lib.hid (HX7.out.later HB78.out)
    have HZA8 := Lib.hid (Holds.below HB78.out HZA7.out (lows_P hs7.1))
    have HZB8 := Lib.hid (Holds.below HB78.out HZB7.out (lows_P hs7.2.1))
    have HT8 := Lib.hid (HT7.out.below HB78.out)
    have hs8 : NA < w8.heap.size ∧ NB < w8.heap.size ∧ w.heap.size < w8.heap.size ∧ tb < w8.heap.size := ⟨by have := HB78.out.size; omega, by have := HB78.out.size; omega, HX8.out.lt, Nat.lt_of_lt_of_le htb HB8.out.size⟩
    clear HS0 hlt hSn Bc
    clear e5 e6
    obtain ⟨x0, x1, x2, x3, x4, x5, _⟩ := HZB8.out
    obtain ⟨the, hthe⟩ : ∃ x, max (beg + A.s + d2) B.r = x := ⟨_, rfl⟩
    have hbt : 0 ≤ the ∧ the ≤ 1200000 := by omega
    have HTH := Lib.hid hthe
    clear hthe
    go_upto_if 104 with fail
    go_cut [12] from 87 (fun v wx => v = .int .i64 the ∧ wx = w8)
    case first =>
      by_cases hq : beg + A.s + d2 < B.r
      · have hd := decide_eq_true hq
        go_wp2_with fail
        go_meet
        case rel => exact ⟨by rw [← HTH.out, max_or _ _ hq], rfl⟩
      · have hd := decide_eq_false hq
        go_wp2_with fail
        go_meet
        case rel => exact ⟨by rw [← HTH.out, Int.max_eq_left hq], rfl⟩
    case rest =>
      obtain ⟨rfl, rfl⟩ := hcut
      clear x0 x1 x2 x3 x4 x5
      go_upto_region 13 with fail
      have e5 : IntKind.i64.wrap (the + B.s) = the + B.s := IntWalk.i64_in _ (by omega)
      have e6 : IntKind.i64.wrap (the + B.s + d3) = the + B.s + d3 := IntWalk.i64_in _ (by omega)
      have HS0 := Lib.hid (show Holds ((⟨w.heap.size, 3, none⟩, .slice (some ⟨tb, off, none⟩) I0.l.length cap) :: (cellsF tb off Y ++ cellsP NB B)) wc.drew from
        ⟨(HX8.out.later ((Below.refl _ wc).drew)).cells.2.2.2, Holds.app.2 ⟨holds_at (HA0.out _ HB8.out.drew), Holds.below ((Below.refl _ wc).drew) HZB8.out (lows_P hs8.2.1)⟩⟩)
      have hlt := Lib.hid (show Lows wc.drew.heap.size ((⟨w.heap.size, 3, none⟩, .slice (some ⟨tb, off, none⟩) I0.l.length cap) :: (cellsF tb off Y ++ cellsP NB B)) from ⟨hs8.2.2.1, Lows.app (lows_at hs8.2.2.2) (lows_P hs8.2.1)⟩)
      refine wp_region_held_drew (S := Holds ((⟨w.heap.size, 3, none⟩, .slice (some ⟨tb, off, none⟩) I0.l.length cap) :: (cellsF tb off Y ++ cellsP NB B))) (by kernel_rfl) HS0.out (fun hSn => ?_)
      have Bc := Lib.hid (Below.refl wc.drew.heap.size wc.drew)
      simp only [cellsF, cellsP, List.cons_append, List.nil_append] at HS0 hlt hSn ⊢
      refine tks [0, 1, 2, 3, 4, 5, 6, 7, 8] 9 rfl (by kernel_rfl) (fun _ _ _ _ h => h) (by assumption) (fun KT hKT => ?_)
      iterate 9 (refine tkT (by (simp only [gA, gB, gC]; rfl)) (by rfl) (by (intro w hSw; (simp only [Holds] at hSw); go_simp <;> with_reducible rfl)) ?_; simp only [Act.put, pA, pB, pC])
      refine hKT _ ?_
      clear KT hKT
      refine wpAnyH_ready (rs := [9]) (by kernel_rfl) (by simp) ?_
      refine AllReadyH.cons (o := ?oz188) ?iz188 (fun K hK => ?kz188) AllReadyH.nil
      case iz188 => (simp only [List.getElem?_toArray, List.getElem?_cons_zero, List.getElem?_cons_succ]; rfl)
      go_simp
      change Calls _ _ #[stopV B, stopV Y] _ _
      refine (far_any B Y _).mono ?_
      rw [HD3.out]
      rintro e w9 ⟨rfl, hb⟩
      refine held_more hK HS0.out hlt (Bc.out.trans (hb.mono Bc.out.size)) (fun Bc hSn => ?_)
      clear hb hK
      refine tks [10, 11] 2 rfl (by kernel_rfl) (fun _ _ _ _ h => h) (by assumption) (fun KT hKT => ?_)
      iterate 2 (refine tkT (by (simp only [gA, gB, gC]; rfl)) (by rfl) (by (intro w hSw; (simp only [Holds] at hSw); go_simp <;> with_reducible rfl)) ?_; simp only [Act.put, pA, pB, pC])
      refine hKT _ ?_
      clear KT hKT
      refine wpAnyH_done (by kernel_rfl) ?_ _
      have HB89 := Lib.hid ((Below.refl wc.heap.size wc).drew.trans Bc.out)
      have HB9 := Lib.hid (HB8.out.trans (HB89.out.mono HB8.out.size))
      have HX9 := Lib.hid (HX8.out.later HB89.out)
      have HZA9 := Lib.hid (Holds.below HB89.out HZA8.out (lows_P hs8.1))
      have HZB9 := Lib.hid (Holds.below HB89.out HZB8.out (lows_P hs8.2.1))
      have HT9 := Lib.hid (HT8.out.below HB89.out)
      have hs9 : NA < w9.heap.size ∧ NB < w9.heap.size ∧ w.heap.size < w9.heap.size ∧ tb < w9.heap.size := ⟨by have := HB89.out.size; omega, by have := HB89.out.size; omega, HX9.out.lt, Nat.lt_of_lt_of_le htb HB9.out.size⟩
      clear HS0 hlt hSn Bc
      clear e5 e6
      have HOO := Lib.hid (HON.out beg the (the + B.s + d3) HBG.out.symm HTH.out.symm rfl)
      obtain ⟨x0, x1, x2, x3, x4, x5, _⟩ := HZA9.out
      obtain ⟨y0, y1, y2, y3, y4, y5, _⟩ := HZB9.out
      obtain ⟨c0, c1, c2, c3⟩ := HX9.out.cells
      obtain ⟨t0, t1, t2, t3, t4, t5⟩ := HA0.out w9 HB9.out
      go_upto_region 14 with fail
      go_cut [14] from 87 (fun v wx => v = .bool (decide (A.d ≤ I0.r ∧ beg ≤ A.u ∧ the ≤ B.u ∧ the + B.s + d3 ≤ Y.u)) ∧ wx = w9)
      case first =>
        by_cases q1 : A.d ≤ I0.r
        rotate_left
        · have d11 := decide_eq_false q1
          go_wp2_with fail
          go_meet
          case rel => exact ⟨congrArg Value.bool (decide_eq_false (fun h => by have := h.1; omega)).symm, rfl⟩
        have d11 := decide_eq_true q1
        by_cases q2 : beg ≤ A.u
        rotate_left
        · have d12 := decide_eq_false q2
          go_wp2_with fail
          go_meet
          case rel => exact ⟨congrArg Value.bool (decide_eq_false (fun h => by have := h.2.1; omega)).symm, rfl⟩
        have d12 := decide_eq_true q2
        by_cases q3 : the ≤ B.u
        rotate_left
        · have d13 := decide_eq_false q3
          go_wp2_with fail
          go_meet
          case rel => exact ⟨congrArg Value.bool (decide_eq_false (fun h => by have := h.2.2.1; omega)).symm, rfl⟩
        have d13 := decide_eq_true q3
        by_cases q4 : the + B.s + d3 ≤ Y.u
        · have d14 := decide_eq_true q4
          go_wp2_with fail
          go_meet
          case rel => exact ⟨congrArg Value.bool (decide_eq_true ⟨q1, q2, q3, q4⟩).symm, rfl⟩
        · have d14 := decide_eq_false q4
          go_wp2_with fail
          go_meet
          case rel => exact ⟨congrArg Value.bool (decide_eq_false (fun h => by have := h.2.2.2; omega)).symm, rfl⟩
      case rest =>
        obtain ⟨rfl, rfl⟩ := hcut
        clear x0 x1 x2 x3 x4 x5 y0 y1 y2 y3 y4 y5 c0 c1 c2 c3 t0 t1 t2 t3 t4 t5
        by_cases hmay : A.d ≤ I0.r ∧ beg ≤ A.u ∧ the ≤ B.u ∧ the + B.s + d3 ≤ Y.u
        rotate_left
        · rw [decide_eq_false hmay]
          rcases HOO.out.2 hmay with rfl | rfl
          all_goals
            clear hmay
            go_wp2
            go_ret
            exact ⟨rfl, HB9.out⟩
        rw [decide_eq_true hmay]
        obtain ⟨rfl, rfl, t0, t1, rfl, rfl, rfl⟩ := HOO.out.1 hmay
        clear hmay
        obtain ⟨lb, lo, rfl, hat, hlb⟩ := trow_at HT9.out 0 (by simp)
        have hat1 := trow_here HT9.out 1 (by simp)
        rw [(nthT_lit0 t0 t1).1, Nat.zero_mul, Nat.add_zero] at hat
        rw [(nthT_lit0 t0 t1).2, Nat.one_mul] at hat1
        have HL0 := Lib.hid hat
        have HL1 := Lib.hid hat1
        clear hat hat1
        go_upto_region 17 with fail
        have e5 : IntKind.i64.wrap (d1 + d2) = d1 + d2 := IntWalk.i64_in _ (by omega)
        have e6 : IntKind.i64.wrap (d1 + d2 + d3) = d1 + d2 + d3 := IntWalk.i64_in _ (by omega)
        have HS0 := Lib.hid (show Holds ((⟨w.heap.size, 3, none⟩, .slice (some ⟨tb, off, none⟩) I0.l.length cap) :: (⟨lb, lo + 1, none⟩, .int .i64 t0.begn) :: (⟨lb, lo + 3 + 1, none⟩, .int .i64 t1.begn) :: (cellsF tb off Y ++ (cellsP NA A ++ cellsP NB B))) wc.drew from
          ⟨(HX9.out.later ((Below.refl _ wc).drew)).cells.2.2.2, (HL0.out.below hlb ((Below.refl _ wc).drew)).2.1, (HL1.out.below hlb ((Below.refl _ wc).drew)).2.1, Holds.app.2 ⟨holds_at (HA0.out _ HB9.out.drew), Holds.app.2 ⟨Holds.below ((Below.refl _ wc).drew) HZA9.out (lows_P hs9.1), Holds.below ((Below.refl _ wc).drew) HZB9.out (lows_P hs9.2.1)⟩⟩⟩)
        have hlt := Lib.hid (show Lows wc.drew.heap.size ((⟨w.heap.size, 3, none⟩, .slice (some ⟨tb, off, none⟩) I0.l.length cap) :: (⟨lb, lo + 1, none⟩, .int .i64 t0.begn) :: (⟨lb, lo + 3 + 1, none⟩, .int .i64 t1.begn) :: (cellsF tb off Y ++ (cellsP NA A ++ cellsP NB B))) from ⟨hs9.2.2.1, hlb, hlb, Lows.app (lows_at hs9.2.2.2) (Lows.app (lows_P hs9.1) (lows_P hs9.2.1))⟩)
        refine wp_region_held_drew (S := Holds ((⟨w.heap.size, 3, none⟩, .slice (some ⟨tb, off, none⟩) I0.l.length cap) :: (⟨lb, lo + 1, none⟩, .int .i64 t0.begn) :: (⟨lb, lo + 3 + 1, none⟩, .int .i64 t1.begn) :: (cellsF tb off Y ++ (cellsP NA A ++ cellsP NB B)))) (by kernel_rfl) HS0.out (fun hSn => ?_)
        have Bc := Lib.hid (Below.refl wc.drew.heap.size wc.drew)
        simp only [cellsF, cellsP, List.cons_append, List.nil_append] at HS0 hlt hSn ⊢
        refine tks [0, 1, 2, 3, 4, 5, 6, 7, 8, 10, 11, 14, 15, 16, 17, 18] 16 rfl (by kernel_rfl) (fun _ _ _ _ h => h) (by assumption) (fun KT hKT => ?_)
        iterate 16 (refine tkT (by (simp only [gA, gB, gC]; rfl)) (by rfl) (by (intro w hSw; (simp only [Holds] at hSw); go_simp <;> with_reducible rfl)) ?_; simp only [Act.put, pA, pB, pC])
        refine hKT _ ?_
        clear KT hKT
        refine wpAnyH_ready (rs := [9]) (by kernel_rfl) (by simp) ?_
        refine AllReadyH.cons (o := ?oz189) ?iz189 (fun K hK => ?kz189) AllReadyH.nil
        case iz189 => (simp only [List.getElem?_toArray, List.getElem?_cons_zero, List.getElem?_cons_succ]; rfl)
        go_simp
        change Calls _ _ #[stopV Y, stopV A] _ _
        refine (far_any Y A _).mono ?_
        rw [HD1.out]
        rintro e wa ⟨rfl, hb⟩
        refine held_more hK HS0.out hlt (Bc.out.trans (hb.mono Bc.out.size)) (fun Bc hSn => ?_)
        clear hb hK
        refine wpAnyH_ready (rs := [12]) (by kernel_rfl) (by simp) ?_
        refine AllReadyH.cons (o := ?oz190) ?iz190 (fun K hK => ?kz190) AllReadyH.nil
        case iz190 => (simp only [List.getElem?_toArray, List.getElem?_cons_zero, List.getElem?_cons_succ]; rfl)
        go_simp
        change Calls _ _ #[stopV A, stopV B] _ _
        refine (far_any A B _).mono ?_
        rw [HD2.out]
        rintro e wb ⟨rfl, hb⟩
        refine held_more hK HS0.out hlt (Bc.out.trans (hb.mono Bc.out.size)) (fun Bc hSn => ?_)
        clear hb hK
        refine tks [13] 1 rfl (by kernel_rfl) (fun _ _ _ _ h => h) (by assumption) (fun KT hKT => ?_)
        refine tkT (by (simp only [gA, gB, gC]; rfl)) (by rfl) (by (intro w hSw; (simp only [Holds] at hSw); go_simp <;> with_reducible rfl)) ?_
        simp only [Act.put, pA, pB, pC]
        refine hKT _ ?_
        clear KT hKT
        refine wpAnyH_ready (rs := [19]) (by kernel_rfl) (by simp) ?_
        refine AllReadyH.cons (o := ?oz191) ?iz191 (fun K hK => ?kz191) AllReadyH.nil
        case iz191 => (simp only [List.getElem?_toArray, List.getElem?_cons_zero, List.getElem?_cons_succ]; rfl)
        go_simp
        change Calls _ _ #[stopV B, stopV Y] _ _
        refine (far_any B Y _).mono ?_
        rw [HD3.out]
        rintro e wd ⟨rfl, hb⟩
        refine held_more hK HS0.out hlt (Bc.out.trans (hb.mono Bc.out.size)) (fun Bc hSn => ?_)
        clear hb hK
        refine tks [20, 21, 22, 23, 24, 25, 26, 27, 28, 29, 30, 31, 32, 33, 34, 35, 36, 37, 38, 39, 40, 41, 42, 43, 44] 25 rfl (by kernel_rfl) (fun _ _ _ _ h => h) (by assumption) (fun KT hKT => ?_)
        iterate 25 (refine tkT (by (simp only [gA, gB, gC]; rfl)) (by rfl) (by (intro w hSw; (simp only [Holds] at hSw); go_simp <;> with_reducible rfl)) ?_; simp only [Act.put, pA, pB, pC])
        refine hKT _ ?_
        clear KT hKT
        refine wpAnyH_done (by kernel_rfl) ?_ _
        go_wp2
        go_ret
        exact ⟨rfl, HB9.out.drew.trans (Bc.out.mono (by have := HB9.out.size; exact this))⟩

set_option maxRecDepth 100000 in
theorem lifted (os : Os) (started : os.Started) (H : Type) (enc : TypeId × Value → H) :
    ReturnsInHanded {} Try.checked os 13 .any (Rows.schedOneSpec.pre6 enc Try.prog Try.f13 Rows.schedOneRow.domain false) (Rows.schedOneSpec.post enc Try.prog Try.f13 false true false false) := by
  refine returnsInHanded_of_change (C := Try.checked) own started (by kernel_rfl) Try.func13
    (ChangeSpec.witness6 (enc := enc) (C := Try.checked) false ⟨#[], #[.agg #[.int .i64 0, .int .i64 0, .int .i64 0, .slice none 0 0], .int .i64 0], []⟩ 8 (by kernel_rfl) (by kernel_rfl) (by kernel_rfl) (by kernel_rfl)) ?_
  intro W base args ds gs before hval0 hW hcnd _
  have hval : ∀ (j : Nat) t v, Try.f13.params[j]? = some t → args[j]? = some v → Value.okWide Try.prog W .any base t v := hval0
  have hW' := hW
  obtain ⟨p, q, hA0, hV, rfl, hfz, hnd⟩ := hW
  have hA : DataW.TrodAll enc Try.prog W 0 (fun _ => true) true Try.f13.params.toList args.toList ds p := hA0
  rw [Try.params13] at hA hval
  obtain ⟨v0, vs0, d0, ds0, p0, q0, hargs, rfl, rfl, h0, r0⟩ := trodAll_cons hA
  obtain ⟨v1, vs1, d1, ds1, p1, q1, rfl, rfl, rfl, h1, r1⟩ := trodAll_cons r0
  obtain ⟨rfl, rfl, rfl⟩ := trodAll_nil r1
  obtain rfl : args = #[v0, v1] := by cases args; simp_all
  obtain ⟨rfl, rfl⟩ := trodVars_none hV
  have k0 := h0
  have lt0 : ∀ x ∈ p0, x.block < W.heap.size := by obtain ⟨m, hm⟩ := k0; exact DataW.trod_lt m _ _ _ hm
  have k1 := h1
  have lt1 : ∀ x ∈ p1, x.block < W.heap.size := by obtain ⟨m, hm⟩ := k1; exact DataW.trod_lt m _ _ _ hm
  obtain ⟨I0, u0, rfl, e0, _⟩ := open_inst (hval 0 26 v0 rfl rfl) h0
  obtain ⟨a1, rfl, rfl, rfl, i1⟩ := open_int Try.underlying3 (hval 1 3 v1 rfl rfl) h1
  clear hA0 hval0
  refine (walk I0 _ a1 W e0).mono fun e W' ⟨he, bel⟩ => ?_
  subst he
  exact ⟨_, rfl, _, _, _, [], _, [], hW', trodAll_mk1 (shut_bool Try.underlying4 _), (trodAll_cons_mk (Below.trod laidOut (by kernel_rfl) (of_decide_eq_true (by kernel_rfl)) k0 bel lt0) (trodAll_cons_mk (Below.trod laidOut (by kernel_rfl) (of_decide_eq_true (by kernel_rfl)) k1 bel lt1) trodAll_mk0)), rfl, bel.frame _, fun h => by cases h⟩

theorem over : Rows.schedOneRow.holds Try.pinned (OpenSpec.ofChange Rows.schedOneSpec) :=
  OpenClaim.holds_of_wide 13 Try.f13 rfl rfl rfl rfl rfl rfl rfl ⟨rfl, rfl, rfl, rfl, rfl⟩ rfl rfl rfl rfl rfl (by kernel_rfl) Try.func13 (by show joinedFacts Try.checked.prog _ _ _ _ = true; unfold joinedFacts; rw [ord_may, ord_lifts, ord_make]; kernel_rfl)
    (of_decide_eq_true (by kernel_rfl)) (by unfold Func.isWrapper; first | (rw [if_pos (by decide +kernel)]; kernel_rfl) | (rw [if_neg (by decide +kernel)]; exact ⟨rfl, rfl⟩))
    (fun os started H enc _ => lifted os started H enc)

theorem proved : Rows.SchedOneSaid := over
#print axioms proved
end Go.Proofs.Ytpgbbnmflnhlbaa.schedOne
