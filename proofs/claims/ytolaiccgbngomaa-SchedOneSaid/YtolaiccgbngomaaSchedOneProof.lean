/- SchedOne holds for every instance and every pair; there is no further condition. -/
import Derived.Test.YtolaiccgbngomaaRows
import Derived.Test.YtolaiccgbngomaaTAwake
namespace Go.Proofs.Ytolaiccgbngomaa.schedOne
open Go.ChangeShapes Go.WideShapes Go.ChangeAt Go.RowKit

theorem nthT_lit0 (t0 t1 : Tm) : nthT [t0, t1] 0 = t0 ∧ nthT [t0, t1] 1 = t1 := ⟨rfl, rfl⟩
theorem max_or (x y : Int) (h : x < y) : max x y = y := Int.max_eq_right (Int.le_of_lt h)
theorem one_facts {I : Ins} (hm : mayB I = true) {j g : Nat} {beg the back : Int} (hj : 1 ≤ j) (hp : (j : Int) ≤ I.p) (hg : (j : Int) + I.p = (g : Int))
    (hb : beg = max ((nth I.l 0).r + farF (nth I.l 0) (nth I.l j)) (nth I.l j).r) (ht : the = max (beg + (nth I.l j).s + farF (nth I.l j) (nth I.l g)) (nth I.l g).r) (hk : back = the + (nth I.l g).s + farF (nth I.l g) (nth I.l 0)) :
    ((nth I.l j).d ≤ I.r ∧ beg ≤ (nth I.l j).u ∧ the ≤ (nth I.l g).u ∧ back ≤ (nth I.l 0).u → errT I [(j : Int), (g : Int)] = 0 ∧ farT I [(j : Int), (g : Int)] = farF (nth I.l 0) (nth I.l j) + farF (nth I.l j) (nth I.l g) + farF (nth I.l g) (nth I.l 0) ∧
      ∃ t0 t1, outT I [(j : Int), (g : Int)] = [t0, t1] ∧ t0.begn = beg ∧ t1.begn = the) ∧
    (¬ ((nth I.l j).d ≤ I.r ∧ beg ≤ (nth I.l j).u ∧ the ≤ (nth I.l g).u ∧ back ≤ (nth I.l 0).u) → errT I [(j : Int), (g : Int)] = 6 ∨ errT I [(j : Int), (g : Int)] = 7) := by
  have h := alone hm (c := (j : Int)) ⟨by omega, hp⟩
  have e1 : stp I (j : Int) = nth I.l j := rfl
  have e2 : stp I (g : Int) = nth I.l g := rfl
  have e3 : aloneOk I (j : Int) ↔ ((nth I.l j).d ≤ I.r ∧ beg ≤ (nth I.l j).u ∧ the ≤ (nth I.l g).u ∧ back ≤ (nth I.l 0).u) := by
    unfold aloneOk backF thenF begF
    rw [hg, e1, e2, ← hb, ← ht, ← hk]
  unfold thenF begF at h
  rw [hg, e1, e2, ← hb, ← ht] at h
  rw [← e3]
  refine ⟨fun ho => ?_, h.2⟩
  obtain ⟨s, h1, h2, ⟨t0, t1, h3, h4, h5⟩, h6⟩ := h.1 ho
  obtain ⟨k1, k2, k3, _⟩ := ok_of h1
  exact ⟨k1, k3.trans h6, t0, t1, k2.trans h3, h4, h5⟩
set_option maxRecDepth 1000000 in
set_option maxHeartbeats 4000000 in
theorem walk (I0 : Ins) (v0 : Value) (a1 : Int) (w : World) (e0 : SRow w v0 I0.l) :
    Calls Try.prog 8 #[insV I0 v0, .int .i64 a1] w fun e w' => e = .returned (.bool true) ∧ Below w.heap.size w w' := by
  have HE := Lib.hid e0
  obtain ⟨a, cap, rfl, hm, _⟩ := e0.form
  have hx0 : I0.l.length ≤ 9223372036854775807 := by unfold maxLen at hm; omega
  clear e0 hm
  unfold insV
  go_enter Try.func8, Try.ntmps8
  go_wp2_with fail
  change Calls _ _ _ (w.alloc (boxI I0 (.slice a I0.l.length cap))) _
  have HB0 := Lib.hid ((Below.refl _ w).alloc (Nat.le_refl _) (boxI I0 (.slice a I0.l.length cap)))
  have HXB := Lib.hid (ybox_new w I0 (.slice a I0.l.length cap))
  generalize w.alloc (boxI I0 (.slice a I0.l.length cap)) = W at *
  refine (tawake_any _).mono ?_
  rintro e w1 ⟨rfl, hb⟩
  have HB1 := Lib.hid (HB0.out.trans (hb.mono HB0.out.size))
  have HX1 := Lib.hid ((show YBox W w.heap.size I0 (.slice a I0.l.length cap) from HXB.out).later hb)
  clear hb
  obtain ⟨c0, c1, c2, c3⟩ := HX1.out.cells
  go_wp2_with fail
  change Calls _ _ #[insV I0 (.slice a I0.l.length cap)] _ _
  refine (may_any (HE.out.below HB1.out)).mono ?_
  rintro e w2 ⟨rfl, hb⟩
  have HB2 := Lib.hid (HB1.out.trans (hb.mono HB1.out.size))
  have HX2 := Lib.hid (HX1.out.later hb)
  clear hb c0 c1 c2 c3
  obtain ⟨c0, c1, c2, c3⟩ := HX2.out.cells
  cases hmy : mayB I0
  · clear hmy
    go_wp2
    go_ret
    exact ⟨rfl, HB2.out⟩
  have HMY := Lib.hid hmy
  have hl33 := (pmay_len hmy).2
  have hl0 := (pmay_len hmy).1
  have HF := Lib.hid (fine_of hmy)
  have hfl := HF.out.len
  have hp16 := HF.out.p1
  have hp0 := HF.out.p0
  have d1 : decide ((33 : Int) < (I0.l.length : Int)) = false := decide_eq_false (by omega)
  have e1 : IntKind.i64.wrap (2 * I0.p) = 2 * I0.p := IntWalk.i64_in _ (by omega)
  have e2 : IntKind.i64.wrap (2 * I0.p + 1) = 2 * I0.p + 1 := IntWalk.i64_in _ (by omega)
  have d2 : ((I0.l.length : Int) != 2 * I0.p + 1) = false := by rw [bne_eq_false_iff_eq]; exact hfl
  have HLN := Lib.hid hfl
  clear hmy hfl
  by_cases q1 : a1 < 1
  · have d3 := decide_eq_true q1
    clear q1
    go_wp2
    go_ret
    exact ⟨rfl, HB2.out⟩
  have d3 := decide_eq_false q1
  by_cases q2 : I0.p < a1
  · have d4 := decide_eq_true q2
    clear q1 q2
    go_wp2
    go_ret
    exact ⟨rfl, HB2.out⟩
  have d4 := decide_eq_false q2
  go_upto_region 4 with fail
  clear d1 d2 d3 d4 e1 e2
  obtain ⟨j, rfl⟩ : ∃ j : Nat, a1 = (j : Int) := ⟨a1.toNat, by omega⟩
  obtain ⟨g, hg⟩ : ∃ g : Nat, (j : Int) + I0.p = (g : Int) := ⟨((j : Int) + I0.p).toNat, by omega⟩
  have HLN2 := HLN.out
  have hjl : j < I0.l.length := by omega
  have hgl : g < I0.l.length := by omega
  have HON := Lib.hid (fun beg the back => one_facts (beg := beg) (the := the) (back := back) HMY.out (show 1 ≤ j by omega) (show (j : Int) ≤ I0.p by omega) hg)
  have hA := stop_in (HF.out.ok (j : Int) (by omega) (by omega))
  have hB := stop_in (HF.out.ok (g : Int) (by omega) (by omega))
  have h0 := stop_in (HF.out.ok 0 (by omega) (by omega))
  rw [show stp I0 0 = nth I0.l 0 from rfl] at h0
  rw [show stp I0 (j : Int) = nth I0.l j from rfl] at hA
  rw [show stp I0 (g : Int) = nth I0.l g from rfl] at hB
  have hfa := farF_bd (nth I0.l 0) (nth I0.l j)
  have hfb := farF_bd (nth I0.l j) (nth I0.l g)
  have hfc := farF_bd (nth I0.l g) (nth I0.l 0)
  have e1 : IntKind.i64.wrap ((j : Int) + I0.p) = (g : Int) := by rw [← hg]; exact IntWalk.i64_in _ (by omega)
  have hji : (j : Int) < (I0.l.length : Int) := by omega
  have hgi : (g : Int) < (I0.l.length : Int) := by omega
  have h0i : (0 : Int) < (I0.l.length : Int) := by omega
  obtain ⟨tb, off, rfl, hat0, htb⟩ := srow_at HE.out 0 hl0
  rw [Nat.zero_mul, Nat.add_zero] at hat0
  have HA0 := Lib.hid (show ∀ w', Below w.heap.size w w' → At w' tb off (nth I0.l 0) from fun w' hb' => hat0.below htb hb')
  have HAJ := Lib.hid (show ∀ w', Below w.heap.size w w' → At w' tb (off + j * 6) (nth I0.l j) from fun w' hb' => (srow_here HE.out j hjl).below htb hb')
  have HAG := Lib.hid (show ∀ w', Below w.heap.size w w' → At w' tb (off + g * 6) (nth I0.l g) from fun w' hb' => (srow_here HE.out g hgl).below htb hb')
  obtain ⟨d1, hd1⟩ : ∃ d, farF (nth I0.l 0) (nth I0.l j) = d := ⟨_, rfl⟩
  obtain ⟨d2, hd2⟩ : ∃ d, farF (nth I0.l j) (nth I0.l g) = d := ⟨_, rfl⟩
  obtain ⟨d3, hd3⟩ : ∃ d, farF (nth I0.l g) (nth I0.l 0) = d := ⟨_, rfl⟩
  have HD1 := Lib.hid hd1
  have HD2 := Lib.hid hd2
  have HD3 := Lib.hid hd3
  rw [hd1] at hfa HON
  rw [hd2] at hfb HON
  rw [hd3] at hfc HON
  clear hd1 hd2 hd3 hat0 hg q1 q2 c0 c1 c2 c3
  generalize nth I0.l 0 = Y at *
  generalize nth I0.l j = A at *
  generalize nth I0.l g = B at *
  obtain ⟨t0, t1, t2, t3, t4, t5⟩ := HAJ.out w2 HB2.out
  obtain ⟨c0, c1, c2, c3⟩ := HX2.out.cells
  clear HLN2
  go_upto_region 5 with fail
  have HB3 := Lib.hid (HB2.out.alloc HB2.out.size (boxS A))
  have HX3 := Lib.hid (HX2.out.later ((Below.refl _ w2).alloc (Nat.le_refl _) (boxS A)))
  have HZA := Lib.hid (holds_boxS w2 A)
  have HSA := Lib.hid (show (w2.alloc (boxS A)).heap.size = w2.heap.size + 1 by simp)
  change Code.wp _ _ _ _ (w2.alloc (boxS A))
  generalize w2.alloc (boxS A) = w3 at *
  generalize w2.heap.size = NA at *
  clear t0 t1 t2 t3 t4 t5 c0 c1 c2 c3
  obtain ⟨t0, t1, t2, t3, t4, t5⟩ := HAG.out w3 HB3.out
  obtain ⟨c0, c1, c2, c3⟩ := HX3.out.cells
  go_upto_region 6 with fail
  have HB4 := Lib.hid (HB3.out.alloc HB3.out.size (boxS B))
  have HX4 := Lib.hid (HX3.out.later ((Below.refl _ w3).alloc (Nat.le_refl _) (boxS B)))
  have HZA4 := Lib.hid (Holds.below ((Below.refl _ w3).alloc (Nat.le_refl _) (boxS B)) HZA.out (lows_P (by have := HSA.out; omega)))
  have HZB := Lib.hid (holds_boxS w3 B)
  have HSB := Lib.hid (show (w3.alloc (boxS B)).heap.size = w3.heap.size + 1 by simp)
  change Code.wp _ _ _ _ (w3.alloc (boxS B))
  generalize w3.alloc (boxS B) = w4 at *
  generalize w3.heap.size = NB at *
  clear t0 t1 t2 t3 t4 t5 c0 c1 c2 c3
  obtain ⟨c0, c1, c2, c3⟩ := HX4.out.cells
  go_wp2_with fail
  have hrow := row_two w4 (j : Int) (g : Int)
  have HB5 := Lib.hid (HB4.out.alloc HB4.out.size (.cells #[.int .i64 (j : Int), .int .i64 (g : Int)] 3))
  have hb5 := (Below.refl w4.heap.size w4).alloc (Nat.le_refl _) (.cells #[.int .i64 (j : Int), .int .i64 (g : Int)] 3)
  refine (times_any (I := I0) (HE.out.below HB5.out) hrow).mono ?_
  rintro e w6 ⟨u, rfl, ht, hb⟩
  have HB46 := Lib.hid (hb5.trans (hb.mono hb5.size))
  have HB6 := Lib.hid (HB4.out.trans (HB46.out.mono HB4.out.size))
  have HX6 := Lib.hid (HX4.out.later HB46.out)
  have HZA6 := Lib.hid (Holds.below HB46.out HZA4.out (lows_P (by have := HSA.out; have := HSB.out; omega)))
  have HZB6 := Lib.hid (Holds.below HB46.out HZB.out (lows_P (by have := HSB.out; omega)))
  have HT6 := Lib.hid ht.row
  have hs6 : NA < w6.heap.size ∧ NB < w6.heap.size ∧ w.heap.size < w6.heap.size ∧ tb < w6.heap.size := ⟨by have := HB46.out.size; have := HSA.out; have := HSB.out; omega, by have := HB46.out.size; have := HSB.out; omega, HX6.out.lt, Nat.lt_of_lt_of_le htb HB6.out.size⟩
  obtain ⟨ua, uc, rfl⟩ := ht.shape
  clear ht hb hb5 hrow c0 c1 c2 c3
  obtain ⟨er, her⟩ : ∃ er, errT I0 [(j : Int), (g : Int)] = er := ⟨_, rfl⟩
  obtain ⟨far, hfar⟩ : ∃ far, farT I0 [(j : Int), (g : Int)] = far := ⟨_, rfl⟩
  obtain ⟨O, hO⟩ : ∃ O, outT I0 [(j : Int), (g : Int)] = O := ⟨_, rfl⟩
  rw [her, hfar, hO] at HON
  rw [hO] at HT6
  rw [her, hfar, hO]
  clear her hfar hO
  go_wp2_with fail
  have HS0 := Lib.hid (show Holds ((⟨w.heap.size, 3, none⟩, .slice (some ⟨tb, off, none⟩) I0.l.length cap) :: (cellsF tb off Y ++ cellsP NA A)) w6.drew from
    ⟨(HX6.out.later ((Below.refl _ w6).drew)).cells.2.2.2, Holds.app.2 ⟨holds_at (HA0.out _ HB6.out.drew), Holds.below ((Below.refl _ w6).drew) HZA6.out (lows_P hs6.1)⟩⟩)
  have hlt := Lib.hid (show Lows w6.drew.heap.size ((⟨w.heap.size, 3, none⟩, .slice (some ⟨tb, off, none⟩) I0.l.length cap) :: (cellsF tb off Y ++ cellsP NA A)) from ⟨hs6.2.2.1, Lows.app (lows_at hs6.2.2.2) (lows_P hs6.1)⟩)
  refine wp_region_held_drew (S := Holds ((⟨w.heap.size, 3, none⟩, .slice (some ⟨tb, off, none⟩) I0.l.length cap) :: (cellsF tb off Y ++ cellsP NA A))) (by kernel_rfl) HS0.out (fun hSn => ?_)
  have Bc := Lib.hid (Below.refl w6.drew.heap.size w6.drew)
  simp only [cellsF, cellsP, List.cons_append, List.nil_append] at HS0 hlt hSn ⊢
  have e5 : IntKind.i64.wrap (Y.r + d1) = Y.r + d1 := IntWalk.i64_in _ (by omega)
  refine wpAnyH_take (i := 0) (oi := ?oz1) (v := ?vz1) ?iz1 (by kernel_rfl) (by kernel_rfl) (by kernel_rfl) ?qz1 (Or.inl ⟨?gz1, ?hz1⟩) (by assumption) ?rz1
  case iz1 => (simp only [List.getElem?_toArray, List.getElem?_cons_zero]; rfl)
  case qz1 => exact fun _ _ _ h => h
  case gz1 => rfl
  case hz1 => (intro w hSw; (simp only [Holds] at hSw); go_simp <;> with_reducible rfl)
  simp only [Act.put, List.setIfInBounds_toArray, List.set_cons_zero, List.set_cons_succ]
  refine wpAnyH_take (i := 1) (oi := ?oz2) (v := ?vz2) ?iz2 (by kernel_rfl) (by kernel_rfl) (by kernel_rfl) ?qz2 (Or.inl ⟨?gz2, ?hz2⟩) (by assumption) ?rz2
  case iz2 => (simp only [List.getElem?_toArray, List.getElem?_cons_zero, List.getElem?_cons_succ]; rfl)
  case qz2 => exact fun _ _ _ h => h
  case gz2 => rfl
  case hz2 => (intro w hSw; (simp only [Holds] at hSw); go_simp <;> with_reducible rfl)
  simp only [Act.put, List.setIfInBounds_toArray, List.set_cons_zero, List.set_cons_succ]
  refine wpAnyH_take (i := 2) (oi := ?oz3) (v := ?vz3) ?iz3 (by kernel_rfl) (by kernel_rfl) (by kernel_rfl) ?qz3 (Or.inl ⟨?gz3, ?hz3⟩) (by assumption) ?rz3
  case iz3 => (simp only [List.getElem?_toArray, List.getElem?_cons_zero, List.getElem?_cons_succ]; rfl)
  case qz3 => exact fun _ _ _ h => h
  case gz3 => rfl
  case hz3 => (intro w hSw; (simp only [Holds] at hSw); go_simp <;> with_reducible rfl)
  simp only [Act.put, List.setIfInBounds_toArray, List.set_cons_zero, List.set_cons_succ]
  refine wpAnyH_take (i := 3) (oi := ?oz4) (v := ?vz4) ?iz4 (by kernel_rfl) (by kernel_rfl) (by kernel_rfl) ?qz4 (Or.inl ⟨?gz4, ?hz4⟩) (by assumption) ?rz4
  case iz4 => (simp only [List.getElem?_toArray, List.getElem?_cons_zero, List.getElem?_cons_succ]; rfl)
  case qz4 => exact fun _ _ _ h => h
  case gz4 => rfl
  case hz4 => (intro w hSw; (simp only [Holds] at hSw); go_simp <;> with_reducible rfl)
  simp only [Act.put, List.setIfInBounds_toArray, List.set_cons_zero, List.set_cons_succ]
  refine wpAnyH_take (i := 4) (oi := ?oz5) (v := ?vz5) ?iz5 (by kernel_rfl) (by kernel_rfl) (by kernel_rfl) ?qz5 (Or.inl ⟨?gz5, ?hz5⟩) (by assumption) ?rz5
  case iz5 => (simp only [List.getElem?_toArray, List.getElem?_cons_zero, List.getElem?_cons_succ]; rfl)
  case qz5 => exact fun _ _ _ h => h
  case gz5 => rfl
  case hz5 => (intro w hSw; (simp only [Holds] at hSw); go_simp <;> with_reducible rfl)
  simp only [Act.put, List.setIfInBounds_toArray, List.set_cons_zero, List.set_cons_succ]
  refine wpAnyH_take (i := 5) (oi := ?oz6) (v := ?vz6) ?iz6 (by kernel_rfl) (by kernel_rfl) (by kernel_rfl) ?qz6 (Or.inl ⟨?gz6, ?hz6⟩) (by assumption) ?rz6
  case iz6 => (simp only [List.getElem?_toArray, List.getElem?_cons_zero, List.getElem?_cons_succ]; rfl)
  case qz6 => exact fun _ _ _ h => h
  case gz6 => rfl
  case hz6 => (intro w hSw; (simp only [Holds] at hSw); go_simp <;> with_reducible rfl)
  simp only [Act.put, List.setIfInBounds_toArray, List.set_cons_zero, List.set_cons_succ]
  refine wpAnyH_take (i := 6) (oi := ?oz7) (v := ?vz7) ?iz7 (by kernel_rfl) (by kernel_rfl) (by kernel_rfl) ?qz7 (Or.inl ⟨?gz7, ?hz7⟩) (by assumption) ?rz7
  case iz7 => (simp only [List.getElem?_toArray, List.getElem?_cons_zero, List.getElem?_cons_succ]; rfl)
  case qz7 => exact fun _ _ _ h => h
  case gz7 => rfl
  case hz7 => (intro w hSw; (simp only [Holds] at hSw); go_simp <;> with_reducible rfl)
  simp only [Act.put, List.setIfInBounds_toArray, List.set_cons_zero, List.set_cons_succ]
  refine wpAnyH_take (i := 7) (oi := ?oz8) (v := ?vz8) ?iz8 (by kernel_rfl) (by kernel_rfl) (by kernel_rfl) ?qz8 (Or.inl ⟨?gz8, ?hz8⟩) (by assumption) ?rz8
  case iz8 => (simp only [List.getElem?_toArray, List.getElem?_cons_zero, List.getElem?_cons_succ]; rfl)
  case qz8 => exact fun _ _ _ h => h
  case gz8 => rfl
  case hz8 => (intro w hSw; (simp only [Holds] at hSw); go_simp <;> with_reducible rfl)
  simp only [Act.put, List.setIfInBounds_toArray, List.set_cons_zero, List.set_cons_succ]
  refine wpAnyH_take (i := 8) (oi := ?oz9) (v := ?vz9) ?iz9 (by kernel_rfl) (by kernel_rfl) (by kernel_rfl) ?qz9 (Or.inl ⟨?gz9, ?hz9⟩) (by assumption) ?rz9
  case iz9 => (simp only [List.getElem?_toArray, List.getElem?_cons_zero, List.getElem?_cons_succ]; rfl)
  case qz9 => exact fun _ _ _ h => h
  case gz9 => rfl
  case hz9 => (intro w hSw; (simp only [Holds] at hSw); go_simp <;> with_reducible rfl)
  simp only [Act.put, List.setIfInBounds_toArray, List.set_cons_zero, List.set_cons_succ]
  refine wpAnyH_take (i := 9) (oi := ?oz10) (v := ?vz10) ?iz10 (by kernel_rfl) (by kernel_rfl) (by kernel_rfl) ?qz10 (Or.inl ⟨?gz10, ?hz10⟩) (by assumption) ?rz10
  case iz10 => (simp only [List.getElem?_toArray, List.getElem?_cons_zero, List.getElem?_cons_succ]; rfl)
  case qz10 => exact fun _ _ _ h => h
  case gz10 => rfl
  case hz10 => (intro w hSw; (simp only [Holds] at hSw); go_simp <;> with_reducible rfl)
  simp only [Act.put, List.setIfInBounds_toArray, List.set_cons_zero, List.set_cons_succ]
  refine wpAnyH_ready (rs := [10]) (by kernel_rfl) (by simp) ?_
  refine AllReadyH.cons (o := ?oz11) ?iz11 (fun K hK => ?kz11) AllReadyH.nil
  case iz11 => (simp only [List.getElem?_toArray, List.getElem?_cons_zero, List.getElem?_cons_succ]; rfl)
  go_simp
  change Calls _ _ #[stopV Y, stopV A] _ _
  refine (far_any Y A _).mono ?_
  rw [HD1.out]
  rintro e w7 ⟨rfl, hb⟩
  refine held_more hK HS0.out hlt (Bc.out.trans (hb.mono Bc.out.size)) (fun Bc hSn => ?_)
  clear hb hK
  refine wpAnyH_take (i := 11) (oi := ?oz12) (v := ?vz12) ?iz12 (by kernel_rfl) (by kernel_rfl) (by kernel_rfl) ?qz12 (Or.inl ⟨?gz12, ?hz12⟩) (by assumption) ?rz12
  case iz12 => (simp only [List.getElem?_toArray, List.getElem?_cons_zero, List.getElem?_cons_succ]; rfl)
  case qz12 => exact fun _ _ _ h => h
  case gz12 => rfl
  case hz12 => (intro w hSw; (simp only [Holds] at hSw); go_simp <;> with_reducible rfl)
  simp only [Act.put, List.setIfInBounds_toArray, List.set_cons_zero, List.set_cons_succ]
  refine wpAnyH_take (i := 12) (oi := ?oz13) (v := ?vz13) ?iz13 (by kernel_rfl) (by kernel_rfl) (by kernel_rfl) ?qz13 (Or.inl ⟨?gz13, ?hz13⟩) (by assumption) ?rz13
  case iz13 => (simp only [List.getElem?_toArray, List.getElem?_cons_zero, List.getElem?_cons_succ]; rfl)
  case qz13 => exact fun _ _ _ h => h
  case gz13 => rfl
  case hz13 => (intro w hSw; (simp only [Holds] at hSw); go_simp <;> with_reducible rfl)
  simp only [Act.put, List.setIfInBounds_toArray, List.set_cons_zero, List.set_cons_succ]
  refine wpAnyH_done (by kernel_rfl) ?_ _
  have HB67 := Lib.hid ((Below.refl w6.heap.size w6).drew.trans Bc.out)
  have HB7 := Lib.hid (HB6.out.trans (HB67.out.mono HB6.out.size))
  have HX7 := Lib.hid (HX6.out.later HB67.out)
  have HZA7 := Lib.hid (Holds.below HB67.out HZA6.out (lows_P hs6.1))
  have HZB7 := Lib.hid (Holds.below HB67.out HZB6.out (lows_P hs6.2.1))
  have HT7 := Lib.hid (HT6.out.below HB67.out)
  have hs7 : NA < w7.heap.size ∧ NB < w7.heap.size ∧ w.heap.size < w7.heap.size ∧ tb < w7.heap.size := ⟨by have := HB67.out.size; omega, by have := HB67.out.size; omega, HX7.out.lt, Nat.lt_of_lt_of_le htb HB7.out.size⟩
  clear HS0 hlt hSn Bc e5
  obtain ⟨x0, x1, x2, x3, x4, x5, _⟩ := HZA7.out
  obtain ⟨beg, hbeg⟩ : ∃ x, max (Y.r + d1) A.r = x := ⟨_, rfl⟩
  have hbb : 0 ≤ beg ∧ beg ≤ 1100000 := by omega
  have HBG := Lib.hid hbeg
  clear hbeg
  go_upto_if 90 with fail
  go_cut [11] from 87 (fun v wx => v = .int .i64 beg ∧ wx = w7)
  case first =>
    by_cases hq : Y.r + d1 < A.r
    · have hd := decide_eq_true hq
      go_wp2_with fail
      go_meet
      case rel => exact ⟨by rw [← HBG.out, max_or _ _ hq], rfl⟩
    · have hd := decide_eq_false hq
      go_wp2_with fail
      go_meet
      case rel => exact ⟨by rw [← HBG.out, Int.max_eq_left hq], rfl⟩
  case rest =>
    obtain ⟨rfl, rfl⟩ := hcut
    clear x0 x1 x2 x3 x4 x5
    go_upto_region 10 with fail
    have e5 : IntKind.i64.wrap (beg + A.s) = beg + A.s := IntWalk.i64_in _ (by omega)
    have e6 : IntKind.i64.wrap (beg + A.s + d2) = beg + A.s + d2 := IntWalk.i64_in _ (by omega)
    have HS0 := Lib.hid (show Holds (cellsP NA A ++ cellsP NB B) wc.drew from Holds.app.2 ⟨Holds.below ((Below.refl _ wc).drew) HZA7.out (lows_P hs7.1), Holds.below ((Below.refl _ wc).drew) HZB7.out (lows_P hs7.2.1)⟩)
    have hlt := Lib.hid (show Lows wc.drew.heap.size (cellsP NA A ++ cellsP NB B) from Lows.app (lows_P hs7.1) (lows_P hs7.2.1))
    refine wp_region_held_drew (S := Holds (cellsP NA A ++ cellsP NB B)) (by kernel_rfl) HS0.out (fun hSn => ?_)
    have Bc := Lib.hid (Below.refl wc.drew.heap.size wc.drew)
    simp only [cellsP, List.cons_append, List.nil_append] at HS0 hlt hSn ⊢
    refine wpAnyH_take (i := 0) (oi := ?oz14) (v := ?vz14) ?iz14 (by kernel_rfl) (by kernel_rfl) (by kernel_rfl) ?qz14 (Or.inl ⟨?gz14, ?hz14⟩) (by assumption) ?rz14
    case iz14 => (simp only [List.getElem?_toArray, List.getElem?_cons_zero]; rfl)
    case qz14 => exact fun _ _ _ h => h
    case gz14 => rfl
    case hz14 => (intro w hSw; (simp only [Holds] at hSw); go_simp <;> with_reducible rfl)
    simp only [Act.put, List.setIfInBounds_toArray, List.set_cons_zero, List.set_cons_succ]
    refine wpAnyH_take (i := 1) (oi := ?oz15) (v := ?vz15) ?iz15 (by kernel_rfl) (by kernel_rfl) (by kernel_rfl) ?qz15 (Or.inl ⟨?gz15, ?hz15⟩) (by assumption) ?rz15
    case iz15 => (simp only [List.getElem?_toArray, List.getElem?_cons_zero, List.getElem?_cons_succ]; rfl)
    case qz15 => exact fun _ _ _ h => h
    case gz15 => rfl
    case hz15 => (intro w hSw; (simp only [Holds] at hSw); go_simp <;> with_reducible rfl)
    simp only [Act.put, List.setIfInBounds_toArray, List.set_cons_zero, List.set_cons_succ]
    refine wpAnyH_take (i := 2) (oi := ?oz16) (v := ?vz16) ?iz16 (by kernel_rfl) (by kernel_rfl) (by kernel_rfl) ?qz16 (Or.inl ⟨?gz16, ?hz16⟩) (by assumption) ?rz16
    case iz16 => (simp only [List.getElem?_toArray, List.getElem?_cons_zero, List.getElem?_cons_succ]; rfl)
    case qz16 => exact fun _ _ _ h => h
    case gz16 => rfl
    case hz16 => (intro w hSw; (simp only [Holds] at hSw); go_simp <;> with_reducible rfl)
    simp only [Act.put, List.setIfInBounds_toArray, List.set_cons_zero, List.set_cons_succ]
    refine wpAnyH_take (i := 3) (oi := ?oz17) (v := ?vz17) ?iz17 (by kernel_rfl) (by kernel_rfl) (by kernel_rfl) ?qz17 (Or.inl ⟨?gz17, ?hz17⟩) (by assumption) ?rz17
    case iz17 => (simp only [List.getElem?_toArray, List.getElem?_cons_zero, List.getElem?_cons_succ]; rfl)
    case qz17 => exact fun _ _ _ h => h
    case gz17 => rfl
    case hz17 => (intro w hSw; (simp only [Holds] at hSw); go_simp <;> with_reducible rfl)
    simp only [Act.put, List.setIfInBounds_toArray, List.set_cons_zero, List.set_cons_succ]
    refine wpAnyH_take (i := 4) (oi := ?oz18) (v := ?vz18) ?iz18 (by kernel_rfl) (by kernel_rfl) (by kernel_rfl) ?qz18 (Or.inl ⟨?gz18, ?hz18⟩) (by assumption) ?rz18
    case iz18 => (simp only [List.getElem?_toArray, List.getElem?_cons_zero, List.getElem?_cons_succ]; rfl)
    case qz18 => exact fun _ _ _ h => h
    case gz18 => rfl
    case hz18 => (intro w hSw; (simp only [Holds] at hSw); go_simp <;> with_reducible rfl)
    simp only [Act.put, List.setIfInBounds_toArray, List.set_cons_zero, List.set_cons_succ]
    refine wpAnyH_take (i := 5) (oi := ?oz19) (v := ?vz19) ?iz19 (by kernel_rfl) (by kernel_rfl) (by kernel_rfl) ?qz19 (Or.inl ⟨?gz19, ?hz19⟩) (by assumption) ?rz19
    case iz19 => (simp only [List.getElem?_toArray, List.getElem?_cons_zero, List.getElem?_cons_succ]; rfl)
    case qz19 => exact fun _ _ _ h => h
    case gz19 => rfl
    case hz19 => (intro w hSw; (simp only [Holds] at hSw); go_simp <;> with_reducible rfl)
    simp only [Act.put, List.setIfInBounds_toArray, List.set_cons_zero, List.set_cons_succ]
    refine wpAnyH_ready (rs := [6]) (by kernel_rfl) (by simp) ?_
    refine AllReadyH.cons (o := ?oz20) ?iz20 (fun K hK => ?kz20) AllReadyH.nil
    case iz20 => (simp only [List.getElem?_toArray, List.getElem?_cons_zero, List.getElem?_cons_succ]; rfl)
    go_simp
    change Calls _ _ #[stopV A, stopV B] _ _
    refine (far_any A B _).mono ?_
    rw [HD2.out]
    rintro e w8 ⟨rfl, hb⟩
    refine held_more hK HS0.out hlt (Bc.out.trans (hb.mono Bc.out.size)) (fun Bc hSn => ?_)
    clear hb hK
    refine wpAnyH_take (i := 7) (oi := ?oz21) (v := ?vz21) ?iz21 (by kernel_rfl) (by kernel_rfl) (by kernel_rfl) ?qz21 (Or.inl ⟨?gz21, ?hz21⟩) (by assumption) ?rz21
    case iz21 => (simp only [List.getElem?_toArray, List.getElem?_cons_zero, List.getElem?_cons_succ]; rfl)
    case qz21 => exact fun _ _ _ h => h
    case gz21 => rfl
    case hz21 => (intro w hSw; (simp only [Holds] at hSw); go_simp <;> with_reducible rfl)
    simp only [Act.put, List.setIfInBounds_toArray, List.set_cons_zero, List.set_cons_succ]
    refine wpAnyH_take (i := 8) (oi := ?oz22) (v := ?vz22) ?iz22 (by kernel_rfl) (by kernel_rfl) (by kernel_rfl) ?qz22 (Or.inl ⟨?gz22, ?hz22⟩) (by assumption) ?rz22
    case iz22 => (simp only [List.getElem?_toArray, List.getElem?_cons_zero, List.getElem?_cons_succ]; rfl)
    case qz22 => exact fun _ _ _ h => h
    case gz22 => rfl
    case hz22 => (intro w hSw; (simp only [Holds] at hSw); go_simp <;> with_reducible rfl)
    simp only [Act.put, List.setIfInBounds_toArray, List.set_cons_zero, List.set_cons_succ]
    refine wpAnyH_done (by kernel_rfl) ?_ _
    have HB78 := Lib.hid ((Below.refl wc.heap.size wc).drew.trans Bc.out)
    have HB8 := Lib.hid (HB7.out.trans (HB78.out.mono HB7.out.size))
    have HX8 := Lib.hid (HX7.out.later HB78.out)
    have HZA8 := Lib.hid (Holds.below HB78.out HZA7.out (lows_P hs7.1))
    have HZB8 := Lib.hid (Holds.below HB78.out HZB7.out (lows_P hs7.2.1))
    have HT8 := Lib.hid (HT7.out.below HB78.out)
    have hs8 : NA < w8.heap.size ∧ NB < w8.heap.size ∧ w.heap.size < w8.heap.size ∧ tb < w8.heap.size := ⟨by have := HB78.out.size; omega, by have := HB78.out.size; omega, HX8.out.lt, Nat.lt_of_lt_of_le htb HB8.out.size⟩
    clear HS0 hlt hSn Bc
    clear e5 e6
    obtain ⟨x0, x1, x2, x3, x4, x5, _⟩ := HZB8.out
    obtain ⟨the, hthe⟩ : ∃ x, max (beg + A.s + d2) B.r = x := ⟨_, rfl⟩
    have hbt : 0 ≤ the ∧ the ≤ 1200000 := by omega
    have HTH := Lib.hid hthe
    clear hthe
    go_upto_if 104 with fail
    go_cut [12] from 87 (fun v wx => v = .int .i64 the ∧ wx = w8)
    case first =>
      by_cases hq : beg + A.s + d2 < B.r
      · have hd := decide_eq_true hq
        go_wp2_with fail
        go_meet
        case rel => exact ⟨by rw [← HTH.out, max_or _ _ hq], rfl⟩
      · have hd := decide_eq_false hq
        go_wp2_with fail
        go_meet
        case rel => exact ⟨by rw [← HTH.out, Int.max_eq_left hq], rfl⟩
    case rest =>
      obtain ⟨rfl, rfl⟩ := hcut
      clear x0 x1 x2 x3 x4 x5
      go_upto_region 13 with fail
      have e5 : IntKind.i64.wrap (the + B.s) = the + B.s := IntWalk.i64_in _ (by omega)
      have e6 : IntKind.i64.wrap (the + B.s + d3) = the + B.s + d3 := IntWalk.i64_in _ (by omega)
      have HS0 := Lib.hid (show Holds ((⟨w.heap.size, 3, none⟩, .slice (some ⟨tb, off, none⟩) I0.l.length cap) :: (cellsF tb off Y ++ cellsP NB B)) wc.drew from
        ⟨(HX8.out.later ((Below.refl _ wc).drew)).cells.2.2.2, Holds.app.2 ⟨holds_at (HA0.out _ HB8.out.drew), Holds.below ((Below.refl _ wc).drew) HZB8.out (lows_P hs8.2.1)⟩⟩)
      have hlt := Lib.hid (show Lows wc.drew.heap.size ((⟨w.heap.size, 3, none⟩, .slice (some ⟨tb, off, none⟩) I0.l.length cap) :: (cellsF tb off Y ++ cellsP NB B)) from ⟨hs8.2.2.1, Lows.app (lows_at hs8.2.2.2) (lows_P hs8.2.1)⟩)
      refine wp_region_held_drew (S := Holds ((⟨w.heap.size, 3, none⟩, .slice (some ⟨tb, off, none⟩) I0.l.length cap) :: (cellsF tb off Y ++ cellsP NB B))) (by kernel_rfl) HS0.out (fun hSn => ?_)
      have Bc := Lib.hid (Below.refl wc.drew.heap.size wc.drew)
      simp only [cellsF, cellsP, List.cons_append, List.nil_append] at HS0 hlt hSn ⊢
      refine wpAnyH_take (i := 0) (oi := ?oz23) (v := ?vz23) ?iz23 (by kernel_rfl) (by kernel_rfl) (by kernel_rfl) ?qz23 (Or.inl ⟨?gz23, ?hz23⟩) (by assumption) ?rz23
      case iz23 => (simp only [List.getElem?_toArray, List.getElem?_cons_zero]; rfl)
      case qz23 => exact fun _ _ _ h => h
      case gz23 => rfl
      case hz23 => (intro w hSw; (simp only [Holds] at hSw); go_simp <;> with_reducible rfl)
      simp only [Act.put, List.setIfInBounds_toArray, List.set_cons_zero, List.set_cons_succ]
      refine wpAnyH_take (i := 1) (oi := ?oz24) (v := ?vz24) ?iz24 (by kernel_rfl) (by kernel_rfl) (by kernel_rfl) ?qz24 (Or.inl ⟨?gz24, ?hz24⟩) (by assumption) ?rz24
      case iz24 => (simp only [List.getElem?_toArray, List.getElem?_cons_zero, List.getElem?_cons_succ]; rfl)
      case qz24 => exact fun _ _ _ h => h
      case gz24 => rfl
      case hz24 => (intro w hSw; (simp only [Holds] at hSw); go_simp <;> with_reducible rfl)
      simp only [Act.put, List.setIfInBounds_toArray, List.set_cons_zero, List.set_cons_succ]
      refine wpAnyH_take (i := 2) (oi := ?oz25) (v := ?vz25) ?iz25 (by kernel_rfl) (by kernel_rfl) (by kernel_rfl) ?qz25 (Or.inl ⟨?gz25, ?hz25⟩) (by assumption) ?rz25
      case iz25 => (simp only [List.getElem?_toArray, List.getElem?_cons_zero, List.getElem?_cons_succ]; rfl)
      case qz25 => exact fun _ _ _ h => h
      case gz25 => rfl
      case hz25 => (intro w hSw; (simp only [Holds] at hSw); go_simp <;> with_reducible rfl)
      simp only [Act.put, List.setIfInBounds_toArray, List.set_cons_zero, List.set_cons_succ]
      refine wpAnyH_take (i := 3) (oi := ?oz26) (v := ?vz26) ?iz26 (by kernel_rfl) (by kernel_rfl) (by kernel_rfl) ?qz26 (Or.inl ⟨?gz26, ?hz26⟩) (by assumption) ?rz26
      case iz26 => (simp only [List.getElem?_toArray, List.getElem?_cons_zero, List.getElem?_cons_succ]; rfl)
      case qz26 => exact fun _ _ _ h => h
      case gz26 => rfl
      case hz26 => (intro w hSw; (simp only [Holds] at hSw); go_simp <;> with_reducible rfl)
      simp only [Act.put, List.setIfInBounds_toArray, List.set_cons_zero, List.set_cons_succ]
      refine wpAnyH_take (i := 4) (oi := ?oz27) (v := ?vz27) ?iz27 (by kernel_rfl) (by kernel_rfl) (by kernel_rfl) ?qz27 (Or.inl ⟨?gz27, ?hz27⟩) (by assumption) ?rz27
      case iz27 => (simp only [List.getElem?_toArray, List.getElem?_cons_zero, List.getElem?_cons_succ]; rfl)
      case qz27 => exact fun _ _ _ h => h
      case gz27 => rfl
      case hz27 => (intro w hSw; (simp only [Holds] at hSw); go_simp <;> with_reducible rfl)
      simp only [Act.put, List.setIfInBounds_toArray, List.set_cons_zero, List.set_cons_succ]
      refine wpAnyH_take (i := 5) (oi := ?oz28) (v := ?vz28) ?iz28 (by kernel_rfl) (by kernel_rfl) (by kernel_rfl) ?qz28 (Or.inl ⟨?gz28, ?hz28⟩) (by assumption) ?rz28
      case iz28 => (simp only [List.getElem?_toArray, List.getElem?_cons_zero, List.getElem?_cons_succ]; rfl)
      case qz28 => exact fun _ _ _ h => h
      case gz28 => rfl
      case hz28 => (intro w hSw; (simp only [Holds] at hSw); go_simp <;> with_reducible rfl)
      simp only [Act.put, List.setIfInBounds_toArray, List.set_cons_zero, List.set_cons_succ]
      refine wpAnyH_take (i := 6) (oi := ?oz29) (v := ?vz29) ?iz29 (by kernel_rfl) (by kernel_rfl) (by kernel_rfl) ?qz29 (Or.inl ⟨?gz29, ?hz29⟩) (by assumption) ?rz29
      case iz29 => (simp only [List.getElem?_toArray, List.getElem?_cons_zero, List.getElem?_cons_succ]; rfl)
      case qz29 => exact fun _ _ _ h => h
      case gz29 => rfl
      case hz29 => (intro w hSw; (simp only [Holds] at hSw); go_simp <;> with_reducible rfl)
      simp only [Act.put, List.setIfInBounds_toArray, List.set_cons_zero, List.set_cons_succ]
      refine wpAnyH_take (i := 7) (oi := ?oz30) (v := ?vz30) ?iz30 (by kernel_rfl) (by kernel_rfl) (by kernel_rfl) ?qz30 (Or.inl ⟨?gz30, ?hz30⟩) (by assumption) ?rz30
      case iz30 => (simp only [List.getElem?_toArray, List.getElem?_cons_zero, List.getElem?_cons_succ]; rfl)
      case qz30 => exact fun _ _ _ h => h
      case gz30 => rfl
      case hz30 => (intro w hSw; (simp only [Holds] at hSw); go_simp <;> with_reducible rfl)
      simp only [Act.put, List.setIfInBounds_toArray, List.set_cons_zero, List.set_cons_succ]
      refine wpAnyH_take (i := 8) (oi := ?oz31) (v := ?vz31) ?iz31 (by kernel_rfl) (by kernel_rfl) (by kernel_rfl) ?qz31 (Or.inl ⟨?gz31, ?hz31⟩) (by assumption) ?rz31
      case iz31 => (simp only [List.getElem?_toArray, List.getElem?_cons_zero, List.getElem?_cons_succ]; rfl)
      case qz31 => exact fun _ _ _ h => h
      case gz31 => rfl
      case hz31 => (intro w hSw; (simp only [Holds] at hSw); go_simp <;> with_reducible rfl)
      simp only [Act.put, List.setIfInBounds_toArray, List.set_cons_zero, List.set_cons_succ]
      refine wpAnyH_ready (rs := [9]) (by kernel_rfl) (by simp) ?_
      refine AllReadyH.cons (o := ?oz32) ?iz32 (fun K hK => ?kz32) AllReadyH.nil
      case iz32 => (simp only [List.getElem?_toArray, List.getElem?_cons_zero, List.getElem?_cons_succ]; rfl)
      go_simp
      change Calls _ _ #[stopV B, stopV Y] _ _
      refine (far_any B Y _).mono ?_
      rw [HD3.out]
      rintro e w9 ⟨rfl, hb⟩
      refine held_more hK HS0.out hlt (Bc.out.trans (hb.mono Bc.out.size)) (fun Bc hSn => ?_)
      clear hb hK
      refine wpAnyH_take (i := 10) (oi := ?oz33) (v := ?vz33) ?iz33 (by kernel_rfl) (by kernel_rfl) (by kernel_rfl) ?qz33 (Or.inl ⟨?gz33, ?hz33⟩) (by assumption) ?rz33
      case iz33 => (simp only [List.getElem?_toArray, List.getElem?_cons_zero, List.getElem?_cons_succ]; rfl)
      case qz33 => exact fun _ _ _ h => h
      case gz33 => rfl
      case hz33 => (intro w hSw; (simp only [Holds] at hSw); go_simp <;> with_reducible rfl)
      simp only [Act.put, List.setIfInBounds_toArray, List.set_cons_zero, List.set_cons_succ]
      refine wpAnyH_take (i := 11) (oi := ?oz34) (v := ?vz34) ?iz34 (by kernel_rfl) (by kernel_rfl) (by kernel_rfl) ?qz34 (Or.inl ⟨?gz34, ?hz34⟩) (by assumption) ?rz34
      case iz34 => (simp only [List.getElem?_toArray, List.getElem?_cons_zero, List.getElem?_cons_succ]; rfl)
      case qz34 => exact fun _ _ _ h => h
      case gz34 => rfl
      case hz34 => (intro w hSw; (simp only [Holds] at hSw); go_simp <;> with_reducible rfl)
      simp only [Act.put, List.setIfInBounds_toArray, List.set_cons_zero, List.set_cons_succ]
      refine wpAnyH_done (by kernel_rfl) ?_ _
      have HB89 := Lib.hid ((Below.refl wc.heap.size wc).drew.trans Bc.out)
      have HB9 := Lib.hid (HB8.out.trans (HB89.out.mono HB8.out.size))
      have HX9 := Lib.hid (HX8.out.later HB89.out)
      have HZA9 := Lib.hid (Holds.below HB89.out HZA8.out (lows_P hs8.1))
      have HZB9 := Lib.hid (Holds.below HB89.out HZB8.out (lows_P hs8.2.1))
      have HT9 := Lib.hid (HT8.out.below HB89.out)
      have hs9 : NA < w9.heap.size ∧ NB < w9.heap.size ∧ w.heap.size < w9.heap.size ∧ tb < w9.heap.size := ⟨by have := HB89.out.size; omega, by have := HB89.out.size; omega, HX9.out.lt, Nat.lt_of_lt_of_le htb HB9.out.size⟩
      clear HS0 hlt hSn Bc
      clear e5 e6
      have HOO := Lib.hid (HON.out beg the (the + B.s + d3) HBG.out.symm HTH.out.symm rfl)
      obtain ⟨x0, x1, x2, x3, x4, x5, _⟩ := HZA9.out
      obtain ⟨y0, y1, y2, y3, y4, y5, _⟩ := HZB9.out
      obtain ⟨c0, c1, c2, c3⟩ := HX9.out.cells
      obtain ⟨t0, t1, t2, t3, t4, t5⟩ := HA0.out w9 HB9.out
      go_upto_region 14 with fail
      go_cut [14] from 87 (fun v wx => v = .bool (decide (A.d ≤ I0.r ∧ beg ≤ A.u ∧ the ≤ B.u ∧ the + B.s + d3 ≤ Y.u)) ∧ wx = w9)
      case first =>
        by_cases q1 : A.d ≤ I0.r
        rotate_left
        · have d11 := decide_eq_false q1
          go_wp2_with fail
          go_meet
          case rel => exact ⟨congrArg Value.bool (decide_eq_false (fun h => by have := h.1; omega)).symm, rfl⟩
        have d11 := decide_eq_true q1
        by_cases q2 : beg ≤ A.u
        rotate_left
        · have d12 := decide_eq_false q2
          go_wp2_with fail
          go_meet
          case rel => exact ⟨congrArg Value.bool (decide_eq_false (fun h => by have := h.2.1; omega)).symm, rfl⟩
        have d12 := decide_eq_true q2
        by_cases q3 : the ≤ B.u
        rotate_left
        · have d13 := decide_eq_false q3
          go_wp2_with fail
          go_meet
          case rel => exact ⟨congrArg Value.bool (decide_eq_false (fun h => by have := h.2.2.1; omega)).symm, rfl⟩
        have d13 := decide_eq_true q3
        by_cases q4 : the + B.s + d3 ≤ Y.u
        · have d14 := decide_eq_true q4
          go_wp2_with fail
          go_meet
          case rel => exact ⟨congrArg Value.bool (decide_eq_true ⟨q1, q2, q3, q4⟩).symm, rfl⟩
        · have d14 := decide_eq_false q4
          go_wp2_with fail
          go_meet
          case rel => exact ⟨congrArg Value.bool (decide_eq_false (fun h => by have := h.2.2.2; omega)).symm, rfl⟩
      case rest =>
        obtain ⟨rfl, rfl⟩ := hcut
        clear x0 x1 x2 x3 x4 x5 y0 y1 y2 y3 y4 y5 c0 c1 c2 c3 t0 t1 t2 t3 t4 t5
        by_cases hmay : A.d ≤ I0.r ∧ beg ≤ A.u ∧ the ≤ B.u ∧ the + B.s + d3 ≤ Y.u
        rotate_left
        · rw [decide_eq_false hmay]
          rcases HOO.out.2 hmay with rfl | rfl
          all_goals
            clear hmay
            go_wp2
            go_ret
            exact ⟨rfl, HB9.out⟩
        rw [decide_eq_true hmay]
        obtain ⟨rfl, rfl, t0, t1, rfl, rfl, rfl⟩ := HOO.out.1 hmay
        clear hmay
        obtain ⟨lb, lo, rfl, hat, hlb⟩ := trow_at HT9.out 0 (by simp)
        have hat1 := trow_here HT9.out 1 (by simp)
        rw [(nthT_lit0 t0 t1).1, Nat.zero_mul, Nat.add_zero] at hat
        rw [(nthT_lit0 t0 t1).2, Nat.one_mul] at hat1
        have HL0 := Lib.hid hat
        have HL1 := Lib.hid hat1
        clear hat hat1
        go_upto_region 17 with fail
        have e5 : IntKind.i64.wrap (d1 + d2) = d1 + d2 := IntWalk.i64_in _ (by omega)
        have e6 : IntKind.i64.wrap (d1 + d2 + d3) = d1 + d2 + d3 := IntWalk.i64_in _ (by omega)
        have HS0 := Lib.hid (show Holds ((⟨w.heap.size, 3, none⟩, .slice (some ⟨tb, off, none⟩) I0.l.length cap) :: (⟨lb, lo + 1, none⟩, .int .i64 t0.begn) :: (⟨lb, lo + 3 + 1, none⟩, .int .i64 t1.begn) :: (cellsF tb off Y ++ (cellsP NA A ++ cellsP NB B))) wc.drew from
          ⟨(HX9.out.later ((Below.refl _ wc).drew)).cells.2.2.2, (HL0.out.below hlb ((Below.refl _ wc).drew)).2.1, (HL1.out.below hlb ((Below.refl _ wc).drew)).2.1, Holds.app.2 ⟨holds_at (HA0.out _ HB9.out.drew), Holds.app.2 ⟨Holds.below ((Below.refl _ wc).drew) HZA9.out (lows_P hs9.1), Holds.below ((Below.refl _ wc).drew) HZB9.out (lows_P hs9.2.1)⟩⟩⟩)
        have hlt := Lib.hid (show Lows wc.drew.heap.size ((⟨w.heap.size, 3, none⟩, .slice (some ⟨tb, off, none⟩) I0.l.length cap) :: (⟨lb, lo + 1, none⟩, .int .i64 t0.begn) :: (⟨lb, lo + 3 + 1, none⟩, .int .i64 t1.begn) :: (cellsF tb off Y ++ (cellsP NA A ++ cellsP NB B))) from ⟨hs9.2.2.1, hlb, hlb, Lows.app (lows_at hs9.2.2.2) (Lows.app (lows_P hs9.1) (lows_P hs9.2.1))⟩)
        refine wp_region_held_drew (S := Holds ((⟨w.heap.size, 3, none⟩, .slice (some ⟨tb, off, none⟩) I0.l.length cap) :: (⟨lb, lo + 1, none⟩, .int .i64 t0.begn) :: (⟨lb, lo + 3 + 1, none⟩, .int .i64 t1.begn) :: (cellsF tb off Y ++ (cellsP NA A ++ cellsP NB B)))) (by kernel_rfl) HS0.out (fun hSn => ?_)
        have Bc := Lib.hid (Below.refl wc.drew.heap.size wc.drew)
        simp only [cellsF, cellsP, List.cons_append, List.nil_append] at HS0 hlt hSn ⊢
        refine wpAnyH_take (i := 0) (oi := ?oz35) (v := ?vz35) ?iz35 (by kernel_rfl) (by kernel_rfl) (by kernel_rfl) ?qz35 (Or.inl ⟨?gz35, ?hz35⟩) (by assumption) ?rz35
        case iz35 => (simp only [List.getElem?_toArray, List.getElem?_cons_zero]; rfl)
        case qz35 => exact fun _ _ _ h => h
        case gz35 => rfl
        case hz35 => (intro w hSw; (simp only [Holds] at hSw); go_simp <;> with_reducible rfl)
        simp only [Act.put, List.setIfInBounds_toArray, List.set_cons_zero, List.set_cons_succ]
        refine wpAnyH_take (i := 1) (oi := ?oz36) (v := ?vz36) ?iz36 (by kernel_rfl) (by kernel_rfl) (by kernel_rfl) ?qz36 (Or.inl ⟨?gz36, ?hz36⟩) (by assumption) ?rz36
        case iz36 => (simp only [List.getElem?_toArray, List.getElem?_cons_zero, List.getElem?_cons_succ]; rfl)
        case qz36 => exact fun _ _ _ h => h
        case gz36 => rfl
        case hz36 => (intro w hSw; (simp only [Holds] at hSw); go_simp <;> with_reducible rfl)
        simp only [Act.put, List.setIfInBounds_toArray, List.set_cons_zero, List.set_cons_succ]
        refine wpAnyH_take (i := 2) (oi := ?oz37) (v := ?vz37) ?iz37 (by kernel_rfl) (by kernel_rfl) (by kernel_rfl) ?qz37 (Or.inl ⟨?gz37, ?hz37⟩) (by assumption) ?rz37
        case iz37 => (simp only [List.getElem?_toArray, List.getElem?_cons_zero, List.getElem?_cons_succ]; rfl)
        case qz37 => exact fun _ _ _ h => h
        case gz37 => rfl
        case hz37 => (intro w hSw; (simp only [Holds] at hSw); go_simp <;> with_reducible rfl)
        simp only [Act.put, List.setIfInBounds_toArray, List.set_cons_zero, List.set_cons_succ]
        refine wpAnyH_take (i := 3) (oi := ?oz38) (v := ?vz38) ?iz38 (by kernel_rfl) (by kernel_rfl) (by kernel_rfl) ?qz38 (Or.inl ⟨?gz38, ?hz38⟩) (by assumption) ?rz38
        case iz38 => (simp only [List.getElem?_toArray, List.getElem?_cons_zero, List.getElem?_cons_succ]; rfl)
        case qz38 => exact fun _ _ _ h => h
        case gz38 => rfl
        case hz38 => (intro w hSw; (simp only [Holds] at hSw); go_simp <;> with_reducible rfl)
        simp only [Act.put, List.setIfInBounds_toArray, List.set_cons_zero, List.set_cons_succ]
        refine wpAnyH_take (i := 4) (oi := ?oz39) (v := ?vz39) ?iz39 (by kernel_rfl) (by kernel_rfl) (by kernel_rfl) ?qz39 (Or.inl ⟨?gz39, ?hz39⟩) (by assumption) ?rz39
        case iz39 => (simp only [List.getElem?_toArray, List.getElem?_cons_zero, List.getElem?_cons_succ]; rfl)
        case qz39 => exact fun _ _ _ h => h
        case gz39 => rfl
        case hz39 => (intro w hSw; (simp only [Holds] at hSw); go_simp <;> with_reducible rfl)
        simp only [Act.put, List.setIfInBounds_toArray, List.set_cons_zero, List.set_cons_succ]
        refine wpAnyH_take (i := 5) (oi := ?oz40) (v := ?vz40) ?iz40 (by kernel_rfl) (by kernel_rfl) (by kernel_rfl) ?qz40 (Or.inl ⟨?gz40, ?hz40⟩) (by assumption) ?rz40
        case iz40 => (simp only [List.getElem?_toArray, List.getElem?_cons_zero, List.getElem?_cons_succ]; rfl)
        case qz40 => exact fun _ _ _ h => h
        case gz40 => rfl
        case hz40 => (intro w hSw; (simp only [Holds] at hSw); go_simp <;> with_reducible rfl)
        simp only [Act.put, List.setIfInBounds_toArray, List.set_cons_zero, List.set_cons_succ]
        refine wpAnyH_take (i := 6) (oi := ?oz41) (v := ?vz41) ?iz41 (by kernel_rfl) (by kernel_rfl) (by kernel_rfl) ?qz41 (Or.inl ⟨?gz41, ?hz41⟩) (by assumption) ?rz41
        case iz41 => (simp only [List.getElem?_toArray, List.getElem?_cons_zero, List.getElem?_cons_succ]; rfl)
        case qz41 => exact fun _ _ _ h => h
        case gz41 => rfl
        case hz41 => (intro w hSw; (simp only [Holds] at hSw); go_simp <;> with_reducible rfl)
        simp only [Act.put, List.setIfInBounds_toArray, List.set_cons_zero, List.set_cons_succ]
        refine wpAnyH_take (i := 7) (oi := ?oz42) (v := ?vz42) ?iz42 (by kernel_rfl) (by kernel_rfl) (by kernel_rfl) ?qz42 (Or.inl ⟨?gz42, ?hz42⟩) (by assumption) ?rz42
        case iz42 => (simp only [List.getElem?_toArray, List.getElem?_cons_zero, List.getElem?_cons_succ]; rfl)
        case qz42 => exact fun _ _ _ h => h
        case gz42 => rfl
        case hz42 => (intro w hSw; (simp only [Holds] at hSw); go_simp <;> with_reducible rfl)
        simp only [Act.put, List.setIfInBounds_toArray, List.set_cons_zero, List.set_cons_succ]
        refine wpAnyH_take (i := 8) (oi := ?oz43) (v := ?vz43) ?iz43 (by kernel_rfl) (by kernel_rfl) (by kernel_rfl) ?qz43 (Or.inl ⟨?gz43, ?hz43⟩) (by assumption) ?rz43
        case iz43 => (simp only [List.getElem?_toArray, List.getElem?_cons_zero, List.getElem?_cons_succ]; rfl)
        case qz43 => exact fun _ _ _ h => h
        case gz43 => rfl
        case hz43 => (intro w hSw; (simp only [Holds] at hSw); go_simp <;> with_reducible rfl)
        simp only [Act.put, List.setIfInBounds_toArray, List.set_cons_zero, List.set_cons_succ]
        refine wpAnyH_take (i := 10) (oi := ?oz44) (v := ?vz44) ?iz44 (by kernel_rfl) (by kernel_rfl) (by kernel_rfl) ?qz44 (Or.inl ⟨?gz44, ?hz44⟩) (by assumption) ?rz44
        case iz44 => (simp only [List.getElem?_toArray, List.getElem?_cons_zero, List.getElem?_cons_succ]; rfl)
        case qz44 => exact fun _ _ _ h => h
        case gz44 => rfl
        case hz44 => (intro w hSw; (simp only [Holds] at hSw); go_simp <;> with_reducible rfl)
        simp only [Act.put, List.setIfInBounds_toArray, List.set_cons_zero, List.set_cons_succ]
        refine wpAnyH_take (i := 11) (oi := ?oz45) (v := ?vz45) ?iz45 (by kernel_rfl) (by kernel_rfl) (by kernel_rfl) ?qz45 (Or.inl ⟨?gz45, ?hz45⟩) (by assumption) ?rz45
        case iz45 => (simp only [List.getElem?_toArray, List.getElem?_cons_zero, List.getElem?_cons_succ]; rfl)
        case qz45 => exact fun _ _ _ h => h
        case gz45 => rfl
        case hz45 => (intro w hSw; (simp only [Holds] at hSw); go_simp <;> with_reducible rfl)
        simp only [Act.put, List.setIfInBounds_toArray, List.set_cons_zero, List.set_cons_succ]
        refine wpAnyH_take (i := 14) (oi := ?oz46) (v := ?vz46) ?iz46 (by kernel_rfl) (by kernel_rfl) (by kernel_rfl) ?qz46 (Or.inl ⟨?gz46, ?hz46⟩) (by assumption) ?rz46
        case iz46 => (simp only [List.getElem?_toArray, List.getElem?_cons_zero, List.getElem?_cons_succ]; rfl)
        case qz46 => exact fun _ _ _ h => h
        case gz46 => rfl
        case hz46 => (intro w hSw; (simp only [Holds] at hSw); go_simp <;> with_reducible rfl)
        simp only [Act.put, List.setIfInBounds_toArray, List.set_cons_zero, List.set_cons_succ]
        refine wpAnyH_take (i := 15) (oi := ?oz47) (v := ?vz47) ?iz47 (by kernel_rfl) (by kernel_rfl) (by kernel_rfl) ?qz47 (Or.inl ⟨?gz47, ?hz47⟩) (by assumption) ?rz47
        case iz47 => (simp only [List.getElem?_toArray, List.getElem?_cons_zero, List.getElem?_cons_succ]; rfl)
        case qz47 => exact fun _ _ _ h => h
        case gz47 => rfl
        case hz47 => (intro w hSw; (simp only [Holds] at hSw); go_simp <;> with_reducible rfl)
        simp only [Act.put, List.setIfInBounds_toArray, List.set_cons_zero, List.set_cons_succ]
        refine wpAnyH_take (i := 16) (oi := ?oz48) (v := ?vz48) ?iz48 (by kernel_rfl) (by kernel_rfl) (by kernel_rfl) ?qz48 (Or.inl ⟨?gz48, ?hz48⟩) (by assumption) ?rz48
        case iz48 => (simp only [List.getElem?_toArray, List.getElem?_cons_zero, List.getElem?_cons_succ]; rfl)
        case qz48 => exact fun _ _ _ h => h
        case gz48 => rfl
        case hz48 => (intro w hSw; (simp only [Holds] at hSw); go_simp <;> with_reducible rfl)
        simp only [Act.put, List.setIfInBounds_toArray, List.set_cons_zero, List.set_cons_succ]
        refine wpAnyH_take (i := 17) (oi := ?oz49) (v := ?vz49) ?iz49 (by kernel_rfl) (by kernel_rfl) (by kernel_rfl) ?qz49 (Or.inl ⟨?gz49, ?hz49⟩) (by assumption) ?rz49
        case iz49 => (simp only [List.getElem?_toArray, List.getElem?_cons_zero, List.getElem?_cons_succ]; rfl)
        case qz49 => exact fun _ _ _ h => h
        case gz49 => rfl
        case hz49 => (intro w hSw; (simp only [Holds] at hSw); go_simp <;> with_reducible rfl)
        simp only [Act.put, List.setIfInBounds_toArray, List.set_cons_zero, List.set_cons_succ]
        refine wpAnyH_take (i := 18) (oi := ?oz50) (v := ?vz50) ?iz50 (by kernel_rfl) (by kernel_rfl) (by kernel_rfl) ?qz50 (Or.inl ⟨?gz50, ?hz50⟩) (by assumption) ?rz50
        case iz50 => (simp only [List.getElem?_toArray, List.getElem?_cons_zero, List.getElem?_cons_succ]; rfl)
        case qz50 => exact fun _ _ _ h => h
        case gz50 => rfl
        case hz50 => (intro w hSw; (simp only [Holds] at hSw); go_simp <;> with_reducible rfl)
        simp only [Act.put, List.setIfInBounds_toArray, List.set_cons_zero, List.set_cons_succ]
        refine wpAnyH_ready (rs := [9]) (by kernel_rfl) (by simp) ?_
        refine AllReadyH.cons (o := ?oz51) ?iz51 (fun K hK => ?kz51) AllReadyH.nil
        case iz51 => (simp only [List.getElem?_toArray, List.getElem?_cons_zero, List.getElem?_cons_succ]; rfl)
        go_simp
        change Calls _ _ #[stopV Y, stopV A] _ _
        refine (far_any Y A _).mono ?_
        rw [HD1.out]
        rintro e wa ⟨rfl, hb⟩
        refine held_more hK HS0.out hlt (Bc.out.trans (hb.mono Bc.out.size)) (fun Bc hSn => ?_)
        clear hb hK
        refine wpAnyH_ready (rs := [12]) (by kernel_rfl) (by simp) ?_
        refine AllReadyH.cons (o := ?oz52) ?iz52 (fun K hK => ?kz52) AllReadyH.nil
        case iz52 => (simp only [List.getElem?_toArray, List.getElem?_cons_zero, List.getElem?_cons_succ]; rfl)
        go_simp
        change Calls _ _ #[stopV A, stopV B] _ _
        refine (far_any A B _).mono ?_
        rw [HD2.out]
        rintro e wb ⟨rfl, hb⟩
        refine held_more hK HS0.out hlt (Bc.out.trans (hb.mono Bc.out.size)) (fun Bc hSn => ?_)
        clear hb hK
        refine wpAnyH_take (i := 13) (oi := ?oz53) (v := ?vz53) ?iz53 (by kernel_rfl) (by kernel_rfl) (by kernel_rfl) ?qz53 (Or.inl ⟨?gz53, ?hz53⟩) (by assumption) ?rz53
        case iz53 => (simp only [List.getElem?_toArray, List.getElem?_cons_zero, List.getElem?_cons_succ]; rfl)
        case qz53 => exact fun _ _ _ h => h
        case gz53 => rfl
        case hz53 => (intro w hSw; (simp only [Holds] at hSw); go_simp <;> with_reducible rfl)
        simp only [Act.put, List.setIfInBounds_toArray, List.set_cons_zero, List.set_cons_succ]
        refine wpAnyH_ready (rs := [19]) (by kernel_rfl) (by simp) ?_
        refine AllReadyH.cons (o := ?oz54) ?iz54 (fun K hK => ?kz54) AllReadyH.nil
        case iz54 => (simp only [List.getElem?_toArray, List.getElem?_cons_zero, List.getElem?_cons_succ]; rfl)
        go_simp
        change Calls _ _ #[stopV B, stopV Y] _ _
        refine (far_any B Y _).mono ?_
        rw [HD3.out]
        rintro e wd ⟨rfl, hb⟩
        refine held_more hK HS0.out hlt (Bc.out.trans (hb.mono Bc.out.size)) (fun Bc hSn => ?_)
        clear hb hK
        refine wpAnyH_take (i := 20) (oi := ?oz55) (v := ?vz55) ?iz55 (by kernel_rfl) (by kernel_rfl) (by kernel_rfl) ?qz55 (Or.inl ⟨?gz55, ?hz55⟩) (by assumption) ?rz55
        case iz55 => (simp only [List.getElem?_toArray, List.getElem?_cons_zero, List.getElem?_cons_succ]; rfl)
        case qz55 => exact fun _ _ _ h => h
        case gz55 => rfl
        case hz55 => (intro w hSw; (simp only [Holds] at hSw); go_simp <;> with_reducible rfl)
        simp only [Act.put, List.setIfInBounds_toArray, List.set_cons_zero, List.set_cons_succ]
        refine wpAnyH_take (i := 21) (oi := ?oz56) (v := ?vz56) ?iz56 (by kernel_rfl) (by kernel_rfl) (by kernel_rfl) ?qz56 (Or.inl ⟨?gz56, ?hz56⟩) (by assumption) ?rz56
        case iz56 => (simp only [List.getElem?_toArray, List.getElem?_cons_zero, List.getElem?_cons_succ]; rfl)
        case qz56 => exact fun _ _ _ h => h
        case gz56 => rfl
        case hz56 => (intro w hSw; (simp only [Holds] at hSw); go_simp <;> with_reducible rfl)
        simp only [Act.put, List.setIfInBounds_toArray, List.set_cons_zero, List.set_cons_succ]
        refine wpAnyH_take (i := 22) (oi := ?oz57) (v := ?vz57) ?iz57 (by kernel_rfl) (by kernel_rfl) (by kernel_rfl) ?qz57 (Or.inl ⟨?gz57, ?hz57⟩) (by assumption) ?rz57
        case iz57 => (simp only [List.getElem?_toArray, List.getElem?_cons_zero, List.getElem?_cons_succ]; rfl)
        case qz57 => exact fun _ _ _ h => h
        case gz57 => rfl
        case hz57 => (intro w hSw; (simp only [Holds] at hSw); go_simp <;> with_reducible rfl)
        simp only [Act.put, List.setIfInBounds_toArray, List.set_cons_zero, List.set_cons_succ]
        refine wpAnyH_take (i := 23) (oi := ?oz58) (v := ?vz58) ?iz58 (by kernel_rfl) (by kernel_rfl) (by kernel_rfl) ?qz58 (Or.inl ⟨?gz58, ?hz58⟩) (by assumption) ?rz58
        case iz58 => (simp only [List.getElem?_toArray, List.getElem?_cons_zero, List.getElem?_cons_succ]; rfl)
        case qz58 => exact fun _ _ _ h => h
        case gz58 => rfl
        case hz58 => (intro w hSw; (simp only [Holds] at hSw); go_simp <;> with_reducible rfl)
        simp only [Act.put, List.setIfInBounds_toArray, List.set_cons_zero, List.set_cons_succ]
        refine wpAnyH_take (i := 24) (oi := ?oz59) (v := ?vz59) ?iz59 (by kernel_rfl) (by kernel_rfl) (by kernel_rfl) ?qz59 (Or.inl ⟨?gz59, ?hz59⟩) (by assumption) ?rz59
        case iz59 => (simp only [List.getElem?_toArray, List.getElem?_cons_zero, List.getElem?_cons_succ]; rfl)
        case qz59 => exact fun _ _ _ h => h
        case gz59 => rfl
        case hz59 => (intro w hSw; (simp only [Holds] at hSw); go_simp <;> with_reducible rfl)
        simp only [Act.put, List.setIfInBounds_toArray, List.set_cons_zero, List.set_cons_succ]
        refine wpAnyH_take (i := 25) (oi := ?oz60) (v := ?vz60) ?iz60 (by kernel_rfl) (by kernel_rfl) (by kernel_rfl) ?qz60 (Or.inl ⟨?gz60, ?hz60⟩) (by assumption) ?rz60
        case iz60 => (simp only [List.getElem?_toArray, List.getElem?_cons_zero, List.getElem?_cons_succ]; rfl)
        case qz60 => exact fun _ _ _ h => h
        case gz60 => rfl
        case hz60 => (intro w hSw; (simp only [Holds] at hSw); go_simp <;> with_reducible rfl)
        simp only [Act.put, List.setIfInBounds_toArray, List.set_cons_zero, List.set_cons_succ]
        refine wpAnyH_take (i := 26) (oi := ?oz61) (v := ?vz61) ?iz61 (by kernel_rfl) (by kernel_rfl) (by kernel_rfl) ?qz61 (Or.inl ⟨?gz61, ?hz61⟩) (by assumption) ?rz61
        case iz61 => (simp only [List.getElem?_toArray, List.getElem?_cons_zero, List.getElem?_cons_succ]; rfl)
        case qz61 => exact fun _ _ _ h => h
        case gz61 => rfl
        case hz61 => (intro w hSw; (simp only [Holds] at hSw); go_simp <;> with_reducible rfl)
        simp only [Act.put, List.setIfInBounds_toArray, List.set_cons_zero, List.set_cons_succ]
        refine wpAnyH_take (i := 27) (oi := ?oz62) (v := ?vz62) ?iz62 (by kernel_rfl) (by kernel_rfl) (by kernel_rfl) ?qz62 (Or.inl ⟨?gz62, ?hz62⟩) (by assumption) ?rz62
        case iz62 => (simp only [List.getElem?_toArray, List.getElem?_cons_zero, List.getElem?_cons_succ]; rfl)
        case qz62 => exact fun _ _ _ h => h
        case gz62 => rfl
        case hz62 => (intro w hSw; (simp only [Holds] at hSw); go_simp <;> with_reducible rfl)
        simp only [Act.put, List.setIfInBounds_toArray, List.set_cons_zero, List.set_cons_succ]
        refine wpAnyH_take (i := 28) (oi := ?oz63) (v := ?vz63) ?iz63 (by kernel_rfl) (by kernel_rfl) (by kernel_rfl) ?qz63 (Or.inl ⟨?gz63, ?hz63⟩) (by assumption) ?rz63
        case iz63 => (simp only [List.getElem?_toArray, List.getElem?_cons_zero, List.getElem?_cons_succ]; rfl)
        case qz63 => exact fun _ _ _ h => h
        case gz63 => rfl
        case hz63 => (intro w hSw; (simp only [Holds] at hSw); go_simp <;> with_reducible rfl)
        simp only [Act.put, List.setIfInBounds_toArray, List.set_cons_zero, List.set_cons_succ]
        refine wpAnyH_take (i := 29) (oi := ?oz64) (v := ?vz64) ?iz64 (by kernel_rfl) (by kernel_rfl) (by kernel_rfl) ?qz64 (Or.inl ⟨?gz64, ?hz64⟩) (by assumption) ?rz64
        case iz64 => (simp only [List.getElem?_toArray, List.getElem?_cons_zero, List.getElem?_cons_succ]; rfl)
        case qz64 => exact fun _ _ _ h => h
        case gz64 => rfl
        case hz64 => (intro w hSw; (simp only [Holds] at hSw); go_simp <;> with_reducible rfl)
        simp only [Act.put, List.setIfInBounds_toArray, List.set_cons_zero, List.set_cons_succ]
        refine wpAnyH_take (i := 30) (oi := ?oz65) (v := ?vz65) ?iz65 (by kernel_rfl) (by kernel_rfl) (by kernel_rfl) ?qz65 (Or.inl ⟨?gz65, ?hz65⟩) (by assumption) ?rz65
        case iz65 => (simp only [List.getElem?_toArray, List.getElem?_cons_zero, List.getElem?_cons_succ]; rfl)
        case qz65 => exact fun _ _ _ h => h
        case gz65 => rfl
        case hz65 => (intro w hSw; (simp only [Holds] at hSw); go_simp <;> with_reducible rfl)
        simp only [Act.put, List.setIfInBounds_toArray, List.set_cons_zero, List.set_cons_succ]
        refine wpAnyH_take (i := 31) (oi := ?oz66) (v := ?vz66) ?iz66 (by kernel_rfl) (by kernel_rfl) (by kernel_rfl) ?qz66 (Or.inl ⟨?gz66, ?hz66⟩) (by assumption) ?rz66
        case iz66 => (simp only [List.getElem?_toArray, List.getElem?_cons_zero, List.getElem?_cons_succ]; rfl)
        case qz66 => exact fun _ _ _ h => h
        case gz66 => rfl
        case hz66 => (intro w hSw; (simp only [Holds] at hSw); go_simp <;> with_reducible rfl)
        simp only [Act.put, List.setIfInBounds_toArray, List.set_cons_zero, List.set_cons_succ]
        refine wpAnyH_take (i := 32) (oi := ?oz67) (v := ?vz67) ?iz67 (by kernel_rfl) (by kernel_rfl) (by kernel_rfl) ?qz67 (Or.inl ⟨?gz67, ?hz67⟩) (by assumption) ?rz67
        case iz67 => (simp only [List.getElem?_toArray, List.getElem?_cons_zero, List.getElem?_cons_succ]; rfl)
        case qz67 => exact fun _ _ _ h => h
        case gz67 => rfl
        case hz67 => (intro w hSw; (simp only [Holds] at hSw); go_simp <;> with_reducible rfl)
        simp only [Act.put, List.setIfInBounds_toArray, List.set_cons_zero, List.set_cons_succ]
        refine wpAnyH_take (i := 33) (oi := ?oz68) (v := ?vz68) ?iz68 (by kernel_rfl) (by kernel_rfl) (by kernel_rfl) ?qz68 (Or.inl ⟨?gz68, ?hz68⟩) (by assumption) ?rz68
        case iz68 => (simp only [List.getElem?_toArray, List.getElem?_cons_zero, List.getElem?_cons_succ]; rfl)
        case qz68 => exact fun _ _ _ h => h
        case gz68 => rfl
        case hz68 => (intro w hSw; (simp only [Holds] at hSw); go_simp <;> with_reducible rfl)
        simp only [Act.put, List.setIfInBounds_toArray, List.set_cons_zero, List.set_cons_succ]
        refine wpAnyH_take (i := 34) (oi := ?oz69) (v := ?vz69) ?iz69 (by kernel_rfl) (by kernel_rfl) (by kernel_rfl) ?qz69 (Or.inl ⟨?gz69, ?hz69⟩) (by assumption) ?rz69
        case iz69 => (simp only [List.getElem?_toArray, List.getElem?_cons_zero, List.getElem?_cons_succ]; rfl)
        case qz69 => exact fun _ _ _ h => h
        case gz69 => rfl
        case hz69 => (intro w hSw; (simp only [Holds] at hSw); go_simp <;> with_reducible rfl)
        simp only [Act.put, List.setIfInBounds_toArray, List.set_cons_zero, List.set_cons_succ]
        refine wpAnyH_take (i := 35) (oi := ?oz70) (v := ?vz70) ?iz70 (by kernel_rfl) (by kernel_rfl) (by kernel_rfl) ?qz70 (Or.inl ⟨?gz70, ?hz70⟩) (by assumption) ?rz70
        case iz70 => (simp only [List.getElem?_toArray, List.getElem?_cons_zero, List.getElem?_cons_succ]; rfl)
        case qz70 => exact fun _ _ _ h => h
        case gz70 => rfl
        case hz70 => (intro w hSw; (simp only [Holds] at hSw); go_simp <;> with_reducible rfl)
        simp only [Act.put, List.setIfInBounds_toArray, List.set_cons_zero, List.set_cons_succ]
        refine wpAnyH_take (i := 36) (oi := ?oz71) (v := ?vz71) ?iz71 (by kernel_rfl) (by kernel_rfl) (by kernel_rfl) ?qz71 (Or.inl ⟨?gz71, ?hz71⟩) (by assumption) ?rz71
        case iz71 => (simp only [List.getElem?_toArray, List.getElem?_cons_zero, List.getElem?_cons_succ]; rfl)
        case qz71 => exact fun _ _ _ h => h
        case gz71 => rfl
        case hz71 => (intro w hSw; (simp only [Holds] at hSw); go_simp <;> with_reducible rfl)
        simp only [Act.put, List.setIfInBounds_toArray, List.set_cons_zero, List.set_cons_succ]
        refine wpAnyH_take (i := 37) (oi := ?oz72) (v := ?vz72) ?iz72 (by kernel_rfl) (by kernel_rfl) (by kernel_rfl) ?qz72 (Or.inl ⟨?gz72, ?hz72⟩) (by assumption) ?rz72
        case iz72 => (simp only [List.getElem?_toArray, List.getElem?_cons_zero, List.getElem?_cons_succ]; rfl)
        case qz72 => exact fun _ _ _ h => h
        case gz72 => rfl
        case hz72 => (intro w hSw; (simp only [Holds] at hSw); go_simp <;> with_reducible rfl)
        simp only [Act.put, List.setIfInBounds_toArray, List.set_cons_zero, List.set_cons_succ]
        refine wpAnyH_take (i := 38) (oi := ?oz73) (v := ?vz73) ?iz73 (by kernel_rfl) (by kernel_rfl) (by kernel_rfl) ?qz73 (Or.inl ⟨?gz73, ?hz73⟩) (by assumption) ?rz73
        case iz73 => (simp only [List.getElem?_toArray, List.getElem?_cons_zero, List.getElem?_cons_succ]; rfl)
        case qz73 => exact fun _ _ _ h => h
        case gz73 => rfl
        case hz73 => (intro w hSw; (simp only [Holds] at hSw); go_simp <;> with_reducible rfl)
        simp only [Act.put, List.setIfInBounds_toArray, List.set_cons_zero, List.set_cons_succ]
        refine wpAnyH_take (i := 39) (oi := ?oz74) (v := ?vz74) ?iz74 (by kernel_rfl) (by kernel_rfl) (by kernel_rfl) ?qz74 (Or.inl ⟨?gz74, ?hz74⟩) (by assumption) ?rz74
        case iz74 => (simp only [List.getElem?_toArray, List.getElem?_cons_zero, List.getElem?_cons_succ]; rfl)
        case qz74 => exact fun _ _ _ h => h
        case gz74 => rfl
        case hz74 => (intro w hSw; (simp only [Holds] at hSw); go_simp <;> with_reducible rfl)
        simp only [Act.put, List.setIfInBounds_toArray, List.set_cons_zero, List.set_cons_succ]
        refine wpAnyH_take (i := 40) (oi := ?oz75) (v := ?vz75) ?iz75 (by kernel_rfl) (by kernel_rfl) (by kernel_rfl) ?qz75 (Or.inl ⟨?gz75, ?hz75⟩) (by assumption) ?rz75
        case iz75 => (simp only [List.getElem?_toArray, List.getElem?_cons_zero, List.getElem?_cons_succ]; rfl)
        case qz75 => exact fun _ _ _ h => h
        case gz75 => rfl
        case hz75 => (intro w hSw; (simp only [Holds] at hSw); go_simp <;> with_reducible rfl)
        simp only [Act.put, List.setIfInBounds_toArray, List.set_cons_zero, List.set_cons_succ]
        refine wpAnyH_take (i := 41) (oi := ?oz76) (v := ?vz76) ?iz76 (by kernel_rfl) (by kernel_rfl) (by kernel_rfl) ?qz76 (Or.inl ⟨?gz76, ?hz76⟩) (by assumption) ?rz76
        case iz76 => (simp only [List.getElem?_toArray, List.getElem?_cons_zero, List.getElem?_cons_succ]; rfl)
        case qz76 => exact fun _ _ _ h => h
        case gz76 => rfl
        case hz76 => (intro w hSw; (simp only [Holds] at hSw); go_simp <;> with_reducible rfl)
        simp only [Act.put, List.setIfInBounds_toArray, List.set_cons_zero, List.set_cons_succ]
        refine wpAnyH_take (i := 42) (oi := ?oz77) (v := ?vz77) ?iz77 (by kernel_rfl) (by kernel_rfl) (by kernel_rfl) ?qz77 (Or.inl ⟨?gz77, ?hz77⟩) (by assumption) ?rz77
        case iz77 => (simp only [List.getElem?_toArray, List.getElem?_cons_zero, List.getElem?_cons_succ]; rfl)
        case qz77 => exact fun _ _ _ h => h
        case gz77 => rfl
        case hz77 => (intro w hSw; (simp only [Holds] at hSw); go_simp <;> with_reducible rfl)
        simp only [Act.put, List.setIfInBounds_toArray, List.set_cons_zero, List.set_cons_succ]
        refine wpAnyH_take (i := 43) (oi := ?oz78) (v := ?vz78) ?iz78 (by kernel_rfl) (by kernel_rfl) (by kernel_rfl) ?qz78 (Or.inl ⟨?gz78, ?hz78⟩) (by assumption) ?rz78
        case iz78 => (simp only [List.getElem?_toArray, List.getElem?_cons_zero, List.getElem?_cons_succ]; rfl)
        case qz78 => exact fun _ _ _ h => h
        case gz78 => rfl
        case hz78 => (intro w hSw; (simp only [Holds] at hSw); go_simp <;> with_reducible rfl)
        simp only [Act.put, List.setIfInBounds_toArray, List.set_cons_zero, List.set_cons_succ]
        refine wpAnyH_take (i := 44) (oi := ?oz79) (v := ?vz79) ?iz79 (by kernel_rfl) (by kernel_rfl) (by kernel_rfl) ?qz79 (Or.inl ⟨?gz79, ?hz79⟩) (by assumption) ?rz79
        case iz79 => (simp only [List.getElem?_toArray, List.getElem?_cons_zero, List.getElem?_cons_succ]; rfl)
        case qz79 => exact fun _ _ _ h => h
        case gz79 => rfl
        case hz79 => (intro w hSw; (simp only [Holds] at hSw); go_simp <;> with_reducible rfl)
        simp only [Act.put, List.setIfInBounds_toArray, List.set_cons_zero, List.set_cons_succ]
        refine wpAnyH_done (by kernel_rfl) ?_ _
        go_wp2
        go_ret
        exact ⟨rfl, HB9.out.drew.trans (Bc.out.mono (by have := HB9.out.size; exact this))⟩

set_option maxRecDepth 100000 in
theorem lifted (os : Os) (started : os.Started) (H : Type) (enc : TypeId × Value → H) :
    ReturnsInHanded {} Try.checked os 8 .any (Rows.schedOneSpec.pre6 enc Try.prog Try.f8 Rows.schedOneRow.domain false) (Rows.schedOneSpec.post enc Try.prog Try.f8 false true false false) := by
  refine returnsInHanded_of_change (C := Try.checked) own started (by kernel_rfl) Try.func8
    (ChangeSpec.witness6 (enc := enc) (C := Try.checked) false ⟨#[], #[.agg #[.int .i64 0, .int .i64 0, .int .i64 0, .slice none 0 0], .int .i64 0], []⟩ 8 (by kernel_rfl) (by kernel_rfl) (by kernel_rfl) (by kernel_rfl)) ?_
  intro W base args ds gs before hval0 hW hcnd _
  have hval : ∀ (j : Nat) t v, Try.f8.params[j]? = some t → args[j]? = some v → Value.okWide Try.prog W .any base t v := hval0
  have hW' := hW
  obtain ⟨p, q, hA0, hV, rfl, hfz, hnd⟩ := hW
  have hA : DataW.TrodAll enc Try.prog W 0 (fun _ => true) true Try.f8.params.toList args.toList ds p := hA0
  rw [Try.params8] at hA hval
  obtain ⟨v0, vs0, d0, ds0, p0, q0, hargs, rfl, rfl, h0, r0⟩ := trodAll_cons hA
  obtain ⟨v1, vs1, d1, ds1, p1, q1, rfl, rfl, rfl, h1, r1⟩ := trodAll_cons r0
  obtain ⟨rfl, rfl, rfl⟩ := trodAll_nil r1
  obtain rfl : args = #[v0, v1] := by cases args; simp_all
  obtain ⟨rfl, rfl⟩ := trodVars_none hV
  have k0 := h0
  have lt0 : ∀ x ∈ p0, x.block < W.heap.size := by obtain ⟨m, hm⟩ := k0; exact DataW.trod_lt m _ _ _ hm
  have k1 := h1
  have lt1 : ∀ x ∈ p1, x.block < W.heap.size := by obtain ⟨m, hm⟩ := k1; exact DataW.trod_lt m _ _ _ hm
  obtain ⟨I0, u0, rfl, e0, _⟩ := open_inst (hval 0 24 v0 rfl rfl) h0
  obtain ⟨a1, rfl, rfl, rfl, i1⟩ := open_int Try.underlying3 (hval 1 3 v1 rfl rfl) h1
  clear hA0 hval0
  refine (walk I0 _ a1 W e0).mono fun e W' ⟨he, bel⟩ => ?_
  subst he
  exact ⟨_, rfl, _, _, _, [], _, [], hW', trodAll_mk1 (shut_bool Try.underlying4 _), (trodAll_cons_mk (Below.trod laidOut (by kernel_rfl) (of_decide_eq_true (by kernel_rfl)) k0 bel lt0) (trodAll_cons_mk (Below.trod laidOut (by kernel_rfl) (of_decide_eq_true (by kernel_rfl)) k1 bel lt1) trodAll_mk0)), rfl, bel.frame _, fun h => by cases h⟩

theorem over : Rows.schedOneRow.holds Try.pinned (OpenSpec.ofChange Rows.schedOneSpec) :=
  OpenClaim.holds_of_wide 8 Try.f8 rfl rfl rfl rfl rfl rfl rfl ⟨rfl, rfl, rfl, rfl, rfl⟩ rfl rfl rfl rfl rfl (by kernel_rfl) Try.func8 (by kernel_rfl)
    (of_decide_eq_true (by kernel_rfl)) (by unfold Func.isWrapper; first | (rw [if_pos (by decide +kernel)]; kernel_rfl) | (rw [if_neg (by decide +kernel)]; exact ⟨rfl, rfl⟩))
    (fun os started H enc _ => lifted os started H enc)

theorem proved : Rows.SchedOneSaid := over
#print axioms proved
end Go.Proofs.Ytolaiccgbngomaa.schedOne
