/- On a route that may be each stop is once, what is brought was taken in, and all that was; each is begun in its time, no sooner than the car comes, and left so much later; the car is back in time; it never holds too much, nor less than nothing, and nothing at the end; and it goes as far as its stops are from each other: of at most 100 stops. -/
import Derived.Test.YtpgbbnmflnhlbaaOrd
import Derived.Test.YtpgbbnmflnhlbaaRows
import Derived.Test.YtpgbbnmflnhlbaaXTSched
import Derived.Test.YtpgbbnmflnhlbaaKLex
namespace Go.Proofs.Ytpgbbnmflnhlbaa.schedKeeps
open Go.ChangeShapes Go.WideShapes Go.ChangeAt Go.RowKit

theorem nthT_some {l : List Tm} {k : Nat} {t : Tm} (h : l[k]? = some t) : nthT l k = t := by unfold nthT; rw [List.getD_eq_getElem?_getD, h]; rfl
/-- One number of a matrix. -/
theorem mat_cell {w : World} {b off n cap : Nat} {l : List Stp} (h : IsLL w (.slice (some ⟨b, off, none⟩) n cap) (matF l)) (i k : Nat) (hi : i < l.length) (hk : k < l.length) :
    ∃ rb ro c, w.cell? ⟨b, off + i, none⟩ = some (.slice (some ⟨rb, ro, none⟩) l.length c) ∧ w.cell? ⟨rb, ro + k, none⟩ = some (.int .i64 (farF (nth l i) (nth l k))) := by
  obtain ⟨ta, oa, a1, n1, c1, he, hta, ca, hn1, hx1, r1⟩ := ll_at h i (by rw [matF_len]; exact hi)
  simp only [Option.some.injEq, Addr.mk.injEq, and_true] at he
  obtain ⟨rfl, rfl⟩ := he
  subst hn1
  rw [matF_at l i hi] at ca r1
  rw [rowF_len] at ca r1
  obtain ⟨rb, ro, rfl, hc, _⟩ := row_cell r1 k (by rw [ints_len, rowF_len]; exact hk)
  rw [ints_at _ _ (by rw [rowF_len]; exact hk), rowF_at l _ k hk] at hc
  exact ⟨rb, ro, c1, ca, hc⟩
theorem mat_len0 {w : World} {b off n cap : Nat} {l : List Stp} (h : IsLL w (.slice (some ⟨b, off, none⟩) n cap) (matF l)) (i : Nat) (hi : i < l.length) : ∃ a c, w.cell? ⟨b, off + i, none⟩ = some (.slice a l.length c) := by
  obtain ⟨rb, ro, c, h1, _⟩ := mat_cell h i i hi hi
  exact ⟨_, c, h1⟩
structure KeepS (I : Ins) (l : List Int) (k : Nat) (a j : Nat) (t : Tm) : Prop where
  ra : a < I.l.length
  rj : j < I.l.length
  j1 : 1 ≤ j
  at0 : atK l k = a
  i0 : l.getD k 0 = j
  at1 : atK l (k + 1) = j
  t0 : nthT (outT I l) k = t
  come : t.come = (sK I l k).now + farF (nth I.l a) (nth I.l j)
  begn : t.begn = max t.come (nth I.l j).r
  leave : t.leave = t.begn + (nth I.l j).s
  due : t.begn ≤ (nth I.l j).u
  now1 : (sK I l (k + 1)).now = t.leave
  far1 : (sK I l (k + 1)).far = (sK I l k).far + farF (nth I.l a) (nth I.l j)
  load1 : heldL I (l.take (k + 1)) = heldL I (l.take k) + (nth I.l j).d
  loads : (loadsT I l).getD k 0 = heldL I (l.take (k + 1))
  pos : 0 ≤ heldL I (l.take (k + 1))
  room : heldL I (l.take (k + 1)) ≤ I.r
theorem keep_step {I : Ins} {l : List Int} {s : TS} (h : timesE I l = .ok s) {k : Nat} (hk : k < l.length) : ∃ a j t, KeepS I l k a j t := by
  obtain ⟨hm, hg, _, _⟩ := timesE_ok h
  have hf := fine_of hm
  obtain ⟨z1, z2, z3⟩ := sK_step hg hk
  obtain ⟨w1, w2, _, _, _⟩ := wrongE_zero z1
  have hl := hf.len
  obtain ⟨r1, r2⟩ := atK_rng hf hg (k := k) (by omega)
  have hla := sK_last hg (k := k) (by omega)
  have hs : stp I (atK l k) = nth I.l (atK l k).toNat := rfl
  refine ⟨(atK l k).toNat, (l.getD k 0).toNat, tmAt (sK I l k) (stp I (l.getD k 0)), by omega, by omega, by omega, by omega, by omega, by rw [atK_next hk]; omega, ?_, ?_, rfl, rfl, z2, by rw [z3]; rfl, ?_, ?_, loadsT_getD h hk, load_pos hf hg _, load_room hg hk⟩
  · rw [(ok_of h).2.1]; exact nthT_some (sK_out l s hg k hk)
  · show (sK I l k).now + farF (sK I l k).last (stp I (l.getD k 0)) = _
    rw [hla]; rfl
  · rw [z3]
    show (sK I l k).far + farF (sK I l k).last (stp I (l.getD k 0)) = _
    rw [hla]; rfl
  · rw [load_next hk]; rfl
theorem keep_bds {I : Ins} {l : List Int} {s : TS} (h : timesE I l = .ok s) (k : Nat) : (0 ≤ (sK I l k).now ∧ (sK I l k).now ≤ 1049576) ∧ (0 ≤ (sK I l k).far ∧ (sK I l k).far ≤ 1000000) := by
  obtain ⟨hm, hg, _, _⟩ := timesE_ok h
  have hf := fine_of hm
  obtain ⟨b1, b2, _, _⟩ := goE_bds hf _ _ (sK_ok hg k)
  have hlen := goE_len hf (sK_ok hg k)
  exact ⟨b1, by omega⟩
theorem keep_end {I : Ins} {l : List Int} {s : TS} (h : timesE I l = .ok s) : ∃ a : Nat, a < I.l.length ∧ atK l l.length = a ∧ heldL I l = 0 ∧ farT I l = (sK I l l.length).far + farF (nth I.l a) (nth I.l 0) ∧ (sK I l l.length).now + farF (nth I.l a) (nth I.l 0) ≤ (nth I.l 0).u := by
  obtain ⟨hm, hg, he, hb⟩ := timesE_ok h
  have hf := fine_of hm
  have hl := hf.len
  obtain ⟨r1, r2⟩ := atK_rng hf hg (k := l.length) (Nat.le_refl _)
  have hla := sK_last hg (k := l.length) (Nat.le_refl _)
  rw [sK_all hg] at hla ⊢
  unfold backT at hb
  rw [hla] at hb
  refine ⟨(atK l l.length).toNat, by omega, by omega, held_end hf hg he, ?_, hb⟩
  rw [(ok_of h).2.2.1, hla]; rfl
set_option maxRecDepth 1000000 in
set_option maxHeartbeats 4000000 in
theorem walk (I0 : Ins) (v0 : Value) (v1 : Value) (l1 : List Int) (w : World) (e0 : SRow w v0 I0.l) (e1 : Row w v1 (ints l1)) :
    Calls Try.prog 9 #[insV I0 v0, v1] w fun e w' => e = .returned (.bool true) ∧ Below w.heap.size w w' := by
  have HE := Lib.hid e0
  have HR := Lib.hid e1
  obtain ⟨a, cap, rfl, hm, _⟩ := e0.form
  obtain ⟨a1, cap1, rfl, hm1⟩ := e1.form
  simp only [ints_len] at *
  have hx0 : I0.l.length ≤ 9223372036854775807 := by unfold maxLen at hm; omega
  have hx1 : l1.length ≤ 9223372036854775807 := by unfold maxLen at hm1; omega
  clear e0 e1 hm hm1
  unfold insV
  go_enter Try.func9, Try.ntmps9
  go_wp2_with fail
  change Calls _ _ _ (w.alloc (boxI I0 (.slice a I0.l.length cap))) _
  have HB0 := Lib.hid ((Below.refl _ w).alloc (Nat.le_refl _) (boxI I0 (.slice a I0.l.length cap)))
  have HXB := Lib.hid (ybox_new w I0 (.slice a I0.l.length cap))
  generalize w.alloc (boxI I0 (.slice a I0.l.length cap)) = W at *
  refine (tawake_any _).mono ?_
  rintro e w1 ⟨rfl, hb⟩
  have HB1 := Lib.hid (HB0.out.trans (hb.mono HB0.out.size))
  have HX1 := Lib.hid ((show YBox W w.heap.size I0 (.slice a I0.l.length cap) from HXB.out).later hb)
  clear hb
  obtain ⟨c0, c1, c2, c3⟩ := HX1.out.cells
  go_wp2_with fail
  change Calls _ _ #[insV I0 (.slice a I0.l.length cap), .slice a1 l1.length cap1] _ _
  refine (times_any (HE.out.below HB1.out) (HR.out.below HB1.out)).mono ?_
  rintro e w2 ⟨u, rfl, ht, hb⟩
  have HB2 := Lib.hid (HB1.out.trans (hb.mono HB1.out.size))
  have HX2 := Lib.hid (HX1.out.later hb)
  have HTR := Lib.hid ht.row
  obtain ⟨ua, uc, rfl⟩ := ht.shape
  clear hb ht c0 c1 c2 c3
  obtain ⟨c0, c1, c2, c3⟩ := HX2.out.cells
  obtain ⟨er, her⟩ : ∃ er, errT I0 l1 = er := ⟨_, rfl⟩
  have HER := Lib.hid her
  rw [her]
  clear her
  go_wp2_with fail
  change Calls _ _ #[insV I0 (.slice a I0.l.length cap), .slice a1 l1.length cap1] _ _
  refine (loads_any (HE.out.below HB2.out) (HR.out.below HB2.out)).mono ?_
  rintro e w3 ⟨q, rfl, hq, hb⟩
  have HB3 := Lib.hid (HB2.out.trans (hb.mono HB2.out.size))
  have HX3 := Lib.hid (HX2.out.later hb)
  have HT3 := Lib.hid (HTR.out.below hb)
  have HQ3 := Lib.hid hq.row
  obtain ⟨qa, qc, rfl⟩ := hq.shape
  clear hb hq c0 c1 c2 c3
  obtain ⟨c0, c1, c2, c3⟩ := HX3.out.cells
  by_cases q1 : (100 : Int) < (I0.l.length : Int)
  · have d1 := decide_eq_true q1
    clear q1
    go_wp2
    go_ret
    exact ⟨rfl, HB3.out⟩
  have d1 := decide_eq_false q1
  clear q1
  by_cases q3 : er = 0
  rotate_left
  · have d3 : (er != 0) = true := by simp [q3]
    clear q3
    go_wp2
    go_ret
    exact ⟨rfl, HB3.out⟩
  subst q3
  obtain ⟨s, hts⟩ := errT_zero HER.out
  have HTS := Lib.hid hts
  have hmy := (timesE_ok hts).1
  have HMM := Lib.hid (show matI I0 = matF I0.l by unfold matI; rw [if_pos hmy])
  have hl0 := (pmay_len hmy).1
  have hol : (outT I0 l1).length = l1.length := by rw [(ok_of hts).2.1]; exact (goE_seen _ _ (timesE_ok hts).2.1).2
  have hql := loadsT_len hts
  obtain ⟨O, hO⟩ : ∃ O, outT I0 l1 = O := ⟨_, rfl⟩
  have HO := Lib.hid hO
  rw [hO] at HT3 hol ⊢
  obtain ⟨Q, hQ⟩ : ∃ Q, loadsT I0 l1 = Q := ⟨_, rfl⟩
  have HQQ := Lib.hid hQ
  rw [hQ] at HQ3 hql ⊢
  have HOL := Lib.hid hol
  have HQL := Lib.hid hql
  rw [hol] at HT3 ⊢
  rw [hql] at HQ3 ⊢
  have d4 : ((l1.length : Int) != (l1.length : Int)) = false := by simp
  clear hts hmy hO hQ hol hql
  go_wp2_with fail
  change Calls _ _ #[insV I0 (.slice a I0.l.length cap)] _ _
  refine (matrix_any (HE.out.below HB3.out)).mono ?_
  rw [HMM.out]
  rintro e w4 ⟨m, rfl, hm4, hb⟩
  have HB4 := Lib.hid (HB3.out.trans (hb.mono HB3.out.size))
  have HX4 := Lib.hid (HX3.out.later hb)
  have HT4 := Lib.hid (HT3.out.below hb)
  have HQ4 := Lib.hid (HQ3.out.below hb)
  have HM4 := Lib.hid hm4.is
  obtain ⟨ma, mc, rfl⟩ := hm4.shape
  rw [matF_len] at HM4 ⊢
  clear hb hm4 c0 c1 c2 c3
  obtain ⟨mb, mo, _, _, _, rfl, _⟩ := ll_at HM4.out 0 (by rw [matF_len]; exact hl0)
  obtain ⟨c0, c1, c2, c3⟩ := HX4.out.cells
  obtain ⟨m0a, m0c, m00⟩ := mat_len0 HM4.out 0 hl0
  rw [Nat.add_zero] at m00
  have d5 : ((I0.l.length : Int) == 0) = false := by rw [beq_eq_false_iff_ne]; omega
  have d6 : ((I0.l.length : Int) != (I0.l.length : Int)) = false := by simp
  have d7 : (I0.l.length == 0) = false := by rw [beq_eq_false_iff_ne]; omega
  have h0i : (0 : Int) < (I0.l.length : Int) := by omega
  go_wp2_with fail
  go_quiet (fail)
  have HB5 := Lib.hid (below_drewN HB4.out nq)
  have HX5 := Lib.hid (HX4.out.later (below_drewN (Below.refl _ w4) nq))
  have HT5 := Lib.hid (HT4.out.below (below_drewN (Below.refl _ w4) nq))
  have HQ5 := Lib.hid (HQ4.out.below (below_drewN (Below.refl _ w4) nq))
  have HM5 := Lib.hid (HM4.out.below (below_drewN (Below.refl _ w4) nq))
  generalize w4.drewN nq = w5 at *
  clear c0 c1 c2 c3 m00 d1 d4 d5 d7
  obtain ⟨c0, c1, c2, c3⟩ := HX5.out.cells
  obtain ⟨tb, off, rfl, hat, htb⟩ := srow_at HE.out 0 hl0
  rw [Nat.zero_mul, Nat.add_zero] at hat
  obtain ⟨t0, t1, t2, t3, t4, t5⟩ := hat.below htb HB5.out
  clear hat
  go_wp2_with fail
  have HSTART := Lib.hid (show (sK I0 l1 0).now = (nth I0.l 0).r ∧ (sK I0 l1 0).far = 0 ∧ heldL I0 (l1.take 0) = 0 ∧ atK l1 0 = 0 from ⟨rfl, rfl, rfl, rfl⟩)
  go_loopw [11, 12, 13, 14, 15] (fun i11 i12 i13 i14 i15 wr => ∃ k : Nat, k ≤ l1.length ∧ i15 = .int .i64 k ∧ i11 = .int .i64 (atK l1 k) ∧ i12 = .int .i64 (sK I0 l1 k).now ∧ i13 = .int .i64 (heldL I0 (l1.take k)) ∧ i14 = .int .i64 (sK I0 l1 k).far ∧ Below w5.heap.size w5 wr) (fun _ _ _ _ i _ => l1.length - (intOf i).toNat)
  case atStart => exact ⟨0, Nat.zero_le _, rfl, rfl, rfl, rfl, rfl, Below.refl _ _⟩
  case round =>
    obtain ⟨k, hk, rfl, rfl, rfl, rfl, rfl, hbw⟩ := hrel
    have HBW := Lib.hid hbw
    have HXR := Lib.hid (HX5.out.later hbw)
    clear hbw c0 c1 c2 c3 t0 t1 t2 t3 t4 t5
    by_cases hlt : k < l1.length
    · obtain ⟨aa, j, t, hks⟩ := keep_step HTS.out hlt
      obtain ⟨⟨bn0, bn1⟩, ⟨bf0, bf1⟩⟩ := keep_bds HTS.out k
      have hnt := fun i (hi : i < k) => not_twice (timesE_ok HTS.out).2.1 hlt hi
      rw [hks.i0] at hnt
      have HNT := Lib.hid hnt
      have HK := Lib.hid hks
      have hst := stop_in ((fine_of (timesE_ok HTS.out).1).ok (j : Int) (by have := hks.j1; omega) (by have := hks.rj; have := (fine_of (timesE_ok HTS.out).1).len; omega))
      rw [show stp I0 (j : Int) = nth I0.l j from rfl] at hst
      have hro := (fine_of (timesE_ok HTS.out).1).room
      have hfb := farF_bd (nth I0.l aa) (nth I0.l j)
      have haa := hks.ra
      have hjj := hks.rj
      have hj1 := hks.j1
      rw [hks.at0]
      have HSR := Lib.hid (show ∀ w', Below w5.heap.size w5 w' → At w' tb (off + j * 6) (nth I0.l j) from fun w' hb' => (srow_here HE.out j hjj).below htb (HB5.out.trans (hb'.mono HB5.out.size)))
      have HRT := Lib.hid (show ∃ rb ro, a1 = some ⟨rb, ro, none⟩ ∧ ∀ i, i < l1.length → ∀ w', Below w5.heap.size w5 w' → w'.cell? ⟨rb, ro + i, none⟩ = some (.int .i64 (l1.getD i 0)) from by
        obtain ⟨rb, ro, he, _, _⟩ := row_cell HR.out 0 (by rw [ints_len]; omega)
        subst he
        exact ⟨rb, ro, rfl, fun i hi w' hb' => by rw [row_here (HR.out.below (HB5.out.trans (hb'.mono HB5.out.size))) i (by rw [ints_len]; exact hi), ints_at _ _ hi]⟩)
      obtain ⟨rb, ro, rfl, hrt⟩ := HRT.out
      have HRC := Lib.hid hrt
      obtain ⟨ob, oo, rfl, hot, _⟩ := trow_at HT5.out k (by rw [HOL.out]; exact hlt)
      have HOT := Lib.hid (show ∀ w', Below w5.heap.size w5 w' → TAt w' ob (oo + k * 3) (nthT O k) from fun w' hb' => hot.below hot.lt hb')
      rw [show nthT O k = t by rw [← HO.out]; exact hks.t0] at HOT
      obtain ⟨qb, qo, rfl, hqt, _⟩ := row_cell HQ5.out k (by rw [ints_len, HQL.out]; exact hlt)
      have HQT := Lib.hid (show ∀ w', Below w5.heap.size w5 w' → w'.cell? ⟨qb, qo + k, none⟩ = some (.int .i64 (heldL I0 (l1.take (k + 1)))) from fun w' hb' => by
        rw [row_here (HQ5.out.below hb') k (by rw [ints_len, HQL.out]; exact hlt), ints_at _ _ (by rw [HQL.out]; exact hlt), ← HQQ.out, hks.loads])
      have HMC := Lib.hid (show ∀ w', Below w5.heap.size w5 w' → ∃ r0 o0 k0 r1 o1 k1, w'.cell? ⟨mb, mo + aa, none⟩ = some (.slice (some ⟨r0, o0, none⟩) I0.l.length k0) ∧ w'.cell? ⟨r0, o0 + j, none⟩ = some (.int .i64 (farF (nth I0.l aa) (nth I0.l j))) ∧ w'.cell? ⟨mb, mo + j, none⟩ = some (.slice (some ⟨r1, o1, none⟩) I0.l.length k1) from fun w' hb' => by
        obtain ⟨r0, o0, k0, x1, x2⟩ := mat_cell (HM5.out.below hb') aa j haa hjj
        obtain ⟨r1, o1, k1, x3, _⟩ := mat_cell (HM5.out.below hb') j j hjj hjj
        exact ⟨r0, o0, k0, r1, o1, k1, x1, x2, x3⟩)
      have hi0 := hks.i0
      have g1 := hks.come
      have g2 := hks.begn
      have g3 := hks.leave
      have g4 := hks.due
      have g5 := hks.load1
      have g6 := hks.pos
      have g7 := hks.room
      clear hrt hot hqt hks hnt
      have HN1 := Lib.hid HK.out.now1
      have HF1 := Lib.hid HK.out.far1
      obtain ⟨hA1⟩ : Nonempty (atK l1 (k + 1) = j) := ⟨HK.out.at1⟩
      have HA1 := Lib.hid hA1
      obtain ⟨ld1, hld1⟩ : ∃ x, heldL I0 (l1.take (k + 1)) = x := ⟨_, rfl⟩
      have HL1 := Lib.hid hld1
      rw [hld1] at g5 g6 g7 HQT
      clear HK hA1 hld1
      generalize (sK I0 l1 k).now = now at *
      generalize (sK I0 l1 k).far = far at *
      generalize heldL I0 (l1.take k) = ld at *
      generalize farF (nth I0.l aa) (nth I0.l j) = d at *
      generalize nth I0.l j = sj at *
      have e1 : IntKind.i64.wrap (now + d) = now + d := IntWalk.i64_in _ (by omega)
      have e2 : IntKind.i64.wrap (far + d) = far + d := IntWalk.i64_in _ (by omega)
      have e3 : IntKind.i64.wrap (ld + sj.d) = ld + sj.d := IntWalk.i64_in _ (by omega)
      have e4 : IntKind.i64.wrap (t.begn + sj.s) = t.begn + sj.s := IntWalk.i64_in _ (by omega)
      have hki : (k : Int) < (l1.length : Int) := by omega
      have hji : (j : Int) < (I0.l.length : Int) := by omega
      have haai : (aa : Int) < (I0.l.length : Int) := by omega
      obtain ⟨c0, c1, c2, c3⟩ := HXR.out.cells
      have qr := HRC.out k hlt wr HBW.out
      rw [hi0] at qr
      obtain ⟨r0, o0, k0, r1, o1, k1, _, _, x3⟩ := HMC.out wr HBW.out
      have d10 : decide ((j : Int) < 1) = false := decide_eq_false (by omega)
      have d11 : decide ((I0.l.length : Int) ≤ (j : Int)) = false := decide_eq_false (by omega)
      have d12 : decide (I0.l.length ≤ j) = false := decide_eq_false (by omega)
      have d13 : decide (j < 1) = false := decide_eq_false (by omega)
      have HG := Lib.hid (show t.come = now + d ∧ t.begn = max t.come sj.r ∧ t.leave = t.begn + sj.s ∧ t.begn ≤ sj.u ∧ ld1 = ld + sj.d ∧ 0 ≤ ld1 ∧ ld1 ≤ I0.r from ⟨g1, g2, g3, g4, g5, g6, g7⟩)
      clear g1 g2 g3 g4 g5 g6 g7
      go_wp2_with fail
      go_quiet (fail)
      have HB6 := Lib.hid (below_drewN HBW.out nq)
      have HX6 := Lib.hid (HXR.out.later (below_drewN (Below.refl _ wr) nq))
      generalize wr.drewN nq = w6 at *
      clear c0 c1 c2 c3 qr x3 d10 d11 d12 d13
      obtain ⟨wo, hwo⟩ : ∃ wo, wo = w6 := ⟨_, rfl⟩
      subst hwo
      go_wp2_with fail
      go_loop [17] (fun i => ∃ i' : Nat, i' ≤ k ∧ i = .int .i64 i') (fun i => k - (intOf i).toNat)
      case atStart => exact ⟨0, Nat.zero_le _, rfl⟩
      case round =>
        obtain ⟨i', hik, rfl⟩ := hrel
        by_cases hik2 : i' < k
        · have qr := HRC.out i' (by omega) wo HB6.out
          have hne := HNT.out i' hik2
          have hii : (i' : Int) < (l1.length : Int) := by omega
          generalize l1.getD i' 0 = z at *
          have d14 : (z == (j : Int)) = false := by rw [beq_eq_false_iff_ne]; exact hne
          clear hne
          go_wp2
          go_round
          case rel => exact ⟨i' + 1, by omega, by go_num⟩
          case measure => simp [intOf]; omega
        · obtain rfl : i' = k := by omega
          clear hik hik2
          obtain ⟨c0, c1, c2, c3⟩ := HX6.out.cells
          obtain ⟨t0, t1, t2, t3, t4, t5⟩ := HSR.out wo HB6.out
          go_upto_region 27 with fail
          have HB7 := Lib.hid (HB6.out.alloc HB6.out.size (.cells #[.int .i64 sj.x, .int .i64 sj.y, .int .i64 sj.d, .int .i64 sj.r, .int .i64 sj.u, .int .i64 sj.s] 23))
          have HX7 := Lib.hid (HX6.out.later ((Below.refl _ wo).alloc (Nat.le_refl _) (.cells #[.int .i64 sj.x, .int .i64 sj.y, .int .i64 sj.d, .int .i64 sj.r, .int .i64 sj.u, .int .i64 sj.s] 23)))
          have HZ7 := Lib.hid (holds_boxS wo sj)
          change Code.wp _ _ _ _ (wo.alloc (boxS sj))
          change Hid (Below w5.heap.size w5 (wo.alloc (boxS sj))) at HB7
          change Hid (YBox (wo.alloc (boxS sj)) _ _ _) at HX7
          generalize wo.alloc (boxS sj) = w7 at *
          generalize wo.heap.size = N7 at *
          clear c0 c1 c2 c3 t0 t1 t2 t3 t4 t5
          obtain ⟨r0, o0, k0, _, _, _, x1, x2, _⟩ := HMC.out w7 HB7.out
          go_upto_region 28 with fail
          obtain ⟨z0, z1, z2, z3, z4, z5, _⟩ := HZ7.out
          obtain ⟨c0, c1, c2, c3⟩ := HX7.out.cells
          obtain ⟨y0, y1, y2⟩ := HOT.out w7 HB7.out
          have qq := HQT.out w7 HB7.out
          obtain ⟨g1, g2, g3, g4, g5, g6, g7⟩ := HG.out
          clear HG
          have m1 : (t.come != now + d) = false := by simp [g1]
          have m2 : decide (t.begn < t.come) = false := decide_eq_false (by omega)
          have m3 : decide (t.begn < sj.r) = false := decide_eq_false (by omega)
          have m4 : decide (sj.u < t.begn) = false := decide_eq_false (by omega)
          have m6 : (t.leave != t.begn + sj.s) = false := by simp [g3]
          have m7 : (ld1 != ld + sj.d) = false := by simp [g5]
          have m8 : decide (ld + sj.d < 0) = false := decide_eq_false (by omega)
          have m9 : decide (I0.r < ld + sj.d) = false := decide_eq_false (by omega)
          by_cases gg : t.come < t.begn
          · as_aux_lemma =>
              have m5 := decide_eq_true gg
              have m10 : (t.begn != sj.r) = false := by rw [bne_eq_false_iff_eq]; omega
              clear g1 g2 g3 g4 g6 g7 gg
              go_wp2_with fail
              refine wp_region_quiet_lit (by kernel_rfl) (lexB_of_data (by kernel_rfl) lexKeeps (by kernel_rfl) lexKeeps_ok) ?_
              repeat (go_big_quiet_step (fail))
              refine wpQuiet_nil ?_
              intro _ hw'
              obtain ⟨nq, hw''⟩ := hw'
              subst hw''
              have HW8 := Lib.hid (below_drewN HB7.out nq)
              generalize w7.drewN nq = w8 at *
              clear c0 c1 c2 c3 x1 x2 y0 y1 y2 z0 z1 z2 z3 z4 z5 qq
              obtain ⟨y0, y1, y2⟩ := HOT.out w8 HW8.out
              go_wp2_with fail
              go_roundw
              case rel => exact ⟨i' + 1, by omega, by go_num, by rw [HA1.out], by rw [HN1.out], by rw [HL1.out, g5], by rw [HF1.out], HW8.out⟩
              case measure => simp [intOf]; omega
          · as_aux_lemma =>
              have m5 := decide_eq_false gg
              clear g1 g2 g3 g4 g6 g7 gg
              go_wp2_with fail
              refine wp_region_quiet_lit (by kernel_rfl) (lexB_of_data (by kernel_rfl) lexKeeps (by kernel_rfl) lexKeeps_ok) ?_
              repeat (go_big_quiet_step (fail))
              refine wpQuiet_nil ?_
              intro _ hw'
              obtain ⟨nq, hw''⟩ := hw'
              subst hw''
              have HW8 := Lib.hid (below_drewN HB7.out nq)
              generalize w7.drewN nq = w8 at *
              clear c0 c1 c2 c3 x1 x2 y0 y1 y2 z0 z1 z2 z3 z4 z5 qq
              obtain ⟨y0, y1, y2⟩ := HOT.out w8 HW8.out
              go_wp2_with fail
              go_roundw
              case rel => exact ⟨i' + 1, by omega, by go_num, by rw [HA1.out], by rw [HN1.out], by rw [HL1.out, g5], by rw [HF1.out], HW8.out⟩
              case measure => simp [intOf]; omega
    · as_aux_lemma =>
        obtain rfl : k = l1.length := by omega
        obtain ⟨aa, haa, hA, hld, hfar, hback⟩ := keep_end HTS.out
        obtain ⟨⟨bn0, bn1⟩, ⟨bf0, bf1⟩⟩ := keep_bds HTS.out l1.length
        have hfb := farF_bd (nth I0.l aa) (nth I0.l 0)
        rw [List.take_length, hA, hld]
        obtain ⟨r0, o0, k0, x1, x2⟩ := mat_cell (HM5.out.below HBW.out) aa 0 haa hl0
        rw [Nat.add_zero] at x2
        obtain ⟨tb2, off2, he, hat, htb2⟩ := srow_at HE.out 0 hl0
        simp only [Option.some.injEq, Addr.mk.injEq, and_true] at he
        obtain ⟨rfl, rfl⟩ := he
        rw [Nat.zero_mul, Nat.add_zero] at hat
        obtain ⟨t0, t1, t2, t3, t4, t5⟩ := hat.below htb (HB5.out.trans (HBW.out.mono HB5.out.size))
        obtain ⟨c0, c1, c2, c3⟩ := HXR.out.cells
        generalize (sK I0 l1 l1.length).now = now at *
        generalize (sK I0 l1 l1.length).far = far at *
        generalize farF (nth I0.l aa) (nth I0.l 0) = d at *
        have e1 : IntKind.i64.wrap (now + d) = now + d := IntWalk.i64_in _ (by omega)
        have e2 : IntKind.i64.wrap (far + d) = far + d := IntWalk.i64_in _ (by omega)
        have haai : (aa : Int) < (I0.l.length : Int) := by omega
        have m1 : (farT I0 l1 == far + d) = true := by simp [hfar]
        have m2 : decide (now + d ≤ (nth I0.l 0).u) = true := decide_eq_true hback
        clear hlt hk hfar hback hat hld hA
        go_wp2_with fail
        go_quiet (fail)
        have HW8 := Lib.hid (below_drewN HBW.out nq)
        go_wp2
        go_ret
        exact ⟨rfl, HB5.out.trans (HW8.out.mono HB5.out.size)⟩
  

set_option maxRecDepth 100000 in
theorem lifted (os : Os) (started : os.Started) (H : Type) (enc : TypeId × Value → H) :
    ReturnsInHanded {} Try.checked os 9 .any (Rows.schedKeepsSpec.pre6 enc Try.prog Try.f9 Rows.schedKeepsRow.domain false) (Rows.schedKeepsSpec.post enc Try.prog Try.f9 false true false false) := by
  refine returnsInHanded_of_change (C := Try.checked) own started (by kernel_rfl) Try.func9
    (ChangeSpec.witness6 (enc := enc) (C := Try.checked) false ⟨#[], #[.agg #[.int .i64 0, .int .i64 0, .int .i64 0, .slice none 0 0], .slice none 0 0], []⟩ 8 (by kernel_rfl) (by kernel_rfl) (by kernel_rfl) (by kernel_rfl)) ?_
  intro W base args ds gs before hval0 hW hcnd _
  have hval : ∀ (j : Nat) t v, Try.f9.params[j]? = some t → args[j]? = some v → Value.okWide Try.prog W .any base t v := hval0
  have hW' := hW
  obtain ⟨p, q, hA0, hV, rfl, hfz, hnd⟩ := hW
  have hA : DataW.TrodAll enc Try.prog W 0 (fun _ => true) true Try.f9.params.toList args.toList ds p := hA0
  rw [Try.params9] at hA hval
  obtain ⟨v0, vs0, d0, ds0, p0, q0, hargs, rfl, rfl, h0, r0⟩ := trodAll_cons hA
  obtain ⟨v1, vs1, d1, ds1, p1, q1, rfl, rfl, rfl, h1, r1⟩ := trodAll_cons r0
  obtain ⟨rfl, rfl, rfl⟩ := trodAll_nil r1
  obtain rfl : args = #[v0, v1] := by cases args; simp_all
  obtain ⟨rfl, rfl⟩ := trodVars_none hV
  have k0 := h0
  have lt0 : ∀ x ∈ p0, x.block < W.heap.size := by obtain ⟨m, hm⟩ := k0; exact DataW.trod_lt m _ _ _ hm
  have k1 := h1
  have lt1 : ∀ x ∈ p1, x.block < W.heap.size := by obtain ⟨m, hm⟩ := k1; exact DataW.trod_lt m _ _ _ hm
  obtain ⟨I0, u0, rfl, e0, _⟩ := open_inst (hval 0 26 v0 rfl rfl) h0
  obtain ⟨a1, len1, cap1, rfl⟩ := okWide_slice Try.underlying32 (hval 1 32 v1 rfl rfl)
  obtain ⟨l1, e1, _⟩ := open_row h1
  clear hA0 hval0
  refine (walk I0 _ _ l1 W e0 e1).mono fun e W' ⟨he, bel⟩ => ?_
  subst he
  exact ⟨_, rfl, _, _, _, [], _, [], hW', trodAll_mk1 (shut_bool Try.underlying4 _), (trodAll_cons_mk (Below.trod laidOut (by kernel_rfl) (of_decide_eq_true (by kernel_rfl)) k0 bel lt0) (trodAll_cons_mk (Below.trod laidOut (by kernel_rfl) (of_decide_eq_true (by kernel_rfl)) k1 bel lt1) trodAll_mk0)), rfl, bel.frame _, fun h => by cases h⟩

theorem over : Rows.schedKeepsRow.holds Try.pinned (OpenSpec.ofChange Rows.schedKeepsSpec) :=
  OpenClaim.holds_of_wide 9 Try.f9 rfl rfl rfl rfl rfl rfl rfl ⟨rfl, rfl, rfl, rfl, rfl⟩ rfl rfl rfl rfl rfl (by kernel_rfl) Try.func9 (by show joinedFacts Try.checked.prog _ _ _ _ = true; unfold joinedFacts; rw [ord_may, ord_lifts, ord_make]; kernel_rfl)
    (of_decide_eq_true (by kernel_rfl)) (by unfold Func.isWrapper; first | (rw [if_pos (by decide +kernel)]; kernel_rfl) | (rw [if_neg (by decide +kernel)]; exact ⟨rfl, rfl⟩))
    (fun os started H enc _ => lifted os started H enc)

theorem proved : Rows.SchedKeepsSaid := over
#print axioms proved
end Go.Proofs.Ytpgbbnmflnhlbaa.schedKeeps
