/- SchedLess holds for every instance, every list of stops and every pair; there is no further condition. -/
import Derived.Test.YtpgbbnmflnhlbaaOrd
import Derived.Test.YtpgbbnmflnhlbaaRows
import Derived.Test.YtpgbbnmflnhlbaaXTSched
namespace Go.Proofs.Ytpgbbnmflnhlbaa.schedLess
open Go.ChangeShapes Go.WideShapes Go.ChangeAt Go.RowKit

theorem row_one (w : World) (x : Int) : Row (w.alloc (.cells #[.int .i64 x] 3)) (.slice (some ⟨w.heap.size, 0, none⟩) 1 1) (ints [x]) := by
  refine ⟨by simp [ints, maxLen], _, _, rfl, by simp [ints], ⟨by simp [maxLen], by simp⟩, .inr ⟨_, _, rfl, fun i hi => ?_⟩⟩
  rw [cell_of_row _ _ _ _ _ _ (heap_alloc_new w _), Nat.zero_add]
  simp [ints]
theorem nthT_get {l : List Tm} {k : Nat} (h : k < l.length) : nthT l k = l[k] := by unfold nthT; simp [List.getD_eq_getElem?_getD, h]
theorem takeT_snoc {l : List Tm} {k : Nat} (hk : k < l.length) : l.take (k + 1) = l.take k ++ [nthT l k] := by
  rw [List.take_add_one, List.getElem?_eq_getElem hk, nthT_get hk]; rfl
theorem less_take {I : Ins} {c : Int} {l : List Int} {o : List Tm} (ho : o.length = l.length) {k : Nat} (hk : k < l.length) :
    (other I c (l.getD k 0) = true → lessL I c (l.take (k + 1)) = lessL I c (l.take k) ++ [l.getD k 0] ∧ wasL I c (l.take (k + 1)) (o.take (k + 1)) = wasL I c (l.take k) (o.take k) ++ [nthT o k]) ∧
    (other I c (l.getD k 0) = false → lessL I c (l.take (k + 1)) = lessL I c (l.take k) ∧ wasL I c (l.take (k + 1)) (o.take (k + 1)) = wasL I c (l.take k) (o.take k)) := by
  rw [take_snoc hk, takeT_snoc (by omega), lessL_snoc, wasL_snoc _ _ _ _ (by simp; omega)]
  constructor
  · intro h; rw [if_pos h, if_pos h]; exact ⟨rfl, rfl⟩
  · intro h; rw [h]; exact ⟨rfl, rfl⟩
theorem less_len (I : Ins) (c : Int) (l : List Int) : (lessL I c l).length ≤ l.length := List.length_filter_le _ _
theorem was_len (I : Ins) (c : Int) (l : List Int) (o : List Tm) : (wasL I c l o).length ≤ l.length := by
  unfold wasL
  rw [List.length_map]
  refine Nat.le_trans (List.length_filter_le _ _) ?_
  rw [List.length_zip]; omega
set_option maxRecDepth 1000000 in
set_option maxHeartbeats 4000000 in
theorem walk (I0 : Ins) (v0 : Value) (v1 : Value) (l1 : List Int) (a2 : Int) (w : World) (e0 : SRow w v0 I0.l) (e1 : Row w v1 (ints l1)) :
    Calls Try.prog 10 #[insV I0 v0, v1, .int .i64 a2] w fun e w' => e = .returned (.bool true) ∧ Below w.heap.size w w' := by
  have HE := Lib.hid e0
  have HR := Lib.hid e1
  obtain ⟨a, cap, rfl, hm, _⟩ := e0.form
  obtain ⟨a1, cap1, rfl, hm1⟩ := e1.form
  simp only [ints_len] at *
  have hx0 : I0.l.length ≤ 9223372036854775807 := by unfold maxLen at hm; omega
  have hx1 : l1.length ≤ 9223372036854775807 := by unfold maxLen at hm1; omega
  clear e0 e1 hm hm1
  unfold insV
  go_enter Try.func10, Try.ntmps10
  go_wp2_with fail
  change Calls _ _ _ (w.alloc (boxI I0 (.slice a I0.l.length cap))) _
  have HB0 := Lib.hid ((Below.refl _ w).alloc (Nat.le_refl _) (boxI I0 (.slice a I0.l.length cap)))
  have HXB := Lib.hid (ybox_new w I0 (.slice a I0.l.length cap))
  generalize w.alloc (boxI I0 (.slice a I0.l.length cap)) = W at *
  refine (tawake_any _).mono ?_
  rintro e w1 ⟨rfl, hb⟩
  have HB1 := Lib.hid (HB0.out.trans (hb.mono HB0.out.size))
  have HX1 := Lib.hid ((show YBox W w.heap.size I0 (.slice a I0.l.length cap) from HXB.out).later hb)
  clear hb
  obtain ⟨c0, c1, c2, c3⟩ := HX1.out.cells
  go_wp2_with fail
  change Calls _ _ #[insV I0 (.slice a I0.l.length cap), .slice a1 l1.length cap1] _ _
  refine (times_any (HE.out.below HB1.out) (HR.out.below HB1.out)).mono ?_
  rintro e w2 ⟨u, rfl, ht, hb⟩
  have HB2 := Lib.hid (HB1.out.trans (hb.mono HB1.out.size))
  have HX2 := Lib.hid (HX1.out.later hb)
  have HTR := Lib.hid ht.row
  obtain ⟨ua, uc, rfl⟩ := ht.shape
  clear hb ht c0 c1 c2 c3
  obtain ⟨c0, c1, c2, c3⟩ := HX2.out.cells
  obtain ⟨er, her⟩ : ∃ er, errT I0 l1 = er := ⟨_, rfl⟩
  have HER := Lib.hid her
  rw [her]
  clear her
  by_cases q1 : (100 : Int) < (I0.l.length : Int)
  · have d1 := decide_eq_true q1
    clear q1
    go_wp2
    go_ret
    exact ⟨rfl, HB2.out⟩
  have d1 := decide_eq_false q1
  clear q1
  by_cases q2 : er = 0
  rotate_left
  · have d2 : (er != 0) = true := by simp [q2]
    clear q2
    go_wp2
    go_ret
    exact ⟨rfl, HB2.out⟩
  subst q2
  obtain ⟨s, hts⟩ := errT_zero HER.out
  by_cases q3 : a2 < 1
  · have d2 := decide_eq_true q3
    clear q3
    go_wp2
    go_ret
    exact ⟨rfl, HB2.out⟩
  have d2 := decide_eq_false q3
  by_cases q4 : I0.p < a2
  · have d3 := decide_eq_true q4
    clear q3 q4
    go_wp2
    go_ret
    exact ⟨rfl, HB2.out⟩
  have d3 := decide_eq_false q4
  have hc12 : 1 ≤ a2 ∧ a2 ≤ I0.p := by omega
  have hp16 := (fine_of (timesE_ok hts).1).p1
  have e1 : IntKind.i64.wrap (a2 + I0.p) = a2 + I0.p := IntWalk.i64_in _ (by omega)
  clear q3 q4
  obtain ⟨s', h's, hfar, hno⟩ := less_times hc12 hts
  have HOK := Lib.hid (ok_of hts)
  have HOK' := Lib.hid (ok_of h's)
  have HGO := Lib.hid (goE_seen _ _ (timesE_ok hts).2.1)
  have hlen := goE_len (fine_of (timesE_ok hts).1) (timesE_ok hts).2.1
  rw [← HOK.out.2.2.1, ← HOK'.out.2.2.1] at hfar
  rw [← HOK.out.2.1, ← HOK'.out.2.1] at hno
  have hol : (outT I0 l1).length = l1.length := by rw [HOK.out.2.1]; exact HGO.out.2
  have HTK := Lib.hid (fun (k : Nat) (hk : k < l1.length) => less_take (I := I0) (c := a2) hol hk)
  obtain ⟨O, hO⟩ : ∃ O, outT I0 l1 = O := ⟨_, rfl⟩
  rw [hO] at HTR HTK hno hol ⊢
  have HNO := Lib.hid hno
  have HFAR := Lib.hid hfar
  have hol' : (O.length : Int) = (l1.length : Int) := by omega
  rw [hol] at HTR ⊢
  have HOL := Lib.hid hol
  clear hno hfar hO hts h's hol hol'
  go_wp2_with fail
  go_loopw [11, 12, 13] (fun v11 v12 i wr => ∃ k : Nat, k ≤ l1.length ∧ i = .int .i64 k ∧ OwnI wr w2.heap.size v11 (lessL I0 a2 (l1.take k)) ∧ OwnT wr w2.heap.size v12 (wasL I0 a2 (l1.take k) (O.take k)) ∧ Below w2.heap.size w2 wr) (fun _ _ i _ => l1.length - (intOf i).toNat)
  case atStart => exact ⟨0, Nat.zero_le _, rfl, World.ownsRow_nil _ _ _ _, ownT_nil _ _, Below.refl _ _⟩
  case round =>
    obtain ⟨k, hk, rfl, ho11, ho12, hbw⟩ := hrel
    have HO11 := Lib.hid ho11
    have HO12 := Lib.hid ho12
    have HBW := Lib.hid hbw
    have HXR := Lib.hid (HX2.out.later hbw)
    clear ho11 ho12 hbw c0 c1 c2 c3
    obtain ⟨c0, c1, c2, c3⟩ := HXR.out.cells
    by_cases hlt : k < l1.length
    · have hki : (k : Int) < (l1.length : Int) := by omega
      obtain ⟨rb, ro, rfl, _, _⟩ := row_cell HR.out 0 (by rw [ints_len]; omega)
      have hrr := HR.out.below (HB2.out.trans (HBW.out.mono HB2.out.size))
      have qr : wr.cell? ⟨rb, ro + k, none⟩ = some (.int .i64 (l1.getD k 0)) := by
        rw [row_here hrr k (by rw [ints_len]; exact hlt), ints_at _ _ hlt]
      have HQR := Lib.hid (show ∀ w', Below w2.heap.size w2 w' → w'.cell? ⟨rb, ro + k, none⟩ = some (.int .i64 (l1.getD k 0)) from fun w' hb' => by
        rw [row_here (HR.out.below (HB2.out.trans (hb'.mono HB2.out.size))) k (by rw [ints_len]; exact hlt), ints_at _ _ hlt])
      obtain ⟨tb, off, rfl, hat, _⟩ := trow_at HTR.out k (by rw [HOL.out]; exact hlt)
      have HAT := Lib.hid (show ∀ w', Below w2.heap.size w2 w' → TAt w' tb (off + k * 3) (nthT O k) from fun w' hb' => hat.below hat.lt hb')
      have HST := Lib.hid (HTK.out k hlt)
      have hL := less_len I0 a2 (l1.take k)
      have hW := was_len I0 a2 (l1.take k) (O.take k)
      rw [List.length_take] at hL hW
      generalize lessL I0 a2 (l1.take k) = L at *
      generalize wasL I0 a2 (l1.take k) (O.take k) = V at *
      generalize nthT O k = t at *
      generalize l1.getD k 0 = i at *
      clear hat hrr
      by_cases g1 : i = a2
      · have d4 : (i != a2) = false := by simp [g1]
        have HS := Lib.hid (HST.out.2 (by unfold other; exact decide_eq_false (by omega)))
        clear g1
        go_wp2_with fail
        go_quiet (fail)
        have HW6 := Lib.hid (below_drewN HBW.out nq)
        have HP11 := Lib.hid (HO11.out.below (below_drewN (Below.refl _ wr) nq))
        have HP12 := Lib.hid (HO12.out.below (below_drewN (Below.refl _ wr) nq))
        generalize wr.drewN nq = w6 at *
        go_wp2
        go_roundw
        case rel => exact ⟨k + 1, by omega, by go_num, by rw [HS.out.1]; exact HP11.out, by rw [HS.out.2]; exact HP12.out, HW6.out⟩
        case measure => simp [intOf]; omega
      have d4 : (i != a2) = true := by simp [g1]
      by_cases g2 : i = a2 + I0.p
      · have d5 : (i != a2 + I0.p) = false := by simp [g2]
        have HS := Lib.hid (HST.out.2 (by unfold other; exact decide_eq_false (by omega)))
        clear g1 g2
        go_wp2_with fail
        go_quiet (fail)
        have HW6 := Lib.hid (below_drewN HBW.out nq)
        have HP11 := Lib.hid (HO11.out.below (below_drewN (Below.refl _ wr) nq))
        have HP12 := Lib.hid (HO12.out.below (below_drewN (Below.refl _ wr) nq))
        generalize wr.drewN nq = w6 at *
        go_wp2
        go_roundw
        case rel => exact ⟨k + 1, by omega, by go_num, by rw [HS.out.1]; exact HP11.out, by rw [HS.out.2]; exact HP12.out, HW6.out⟩
        case measure => simp [intOf]; omega
      have d5 : (i != a2 + I0.p) = true := by simp [g2]
      have HS := Lib.hid (HST.out.1 (by unfold other; exact decide_eq_true ⟨g1, g2⟩))
      clear g1 g2
      go_wp2_with fail
      go_quiet (fail)
      have HW6 := Lib.hid (below_drewN HBW.out nq)
      have HP11 := Lib.hid (HO11.out.below (below_drewN (Below.refl _ wr) nq))
      have HP12 := Lib.hid (HO12.out.below (below_drewN (Below.refl _ wr) nq))
      generalize wr.drewN nq = w6 at *
      clear qr c0 c1 c2 c3 d4 d5
      have qr := HQR.out w6 HW6.out
      go_wp2_with (at_builtin; refine app_ints rfl _ _ rfl w2.heap.size _ L rfl (HP11.out.alloc _) _ [i] rfl (row_one w6 i) (by simp; omega) (by have := HW6.out.size; simp; omega) ?_)
      intro v13 w7 own7 grow7 _
      have HBA := Lib.hid (HW6.out.alloc HW6.out.size (.cells #[.int .i64 i] 3))
      have HP12a := Lib.hid (HP12.out.alloc (.cells #[.int .i64 i] 3))
      have HP11a := Lib.hid (HP11.out.alloc (.cells #[.int .i64 i] 3))
      generalize w6.alloc (.cells #[.int .i64 i] 3) = w6a at *
      have k1 : w6a.ownsRow w2.heap.size 3 1 _ L.length (ints L) := HP11a.out
      have k2 : w6a.ownsRow w2.heap.size 48 3 _ V.length (flatT V) := HP12a.out
      have HP12b := Lib.hid (HP12a.out.kept grow7 (own_diff k2 k1 (by decide)))
      have HW7 := Lib.hid (HBA.out.grown grow7 HBA.out.size (fun q hq => (World.ownsRow.lt k1 q hq).1))
      have HP13 := Lib.hid own7
      clear own7 grow7 k1 k2 qr
      obtain ⟨t0, t1, t2⟩ := HAT.out w7 HW7.out
      go_wp2_with (at_builtin; refine app_times rfl _ _ rfl w2.heap.size _ V rfl (HP12b.out.alloc _) _ [t] rfl (trow_new w7 t) (by simp; omega) (by have := HW7.out.size; simp; omega) ?_)
      intro v14 w8 own8 grow8 _
      have HBA2 := Lib.hid (HW7.out.alloc HW7.out.size (.cells #[.int .i64 t.come, .int .i64 t.begn, .int .i64 t.leave] 48))
      have HP13a := Lib.hid (HP13.out.alloc (.cells #[.int .i64 t.come, .int .i64 t.begn, .int .i64 t.leave] 48))
      have HP12c := Lib.hid (HP12b.out.alloc (.cells #[.int .i64 t.come, .int .i64 t.begn, .int .i64 t.leave] 48))
      generalize w7.alloc (.cells #[.int .i64 t.come, .int .i64 t.begn, .int .i64 t.leave] 48) = w7a at *
      have k1 : w7a.ownsRow w2.heap.size 3 1 v13 (L ++ [i]).length (ints (L ++ [i])) := HP13a.out
      have k2 : w7a.ownsRow w2.heap.size 48 3 _ V.length (flatT V) := HP12c.out
      have HP13b := Lib.hid (show OwnI w8 w2.heap.size v13 (L ++ [i]) from k1.kept grow8 (own_diff k1 k2 (by decide)))
      have HW8 := Lib.hid (HBA2.out.grown grow8 HBA2.out.size (fun q hq => (World.ownsRow.lt k2 q hq).1))
      have HP14 := Lib.hid own8
      clear own8 grow8 k1 k2 t0 t1 t2
      go_wp2
      go_roundw
      case rel => exact ⟨k + 1, by omega, by go_num, by rw [HS.out.1]; exact HP13b.out, by rw [HS.out.2]; exact HP14.out, HW8.out⟩
      case measure => simp [intOf]; omega
    · obtain rfl : k = l1.length := by omega
      rw [List.take_length] at HO11 HO12
      rw [show O.take l1.length = O from List.take_of_length_le (by rw [HOL.out]; exact Nat.le_refl _)] at HO12
      clear hlt hk
      obtain ⟨va, vc, rfl⟩ := HO12.out.shape
      have HV12 := Lib.hid HO12.out.row
      go_wp2_with fail
      change Calls _ _ #[insV I0 (.slice a I0.l.length cap), _] _ _
      refine (times_any (HE.out.below (HB2.out.trans (HBW.out.mono HB2.out.size))) HO11.out.row).mono ?_
      rw [HOK'.out.1]
      rintro e w9 ⟨m, rfl, hm9, hb⟩
      have HB9 := Lib.hid ((HB2.out.trans (HBW.out.mono HB2.out.size)).trans (hb.mono (by have := HB2.out.size; have := HBW.out.size; omega)))
      have HM9 := Lib.hid hm9.row
      have HV9 := Lib.hid (HV12.out.below hb)
      obtain ⟨ma, mc, rfl⟩ := hm9.shape
      clear hb hm9
      have hnl := HNO.out.1
      have hd5 : decide (farT I0 l1 < farT I0 (lessL I0 a2 l1)) = false := decide_eq_false (by have := HFAR.out; omega)
      obtain ⟨M, hM⟩ : ∃ M, outT I0 (lessL I0 a2 l1) = M := ⟨_, rfl⟩
      obtain ⟨V, hV⟩ : ∃ V, wasL I0 a2 l1 O = V := ⟨_, rfl⟩
      rw [hM] at HM9 HNO hnl ⊢
      rw [hV] at HV9 HNO hnl ⊢
      have hnl2 : M.length = V.length := hnl
      have d6 : ((M.length : Int) != (V.length : Int)) = false := by simp [hnl2]
      have d7 : (M.length != V.length) = false := by simp [hnl2]
      have hxM : M.length ≤ 9223372036854775807 := by obtain ⟨_, _, _, hq, _⟩ := HM9.out.form; unfold maxLen at hq; omega
      have HML := Lib.hid hnl2
      clear hnl hnl2 hM hV
      go_wp2_with fail
      go_loopw [17] (fun i wr => ∃ k : Nat, k ≤ M.length ∧ i = .int .i64 k ∧ Below w9.heap.size w9 wr) (fun i _ => M.length - (intOf i).toNat)
      case atStart => exact ⟨0, Nat.zero_le _, rfl, Below.refl _ _⟩
      case round =>
        obtain ⟨j, hj, rfl, hbv⟩ := hrel
        have HBV := Lib.hid hbv
        clear hbv
        by_cases hlt : j < M.length
        · have hji : (j : Int) < (M.length : Int) := by omega
          have hjv : j < V.length := by have := HML.out; omega
          have hjw : (j : Int) < (V.length : Int) := by omega
          obtain ⟨mb, mo, rfl, ⟨x0, x1, x2⟩, _⟩ := trow_at (HM9.out.below HBV.out) j hlt
          obtain ⟨vb, vo, rfl, ⟨y0, y1, y2⟩, _⟩ := trow_at (HV9.out.below HBV.out) j hjv
          have hnn := HNO.out.2 j hlt hjv
          rw [← nthT_get hlt, ← nthT_get hjv] at hnn
          generalize nthT M j = tm at *
          generalize nthT V j = tv at *
          have d8 : decide (tv.come < tm.come) = false := decide_eq_false (by omega)
          have d9 : decide (tv.leave < tm.leave) = false := decide_eq_false (by omega)
          clear hnn
          go_wp2_with fail
          go_quiet (fail)
          have HW6 := Lib.hid (below_drewN HBV.out nq)
          go_wp2
          go_roundw
          case rel => exact ⟨j + 1, by omega, by go_num, HW6.out⟩
          case measure => simp [intOf]; omega
        · obtain rfl : j = M.length := by omega
          clear hlt hj
          go_wp2
          go_ret
          exact ⟨rfl, HB9.out.trans (HBV.out.mono HB9.out.size)⟩

set_option maxRecDepth 100000 in
theorem lifted (os : Os) (started : os.Started) (H : Type) (enc : TypeId × Value → H) :
    ReturnsInHanded {} Try.checked os 10 .any (Rows.schedLessSpec.pre6 enc Try.prog Try.f10 Rows.schedLessRow.domain false) (Rows.schedLessSpec.post enc Try.prog Try.f10 false true false false) := by
  refine returnsInHanded_of_change (C := Try.checked) own started (by kernel_rfl) Try.func10
    (ChangeSpec.witness6 (enc := enc) (C := Try.checked) false ⟨#[], #[.agg #[.int .i64 0, .int .i64 0, .int .i64 0, .slice none 0 0], .slice none 0 0, .int .i64 0], []⟩ 8 (by kernel_rfl) (by kernel_rfl) (by kernel_rfl) (by kernel_rfl)) ?_
  intro W base args ds gs before hval0 hW hcnd _
  have hval : ∀ (j : Nat) t v, Try.f10.params[j]? = some t → args[j]? = some v → Value.okWide Try.prog W .any base t v := hval0
  have hW' := hW
  obtain ⟨p, q, hA0, hV, rfl, hfz, hnd⟩ := hW
  have hA : DataW.TrodAll enc Try.prog W 0 (fun _ => true) true Try.f10.params.toList args.toList ds p := hA0
  rw [Try.params10] at hA hval
  obtain ⟨v0, vs0, d0, ds0, p0, q0, hargs, rfl, rfl, h0, r0⟩ := trodAll_cons hA
  obtain ⟨v1, vs1, d1, ds1, p1, q1, rfl, rfl, rfl, h1, r1⟩ := trodAll_cons r0
  obtain ⟨v2, vs2, d2, ds2, p2, q2, rfl, rfl, rfl, h2, r2⟩ := trodAll_cons r1
  obtain ⟨rfl, rfl, rfl⟩ := trodAll_nil r2
  obtain rfl : args = #[v0, v1, v2] := by cases args; simp_all
  obtain ⟨rfl, rfl⟩ := trodVars_none hV
  have k0 := h0
  have lt0 : ∀ x ∈ p0, x.block < W.heap.size := by obtain ⟨m, hm⟩ := k0; exact DataW.trod_lt m _ _ _ hm
  have k1 := h1
  have lt1 : ∀ x ∈ p1, x.block < W.heap.size := by obtain ⟨m, hm⟩ := k1; exact DataW.trod_lt m _ _ _ hm
  have k2 := h2
  have lt2 : ∀ x ∈ p2, x.block < W.heap.size := by obtain ⟨m, hm⟩ := k2; exact DataW.trod_lt m _ _ _ hm
  obtain ⟨I0, u0, rfl, e0, _⟩ := open_inst (hval 0 26 v0 rfl rfl) h0
  obtain ⟨a1, len1, cap1, rfl⟩ := okWide_slice Try.underlying32 (hval 1 32 v1 rfl rfl)
  obtain ⟨l1, e1, _⟩ := open_row h1
  obtain ⟨a2, rfl, rfl, rfl, i2⟩ := open_int Try.underlying3 (hval 2 3 v2 rfl rfl) h2
  clear hA0 hval0
  refine (walk I0 _ _ l1 a2 W e0 e1).mono fun e W' ⟨he, bel⟩ => ?_
  subst he
  exact ⟨_, rfl, _, _, _, [], _, [], hW', trodAll_mk1 (shut_bool Try.underlying4 _), (trodAll_cons_mk (Below.trod laidOut (by kernel_rfl) (of_decide_eq_true (by kernel_rfl)) k0 bel lt0) (trodAll_cons_mk (Below.trod laidOut (by kernel_rfl) (of_decide_eq_true (by kernel_rfl)) k1 bel lt1) (trodAll_cons_mk (Below.trod laidOut (by kernel_rfl) (of_decide_eq_true (by kernel_rfl)) k2 bel lt2) trodAll_mk0))), rfl, bel.frame _, fun h => by cases h⟩

theorem over : Rows.schedLessRow.holds Try.pinned (OpenSpec.ofChange Rows.schedLessSpec) :=
  OpenClaim.holds_of_wide 10 Try.f10 rfl rfl rfl rfl rfl rfl rfl ⟨rfl, rfl, rfl, rfl, rfl⟩ rfl rfl rfl rfl rfl (by kernel_rfl) Try.func10 (by show joinedFacts Try.checked.prog _ _ _ _ = true; unfold joinedFacts; rw [ord_may, ord_lifts, ord_make]; kernel_rfl)
    (of_decide_eq_true (by kernel_rfl)) (by unfold Func.isWrapper; first | (rw [if_pos (by decide +kernel)]; kernel_rfl) | (rw [if_neg (by decide +kernel)]; exact ⟨rfl, rfl⟩))
    (fun os started H enc _ => lifted os started H enc)

theorem proved : Rows.SchedLessSaid := over
#print axioms proved
end Go.Proofs.Ytpgbbnmflnhlbaa.schedLess
