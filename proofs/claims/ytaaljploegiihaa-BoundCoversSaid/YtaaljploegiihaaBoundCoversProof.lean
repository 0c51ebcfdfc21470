/- For any instance and any two states of which the one covers the other, the one costs no more at least: haulierlaw12.BoundCovers answers true. Condition: none. -/
import Derived.Test.YtaaljploegiihaaOrd
import Derived.Test.YtaaljploegiihaaRows
import Derived.Test.YtaaljploegiihaaBAwake
import Derived.Test.YtaaljploegiihaaYC
import Derived.Test.YtaaljploegiihaaXB
import Derived.Test.YtaaljploegiihaaYG
namespace Go.Proofs.Ytaaljploegiihaa.boundCovers
open Go.ChangeShapes Go.WideShapes Go.ChangeAt Go.RowKit

theorem boxes_ist (w : World) (I : Ins) (v : Value) (s t : Sta) : YBox (((w.alloc (boxI I v)).alloc (boxSt s)).alloc (boxSt t)) w.heap.size I v ∧ StB (((w.alloc (boxI I v)).alloc (boxSt s)).alloc (boxSt t)) (w.heap.size + 1) s ∧
    StB (((w.alloc (boxI I v)).alloc (boxSt s)).alloc (boxSt t)) (w.heap.size + 2) t ∧ Below w.heap.size w (((w.alloc (boxI I v)).alloc (boxSt s)).alloc (boxSt t)) := by
  obtain ⟨h1, h2, h3⟩ := boxes_two w I v s
  have e1 : ((w.alloc (boxI I v)).alloc (boxSt s)).heap.size = w.heap.size + 2 := by simp
  have a3 := st_new ((w.alloc (boxI I v)).alloc (boxSt s)) t
  rw [e1] at a3
  exact ⟨h1.later ((Below.refl _ _).alloc (Nat.le_refl _) _), h2.later ((Below.refl _ _).alloc (Nat.le_refl _) _), a3, h3.alloc h3.size _⟩
set_option maxRecDepth 1000000 in
set_option maxHeartbeats 4000000 in
theorem walk (I0 : Ins) (v0 : Value) (s1 : Sta) (s2 : Sta) (w : World) (e0 : SRow w v0 I0.l) (e1 : SetsOk s1) (e2 : SetsOk s2) :
    Calls Try.prog 6 #[insV I0 v0, staV s1, staV s2] w fun e w' => e = .returned (.bool true) ∧ Below w.heap.size w w' := by
  have HR := Lib.hid e0
  have H1 := Lib.hid e1
  have H2 := Lib.hid e2
  obtain ⟨ad, cap, rfl, hlm, _⟩ := e0.form
  clear e0 e1 e2
  unfold insV staV
  go_enter Try.func6, Try.ntmps6
  go_upto_region 1 with fail
  obtain ⟨k1, k2, k3, k4⟩ := boxes_ist w I0 (.slice ad I0.l.length cap) s1 s2
  have HY := Lib.hid k1
  have HA := Lib.hid k2
  have HC := Lib.hid k3
  have HB := Lib.hid k4
  clear k1 k2 k3 k4
  change Code.wp _ _ _ _ (((w.alloc (boxI I0 (.slice ad I0.l.length cap))).alloc (boxSt s1)).alloc (boxSt s2))
  generalize ((w.alloc (boxI I0 (.slice ad I0.l.length cap))).alloc (boxSt s1)).alloc (boxSt s2) = W at *
  go_wp2_with fail
  refine (bawake_any _).mono ?_
  rintro e w1 ⟨rfl, hb⟩
  have HYn := Lib.hid (HY.out.later hb)
  have HAn := Lib.hid (HA.out.later hb)
  have HCn := Lib.hid (HC.out.later hb)
  have HBn := Lib.hid (HB.out.trans (hb.mono HB.out.size))
  clear hb HY HA HC HB
  have HY := HYn
  have HA := HAn
  have HC := HCn
  have HB := HBn
  clear HYn HAn HCn HBn
  have y3 := HY.out.cells.2.2.2
  by_cases g1 : 100 < I0.l.length
  · have d1 : decide (100 < (I0.l.length : Int)) = true := decide_eq_true (by omega)
    have d2 := decide_eq_true g1
    clear g1
    go_wp2
    go_ret
    exact ⟨rfl, HB.out⟩
  have d1 : decide (100 < (I0.l.length : Int)) = false := decide_eq_false (by omega)
  have d2 := decide_eq_false g1
  clear g1
  have x0 := HA.out.c0
  have x1 := HA.out.c1
  have x2 := HA.out.c2
  have x3 := HA.out.c3
  have x4 := HA.out.c4
  have x5 := HA.out.c5
  have x6 := HA.out.c6
  have x7 := HA.out.c7
  have z0 := HC.out.c0
  have z1 := HC.out.c1
  have z2 := HC.out.c2
  have z3 := HC.out.c3
  have z4 := HC.out.c4
  have z5 := HC.out.c5
  have z6 := HC.out.c6
  have z7 := HC.out.c7
  go_wp2_with fail
  clear x0 x1 x2 x3 x4 x5 x6 x7 z0 z1 z2 z3 z4 z5 z6 z7
  change Calls _ _ #[staV s1, staV s2] _ _
  refine (covers_any _ H1.out H2.out).mono ?_
  rintro e w2 ⟨rfl, hb⟩
  clear y3
  have HYn := Lib.hid (HY.out.later hb)
  have HAn := Lib.hid (HA.out.later hb)
  have HCn := Lib.hid (HC.out.later hb)
  have HBn := Lib.hid (HB.out.trans (hb.mono HB.out.size))
  clear hb HY HA HC HB
  have HY := HYn
  have HA := HAn
  have HC := HCn
  have HB := HBn
  clear HYn HAn HCn HBn
  by_cases hcv : Covers s1 s2
  rotate_left
  · rw [decide_eq_false hcv]
    clear hcv
    go_wp2
    go_ret
    exact ⟨rfl, HB.out⟩
  rw [decide_eq_true hcv]
  have hle := bound_covers (I := I0) (fits_of H2.out) hcv
  go_upto_region 4 with fail
  clear d1 d2 hcv
  obtain ⟨n, hn⟩ : ∃ n, boundS I0 s1 = n := ⟨_, rfl⟩
  obtain ⟨m, hm⟩ : ∃ m, boundS I0 s2 = m := ⟨_, rfl⟩
  rw [hn, hm] at hle
  have HN := Lib.hid hn
  have HM := Lib.hid hm
  have dle := decide_eq_true hle
  clear hn hm hle
  have HRV := Lib.hid (HR.out.below HB.out)
  have HRD := Lib.hid (HRV.out.below (Below.refl _ _).drew)
  clear HRV
  have HYn := Lib.hid (HY.out.later (Below.refl _ w2).drew)
  have HAn := Lib.hid (HA.out.later (Below.refl _ w2).drew)
  have HCn := Lib.hid (HC.out.later (Below.refl _ w2).drew)
  have HBn := Lib.hid HB.out.drew
  clear HY HA HC HB
  have HY := HYn
  have HA := HAn
  have HC := HCn
  have HB := HBn
  clear HYn HAn HCn HBn
  have HS0 := Lib.hid (show Holds (cellsI w.heap.size I0 (.slice ad I0.l.length cap) ++ (cellsSt (w.heap.size + 1) s1 ++ cellsSt (w.heap.size + 2) s2)) w2.drew from (Holds.app.2 ⟨⟨HY.out.cells.1, HY.out.cells.2.1, HY.out.cells.2.2.1, HY.out.cells.2.2.2, trivial⟩, (Holds.app.2 ⟨HA.out.holds, HC.out.holds⟩)⟩))
  refine wp_region_held_drew (S := Holds (cellsI w.heap.size I0 (.slice ad I0.l.length cap) ++ (cellsSt (w.heap.size + 1) s1 ++ cellsSt (w.heap.size + 2) s2))) (by kernel_rfl) HS0.out (fun hSn => ?_)
  generalize w2.drew = V at *
  have hlt := Lib.hid (show Lows V.heap.size (cellsI w.heap.size I0 (.slice ad I0.l.length cap) ++ (cellsSt (w.heap.size + 1) s1 ++ cellsSt (w.heap.size + 2) s2)) from (Lows.app (show Lows _ (cellsI w.heap.size I0 (.slice ad I0.l.length cap)) from ⟨HY.out.lt, HY.out.lt, HY.out.lt, HY.out.lt, trivial⟩) (Lows.app (lows_St HA.out.lt) (lows_St HC.out.lt))))
  have Bc := Lib.hid (Below.refl V.heap.size V)
  simp only [cellsI, cellsSt, List.cons_append, List.nil_append] at HS0 hlt hSn ⊢
  refine tks [0, 1, 3, 4] 4 rfl (by kernel_rfl) (fun _ _ _ _ h => h) (by assumption) (fun KT hKT => ?_)
  iterate 4 (refine tkT (by (simp only [gA, gB, gC]; rfl)) (by rfl) (by (intro w hSw; (simp only [Holds] at hSw); go_simp <;> with_reducible rfl)) ?_; simp only [Act.put, pA, pB, pC])
  refine hKT _ ?_
  clear KT hKT
  refine wpAnyH_ready (rs := [2]) (by kernel_rfl) (by simp) ?_
  refine AllReadyH.cons (o := ?oz192) ?iz192 (fun K hK => ?kz192) AllReadyH.nil
  case iz192 => (simp only [List.getElem?_toArray, List.getElem?_cons_zero, List.getElem?_cons_succ]; rfl)
  go_simp
  change Calls _ _ #[insV I0 (.slice ad I0.l.length cap), staV s1] _ _
  refine (bat_any (I := I0) (HRD.out.below Bc.out) H1.out).mono ?_
  rw [HN.out]
  rintro e w' ⟨rfl, hb⟩
  refine held_more hK HS0.out hlt (Bc.out.trans (hb.mono Bc.out.size)) (fun Bc hSn => ?_)
  clear hb hK
  refine wpAnyH_ready (rs := [5]) (by kernel_rfl) (by simp) ?_
  refine AllReadyH.cons (o := ?oz193) ?iz193 (fun K hK => ?kz193) AllReadyH.nil
  case iz193 => (simp only [List.getElem?_toArray, List.getElem?_cons_zero, List.getElem?_cons_succ]; rfl)
  go_simp
  change Calls _ _ #[insV I0 (.slice ad I0.l.length cap), staV s2] _ _
  refine (bat_any (I := I0) (HRD.out.below Bc.out) H2.out).mono ?_
  rw [HM.out]
  rintro e w' ⟨rfl, hb⟩
  refine held_more hK HS0.out hlt (Bc.out.trans (hb.mono Bc.out.size)) (fun Bc hSn => ?_)
  clear hb hK
  refine tks [6, 7] 2 rfl (by kernel_rfl) (fun _ _ _ _ h => h) (by assumption) (fun KT hKT => ?_)
  iterate 2 (refine tkT (by (simp only [gA, gB, gC]; rfl)) (by rfl) (by (intro w hSw; (simp only [Holds] at hSw); go_simp <;> with_reducible rfl)) ?_; simp only [Act.put, pA, pB, pC])
  refine hKT _ ?_
  clear KT hKT
  refine wpAnyH_done (by kernel_rfl) ?_ _
  go_wp2
  go_ret
  exact ⟨rfl, HB.out.trans (Bc.out.mono HB.out.size)⟩

set_option maxRecDepth 100000 in
theorem lifted (os : Os) (started : os.Started) (H : Type) (enc : TypeId × Value → H) :
    ReturnsInHanded {} Try.checked os 6 .any (Rows.boundCoversSpec.pre6 enc Try.prog Try.f6 Rows.boundCoversRow.domain false) (Rows.boundCoversSpec.post enc Try.prog Try.f6 false true false false) := by
  refine returnsInHanded_of_change (C := Try.checked) own started (by kernel_rfl) Try.func6
    (ChangeSpec.witness6 (enc := enc) (C := Try.checked) false ⟨#[], #[.agg #[.int .i64 0, .int .i64 0, .int .i64 0, .slice none 0 0], .agg #[.int .i64 0, .int .i64 0, .int .i64 0, .int .i64 0, .int .i64 0, .int .u64 0, .int .u64 0, .int .u64 0], .agg #[.int .i64 0, .int .i64 0, .int .i64 0, .int .i64 0, .int .i64 0, .int .u64 0, .int .u64 0, .int .u64 0]], []⟩ 8 (by kernel_rfl) (by kernel_rfl) (by kernel_rfl) (by kernel_rfl)) ?_
  intro W base args ds gs before hval0 hW hcnd _
  have hval : ∀ (j : Nat) t v, Try.f6.params[j]? = some t → args[j]? = some v → Value.okWide Try.prog W .any base t v := hval0
  have hW' := hW
  obtain ⟨p, q, hA0, hV, rfl, hfz, hnd⟩ := hW
  have hA : DataW.TrodAll enc Try.prog W 0 (fun _ => true) true Try.f6.params.toList args.toList ds p := hA0
  rw [Try.params6] at hA hval
  obtain ⟨v0, vs0, d0, ds0, p0, q0, hargs, rfl, rfl, h0, r0⟩ := trodAll_cons hA
  obtain ⟨v1, vs1, d1, ds1, p1, q1, rfl, rfl, rfl, h1, r1⟩ := trodAll_cons r0
  obtain ⟨v2, vs2, d2, ds2, p2, q2, rfl, rfl, rfl, h2, r2⟩ := trodAll_cons r1
  obtain ⟨rfl, rfl, rfl⟩ := trodAll_nil r2
  obtain rfl : args = #[v0, v1, v2] := by cases args; simp_all
  obtain ⟨rfl, rfl⟩ := trodVars_none hV
  have k0 := h0
  have lt0 : ∀ x ∈ p0, x.block < W.heap.size := by obtain ⟨m, hm⟩ := k0; exact DataW.trod_lt m _ _ _ hm
  have k1 := h1
  have lt1 : ∀ x ∈ p1, x.block < W.heap.size := by obtain ⟨m, hm⟩ := k1; exact DataW.trod_lt m _ _ _ hm
  have k2 := h2
  have lt2 : ∀ x ∈ p2, x.block < W.heap.size := by obtain ⟨m, hm⟩ := k2; exact DataW.trod_lt m _ _ _ hm
  obtain ⟨I0, u0, rfl, e0, _⟩ := open_inst (hval 0 24 v0 rfl rfl) h0
  obtain ⟨s1, rfl, _, e1⟩ := open_state (hval 1 27 v1 rfl rfl) h1
  obtain ⟨s2, rfl, _, e2⟩ := open_state (hval 2 27 v2 rfl rfl) h2
  clear hA0 hval0
  refine (walk I0 _ s1 s2 W e0 e1 e2).mono fun e W' ⟨he, bel⟩ => ?_
  subst he
  exact ⟨_, rfl, _, _, _, [], _, [], hW', trodAll_mk1 (shut_bool Try.underlying4 _), (trodAll_cons_mk (Below.trod laidOut (by kernel_rfl) (of_decide_eq_true (by kernel_rfl)) k0 bel lt0) (trodAll_cons_mk (Below.trod laidOut (by kernel_rfl) (of_decide_eq_true (by kernel_rfl)) k1 bel lt1) (trodAll_cons_mk (Below.trod laidOut (by kernel_rfl) (of_decide_eq_true (by kernel_rfl)) k2 bel lt2) trodAll_mk0))), rfl, bel.frame _, fun h => by cases h⟩

theorem over : Rows.boundCoversRow.holds Try.pinned (OpenSpec.ofChange Rows.boundCoversSpec) :=
  OpenClaim.holds_of_wide 6 Try.f6 rfl rfl rfl rfl rfl rfl rfl ⟨rfl, rfl, rfl, rfl, rfl⟩ rfl rfl rfl rfl rfl (by kernel_rfl) Try.func6 (by show joinedFacts Try.checked.prog _ _ _ _ = true; unfold joinedFacts; rw [ord_may, ord_lifts, ord_make]; kernel_rfl)
    (of_decide_eq_true (by kernel_rfl)) (by unfold Func.isWrapper; first | (rw [if_pos (by decide +kernel)]; kernel_rfl) | (rw [if_neg (by decide +kernel)]; exact ⟨rfl, rfl⟩))
    (fun os started H enc _ => lifted os started H enc)

theorem proved : Rows.BoundCoversSaid := over
#print axioms proved
end Go.Proofs.Ytaaljploegiihaa.boundCovers
