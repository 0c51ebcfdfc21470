/- For any instance and any node, bound.At and bound.Of answer what the document says, and the example holds: haulierlaw12.BoundTells answers true. Condition: none. -/
import Derived.Test.YtaaljploegiihaaOrd
import Derived.Test.YtaaljploegiihaaRows
import Derived.Test.YtaaljploegiihaaBAwake
import Derived.Test.YtaaljploegiihaaYC
namespace Go.Proofs.Ytaaljploegiihaa.boundTells
open Go.ChangeShapes Go.WideShapes Go.ChangeAt Go.RowKit

set_option maxRecDepth 1000000 in
set_option maxHeartbeats 4000000 in
theorem walk (I0 : Ins) (v0 : Value) (s1 : Sta) (c1 : Int) (v1 : Value) (l1 : List Int) (w : World) (e0 : SRow w v0 I0.l) (e1 : SetsOk s1) (g1 : Row w v1 (ints l1)) :
    Calls Try.prog 3 #[insV I0 v0, nodeV s1 c1 v1] w fun e w' => e = .returned (.bool true) ∧ Below w.heap.size w w' := by
  have HR := Lib.hid e0
  have HS := Lib.hid e1
  have HU := Lib.hid g1
  obtain ⟨ad, cap, rfl, hlm, _⟩ := e0.form
  obtain ⟨au, cu, rfl, _⟩ := g1.form
  rw [ints_len] at *
  clear e0 e1 g1
  unfold insV nodeV
  go_enter Try.func3, Try.ntmps3
  go_upto_region 1 with fail
  obtain ⟨k1, k2, k3⟩ := boxes_in w I0 (.slice ad I0.l.length cap) s1 c1 (.slice au l1.length cu)
  have HY := Lib.hid k1
  have HA := Lib.hid k2
  have HB := Lib.hid k3
  clear k1 k2 k3
  change Code.wp _ _ _ _ ((w.alloc (boxI I0 (.slice ad I0.l.length cap))).alloc (boxN s1 c1 (.slice au l1.length cu)))
  generalize (w.alloc (boxI I0 (.slice ad I0.l.length cap))).alloc (boxN s1 c1 (.slice au l1.length cu)) = W at *
  go_wp2_with fail
  refine (bawake_any _).mono ?_
  rintro e w1 ⟨rfl, hb⟩
  have HYn := Lib.hid (HY.out.later hb)
  have HAn := Lib.hid (HA.out.later hb)
  have HBn := Lib.hid (HB.out.trans (hb.mono HB.out.size))
  clear hb HY HA HB
  have HY := HYn
  have HA := HAn
  have HB := HBn
  clear HYn HAn HBn
  have y3 := HY.out.cells.2.2.2
  by_cases g1 : 100 < I0.l.length
  · have d1 : decide (100 < (I0.l.length : Int)) = true := decide_eq_true (by omega)
    have d2 := decide_eq_true g1
    clear g1
    go_wp2
    go_ret
    exact ⟨rfl, HB.out⟩
  have d1 : decide (100 < (I0.l.length : Int)) = false := decide_eq_false (by omega)
  have d2 := decide_eq_false g1
  clear g1
  go_upto_region 4 with fail
  clear y3 d1 d2
  obtain ⟨n, hn⟩ : ∃ n, boundS I0 s1 = n := ⟨_, rfl⟩
  have HN := Lib.hid hn
  clear hn
  have b1 : (n == n) = true := by simp
  have b2 : (sumOf [c1, n] == sumOf [c1, n]) = true := by simp
  have HRV := Lib.hid (HR.out.below HB.out)
  have HUV := Lib.hid (HU.out.below HB.out)
  have HRD := Lib.hid (HRV.out.below (Below.refl _ _).drew)
  have HUD := Lib.hid (HUV.out.below (Below.refl _ _).drew)
  clear HRV HUV
  have HYn := Lib.hid (HY.out.later (Below.refl _ w1).drew)
  have HAn := Lib.hid (HA.out.later (Below.refl _ w1).drew)
  have HBn := Lib.hid HB.out.drew
  clear HY HA HB
  have HY := HYn
  have HA := HAn
  have HB := HBn
  clear HYn HAn HBn
  have HS0 := Lib.hid (show Holds (cellsI w.heap.size I0 (.slice ad I0.l.length cap) ++ cellsN (w.heap.size + 1) s1 c1 (.slice au l1.length cu)) w1.drew from (Holds.app.2 ⟨⟨HY.out.cells.1, HY.out.cells.2.1, HY.out.cells.2.2.1, HY.out.cells.2.2.2, trivial⟩, HA.out.holds⟩))
  refine wp_region_held_drew (S := Holds (cellsI w.heap.size I0 (.slice ad I0.l.length cap) ++ cellsN (w.heap.size + 1) s1 c1 (.slice au l1.length cu))) (by kernel_rfl) HS0.out (fun hSn => ?_)
  generalize w1.drew = V at *
  have hlt := Lib.hid (show Lows V.heap.size (cellsI w.heap.size I0 (.slice ad I0.l.length cap) ++ cellsN (w.heap.size + 1) s1 c1 (.slice au l1.length cu)) from (Lows.app (show Lows _ (cellsI w.heap.size I0 (.slice ad I0.l.length cap)) from ⟨HY.out.lt, HY.out.lt, HY.out.lt, HY.out.lt, trivial⟩) (lows_N HA.out.lt)))
  have Bc := Lib.hid (Below.refl V.heap.size V)
  simp only [cellsI, cellsN, List.cons_append, List.nil_append] at HS0 hlt hSn ⊢
  refine tks [0, 1, 2, 4, 5, 6] 6 rfl (by kernel_rfl) (fun _ _ _ _ h => h) (by assumption) (fun KT hKT => ?_)
  iterate 6 (refine tkT (by (simp only [gA, gB, gC]; rfl)) (by rfl) (by (intro w hSw; (simp only [Holds] at hSw); go_simp <;> with_reducible rfl)) ?_; simp only [Act.put, pA, pB, pC])
  refine hKT _ ?_
  clear KT hKT
  refine wpAnyH_ready (rs := [3]) (by kernel_rfl) (by simp) ?_
  refine AllReadyH.cons (o := ?oz188) ?iz188 (fun K hK => ?kz188) AllReadyH.nil
  case iz188 => (simp only [List.getElem?_toArray, List.getElem?_cons_zero, List.getElem?_cons_succ]; rfl)
  go_simp
  change Calls _ _ #[insV I0 (.slice ad I0.l.length cap), staV s1] _ _
  refine (bat_any (I := I0) (HRD.out.below Bc.out) HS.out).mono ?_
  rw [HN.out]
  rintro e w' ⟨rfl, hb⟩
  refine held_more hK HS0.out hlt (Bc.out.trans (hb.mono Bc.out.size)) (fun Bc hSn => ?_)
  clear hb hK
  refine wpAnyH_ready (rs := [7]) (by kernel_rfl) (by simp) ?_
  refine AllReadyH.cons (o := ?oz189) ?iz189 (fun K hK => ?kz189) AllReadyH.nil
  case iz189 => (simp only [List.getElem?_toArray, List.getElem?_cons_zero, List.getElem?_cons_succ]; rfl)
  go_simp
  change Calls _ _ #[insV I0 (.slice ad I0.l.length cap), staV s1] _ _
  refine (dbat_any (I := I0) (HRD.out.below Bc.out) HS.out).mono ?_
  rw [HN.out]
  rintro e w' ⟨rfl, hb⟩
  refine held_more hK HS0.out hlt (Bc.out.trans (hb.mono Bc.out.size)) (fun Bc hSn => ?_)
  clear hb hK
  refine tks [8, 9, 10, 11, 13, 14] 6 rfl (by kernel_rfl) (fun _ _ _ _ h => h) (by assumption) (fun KT hKT => ?_)
  iterate 6 (refine tkT (by (simp only [gA, gB, gC]; rfl)) (by rfl) (by (intro w hSw; (simp only [Holds] at hSw); go_simp <;> with_reducible rfl)) ?_; simp only [Act.put, pA, pB, pC])
  refine hKT _ ?_
  clear KT hKT
  refine wpAnyH_ready (rs := [12]) (by kernel_rfl) (by simp) ?_
  refine AllReadyH.cons (o := ?oz190) ?iz190 (fun K hK => ?kz190) AllReadyH.nil
  case iz190 => (simp only [List.getElem?_toArray, List.getElem?_cons_zero, List.getElem?_cons_succ]; rfl)
  go_simp
  change Calls _ _ #[insV I0 (.slice ad I0.l.length cap), nodeV s1 c1 (.slice au l1.length cu)] _ _
  refine (bof_any (I := I0) (HRD.out.below Bc.out) HS.out (HUD.out.below Bc.out)).mono ?_
  rw [HN.out]
  rintro e w' ⟨rfl, hb⟩
  refine held_more hK HS0.out hlt (Bc.out.trans (hb.mono Bc.out.size)) (fun Bc hSn => ?_)
  clear hb hK
  refine wpAnyH_ready (rs := [15]) (by kernel_rfl) (by simp) ?_
  refine AllReadyH.cons (o := ?oz191) ?iz191 (fun K hK => ?kz191) AllReadyH.nil
  case iz191 => (simp only [List.getElem?_toArray, List.getElem?_cons_zero, List.getElem?_cons_succ]; rfl)
  go_simp
  change Calls _ _ #[insV I0 (.slice ad I0.l.length cap), nodeV s1 c1 (.slice au l1.length cu)] _ _
  refine (dbof_any (I := I0) (HRD.out.below Bc.out) HS.out (HUD.out.below Bc.out)).mono ?_
  rw [HN.out]
  rintro e w' ⟨rfl, hb⟩
  refine held_more hK HS0.out hlt (Bc.out.trans (hb.mono Bc.out.size)) (fun Bc hSn => ?_)
  clear hb hK
  refine tks [16, 17, 18] 3 rfl (by kernel_rfl) (fun _ _ _ _ h => h) (by assumption) (fun KT hKT => ?_)
  iterate 3 (refine tkT (by (simp only [gA, gB, gC]; rfl)) (by rfl) (by (intro w hSw; (simp only [Holds] at hSw); go_simp <;> with_reducible rfl)) ?_; simp only [Act.put, pA, pB, pC])
  refine hKT _ ?_
  clear KT hKT
  refine wpAnyH_done (by kernel_rfl) ?_ _
  go_wp2
  go_ret
  exact ⟨rfl, HB.out.trans (Bc.out.mono HB.out.size)⟩

set_option maxRecDepth 100000 in
theorem lifted (os : Os) (started : os.Started) (H : Type) (enc : TypeId × Value → H) :
    ReturnsInHanded {} Try.checked os 3 .any (Rows.boundTellsSpec.pre6 enc Try.prog Try.f3 Rows.boundTellsRow.domain false) (Rows.boundTellsSpec.post enc Try.prog Try.f3 false true false false) := by
  refine returnsInHanded_of_change (C := Try.checked) own started (by kernel_rfl) Try.func3
    (ChangeSpec.witness6 (enc := enc) (C := Try.checked) false ⟨#[], #[.agg #[.int .i64 0, .int .i64 0, .int .i64 0, .slice none 0 0], .agg #[.int .i64 0, .int .i64 0, .int .i64 0, .int .i64 0, .int .i64 0, .int .u64 0, .int .u64 0, .int .u64 0, .int .i64 0, .slice none 0 0]], []⟩ 8 (by kernel_rfl) (by kernel_rfl) (by kernel_rfl) (by kernel_rfl)) ?_
  intro W base args ds gs before hval0 hW hcnd _
  have hval : ∀ (j : Nat) t v, Try.f3.params[j]? = some t → args[j]? = some v → Value.okWide Try.prog W .any base t v := hval0
  have hW' := hW
  obtain ⟨p, q, hA0, hV, rfl, hfz, hnd⟩ := hW
  have hA : DataW.TrodAll enc Try.prog W 0 (fun _ => true) true Try.f3.params.toList args.toList ds p := hA0
  rw [Try.params3] at hA hval
  obtain ⟨v0, vs0, d0, ds0, p0, q0, hargs, rfl, rfl, h0, r0⟩ := trodAll_cons hA
  obtain ⟨v1, vs1, d1, ds1, p1, q1, rfl, rfl, rfl, h1, r1⟩ := trodAll_cons r0
  obtain ⟨rfl, rfl, rfl⟩ := trodAll_nil r1
  obtain rfl : args = #[v0, v1] := by cases args; simp_all
  obtain ⟨rfl, rfl⟩ := trodVars_none hV
  have k0 := h0
  have lt0 : ∀ x ∈ p0, x.block < W.heap.size := by obtain ⟨m, hm⟩ := k0; exact DataW.trod_lt m _ _ _ hm
  have k1 := h1
  have lt1 : ∀ x ∈ p1, x.block < W.heap.size := by obtain ⟨m, hm⟩ := k1; exact DataW.trod_lt m _ _ _ hm
  obtain ⟨I0, u0, rfl, e0, _⟩ := open_inst (hval 0 24 v0 rfl rfl) h0
  obtain ⟨s1, c1, u1, l1, rfl, e1, _, g1, _⟩ := open_node (hval 1 30 v1 rfl rfl) h1
  clear hA0 hval0
  refine (walk I0 _ s1 c1 _ l1 W e0 e1 g1).mono fun e W' ⟨he, bel⟩ => ?_
  subst he
  exact ⟨_, rfl, _, _, _, [], _, [], hW', trodAll_mk1 (shut_bool Try.underlying4 _), (trodAll_cons_mk (Below.trod laidOut (by kernel_rfl) (of_decide_eq_true (by kernel_rfl)) k0 bel lt0) (trodAll_cons_mk (Below.trod laidOut (by kernel_rfl) (of_decide_eq_true (by kernel_rfl)) k1 bel lt1) trodAll_mk0)), rfl, bel.frame _, fun h => by cases h⟩

theorem over : Rows.boundTellsRow.holds Try.pinned (OpenSpec.ofChange Rows.boundTellsSpec) :=
  OpenClaim.holds_of_wide 3 Try.f3 rfl rfl rfl rfl rfl rfl rfl ⟨rfl, rfl, rfl, rfl, rfl⟩ rfl rfl rfl rfl rfl (by kernel_rfl) Try.func3 (by show joinedFacts Try.checked.prog _ _ _ _ = true; unfold joinedFacts; rw [ord_may, ord_lifts, ord_make]; kernel_rfl)
    (of_decide_eq_true (by kernel_rfl)) (by unfold Func.isWrapper; first | (rw [if_pos (by decide +kernel)]; kernel_rfl) | (rw [if_neg (by decide +kernel)]; exact ⟨rfl, rfl⟩))
    (fun os started H enc _ => lifted os started H enc)

theorem proved : Rows.BoundTellsSaid := over
#print axioms proved
end Go.Proofs.Ytaaljploegiihaa.boundTells
