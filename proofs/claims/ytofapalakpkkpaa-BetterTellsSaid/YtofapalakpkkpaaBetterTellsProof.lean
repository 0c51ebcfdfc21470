/- For any two nodes and any at most 60 nodes of at most 100 moves each, better.Than and better.Front answer what the document says, and the example holds: haulierlaw13.BetterTells answers true. Condition: none. -/
import Derived.Test.YtofapalakpkkpaaRows
import Derived.Test.YtofapalakpkkpaaGAwake
import Derived.Test.YtofapalakpkkpaaNOpen
import Derived.Test.YtofapalakpkkpaaGSame
import Derived.Test.YtofapalakpkkpaaGProg
namespace Go.Proofs.Ytofapalakpkkpaa.betterTells
open Go.ChangeShapes Go.WideShapes Go.ChangeAt Go.RowKit

set_option maxRecDepth 1000000 in
set_option maxHeartbeats 4000000 in
theorem walk (s0 : Sta) (c0 : Int) (v0 : Value) (l0 : List Int) (s1 : Sta) (c1 : Int) (v1 : Value) (l1 : List Int) (v2 : Value) (l2 : List Nod) (w : World) (e0 : SetsOk s0) (g0 : Row w v0 (ints l0)) (e1 : SetsOk s1) (g1 : Row w v1 (ints l1)) (e2 : NRow w v2 l2) (f2 : ∀ n ∈ l2, NodFit n) :
    Calls Try.prog 3 #[nodeV s0 c0 v0, nodeV s1 c1 v1, v2] w fun e w' => e = .returned (.bool true) ∧ Below w.heap.size w w' := by
  have H0 := Lib.hid e0
  have H1 := Lib.hid e1
  have HL := Lib.hid e2
  have HS := Lib.hid (fun n hn => (f2 n hn).1)
  have HFI := Lib.hid (fun n hn => (f2 n hn).2.2.2)
  obtain ⟨xa, xc, rfl, _⟩ := g0.form
  obtain ⟨ya, yc, rfl, _⟩ := g1.form
  obtain ⟨xn, hxn⟩ : ∃ x, (ints l0).length = x := ⟨_, rfl⟩
  obtain ⟨yn, hyn⟩ : ∃ x, (ints l1).length = x := ⟨_, rfl⟩
  rw [hxn, hyn]
  obtain ⟨la, lc, rfl, hm, _⟩ := e2.form
  clear e0 e1 e2 f2 g0 g1 hxn hyn hm
  unfold nodeV
  go_enter Try.func3, Try.ntmps3
  go_upto_region 1 with fail
  obtain ⟨k1, k2, k3⟩ := boxes_nn w s0 s1 c0 c1 (.slice xa xn xc) (.slice ya yn yc)
  have HA := Lib.hid k1
  have HC := Lib.hid k2
  have HB := Lib.hid k3
  clear k1 k2 k3
  change Code.wp _ _ _ _ ((w.alloc (boxN s0 c0 (.slice xa xn xc))).alloc (boxN s1 c1 (.slice ya yn yc)))
  have HLn := Lib.hid (HL.out.below HB.out)
  clear HL
  have HL := HLn
  clear HLn
  generalize (w.alloc (boxN s0 c0 (.slice xa xn xc))).alloc (boxN s1 c1 (.slice ya yn yc)) = W at *
  go_wp2_with fail
  refine (gawake_any _).mono ?_
  rintro e w1 ⟨rfl, hb⟩
  have HAn := Lib.hid (HA.out.later hb)
  clear HA
  have HA := HAn
  clear HAn
  have HCn := Lib.hid (HC.out.later hb)
  clear HC
  have HC := HCn
  clear HCn
  have HLn := Lib.hid (HL.out.below hb)
  clear HL
  have HL := HLn
  clear HLn
  have HBn := Lib.hid (HB.out.trans (hb.mono HB.out.size))
  clear HB
  have HB := HBn
  clear HBn
  clear hb
  go_wp2_with fail
  refine (fewN_any HL.out).mono ?_
  rintro e w2 ⟨rfl, rfl⟩
  by_cases hf : FewN l2
  rotate_left
  · rw [decide_eq_false hf]
    clear hf
    go_wp2
    go_ret
    exact ⟨rfl, HB.out⟩
  rw [decide_eq_true hf]
  have HF := Lib.hid hf
  clear hf
  have HOK := Lib.hid (show FrontOk l2 from fun n hn => ⟨HS.out n hn, HFI.out n hn, by have := HF.out.2 n hn; omega⟩)
  have HLE := Lib.hid (show l2.length ≤ 1000000 by have := HF.out.1; omega)
  go_wp2_with fail
  have HLC := Lib.hid HL.out
  refine (gfront_any (w0 := w1) HL.out (Below.refl _ _) HOK.out HLE.out).mono ?_
  rintro e w3 ⟨u, rfl, hu, hb⟩
  have HU := Lib.hid hu
  have HX := Lib.hid hb
  clear hu HLC
  have HAn := Lib.hid (HA.out.later hb)
  clear HA
  have HA := HAn
  clear HAn
  have HCn := Lib.hid (HC.out.later hb)
  clear HC
  have HC := HCn
  clear HCn
  have HLn := Lib.hid (HL.out.below hb)
  clear HL
  have HL := HLn
  clear HLn
  have HBn := Lib.hid (HB.out.trans (hb.mono HB.out.size))
  clear HB
  have HB := HBn
  clear HBn
  clear hb
  obtain ⟨ua, uc, rfl⟩ := HU.out.shape
  go_wp2_with fail
  refine (dfront_any (w0 := w3) HL.out (Below.refl _ _) HS.out HLE.out).mono ?_
  rintro e w4 ⟨q, rfl, hq, hb⟩
  have HQ := Lib.hid (hq.row hb)
  have HUR := Lib.hid ((HU.out.row HX.out).below hb)
  clear hq HU HX
  have HAn := Lib.hid (HA.out.later hb)
  clear HA
  have HA := HAn
  clear HAn
  have HCn := Lib.hid (HC.out.later hb)
  clear HC
  have HC := HCn
  clear HCn
  have HLn := Lib.hid (HL.out.below hb)
  clear HL
  have HL := HLn
  clear HLn
  have HBn := Lib.hid (HB.out.trans (hb.mono HB.out.size))
  clear HB
  have HB := HBn
  clear HBn
  clear hb
  obtain ⟨qa, qc, rfl, _⟩ := HQ.out.form
  go_wp2_with fail
  refine (sameN_any HUR.out HQ.out).mono ?_
  rw [decide_eq_true (rfl : frontL l2 = frontL l2)]
  rintro e w5 ⟨rfl, hb⟩
  clear HUR HQ
  have HAn := Lib.hid (HA.out.later hb)
  clear HA
  have HA := HAn
  clear HAn
  have HCn := Lib.hid (HC.out.later hb)
  clear HC
  have HC := HCn
  clear HCn
  have HLn := Lib.hid (HL.out.below hb)
  clear HL
  have HL := HLn
  clear HLn
  have HBn := Lib.hid (HB.out.trans (hb.mono HB.out.size))
  clear HB
  have HB := HBn
  clear HBn
  clear hb
  go_upto_region 6 with fail
  obtain ⟨t, ht⟩ : ∃ t, decide (Than (⟨s0, c0, l0⟩ : Nod) (⟨s1, c1, l1⟩ : Nod)) = t := ⟨_, rfl⟩
  have HT := Lib.hid ht
  clear ht
  have HS0 := Lib.hid (show Holds (cellsN w.heap.size s0 c0 (.slice xa xn xc) ++ cellsN (w.heap.size + 1) s1 c1 (.slice ya yn yc)) w5.drew from Holds.app.2 ⟨HA.out.holds, HC.out.holds⟩)
  have hlt := Lib.hid (show Lows w5.drew.heap.size (cellsN w.heap.size s0 c0 (.slice xa xn xc) ++ cellsN (w.heap.size + 1) s1 c1 (.slice ya yn yc)) from Lows.app (lows_N HA.out.lt) (lows_N HC.out.lt))
  refine wp_region_held_drew (S := Holds (cellsN w.heap.size s0 c0 (.slice xa xn xc) ++ cellsN (w.heap.size + 1) s1 c1 (.slice ya yn yc))) (by kernel_rfl) HS0.out (fun hSn => ?_)
  have HBn := Lib.hid (HB.out.drew)
  clear HB
  have HB := HBn
  clear HBn
  generalize w5.drew = V at *
  have Bc := Lib.hid (Below.refl V.heap.size V)
  simp only [cellsN, List.cons_append, List.nil_append] at HS0 hlt hSn ⊢
  refine tks [0, 1, 2, 3, 5, 6] 6 rfl (by kernel_rfl) (fun _ _ _ _ h => h) (by assumption) (fun KT hKT => ?_)
  iterate 6 (refine tkT (by (simp only [gA, gB, gC]; rfl)) (by rfl) (by (intro w hSw; (simp only [Holds] at hSw); go_simp <;> with_reducible rfl)) ?_; simp only [Act.put, pA, pB, pC])
  refine hKT _ ?_
  clear KT hKT
  refine wpAnyH_ready (rs := [4]) (by kernel_rfl) (by simp) ?_
  refine AllReadyH.cons (o := ?oz1) ?iz1 (fun K hK => ?kz1) AllReadyH.nil
  case iz1 => (simp only [List.getElem?_toArray, List.getElem?_cons_zero, List.getElem?_cons_succ]; rfl)
  go_simp
  change Calls _ _ #[nodeV (⟨s0, c0, l0⟩ : Nod).s (⟨s0, c0, l0⟩ : Nod).cost (.slice xa xn xc), nodeV (⟨s1, c1, l1⟩ : Nod).s (⟨s1, c1, l1⟩ : Nod).cost (.slice ya yn yc)] _ _
  refine (gthan_any _ H0.out H1.out).mono ?_
  rw [HT.out]
  rintro e w' ⟨rfl, hb⟩
  refine held_more hK HS0.out hlt (Bc.out.trans (hb.mono Bc.out.size)) (fun Bc hSn => ?_)
  clear hb hK
  refine wpAnyH_ready (rs := [7]) (by kernel_rfl) (by simp) ?_
  refine AllReadyH.cons (o := ?oz2) ?iz2 (fun K hK => ?kz2) AllReadyH.nil
  case iz2 => (simp only [List.getElem?_toArray, List.getElem?_cons_zero, List.getElem?_cons_succ]; rfl)
  go_simp
  change Calls _ _ #[nodeV (⟨s0, c0, l0⟩ : Nod).s (⟨s0, c0, l0⟩ : Nod).cost (.slice xa xn xc), nodeV (⟨s1, c1, l1⟩ : Nod).s (⟨s1, c1, l1⟩ : Nod).cost (.slice ya yn yc)] _ _
  refine (dthan_any _ H0.out H1.out).mono ?_
  rw [HT.out]
  rintro e w' ⟨rfl, hb⟩
  refine held_more hK HS0.out hlt (Bc.out.trans (hb.mono Bc.out.size)) (fun Bc hSn => ?_)
  clear hb hK
  refine tks [8, 9, 10] 3 rfl (by kernel_rfl) (fun _ _ _ _ h => h) (by assumption) (fun KT hKT => ?_)
  iterate 3 (refine tkT (by (simp only [gA, gB, gC]; rfl)) (by rfl) (by (intro w hSw; (simp only [Holds] at hSw); go_simp <;> with_reducible rfl)) ?_; simp only [Act.put, pA, pB, pC])
  refine hKT _ ?_
  clear KT hKT
  refine wpAnyH_done (by kernel_rfl) ?_ _
  go_wp2
  go_ret
  exact ⟨by first | rfl | simp, HB.out.trans (Bc.out.mono HB.out.size)⟩

set_option maxRecDepth 100000 in
theorem lifted (os : Os) (started : os.Started) (H : Type) (enc : TypeId × Value → H) :
    ReturnsInHanded {} Try.checked os 3 .any (Rows.betterTellsSpec.pre6 enc Try.prog Try.f3 Rows.betterTellsRow.domain false) (Rows.betterTellsSpec.post enc Try.prog Try.f3 false true false false) := by
  refine returnsInHanded_of_change (C := Try.checked) own started (by kernel_rfl) Try.func3
    (ChangeSpec.witness6 (enc := enc) (C := Try.checked) false ⟨#[], #[.agg #[.int .i64 0, .int .i64 0, .int .i64 0, .int .i64 0, .int .i64 0, .int .u64 0, .int .u64 0, .int .u64 0, .int .i64 0, .slice none 0 0], .agg #[.int .i64 0, .int .i64 0, .int .i64 0, .int .i64 0, .int .i64 0, .int .u64 0, .int .u64 0, .int .u64 0, .int .i64 0, .slice none 0 0], .slice none 0 0], []⟩ 8 (by kernel_rfl) (by kernel_rfl) (by kernel_rfl) (by kernel_rfl)) ?_
  intro W base args ds gs before hval0 hW hcnd _
  have hval : ∀ (j : Nat) t v, Try.f3.params[j]? = some t → args[j]? = some v → Value.okWide Try.prog W .any base t v := hval0
  have hW' := hW
  obtain ⟨p, q, hA0, hV, rfl, hfz, hnd⟩ := hW
  have hA : DataW.TrodAll enc Try.prog W 0 (fun _ => true) true Try.f3.params.toList args.toList ds p := hA0
  rw [Try.params3] at hA hval
  obtain ⟨v0, vs0, d0, ds0, p0, q0, hargs, rfl, rfl, h0, r0⟩ := trodAll_cons hA
  obtain ⟨v1, vs1, d1, ds1, p1, q1, rfl, rfl, rfl, h1, r1⟩ := trodAll_cons r0
  obtain ⟨v2, vs2, d2, ds2, p2, q2, rfl, rfl, rfl, h2, r2⟩ := trodAll_cons r1
  obtain ⟨rfl, rfl, rfl⟩ := trodAll_nil r2
  obtain rfl : args = #[v0, v1, v2] := by cases args; simp_all
  obtain ⟨rfl, rfl⟩ := trodVars_none hV
  have k0 := h0
  have lt0 : ∀ x ∈ p0, x.block < W.heap.size := by obtain ⟨m, hm⟩ := k0; exact DataW.trod_lt m _ _ _ hm
  have k1 := h1
  have lt1 : ∀ x ∈ p1, x.block < W.heap.size := by obtain ⟨m, hm⟩ := k1; exact DataW.trod_lt m _ _ _ hm
  have k2 := h2
  have lt2 : ∀ x ∈ p2, x.block < W.heap.size := by obtain ⟨m, hm⟩ := k2; exact DataW.trod_lt m _ _ _ hm
  obtain ⟨s0, c0, u0, l0, rfl, e0, _, g0, _⟩ := open_node (hval 0 27 v0 rfl rfl) h0
  obtain ⟨s1, c1, u1, l1, rfl, e1, _, g1, _⟩ := open_node (hval 1 27 v1 rfl rfl) h1
  obtain ⟨a2, len2, cap2, rfl⟩ := okWide_slice Try.underlying28 (hval 2 28 v2 rfl rfl)
  obtain ⟨l2, e2, f2⟩ := open_nodes h2
  clear hA0 hval0
  refine (walk s0 c0 _ l0 s1 c1 _ l1 _ l2 W e0 g0 e1 g1 e2 f2).mono fun e W' ⟨he, bel⟩ => ?_
  subst he
  exact ⟨_, rfl, _, _, _, [], _, [], hW', trodAll_mk1 (shut_bool Try.underlying4 _), (trodAll_cons_mk (Below.trod laidOut (by kernel_rfl) (of_decide_eq_true (by kernel_rfl)) k0 bel lt0) (trodAll_cons_mk (Below.trod laidOut (by kernel_rfl) (of_decide_eq_true (by kernel_rfl)) k1 bel lt1) (trodAll_cons_mk (Below.trod laidOut (by kernel_rfl) (of_decide_eq_true (by kernel_rfl)) k2 bel lt2) trodAll_mk0))), rfl, bel.frame _, fun h => by cases h⟩

theorem over : Rows.betterTellsRow.holds Try.pinned (OpenSpec.ofChange Rows.betterTellsSpec) :=
  OpenClaim.holds_of_wide 3 Try.f3 rfl rfl rfl rfl rfl rfl rfl ⟨rfl, rfl, rfl, rfl, rfl⟩ rfl rfl rfl rfl rfl (by kernel_rfl) Try.func3 (by kernel_rfl)
    (of_decide_eq_true (by kernel_rfl)) (by unfold Func.isWrapper; first | (rw [if_pos (by decide +kernel)]; kernel_rfl) | (rw [if_neg (by decide +kernel)]; exact ⟨rfl, rfl⟩))
    (fun os started H enc _ => lifted os started H enc)

theorem proved : Rows.BetterTellsSaid := over
#print axioms proved
end Go.Proofs.Ytofapalakpkkpaa.betterTells
