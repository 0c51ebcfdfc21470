/- What better.Front leaves of at most 30 nodes is left if it is asked for once more, and nodes that are told twice are left once: haulierlaw13.BetterTwice answers true. Condition: none. -/
import Derived.Test.YtofapalakpkkpaaRows
import Derived.Test.YtofapalakpkkpaaGAwake
import Derived.Test.YtofapalakpkkpaaNOpen
import Derived.Test.YtofapalakpkkpaaGSame
import Derived.Test.YtofapalakpkkpaaGProg
namespace Go.Proofs.Ytofapalakpkkpaa.betterTwice
open Go.ChangeShapes Go.WideShapes Go.ChangeAt Go.RowKit

set_option maxRecDepth 1000000 in
set_option maxHeartbeats 4000000 in
theorem walk (v0 : Value) (l0 : List Nod) (w : World) (e0 : NRow w v0 l0) (f0 : ∀ n ∈ l0, NodFit n) :
    Calls Try.prog 6 #[v0] w fun e w' => e = .returned (.bool true) ∧ Below w.heap.size w w' := by
  have HL := Lib.hid e0
  have HB := Lib.hid (Below.refl w.heap.size w)
  have HS := Lib.hid (fun n hn => (f0 n hn).1)
  have HFI := Lib.hid (fun n hn => (f0 n hn).2.2.2)
  obtain ⟨la, lc, rfl, hm, _⟩ := e0.form
  clear e0 f0 hm
  go_enter Try.func6, Try.ntmps6
  go_wp2_with fail
  refine (gawake_any _).mono ?_
  rintro e w1 ⟨rfl, hb⟩
  have HLn := Lib.hid (HL.out.below hb)
  clear HL
  have HL := HLn
  clear HLn
  have HBn := Lib.hid (HB.out.trans (hb.mono HB.out.size))
  clear HB
  have HB := HBn
  clear HBn
  clear hb
  go_wp2_with fail
  refine (fewN_any HL.out).mono ?_
  rintro e w2 ⟨rfl, rfl⟩
  by_cases hf : FewN l0
  rotate_left
  · rw [decide_eq_false hf]
    clear hf
    go_wp2
    go_ret
    exact ⟨rfl, HB.out⟩
  rw [decide_eq_true hf]
  have HF := Lib.hid hf
  clear hf
  have HOK := Lib.hid (show FrontOk l0 from fun n hn => ⟨HS.out n hn, HFI.out n hn, by have := HF.out.2 n hn; omega⟩)
  by_cases hl : 30 < l0.length
  · have d1 : decide ((30 : Int) < (l0.length : Int)) = true := decide_eq_true (by omega)
    have d2 := decide_eq_true hl
    clear hl
    go_wp2
    go_ret
    exact ⟨rfl, HB.out⟩
  have d1 : decide ((30 : Int) < (l0.length : Int)) = false := decide_eq_false (by omega)
  have d2 := decide_eq_false hl
  have HLE := Lib.hid (show l0.length ≤ 30 by omega)
  clear hl
  have hlm : l0.length ≤ 9223372036854775807 := by have := HLE.out; omega
  go_wp2_with fail
  clear d1 d2
  refine (gfront_any (w0 := w1) HL.out (Below.refl _ _) HOK.out (by have := HLE.out; omega)).mono ?_
  rintro e w3 ⟨u, rfl, hu, hb⟩
  have HU := Lib.hid (hu.row hb)
  clear hu
  have HLn := Lib.hid (HL.out.below hb)
  clear HL
  have HL := HLn
  clear HLn
  have HBn := Lib.hid (HB.out.trans (hb.mono HB.out.size))
  clear HB
  have HB := HBn
  clear HBn
  clear hb
  have HFL := Lib.hid (show (frontL l0).length ≤ 30 from Nat.le_trans (front_len _ _) HLE.out)
  have HFS := Lib.hid (show ∀ n ∈ frontL l0, SetsOk n.s from fun n hn => by
    obtain ⟨k, hk, _, rfl⟩ := mem_front.1 hn
    exact HS.out _ (nodAt_mem hk))
  obtain ⟨F, hF⟩ : ∃ F, frontL l0 = F := ⟨_, rfl⟩
  have HOF := Lib.hid HOK.out.front
  rw [hF] at HU HFL HFS HOF
  have HFF := Lib.hid (show frontL F = F by rw [← hF]; exact front_idem l0)
  have HF2 := Lib.hid (show frontL (l0 ++ l0) = F by rw [← hF]; exact front_twice (fun x hx => fits_of (HS.out x hx)))
  clear hF
  obtain ⟨ua, uc, rfl, _⟩ := HU.out.form
  obtain ⟨raw, r1, r2⟩ := HL.out
  have HG := Lib.hid r1
  have HI := Lib.hid r2
  clear r1 r2
  go_upto_region 6 with fail
  go_upto_region 7 with (at_builtin; first | (refine app_nodes Try.underlying28 rfl _ _ rfl w3.heap.size (.slice none 0 0) [] rfl (ownN_nil w3 _ _) _ rfl raw l0 HG.out HI.out (by have := HLE.out; simp only [List.length_nil]; omega) (Nat.le_refl _) (Nat.le_refl _) (Below.refl _ _) ?_; intro v1 w4 o1 b1' b2' g1; have HO1 := Lib.hid o1; have HB4 := Lib.hid b1'; clear o1 b1' b2' g1) | (refine app_nodes Try.underlying28 rfl _ _ rfl w3.heap.size _ l0 rfl HO1.out _ rfl raw l0 (GRow.below encNod HG.out HB4.out) (HI.out.mono (fun v l h => h.below HB4.out)) (by have := HLE.out; omega) HB4.out.size (Nat.le_refl _) HB4.out ?_; intro v2 w5 o2 b1' b2' g2; have HO2 := Lib.hid (o2.row b1'); have HB5 := Lib.hid b1'; clear o2 b1' b2' g2))
  have hb := HB5.out
  clear HG HI HO1 HB4 HB5
  have HUn := Lib.hid (HU.out.below hb)
  clear HU
  have HU := HUn
  clear HUn
  have HBn := Lib.hid (HB.out.trans (hb.mono HB.out.size))
  clear HB
  have HB := HBn
  clear HBn
  clear hb
  obtain ⟨oa, oc, hv, _⟩ := HO2.out.form
  rw [List.length_append] at hv
  subst hv
  go_wp2_with fail
  refine (gfront_any (w0 := w5) HU.out (Below.refl _ _) HOF.out (by have := HFL.out; omega)).mono ?_
  rw [HFF.out]
  rintro e w6 ⟨q, rfl, hq, hb⟩
  have HQ := Lib.hid (hq.row hb)
  clear hq
  have HUn := Lib.hid (HU.out.below hb)
  clear HU
  have HU := HUn
  clear HUn
  have HO2n := Lib.hid (HO2.out.below hb)
  clear HO2
  have HO2 := HO2n
  clear HO2n
  have HBn := Lib.hid (HB.out.trans (hb.mono HB.out.size))
  clear HB
  have HB := HBn
  clear HBn
  clear hb
  obtain ⟨qa, qc, rfl, _⟩ := HQ.out.form
  go_wp2_with fail
  refine (sameN_any HQ.out HU.out).mono ?_
  rw [decide_eq_true (rfl : F = F)]
  rintro e w7 ⟨rfl, hb⟩
  clear HQ
  have HUn := Lib.hid (HU.out.below hb)
  clear HU
  have HU := HUn
  clear HUn
  have HO2n := Lib.hid (HO2.out.below hb)
  clear HO2
  have HO2 := HO2n
  clear HO2n
  have HBn := Lib.hid (HB.out.trans (hb.mono HB.out.size))
  clear HB
  have HB := HBn
  clear HBn
  clear hb
  go_wp2_with fail
  refine (gfront_any (w0 := w7) HO2.out (Below.refl _ _) (HOK.out.both HOK.out) (by have := HLE.out; rw [List.length_append]; omega)).mono ?_
  rw [HF2.out]
  rintro e w8 ⟨q, rfl, hq, hb⟩
  have HQ := Lib.hid (hq.row hb)
  clear hq HO2
  have HUn := Lib.hid (HU.out.below hb)
  clear HU
  have HU := HUn
  clear HUn
  have HBn := Lib.hid (HB.out.trans (hb.mono HB.out.size))
  clear HB
  have HB := HBn
  clear HBn
  clear hb
  obtain ⟨qa2, qc2, rfl, _⟩ := HQ.out.form
  go_wp2_with fail
  refine (sameN_any HQ.out HU.out).mono ?_
  rw [decide_eq_true (rfl : F = F)]
  rintro e w9 ⟨rfl, hb⟩
  clear HQ
  have HBn := Lib.hid (HB.out.trans (hb.mono HB.out.size))
  clear HB
  have HB := HBn
  clear HBn
  clear hb
  go_wp2
  go_ret
  exact ⟨rfl, HB.out⟩

set_option maxRecDepth 100000 in
theorem lifted (os : Os) (started : os.Started) (H : Type) (enc : TypeId × Value → H) :
    ReturnsInHanded {} Try.checked os 6 .any (Rows.betterTwiceSpec.pre6 enc Try.prog Try.f6 Rows.betterTwiceRow.domain false) (Rows.betterTwiceSpec.post enc Try.prog Try.f6 false true false false) := by
  refine returnsInHanded_of_change (C := Try.checked) own started (by kernel_rfl) Try.func6
    (ChangeSpec.witness6 (enc := enc) (C := Try.checked) false ⟨#[], #[.slice none 0 0], []⟩ 8 (by kernel_rfl) (by kernel_rfl) (by kernel_rfl) (by kernel_rfl)) ?_
  intro W base args ds gs before hval0 hW hcnd _
  have hval : ∀ (j : Nat) t v, Try.f6.params[j]? = some t → args[j]? = some v → Value.okWide Try.prog W .any base t v := hval0
  have hW' := hW
  obtain ⟨p, q, hA0, hV, rfl, hfz, hnd⟩ := hW
  have hA : DataW.TrodAll enc Try.prog W 0 (fun _ => true) true Try.f6.params.toList args.toList ds p := hA0
  rw [Try.params6] at hA hval
  obtain ⟨v0, vs0, d0, ds0, p0, q0, hargs, rfl, rfl, h0, r0⟩ := trodAll_cons hA
  obtain ⟨rfl, rfl, rfl⟩ := trodAll_nil r0
  obtain rfl : args = #[v0] := by cases args; simp_all
  obtain ⟨rfl, rfl⟩ := trodVars_none hV
  have k0 := h0
  have lt0 : ∀ x ∈ p0, x.block < W.heap.size := by obtain ⟨m, hm⟩ := k0; exact DataW.trod_lt m _ _ _ hm
  obtain ⟨a0, len0, cap0, rfl⟩ := okWide_slice Try.underlying28 (hval 0 28 v0 rfl rfl)
  obtain ⟨l0, e0, f0⟩ := open_nodes h0
  clear hA0 hval0
  refine (walk _ l0 W e0 f0).mono fun e W' ⟨he, bel⟩ => ?_
  subst he
  exact ⟨_, rfl, _, _, _, [], _, [], hW', trodAll_mk1 (shut_bool Try.underlying4 _), (trodAll_cons_mk (Below.trod laidOut (by kernel_rfl) (of_decide_eq_true (by kernel_rfl)) k0 bel lt0) trodAll_mk0), rfl, bel.frame _, fun h => by cases h⟩

theorem over : Rows.betterTwiceRow.holds Try.pinned (OpenSpec.ofChange Rows.betterTwiceSpec) :=
  OpenClaim.holds_of_wide 6 Try.f6 rfl rfl rfl rfl rfl rfl rfl ⟨rfl, rfl, rfl, rfl, rfl⟩ rfl rfl rfl rfl rfl (by kernel_rfl) Try.func6 (by kernel_rfl)
    (of_decide_eq_true (by kernel_rfl)) (by unfold Func.isWrapper; first | (rw [if_pos (by decide +kernel)]; kernel_rfl) | (rw [if_neg (by decide +kernel)]; exact ⟨rfl, rfl⟩))
    (fun os started H enc _ => lifted os started H enc)

theorem proved : Rows.BetterTwiceSaid := over
#print axioms proved
end Go.Proofs.Ytofapalakpkkpaa.betterTwice
