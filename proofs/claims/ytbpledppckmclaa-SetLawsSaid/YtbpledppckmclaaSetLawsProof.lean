/- SetLaws holds for every two sets (any numbers of Go's uint64) and every number of Go's int; there is no condition. -/
import Derived.Test.YtbpledppckmclaaRows
import Derived.Test.YtbpledppckmclaaLists
import Derived.WalkKit
import Derived.ProofKit
import Derived.OpenShut
import Derived.ShutString
namespace Go.Proofs.Ytbpledppckmclaa.setLaws
open Go.ChangeShapes Go.WideShapes Go.ChangeAt Go.RowKit
open Go.ChangeMaps (open_string shut_string)
set_option linter.unusedVariables false      -- a walk need not use every 'w<i>' (that an integer argument fits its kind)

theorem own : ownKnob Try.prog.godebug = none := by kernel_rfl

set_option maxHeartbeats 1600000 in
theorem walk (a0 : Int) (a1 : Int) (a2 : Int) (w0 : (Lit.int .u64 a0).wf = true) (w1 : (Lit.int .u64 a1).wf = true) (w2 : (Lit.int .i64 a2).wf = true) (w : World) :
    Calls Try.prog 7 #[.int .u64 a0, .int .u64 a1, .int .i64 a2] w fun e w' => e = .returned (.bool true) ∧ Grown w w' := by
  obtain ⟨s, rfl, hs⟩ := u64_bd a0 w0
  obtain ⟨t, rfl, ht⟩ := u64_bd a1 w1
  clear w0 w1 w2
  have h1 := has_and s t a2
  have h2 := has_or s t a2
  have h3 := cnt_both s t
  have k1 := cnt_le s
  have k2 := cnt_le t
  have k3 := cnt_le (s ||| t)
  have k4 := cnt_le (s &&& t)
  have hor := or_lt hs ht
  have hand := and_lt (t := t) hs
  have h4 := within_and s t hs
  have h5 := within_or s t hs
  have q1 := bits_and_u64_nat s t hs ht
  have q2 := bits_or_u64_nat s t hs ht
  have e3 : (((cnt (s ||| t) : Nat) : Int) + ((cnt (s &&& t) : Nat) : Int) == ((cnt s : Nat) : Int) + ((cnt t : Nat) : Int)) = true := by rw [beq_iff_eq]; omega
  clear h3
  cases ha : has s a2 <;> cases hb : has t a2 <;> rw [ha, hb] at h1 h2 <;> simp only [Bool.and_true, Bool.and_false, Bool.or_true, Bool.or_false] at h1 h2
  · go_enter Try.func7, Try.ntmps7
    go_wp2_with fail
    refine (awake_any _).mono ?_; rintro e w' ⟨rfl, rfl⟩
    go_wp2_with fail
    refine (has_any _ _ _ hs).mono ?_; rw [ha]; rintro e w' ⟨rfl, rfl⟩
    go_wp2_with fail
    refine (has_any _ _ _ hs).mono ?_; rw [ha]; rintro e w' ⟨rfl, rfl⟩
    go_wp2_with fail
    refine (has_any _ _ _ ht).mono ?_; rw [hb]; rintro e w' ⟨rfl, rfl⟩
    go_wp2_with fail
    refine (has_any _ _ _ hand).mono ?_; rw [h1]; rintro e w' ⟨rfl, rfl⟩
    go_wp2_with fail
    refine (has_any _ _ _ hor).mono ?_; rw [h2]; rintro e w' ⟨rfl, rfl⟩
    go_wp2_with fail
    refine (len_any _ _ hor).mono ?_; rintro e w' ⟨rfl, rfl⟩
    go_wp2_with fail
    refine (len_any _ _ hand).mono ?_; rintro e w' ⟨rfl, rfl⟩
    go_wp2_with fail
    refine (len_any _ _ hs).mono ?_; rintro e w' ⟨rfl, rfl⟩
    go_wp2_with fail
    refine (len_any _ _ ht).mono ?_; rintro e w' ⟨rfl, rfl⟩
    go_wp2_with fail
    refine (within_any _ _ _ hand hs).mono ?_; rw [h4]; rintro e w' ⟨rfl, rfl⟩
    go_wp2_with fail
    refine (within_any _ _ _ hs hor).mono ?_; rw [h5]; rintro e w' ⟨rfl, rfl⟩
    go_wp2
    go_ret
    exact ⟨rfl, by repeat (first | exact Grown.refl _ | apply Grown.drew | apply Grown.alloc)⟩
  · go_enter Try.func7, Try.ntmps7
    go_wp2_with fail
    refine (awake_any _).mono ?_; rintro e w' ⟨rfl, rfl⟩
    go_wp2_with fail
    refine (has_any _ _ _ hs).mono ?_; rw [ha]; rintro e w' ⟨rfl, rfl⟩
    go_wp2_with fail
    refine (has_any _ _ _ hs).mono ?_; rw [ha]; rintro e w' ⟨rfl, rfl⟩
    go_wp2_with fail
    refine (has_any _ _ _ ht).mono ?_; rw [hb]; rintro e w' ⟨rfl, rfl⟩
    go_wp2_with fail
    refine (has_any _ _ _ hand).mono ?_; rw [h1]; rintro e w' ⟨rfl, rfl⟩
    go_wp2_with fail
    refine (has_any _ _ _ hor).mono ?_; rw [h2]; rintro e w' ⟨rfl, rfl⟩
    go_wp2_with fail
    refine (len_any _ _ hor).mono ?_; rintro e w' ⟨rfl, rfl⟩
    go_wp2_with fail
    refine (len_any _ _ hand).mono ?_; rintro e w' ⟨rfl, rfl⟩
    go_wp2_with fail
    refine (len_any _ _ hs).mono ?_; rintro e w' ⟨rfl, rfl⟩
    go_wp2_with fail
    refine (len_any _ _ ht).mono ?_; rintro e w' ⟨rfl, rfl⟩
    go_wp2_with fail
    refine (within_any _ _ _ hand hs).mono ?_; rw [h4]; rintro e w' ⟨rfl, rfl⟩
    go_wp2_with fail
    refine (within_any _ _ _ hs hor).mono ?_; rw [h5]; rintro e w' ⟨rfl, rfl⟩
    go_wp2
    go_ret
    exact ⟨rfl, by repeat (first | exact Grown.refl _ | apply Grown.drew | apply Grown.alloc)⟩
  · go_enter Try.func7, Try.ntmps7
    go_wp2_with fail
    refine (awake_any _).mono ?_; rintro e w' ⟨rfl, rfl⟩
    go_wp2_with fail
    refine (has_any _ _ _ hs).mono ?_; rw [ha]; rintro e w' ⟨rfl, rfl⟩
    go_wp2_with fail
    refine (has_any _ _ _ ht).mono ?_; rw [hb]; rintro e w' ⟨rfl, rfl⟩
    go_wp2_with fail
    refine (has_any _ _ _ hs).mono ?_; rw [ha]; rintro e w' ⟨rfl, rfl⟩
    go_wp2_with fail
    refine (has_any _ _ _ hand).mono ?_; rw [h1]; rintro e w' ⟨rfl, rfl⟩
    go_wp2_with fail
    refine (has_any _ _ _ hor).mono ?_; rw [h2]; rintro e w' ⟨rfl, rfl⟩
    go_wp2_with fail
    refine (len_any _ _ hor).mono ?_; rintro e w' ⟨rfl, rfl⟩
    go_wp2_with fail
    refine (len_any _ _ hand).mono ?_; rintro e w' ⟨rfl, rfl⟩
    go_wp2_with fail
    refine (len_any _ _ hs).mono ?_; rintro e w' ⟨rfl, rfl⟩
    go_wp2_with fail
    refine (len_any _ _ ht).mono ?_; rintro e w' ⟨rfl, rfl⟩
    go_wp2_with fail
    refine (within_any _ _ _ hand hs).mono ?_; rw [h4]; rintro e w' ⟨rfl, rfl⟩
    go_wp2_with fail
    refine (within_any _ _ _ hs hor).mono ?_; rw [h5]; rintro e w' ⟨rfl, rfl⟩
    go_wp2
    go_ret
    exact ⟨rfl, by repeat (first | exact Grown.refl _ | apply Grown.drew | apply Grown.alloc)⟩
  · go_enter Try.func7, Try.ntmps7
    go_wp2_with fail
    refine (awake_any _).mono ?_; rintro e w' ⟨rfl, rfl⟩
    go_wp2_with fail
    refine (has_any _ _ _ hs).mono ?_; rw [ha]; rintro e w' ⟨rfl, rfl⟩
    go_wp2_with fail
    refine (has_any _ _ _ ht).mono ?_; rw [hb]; rintro e w' ⟨rfl, rfl⟩
    go_wp2_with fail
    refine (has_any _ _ _ hs).mono ?_; rw [ha]; rintro e w' ⟨rfl, rfl⟩
    go_wp2_with fail
    refine (has_any _ _ _ hand).mono ?_; rw [h1]; rintro e w' ⟨rfl, rfl⟩
    go_wp2_with fail
    refine (has_any _ _ _ hor).mono ?_; rw [h2]; rintro e w' ⟨rfl, rfl⟩
    go_wp2_with fail
    refine (len_any _ _ hor).mono ?_; rintro e w' ⟨rfl, rfl⟩
    go_wp2_with fail
    refine (len_any _ _ hand).mono ?_; rintro e w' ⟨rfl, rfl⟩
    go_wp2_with fail
    refine (len_any _ _ hs).mono ?_; rintro e w' ⟨rfl, rfl⟩
    go_wp2_with fail
    refine (len_any _ _ ht).mono ?_; rintro e w' ⟨rfl, rfl⟩
    go_wp2_with fail
    refine (within_any _ _ _ hand hs).mono ?_; rw [h4]; rintro e w' ⟨rfl, rfl⟩
    go_wp2_with fail
    refine (within_any _ _ _ hs hor).mono ?_; rw [h5]; rintro e w' ⟨rfl, rfl⟩
    go_wp2
    go_ret
    exact ⟨rfl, by repeat (first | exact Grown.refl _ | apply Grown.drew | apply Grown.alloc)⟩

set_option maxRecDepth 100000 in
theorem lifted (os : Os) (started : os.Started) (H : Type) (enc : TypeId × Value → H) :
    ReturnsInHanded {} Try.checked os 7 .any (Rows.setLawsSpec.pre6 enc Try.prog Try.f7 Rows.setLawsRow.domain false) (Rows.setLawsSpec.post enc Try.prog Try.f7 false true false false) := by
  refine returnsInHanded_of_change (C := Try.checked) own started (by kernel_rfl) Try.func7
    (ChangeSpec.witness6 (enc := enc) (C := Try.checked) false ⟨#[], #[.int .u64 0, .int .u64 0, .int .i64 0], []⟩ 8 (by kernel_rfl) (by kernel_rfl) (by kernel_rfl) (by kernel_rfl)) ?_
  intro W base args ds gs before hval0 hW hcnd _
  have hval : ∀ (j : Nat) t v, Try.f7.params[j]? = some t → args[j]? = some v → Value.okWide Try.prog W .any base t v := hval0
  have hW' := hW
  obtain ⟨p, q, hA0, hV, rfl, hfz, hnd⟩ := hW
  have hA : DataW.TrodAll enc Try.prog W 0 (fun _ => true) true Try.f7.params.toList args.toList ds p := hA0
  rw [Try.params7] at hA hval
  obtain ⟨v0, vs0, d0, ds0, p0, q0, hargs, rfl, rfl, h0, r0⟩ := trodAll_cons hA
  obtain ⟨v1, vs1, d1, ds1, p1, q1, rfl, rfl, rfl, h1, r1⟩ := trodAll_cons r0
  obtain ⟨v2, vs2, d2, ds2, p2, q2, rfl, rfl, rfl, h2, r2⟩ := trodAll_cons r1
  obtain ⟨rfl, rfl, rfl⟩ := trodAll_nil r2
  obtain rfl : args = #[v0, v1, v2] := by cases args; simp_all
  obtain ⟨rfl, rfl⟩ := trodVars_none hV
  obtain ⟨a0, rfl, rfl, rfl, w0⟩ := open_int Try.underlying22 (hval 0 22 v0 rfl rfl) h0
  obtain ⟨a1, rfl, rfl, rfl, w1⟩ := open_int Try.underlying22 (hval 1 22 v1 rfl rfl) h1
  obtain ⟨a2, rfl, rfl, rfl, w2⟩ := open_int Try.underlying3 (hval 2 3 v2 rfl rfl) h2
  clear hA0 hval0
  simp only [List.append_nil] at hW'
  refine (walk a0 a1 a2 w0 w1 w2 W).mono fun e W' ⟨he, hg⟩ => ?_
  subst he
  exact ⟨_, rfl, post_of_same (pa := []) (pv := []) hW' (fun _ _ _ => (trodAll_cons_mk (shut_bool Try.underlying4 _) trodAll_mk0)) (fun sp _ => (trodAll_cons_mk (shut_int Try.underlying22 w0) (trodAll_cons_mk (shut_int Try.underlying22 w1) (trodAll_cons_mk (shut_int Try.underlying3 w2) trodAll_mk0)))) (fun _ _ => rfl) rfl
    (hg.frame _) hg.2.1 (ok_one (by kernel_rfl) rfl (okWide_bool_mk Try.underlying4 _))⟩

theorem over : Rows.setLawsRow.holds Try.pinned (OpenSpec.ofChange Rows.setLawsSpec) :=
  OpenClaim.holds_of_wide 7 Try.f7 rfl rfl rfl rfl rfl rfl rfl ⟨rfl, rfl, rfl, rfl, rfl⟩ rfl rfl rfl rfl rfl (by kernel_rfl) Try.func7 (by kernel_rfl)
    (of_decide_eq_true (by kernel_rfl)) (by unfold Func.isWrapper; first | (rw [if_pos (by decide +kernel)]; kernel_rfl) | (rw [if_neg (by decide +kernel)]; exact ⟨rfl, rfl⟩))
    (fun os started H enc _ => lifted os started H enc)

theorem proved : Rows.SetLawsSaid :=
  over
#print axioms proved
end Go.Proofs.Ytbpledppckmclaa.setLaws
