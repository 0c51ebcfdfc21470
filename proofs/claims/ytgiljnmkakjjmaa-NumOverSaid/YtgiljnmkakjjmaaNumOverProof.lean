/- NumOver holds for every number of Go's int: of a number that is safe just what leaves the safe numbers is refused when Inf is added or taken away or the number is doubled, and a number less itself is 0; there is no further condition. -/
import Derived.Test.YtgiljnmkakjjmaaRows
import Derived.Test.YtgiljnmkakjjmaaAny
import Derived.WalkKit
import Derived.ProofKit
import Derived.OpenShut
import Derived.ShutString
namespace Go.Proofs.Ytgiljnmkakjjmaa.numOver
open Go.ChangeShapes Go.WideShapes Go.ChangeAt Go.RowKit
open Go.ChangeMaps (open_string shut_string)
set_option linter.unusedVariables false      -- a walk need not use every 'w<i>' (that an integer argument fits its kind)

theorem own : ownKnob Try.prog.godebug = none := by kernel_rfl

theorem err_yes (a b r : Int) (h : Safe a ∧ Safe b ∧ Safe r) : err a b r = 0 := if_pos h
theorem err_no (a b r : Int) (h : ¬ (Safe a ∧ Safe b ∧ Safe r)) : err a b r = 9 := if_neg h
theorem over_add (a : Int) (h : Safe a) : err a 1152921504606846976 (a + 1152921504606846976) = if a ≤ 0 then 0 else 9 := by
  unfold Safe at h
  split
  · exact err_yes _ _ _ (by unfold Safe; omega)
  · exact err_no _ _ _ (by unfold Safe; omega)
theorem over_sub (a : Int) (h : Safe a) : err a 1152921504606846976 (a - 1152921504606846976) = if 0 ≤ a then 0 else 9 := by
  unfold Safe at h
  split
  · exact err_yes _ _ _ (by unfold Safe; omega)
  · exact err_no _ _ _ (by unfold Safe; omega)
theorem over_mul (a : Int) (h : Safe a) : err a 2 (a * 2) = if a ≤ 576460752303423488 ∧ -576460752303423488 ≤ a then 0 else 9 := by
  unfold Safe at h
  split
  · exact err_yes _ _ _ (by unfold Safe; omega)
  · exact err_no _ _ _ (by unfold Safe; omega)
theorem over_self (a : Int) (h : Safe a) : err a a (a - a) = 0 ∧ val a a (a - a) = 0 := by
  have k : Safe a ∧ Safe a ∧ Safe (a - a) := ⟨h, h, by unfold Safe; omega⟩
  refine ⟨if_pos k, ?_⟩
  unfold val
  rw [if_pos k]
  omega

theorem walk (a0 : Int) (w0 : (Lit.int .i64 a0).wf = true) (w : World) :
    Calls Try.prog 9 #[.int .i64 a0] w fun e w' => e = .returned (.bool true) ∧ Grown w w' := by
  clear w0
  by_cases hs : Safe a0
  · have HS := Lib.hid hs
    obtain ⟨s1, s2⟩ := hs
    have hc : a0 < -576460752303423488 ∨ (-576460752303423488 ≤ a0 ∧ a0 < 0) ∨ a0 = 0 ∨ (0 < a0 ∧ a0 ≤ 576460752303423488) ∨ 576460752303423488 < a0 := by omega
    have h1 := over_add a0 HS.out
    have h2 := over_sub a0 HS.out
    have h3 := over_mul a0 HS.out
    obtain ⟨h4, h5⟩ := over_self a0 HS.out
    have H1 := Lib.hid h1
    have H2 := Lib.hid h2
    have H3 := Lib.hid h3
    have H4 := Lib.hid h4
    have H5 := Lib.hid h5
    clear h1 h2 h3 h4 h5
    rcases hc with hc | ⟨hc, hc'⟩ | hc | ⟨hc, hc'⟩ | hc
    · have d1 : decide (a0 ≤ 0) = true := by simp; omega
      have d2 : decide (0 ≤ a0) = false := by simp; omega
      have d3 : decide (a0 ≤ 576460752303423488) = true := by simp; omega
      have d4 : decide (-576460752303423488 ≤ a0) = false := by simp; omega
      go_enter Try.func9, Try.ntmps9
      go_wp2_with fail
      refine (awake_any _).mono ?_
      rintro e w' ⟨rfl, rfl⟩
      go_wp2_with fail
      refine (add_any _ _ _).mono ?_
      rw [H1.out]
      rw [if_pos (by omega)]
      rintro e w' ⟨rfl, rfl⟩
      go_wp2_with fail
      refine (sub_any _ _ _).mono ?_
      rw [H2.out]
      rw [if_neg (by omega)]
      rintro e w' ⟨rfl, rfl⟩
      go_wp2_with fail
      refine (mul_any _ _ _).mono ?_
      rw [H3.out]
      rw [if_neg (by omega)]
      rintro e w' ⟨rfl, rfl⟩
      go_wp2_with fail
      refine (sub_any _ _ _).mono ?_
      rw [H4.out, H5.out]
      rintro e w' ⟨rfl, rfl⟩
      go_wp2
      go_ret
      exact ⟨rfl, by repeat (first | exact Grown.refl _ | apply Grown.drew | apply Grown.alloc)⟩
    · have d1 : decide (a0 ≤ 0) = true := by simp; omega
      have d2 : decide (0 ≤ a0) = false := by simp; omega
      have d3 : decide (a0 ≤ 576460752303423488) = true := by simp; omega
      have d4 : decide (-576460752303423488 ≤ a0) = true := by simp; omega
      go_enter Try.func9, Try.ntmps9
      go_wp2_with fail
      refine (awake_any _).mono ?_
      rintro e w' ⟨rfl, rfl⟩
      go_wp2_with fail
      refine (add_any _ _ _).mono ?_
      rw [H1.out]
      rw [if_pos (by omega)]
      rintro e w' ⟨rfl, rfl⟩
      go_wp2_with fail
      refine (sub_any _ _ _).mono ?_
      rw [H2.out]
      rw [if_neg (by omega)]
      rintro e w' ⟨rfl, rfl⟩
      go_wp2_with fail
      refine (mul_any _ _ _).mono ?_
      rw [H3.out]
      rw [if_pos (by omega)]
      rintro e w' ⟨rfl, rfl⟩
      go_wp2_with fail
      refine (sub_any _ _ _).mono ?_
      rw [H4.out, H5.out]
      rintro e w' ⟨rfl, rfl⟩
      go_wp2
      go_ret
      exact ⟨rfl, by repeat (first | exact Grown.refl _ | apply Grown.drew | apply Grown.alloc)⟩
    · subst hc
      go_enter Try.func9, Try.ntmps9
      go_wp2_with fail
      refine (awake_any _).mono ?_
      rintro e w' ⟨rfl, rfl⟩
      go_wp2_with fail
      refine (add_any _ _ _).mono ?_
      rw [H1.out]
      rw [if_pos (by omega)]
      rintro e w' ⟨rfl, rfl⟩
      go_wp2_with fail
      refine (sub_any _ _ _).mono ?_
      rw [H2.out]
      rw [if_pos (by omega)]
      rintro e w' ⟨rfl, rfl⟩
      go_wp2_with fail
      refine (mul_any _ _ _).mono ?_
      rw [H3.out]
      rw [if_pos (by omega)]
      rintro e w' ⟨rfl, rfl⟩
      go_wp2_with fail
      refine (sub_any _ _ _).mono ?_
      rw [H4.out, H5.out]
      rintro e w' ⟨rfl, rfl⟩
      go_wp2
      go_ret
      exact ⟨rfl, by repeat (first | exact Grown.refl _ | apply Grown.drew | apply Grown.alloc)⟩
    · have d1 : decide (a0 ≤ 0) = false := by simp; omega
      have d2 : decide (0 ≤ a0) = true := by simp; omega
      have d3 : decide (a0 ≤ 576460752303423488) = true := by simp; omega
      have d4 : decide (-576460752303423488 ≤ a0) = true := by simp; omega
      go_enter Try.func9, Try.ntmps9
      go_wp2_with fail
      refine (awake_any _).mono ?_
      rintro e w' ⟨rfl, rfl⟩
      go_wp2_with fail
      refine (add_any _ _ _).mono ?_
      rw [H1.out]
      rw [if_neg (by omega)]
      rintro e w' ⟨rfl, rfl⟩
      go_wp2_with fail
      refine (sub_any _ _ _).mono ?_
      rw [H2.out]
      rw [if_pos (by omega)]
      rintro e w' ⟨rfl, rfl⟩
      go_wp2_with fail
      refine (mul_any _ _ _).mono ?_
      rw [H3.out]
      rw [if_pos (by omega)]
      rintro e w' ⟨rfl, rfl⟩
      go_wp2_with fail
      refine (sub_any _ _ _).mono ?_
      rw [H4.out, H5.out]
      rintro e w' ⟨rfl, rfl⟩
      go_wp2
      go_ret
      exact ⟨rfl, by repeat (first | exact Grown.refl _ | apply Grown.drew | apply Grown.alloc)⟩
    · have d1 : decide (a0 ≤ 0) = false := by simp; omega
      have d2 : decide (0 ≤ a0) = true := by simp; omega
      have d3 : decide (a0 ≤ 576460752303423488) = false := by simp; omega
      have d4 : decide (-576460752303423488 ≤ a0) = true := by simp; omega
      go_enter Try.func9, Try.ntmps9
      go_wp2_with fail
      refine (awake_any _).mono ?_
      rintro e w' ⟨rfl, rfl⟩
      go_wp2_with fail
      refine (add_any _ _ _).mono ?_
      rw [H1.out]
      rw [if_neg (by omega)]
      rintro e w' ⟨rfl, rfl⟩
      go_wp2_with fail
      refine (sub_any _ _ _).mono ?_
      rw [H2.out]
      rw [if_pos (by omega)]
      rintro e w' ⟨rfl, rfl⟩
      go_wp2_with fail
      refine (mul_any _ _ _).mono ?_
      rw [H3.out]
      rw [if_neg (by omega)]
      rintro e w' ⟨rfl, rfl⟩
      go_wp2_with fail
      refine (sub_any _ _ _).mono ?_
      rw [H4.out, H5.out]
      rintro e w' ⟨rfl, rfl⟩
      go_wp2
      go_ret
      exact ⟨rfl, by repeat (first | exact Grown.refl _ | apply Grown.drew | apply Grown.alloc)⟩
  · unfold Safe at hs
    go_enter Try.func9, Try.ntmps9
    go_wp2_with (first | (go_at_call 11; refine (awake_any _).mono ?_; rintro e w' ⟨rfl, rfl⟩))
    all_goals (go_ret; exact ⟨rfl, by repeat (first | exact Grown.refl _ | apply Grown.drew | apply Grown.alloc)⟩)

set_option maxRecDepth 100000 in
theorem lifted (os : Os) (started : os.Started) (H : Type) (enc : TypeId × Value → H) :
    ReturnsInHanded {} Try.checked os 9 .any (Rows.numOverSpec.pre6 enc Try.prog Try.f9 Rows.numOverRow.domain false) (Rows.numOverSpec.post enc Try.prog Try.f9 false true false false) := by
  refine returnsInHanded_of_change (C := Try.checked) own started (by kernel_rfl) Try.func9
    (ChangeSpec.witness6 (enc := enc) (C := Try.checked) false ⟨#[], #[.int .i64 0], []⟩ 8 (by kernel_rfl) (by kernel_rfl) (by kernel_rfl) (by kernel_rfl)) ?_
  intro W base args ds gs before hval0 hW hcnd _
  have hval : ∀ (j : Nat) t v, Try.f9.params[j]? = some t → args[j]? = some v → Value.okWide Try.prog W .any base t v := hval0
  have hW' := hW
  obtain ⟨p, q, hA0, hV, rfl, hfz, hnd⟩ := hW
  have hA : DataW.TrodAll enc Try.prog W 0 (fun _ => true) true Try.f9.params.toList args.toList ds p := hA0
  rw [Try.params9] at hA hval
  obtain ⟨v0, vs0, d0, ds0, p0, q0, hargs, rfl, rfl, h0, r0⟩ := trodAll_cons hA
  obtain ⟨rfl, rfl, rfl⟩ := trodAll_nil r0
  obtain rfl : args = #[v0] := by cases args; simp_all
  obtain ⟨rfl, rfl⟩ := trodVars_none hV
  obtain ⟨a0, rfl, rfl, rfl, w0⟩ := open_int Try.underlying3 (hval 0 3 v0 rfl rfl) h0
  clear hA0 hval0
  simp only [List.append_nil] at hW'
  refine (walk a0 w0 W).mono fun e W' ⟨he, hg⟩ => ?_
  subst he
  exact ⟨_, rfl, post_of_same (pa := []) (pv := []) hW' (fun _ _ _ => (trodAll_cons_mk (shut_bool Try.underlying4 _) trodAll_mk0)) (fun sp _ => (trodAll_cons_mk (shut_int Try.underlying3 w0) trodAll_mk0)) (fun _ _ => rfl) rfl
    (hg.frame _) hg.2.1 (ok_one (by kernel_rfl) rfl (okWide_bool_mk Try.underlying4 _))⟩

theorem over : Rows.numOverRow.holds Try.pinned (OpenSpec.ofChange Rows.numOverSpec) :=
  OpenClaim.holds_of_wide 9 Try.f9 rfl rfl rfl rfl rfl rfl rfl ⟨rfl, rfl, rfl, rfl, rfl⟩ rfl rfl rfl rfl rfl (by kernel_rfl) Try.func9 (by kernel_rfl)
    (of_decide_eq_true (by kernel_rfl)) (by unfold Func.isWrapper; first | (rw [if_pos (by decide +kernel)]; kernel_rfl) | (rw [if_neg (by decide +kernel)]; exact ⟨rfl, rfl⟩))
    (fun os started H enc _ => lifted os started H enc)

theorem proved : Rows.NumOverSaid :=
  over
#print axioms proved
end Go.Proofs.Ytgiljnmkakjjmaa.numOver
