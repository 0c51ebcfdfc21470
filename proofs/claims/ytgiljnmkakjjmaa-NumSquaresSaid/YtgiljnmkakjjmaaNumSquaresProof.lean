/- NumSquares holds for every two numbers of Go's int: from 0 to 2^29 the numbers between two squares that follow each other have the greater one's root, and a square has its own; there is no further condition. -/
import Derived.Test.YtgiljnmkakjjmaaRows
import Derived.Test.YtgiljnmkakjjmaaAny
import Derived.WalkKit
import Derived.ProofKit
import Derived.OpenShut
import Derived.ShutString
namespace Go.Proofs.Ytgiljnmkakjjmaa.numSquares
open Go.ChangeShapes Go.WideShapes Go.ChangeAt Go.RowKit
open Go.ChangeMaps (open_string shut_string)
set_option linter.unusedVariables false      -- a walk need not use every 'w<i>' (that an integer argument fits its kind)

theorem own : ownKnob Try.prog.godebug = none := by kernel_rfl

theorem sq_facts (r m : Int) (h1 : 0 ≤ r) (h2 : r ≤ 536870912) (h3 : 1 ≤ m) (h4 : m ≤ 2 * r + 1) :
    0 ≤ r * r ∧ r * r ≤ 288230376151711744 ∧ rootOf (r * r + m) = r + 1 ∧ rootOf (r * r) = r := by
  have hq := sq_mono r 536870912 h1 h2
  have h0 := sq_mono 0 r (by omega) h1
  have e1 : (r + 1) * (r + 1) = r * r + 2 * r + 1 := by rw [Int.add_mul, Int.mul_add]; omega
  have e2 : (r - 1) * (r - 1) = r * r - 2 * r + 1 := by rw [Int.sub_mul, Int.mul_sub]; omega
  refine ⟨by omega, by omega, rootOf_eq _ _ (by omega) (by omega) ⟨by omega, ?_, by omega⟩, ?_⟩
  · rw [show r + 1 - 1 = r by omega]; omega
  · by_cases hz : r = 0
    · subst hz; exact rootOf_low _ (by omega)
    · have : 1 * 1 ≤ r * r := sq_mono 1 r (by omega) (by omega)
      exact rootOf_eq _ _ (by omega) (by omega) ⟨by omega, by omega, Int.le_refl _⟩

theorem walk (a0 : Int) (a1 : Int) (w0 : (Lit.int .i64 a0).wf = true) (w1 : (Lit.int .i64 a1).wf = true) (w : World) :
    Calls Try.prog 10 #[.int .i64 a0, .int .i64 a1] w fun e w' => e = .returned (.bool true) ∧ Grown w w' := by
  obtain ⟨i1, i2⟩ := i64_bd a0 w0
  obtain ⟨j1, j2⟩ := i64_bd a1 w1
  clear w0 w1
  by_cases hs : (0 ≤ a0 ∧ a0 ≤ 536870912) ∧ 1 ≤ a1 ∧ a1 ≤ 2 * a0 + 1
  · obtain ⟨⟨n1, n2⟩, m1, m2⟩ := hs
    obtain ⟨f1, f2, f3, f4⟩ := sq_facts a0 a1 n1 n2 m1 m2
    have F3 := Lib.hid f3
    have F4 := Lib.hid f4
    clear f3 f4
    go_enter Try.func10, Try.ntmps10
    go_wp2_with fail
    refine (awake_any _).mono ?_
    rintro e w' ⟨rfl, rfl⟩
    go_wp2_with fail
    refine (root_any _ _ (by omega)).mono ?_
    rw [F3.out]
    rintro e w' ⟨rfl, rfl⟩
    go_wp2_with fail
    refine (root_any _ _ (by omega)).mono ?_
    rw [F4.out]
    rintro e w' ⟨rfl, rfl⟩
    go_wp2
    go_ret
    exact ⟨rfl, by repeat (first | exact Grown.refl _ | apply Grown.drew | apply Grown.alloc)⟩
  · go_enter Try.func10, Try.ntmps10
    go_wp2_with (first | (go_at_call 11; refine (awake_any _).mono ?_; rintro e w' ⟨rfl, rfl⟩))
    all_goals (go_ret; exact ⟨rfl, by repeat (first | exact Grown.refl _ | apply Grown.drew | apply Grown.alloc)⟩)

set_option maxRecDepth 100000 in
theorem lifted (os : Os) (started : os.Started) (H : Type) (enc : TypeId × Value → H) :
    ReturnsInHanded {} Try.checked os 10 .any (Rows.numSquaresSpec.pre6 enc Try.prog Try.f10 Rows.numSquaresRow.domain false) (Rows.numSquaresSpec.post enc Try.prog Try.f10 false true false false) := by
  refine returnsInHanded_of_change (C := Try.checked) own started (by kernel_rfl) Try.func10
    (ChangeSpec.witness6 (enc := enc) (C := Try.checked) false ⟨#[], #[.int .i64 0, .int .i64 0], []⟩ 8 (by kernel_rfl) (by kernel_rfl) (by kernel_rfl) (by kernel_rfl)) ?_
  intro W base args ds gs before hval0 hW hcnd _
  have hval : ∀ (j : Nat) t v, Try.f10.params[j]? = some t → args[j]? = some v → Value.okWide Try.prog W .any base t v := hval0
  have hW' := hW
  obtain ⟨p, q, hA0, hV, rfl, hfz, hnd⟩ := hW
  have hA : DataW.TrodAll enc Try.prog W 0 (fun _ => true) true Try.f10.params.toList args.toList ds p := hA0
  rw [Try.params10] at hA hval
  obtain ⟨v0, vs0, d0, ds0, p0, q0, hargs, rfl, rfl, h0, r0⟩ := trodAll_cons hA
  obtain ⟨v1, vs1, d1, ds1, p1, q1, rfl, rfl, rfl, h1, r1⟩ := trodAll_cons r0
  obtain ⟨rfl, rfl, rfl⟩ := trodAll_nil r1
  obtain rfl : args = #[v0, v1] := by cases args; simp_all
  obtain ⟨rfl, rfl⟩ := trodVars_none hV
  obtain ⟨a0, rfl, rfl, rfl, w0⟩ := open_int Try.underlying3 (hval 0 3 v0 rfl rfl) h0
  obtain ⟨a1, rfl, rfl, rfl, w1⟩ := open_int Try.underlying3 (hval 1 3 v1 rfl rfl) h1
  clear hA0 hval0
  simp only [List.append_nil] at hW'
  refine (walk a0 a1 w0 w1 W).mono fun e W' ⟨he, hg⟩ => ?_
  subst he
  exact ⟨_, rfl, post_of_same (pa := []) (pv := []) hW' (fun _ _ _ => (trodAll_cons_mk (shut_bool Try.underlying4 _) trodAll_mk0)) (fun sp _ => (trodAll_cons_mk (shut_int Try.underlying3 w0) (trodAll_cons_mk (shut_int Try.underlying3 w1) trodAll_mk0))) (fun _ _ => rfl) rfl
    (hg.frame _) hg.2.1 (ok_one (by kernel_rfl) rfl (okWide_bool_mk Try.underlying4 _))⟩

theorem over : Rows.numSquaresRow.holds Try.pinned (OpenSpec.ofChange Rows.numSquaresSpec) :=
  OpenClaim.holds_of_wide 10 Try.f10 rfl rfl rfl rfl rfl rfl rfl ⟨rfl, rfl, rfl, rfl, rfl⟩ rfl rfl rfl rfl rfl (by kernel_rfl) Try.func10 (by kernel_rfl)
    (of_decide_eq_true (by kernel_rfl)) (by unfold Func.isWrapper; first | (rw [if_pos (by decide +kernel)]; kernel_rfl) | (rw [if_neg (by decide +kernel)]; exact ⟨rfl, rfl⟩))
    (fun os started H enc _ => lifted os started H enc)

theorem proved : Rows.NumSquaresSaid :=
  over
#print axioms proved
end Go.Proofs.Ytgiljnmkakjjmaa.numSquares
