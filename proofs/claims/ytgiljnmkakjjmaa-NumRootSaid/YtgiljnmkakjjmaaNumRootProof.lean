/- NumRoot holds for every number of Go's int: of a number from 1 to 2^60 the root's square is not less, that of one less is, and the root of that square is the root; there is no further condition. -/
import Derived.Test.YtgiljnmkakjjmaaRows
import Derived.Test.YtgiljnmkakjjmaaAny
import Derived.WalkKit
import Derived.ProofKit
import Derived.OpenShut
import Derived.ShutString
namespace Go.Proofs.Ytgiljnmkakjjmaa.numRoot
open Go.ChangeShapes Go.WideShapes Go.ChangeAt Go.RowKit
open Go.ChangeMaps (open_string shut_string)
set_option linter.unusedVariables false      -- a walk need not use every 'w<i>' (that an integer argument fits its kind)

theorem own : ownKnob Try.prog.godebug = none := by kernel_rfl

theorem root_facts (n : Int) (h1 : 1 ≤ n) (h2 : n ≤ 1152921504606846976) :
    1 ≤ rootOf n ∧ rootOf n ≤ 1073741824 ∧ n ≤ rootOf n * rootOf n ∧ rootOf n * rootOf n ≤ 1152921504606846976 ∧ 0 ≤ (rootOf n - 1) * (rootOf n - 1) ∧ (rootOf n - 1) * (rootOf n - 1) < n ∧ rootOf (rootOf n * rootOf n) = rootOf n := by
  obtain ⟨r1, r2, r3⟩ := rootOf_is n h1 h2
  generalize rootOf n = r at *
  have hb : r ≤ 1073741824 := by
    rcases Int.lt_or_le 1073741824 r with h | h
    · have := sq_mono 1073741824 (r - 1) (by omega) (by omega)
      omega
    · exact h
  have hq := sq_mono r 1073741824 (by omega) hb
  have h0 := sq_mono 0 (r - 1) (by omega) (by omega)
  have hl : (r - 1) * (r - 1) < r * r := by omega
  exact ⟨r1, hb, r3, by omega, by omega, r2, rootOf_eq _ _ (by omega) (by omega) ⟨r1, hl, Int.le_refl _⟩⟩

theorem walk (a0 : Int) (w0 : (Lit.int .i64 a0).wf = true) (w : World) :
    Calls Try.prog 6 #[.int .i64 a0] w fun e w' => e = .returned (.bool true) ∧ Grown w w' := by
  obtain ⟨i1, i2⟩ := i64_bd a0 w0
  clear w0
  by_cases hs : 1 ≤ a0 ∧ a0 ≤ 1152921504606846976
  · obtain ⟨n1, n2⟩ := hs
    obtain ⟨f1, f2, f3, f4, f5, f6, f7⟩ := root_facts a0 n1 n2
    have F7 := Lib.hid f7
    clear f7
    go_enter Try.func6, Try.ntmps6
    go_wp2_with fail
    refine (awake_any _).mono ?_
    rintro e w' ⟨rfl, rfl⟩
    go_wp2_with fail
    refine (root_any _ _ (by omega)).mono ?_
    rintro e w' ⟨rfl, rfl⟩
    go_wp2_with fail
    refine (root_any _ _ (by omega)).mono ?_
    rw [F7.out]
    rintro e w' ⟨rfl, rfl⟩
    go_wp2
    go_ret
    exact ⟨rfl, by repeat (first | exact Grown.refl _ | apply Grown.drew | apply Grown.alloc)⟩
  · go_enter Try.func6, Try.ntmps6
    go_wp2_with (first | (go_at_call 11; refine (awake_any _).mono ?_; rintro e w' ⟨rfl, rfl⟩))
    all_goals (go_ret; exact ⟨rfl, by repeat (first | exact Grown.refl _ | apply Grown.drew | apply Grown.alloc)⟩)

set_option maxRecDepth 100000 in
theorem lifted (os : Os) (started : os.Started) (H : Type) (enc : TypeId × Value → H) :
    ReturnsInHanded {} Try.checked os 6 .any (Rows.numRootSpec.pre6 enc Try.prog Try.f6 Rows.numRootRow.domain false) (Rows.numRootSpec.post enc Try.prog Try.f6 false true false false) := by
  refine returnsInHanded_of_change (C := Try.checked) own started (by kernel_rfl) Try.func6
    (ChangeSpec.witness6 (enc := enc) (C := Try.checked) false ⟨#[], #[.int .i64 0], []⟩ 8 (by kernel_rfl) (by kernel_rfl) (by kernel_rfl) (by kernel_rfl)) ?_
  intro W base args ds gs before hval0 hW hcnd _
  have hval : ∀ (j : Nat) t v, Try.f6.params[j]? = some t → args[j]? = some v → Value.okWide Try.prog W .any base t v := hval0
  have hW' := hW
  obtain ⟨p, q, hA0, hV, rfl, hfz, hnd⟩ := hW
  have hA : DataW.TrodAll enc Try.prog W 0 (fun _ => true) true Try.f6.params.toList args.toList ds p := hA0
  rw [Try.params6] at hA hval
  obtain ⟨v0, vs0, d0, ds0, p0, q0, hargs, rfl, rfl, h0, r0⟩ := trodAll_cons hA
  obtain ⟨rfl, rfl, rfl⟩ := trodAll_nil r0
  obtain rfl : args = #[v0] := by cases args; simp_all
  obtain ⟨rfl, rfl⟩ := trodVars_none hV
  obtain ⟨a0, rfl, rfl, rfl, w0⟩ := open_int Try.underlying3 (hval 0 3 v0 rfl rfl) h0
  clear hA0 hval0
  simp only [List.append_nil] at hW'
  refine (walk a0 w0 W).mono fun e W' ⟨he, hg⟩ => ?_
  subst he
  exact ⟨_, rfl, post_of_same (pa := []) (pv := []) hW' (fun _ _ _ => (trodAll_cons_mk (shut_bool Try.underlying4 _) trodAll_mk0)) (fun sp _ => (trodAll_cons_mk (shut_int Try.underlying3 w0) trodAll_mk0)) (fun _ _ => rfl) rfl
    (hg.frame _) hg.2.1 (ok_one (by kernel_rfl) rfl (okWide_bool_mk Try.underlying4 _))⟩

theorem over : Rows.numRootRow.holds Try.pinned (OpenSpec.ofChange Rows.numRootSpec) :=
  OpenClaim.holds_of_wide 6 Try.f6 rfl rfl rfl rfl rfl rfl rfl ⟨rfl, rfl, rfl, rfl, rfl⟩ rfl rfl rfl rfl rfl (by kernel_rfl) Try.func6 (by kernel_rfl)
    (of_decide_eq_true (by kernel_rfl)) (by unfold Func.isWrapper; first | (rw [if_pos (by decide +kernel)]; kernel_rfl) | (rw [if_neg (by decide +kernel)]; exact ⟨rfl, rfl⟩))
    (fun os started H enc _ => lifted os started H enc)

theorem proved : Rows.NumRootSaid :=
  over
#print axioms proved
end Go.Proofs.Ytgiljnmkakjjmaa.numRoot
