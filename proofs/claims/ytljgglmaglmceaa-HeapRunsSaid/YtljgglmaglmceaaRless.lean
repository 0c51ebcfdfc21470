/- What the document's Less answers. -/
import Derived.Test.YtljgglmaglmceaaCore
namespace Go.Proofs.Ytljgglmaglmceaa
open Go.ChangeShapes Go.WideShapes Go.ChangeAt Go.RowKit

theorem rless_world (w : World) (A B : Obj) : Below w.heap.size w ((w.alloc A).alloc B) := ((Below.refl _ _).alloc (Nat.le_refl _) A).alloc (by simp) B
set_option maxRecDepth 100000 in
set_option maxHeartbeats 1000000 in
theorem rless_0 (x y : Ent) (w : World) :
    Calls Try.prog 19 #[.int .i64 0, entV x, entV y] w fun e w' => e = .returned (.bool (lt 0 x y)) ∧ Below w.heap.size w w' := by
  unfold entV
  go_enter Try.func19, Try.ntmps19
  go_wp2
  all_goals go_ret
  all_goals refine ⟨ret_bool ?_, rless_world _ _ _⟩
  all_goals
    unfold lt lexB
    rw [if_pos rfl]
    first
      | (apply decide_eq_decide.2; omega)
      | (symm; apply decide_eq_true; omega)
set_option maxRecDepth 100000 in
set_option maxHeartbeats 1000000 in
theorem rless_1 (x y : Ent) (w : World) :
    Calls Try.prog 19 #[.int .i64 1, entV x, entV y] w fun e w' => e = .returned (.bool (lt 1 x y)) ∧ Below w.heap.size w w' := by
  unfold entV
  go_enter Try.func19, Try.ntmps19
  go_wp2
  all_goals go_ret
  all_goals refine ⟨ret_bool ?_, rless_world _ _ _⟩
  all_goals
    unfold lt lexB
    rw [if_neg (by decide), if_pos rfl]
    first
      | (apply decide_eq_decide.2; omega)
      | (symm; apply decide_eq_true; omega)
set_option maxRecDepth 100000 in
set_option maxHeartbeats 1000000 in
theorem rless_2 (o : Int) (x y : Ent) (w : World) (h0 : o ≠ 0) (h1 : o ≠ 1) :
    Calls Try.prog 19 #[.int .i64 o, entV x, entV y] w fun e w' => e = .returned (.bool (lt o x y)) ∧ Below w.heap.size w w' := by
  unfold entV
  have d0 : (o == 0) = false := by simpa using h0
  have d1 : (o == 1) = false := by simpa using h1
  have H0 := Lib.hid h0
  have H1 := Lib.hid h1
  clear h0 h1
  go_enter Try.func19, Try.ntmps19
  go_wp2
  all_goals go_ret
  all_goals refine ⟨ret_bool ?_, rless_world _ _ _⟩
  all_goals
    unfold lt lexB
    rw [if_neg H0.out, if_neg H1.out]
    first
      | (apply decide_eq_decide.2; omega)
      | (symm; apply decide_eq_true; omega)
theorem rless_any (o : Int) (x y : Ent) (w : World) :
    Calls Try.prog 19 #[.int .i64 o, entV x, entV y] w fun e w' => e = .returned (.bool (lt o x y)) ∧ Below w.heap.size w w' := by
  by_cases h0 : o = 0
  · subst h0; exact rless_0 x y w
  · by_cases h1 : o = 1
    · subst h1; exact rless_1 x y w
    · exact rless_2 o x y w h0 h1
end Go.Proofs.Ytljgglmaglmceaa
