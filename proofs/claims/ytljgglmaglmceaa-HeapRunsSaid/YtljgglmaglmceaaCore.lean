/- What comparing two entries answers: cmp.Compare, cmp.Or, Less, the document's Less, and the method of one entry that knows its order. -/
import Derived.Test.YtljgglmaglmceaaRows
import Derived.Test.YtljgglmaglmceaaMath
import Derived.WalkKit
import Derived.ProofKit
import Derived.OpenShut
import Derived.IntWalk
import Derived.Below
import Derived.Lib.Hide
import Derived.Deep.QuietTactic
import Derived.BigQuiet
namespace Go.Proofs.Ytljgglmaglmceaa
open Go.ChangeShapes Go.WideShapes Go.ChangeAt Go.RowKit

theorem ret_int {k : IntKind} {a b : Int} (h : a = b) : Ending.returned (.int k a) = .returned (.int k b) := by rw [h]
theorem ret_bool {a b : Bool} (h : a = b) : Ending.returned (.bool a) = .returned (.bool b) := by rw [h]

/-- How two numbers stand to each other. -/
def cmpI (x y : Int) : Int := if x < y then -1 else if y < x then 1 else 0

theorem nan_any (x : Int) (w : World) : Calls Try.prog 27 #[.int .i64 x] w fun e w' => e = .returned (.bool false) ∧ w = w' := by
  go_enter Try.func27, Try.ntmps27
  go_wp2
  go_ret
  exact ⟨by simp, rfl⟩
theorem cmpI_lt {x y : Int} (h : x < y) : -1 = cmpI x y := by unfold cmpI; rw [if_pos h]
theorem cmpI_gt {x y : Int} (h : y < x) : 1 = cmpI x y := by unfold cmpI; rw [if_neg (by omega), if_pos h]
theorem cmpI_eq {x y : Int} (h : ¬ x < y) (h' : ¬ y < x) : 0 = cmpI x y := by unfold cmpI; rw [if_neg h, if_neg h']
theorem cmp_any (x y : Int) (w : World) : Calls Try.prog 22 #[.int .i64 x, .int .i64 y] w fun e w' => e = .returned (.int .i64 (cmpI x y)) ∧ w = w' := by
  go_enter Try.func22, Try.ntmps22
  go_wp2_with (go_at_call 27; refine (nan_any _ _).mono ?_; rintro e w' ⟨rfl, rfl⟩)
  all_goals go_ret
  · exact ⟨ret_int (cmpI_lt ‹_›), rfl⟩
  · exact ⟨ret_int (cmpI_gt ‹_›), rfl⟩
  · exact ⟨ret_int (cmpI_eq (by omega) (by omega)), rfl⟩
theorem cmp_back (x y : Int) (w : World) : Calls Try.prog 22 #[.int .i64 x, .int .i64 y] w fun e w' => e = .returned (.int .i64 (cmpI x y)) ∧ w' = w :=
  (cmp_any x y w).mono fun _ _ h => ⟨h.1, h.2.symm⟩

/-- The first of three numbers that is not nought. -/
def orI (x y z : Int) : Int := if x ≠ 0 then x else if y ≠ 0 then y else z
theorem ne_t {x : Int} (h : (x != 0) = true) : x ≠ 0 := by simpa using h
theorem ne_f {x : Int} (h : (x != 0) = false) : x = 0 := by simpa using h
theorem orI_1 {x y z : Int} (h : x ≠ 0) : x = orI x y z := by unfold orI; rw [if_pos h]
theorem orI_2 {y z : Int} (h : y ≠ 0) : y = orI 0 y z := by unfold orI; simp [h]
theorem orI_3 {z : Int} : z = orI 0 0 z := by unfold orI; simp
set_option maxRecDepth 100000 in
theorem or_any (x y z : Int) (w : World) (g : Nat) (hc : w.cell? ⟨g, 0, none⟩ = some (.int .i64 x)) (hc1 : w.cell? ⟨g, 1, none⟩ = some (.int .i64 y)) (hc2 : w.cell? ⟨g, 2, none⟩ = some (.int .i64 z)) :
    Calls Try.prog 23 #[.slice (some ⟨g, 0, none⟩) 3 3] w fun e w' => e = .returned (.int .i64 (orI x y z)) ∧ w = w' := by
  go_enter Try.func23, Try.ntmps23
  go_wp2
  go_loop [5, 8] (fun _ i => i = .int .i64 0 ∨ i = .int .i64 1 ∧ x = 0 ∨ i = .int .i64 2 ∧ x = 0 ∧ y = 0 ∨ i = .int .i64 3 ∧ x = 0 ∧ y = 0 ∧ z = 0) (fun _ i => 3 - (intOf i).toNat)
  case atStart => exact .inl rfl
  case round =>
    rcases hrel with rfl | ⟨rfl, rfl⟩ | ⟨rfl, rfl, rfl⟩ | ⟨rfl, rfl, rfl, rfl⟩
    · go_wp2
      · go_ret; exact ⟨ret_int (orI_1 (ne_t ‹_›)), rfl⟩
      · go_round
        case rel => exact .inr (.inl ⟨rfl, ne_f ‹_›⟩)
        case measure => simp [intOf]
    · go_wp2
      · go_ret; exact ⟨ret_int (orI_2 (ne_t ‹_›)), rfl⟩
      · go_round
        case rel => exact .inr (.inr (.inl ⟨rfl, by trivial, ne_f ‹_›⟩))
        case measure => simp [intOf]
    · go_wp2
      · go_ret; exact ⟨ret_int orI_3, rfl⟩
      · go_round
        case rel => exact .inr (.inr (.inr ⟨rfl, by trivial, by trivial, ne_f ‹_›⟩))
        case measure => simp [intOf]
    · go_wp2
      go_ret
      exact ⟨ret_int orI_3, rfl⟩

theorem orI_neg (a b c : Int) : orI a b c < 0 ↔ a < 0 ∨ a = 0 ∧ (b < 0 ∨ b = 0 ∧ c < 0) := by
  unfold orI; split
  · omega
  · split <;> omega
theorem cmpI_cases (x y : Int) : (x < y ∧ cmpI x y = -1) ∨ (y < x ∧ cmpI x y = 1) ∨ (x = y ∧ cmpI x y = 0) := by
  unfold cmpI; split
  · omega
  · split <;> omega
/-- What the three comparisons make. -/
theorem lt_0 (x y : Ent) : decide (orI (cmpI x.b y.b) (-cmpI x.d y.d) (cmpI x.n y.n) < 0) = lt 0 x y := by
  unfold lt lexB
  rw [if_pos rfl]
  apply decide_eq_decide.2
  rw [orI_neg]
  have h1 := cmpI_cases x.b y.b
  have h2 := cmpI_cases x.d y.d
  have h3 := cmpI_cases x.n y.n
  omega
theorem lt_1 (x y : Ent) : decide (orI (-cmpI x.d y.d) (cmpI x.b y.b) (cmpI x.n y.n) < 0) = lt 1 x y := by
  unfold lt lexB
  rw [if_neg (by decide), if_pos rfl]
  apply decide_eq_decide.2
  rw [orI_neg]
  have h1 := cmpI_cases x.b y.b
  have h2 := cmpI_cases x.d y.d
  have h3 := cmpI_cases x.n y.n
  omega
theorem lt_2 (o : Int) (x y : Ent) (h0 : o ≠ 0) (h1 : o ≠ 1) : decide (orI (cmpI x.n y.n) (cmpI x.b y.b) (cmpI x.d y.d) < 0) = lt o x y := by
  unfold lt lexB
  rw [if_neg h0, if_neg h1]
  apply decide_eq_decide.2
  rw [orI_neg]
  have h1 := cmpI_cases x.b y.b
  have h2 := cmpI_cases x.d y.d
  have h3 := cmpI_cases x.n y.n
  omega

theorem cmpI_bd (x y : Int) : -1 ≤ cmpI x y ∧ cmpI x y ≤ 1 := by have := cmpI_cases x y; omega
/-- An entry's value. -/
def entV (x : Ent) : Value := .agg #[.int .i64 x.b, .int .i64 x.d, .int .i64 x.n]
theorem or_new (x y z : Int) (W : World) (g : Nat) (hg : W.heap.size = g) :
    Calls Try.prog 23 #[.slice (some ⟨g, 0, none⟩) 3 3] (W.alloc (.cells #[.int .i64 x, .int .i64 y, .int .i64 z] 3)) fun e w' => e = .returned (.int .i64 (orI x y z)) ∧ W.alloc (.cells #[.int .i64 x, .int .i64 y, .int .i64 z] 3) = w' := by
  subst hg
  have h := heap_alloc_new W (.cells #[.int .i64 x, .int .i64 y, .int .i64 z] 3)
  exact or_any x y z _ _ (by rw [cell_of_row _ _ _ _ _ _ h]; rfl) (by rw [cell_of_row _ _ _ _ _ _ h]; rfl) (by rw [cell_of_row _ _ _ _ _ _ h]; rfl)
theorem below_drewN {B : Nat} {a w : World} (h : Below B a w) (n : Nat) : Below B a (w.drewN n) := ⟨h.os, h.tape, h.output, h.size, h.block⟩
theorem less_world (w : World) (A B C : Obj) (n : Nat) : Below w.heap.size w ((((w.alloc A).alloc B).drewN n).alloc C) :=
  (below_drewN (((Below.refl _ _).alloc (Nat.le_refl _) A).alloc (by simp) B) n).alloc (by show _ ≤ ((w.alloc A).alloc B).heap.size; simp; omega) C

set_option maxRecDepth 100000 in
theorem less_0 (x y : Ent) (w : World) :
    Calls Try.prog 18 #[.int .i64 0, entV x, entV y] w fun e w' => e = .returned (.bool (lt 0 x y)) ∧ Below w.heap.size w w' := by
  unfold entV
  have HL := Lib.hid (lt_0 x y)
  have h2 := cmpI_bd x.d y.d
  obtain ⟨h21, h22⟩ := h2
  go_enter Try.func18, Try.ntmps18
  go_wp2
  go_quiet ((go_at_call 22; exact Calls.quiet_of_same (cmp_back _ _ _)))
  go_wp2_with fail
  refine (or_new _ _ _ _ _ (by simp)).mono ?_
  rintro e w' ⟨rfl, rfl⟩
  go_wp2
  go_ret
  exact ⟨ret_bool HL.out, less_world _ _ _ _ _⟩
set_option maxRecDepth 100000 in
theorem less_1 (x y : Ent) (w : World) :
    Calls Try.prog 18 #[.int .i64 1, entV x, entV y] w fun e w' => e = .returned (.bool (lt 1 x y)) ∧ Below w.heap.size w w' := by
  unfold entV
  have HL := Lib.hid (lt_1 x y)
  have h2 := cmpI_bd x.d y.d
  obtain ⟨h21, h22⟩ := h2
  go_enter Try.func18, Try.ntmps18
  go_wp2
  go_quiet ((go_at_call 22; exact Calls.quiet_of_same (cmp_back _ _ _)))
  go_wp2_with fail
  refine (or_new _ _ _ _ _ (by simp)).mono ?_
  rintro e w' ⟨rfl, rfl⟩
  go_wp2
  go_ret
  exact ⟨ret_bool HL.out, less_world _ _ _ _ _⟩
set_option maxRecDepth 100000 in
theorem less_2 (o : Int) (x y : Ent) (w : World) (h0 : o ≠ 0) (h1 : o ≠ 1) :
    Calls Try.prog 18 #[.int .i64 o, entV x, entV y] w fun e w' => e = .returned (.bool (lt o x y)) ∧ Below w.heap.size w w' := by
  unfold entV
  have HL := Lib.hid (lt_2 o x y h0 h1)
  have h2 := cmpI_bd x.d y.d
  obtain ⟨h21, h22⟩ := h2
  have d0 : (o == 0) = false := by simpa using h0
  have d1 : (o == 1) = false := by simpa using h1
  clear h0 h1
  go_enter Try.func18, Try.ntmps18
  go_wp2
  go_quiet ((go_at_call 22; exact Calls.quiet_of_same (cmp_back _ _ _)))
  go_wp2_with fail
  refine (or_new _ _ _ _ _ (by simp)).mono ?_
  rintro e w' ⟨rfl, rfl⟩
  go_wp2
  go_ret
  exact ⟨ret_bool HL.out, less_world _ _ _ _ _⟩
theorem less_any (o : Int) (x y : Ent) (w : World) :
    Calls Try.prog 18 #[.int .i64 o, entV x, entV y] w fun e w' => e = .returned (.bool (lt o x y)) ∧ Below w.heap.size w w' := by
  by_cases h0 : o = 0
  · subst h0; exact less_0 x y w
  · by_cases h1 : o = 1
    · subst h1; exact less_1 x y w
    · exact less_2 o x y w h0 h1

/-- The value of an entry that knows its order. -/
def plcV (o : Int) (x : Ent) : Value := .agg #[.int .i64 x.b, .int .i64 x.d, .int .i64 x.n, .int .i64 o]
theorem ahead_world (w w' : World) (A B : Obj) (h : Below ((w.alloc A).alloc B).heap.size ((w.alloc A).alloc B) w') : Below w.heap.size w w' :=
  (((Below.refl _ _).alloc (Nat.le_refl _) A).alloc (by simp) B).trans (h.mono (by simp; omega))
theorem ahead_any (o o' : Int) (x y : Ent) (w : World) :
    Calls Try.prog 44 #[plcV o x, plcV o' y] w fun e w' => e = .returned (.bool (lt o x y)) ∧ Below w.heap.size w w' := by
  unfold plcV
  go_enter Try.func44, Try.ntmps44
  go_wp2_with fail
  refine (less_any o x y _).mono ?_
  rintro e w' ⟨rfl, hb⟩
  have HB := Lib.hid (ahead_world _ _ _ _ hb)
  clear hb
  go_wp2
  go_ret
  exact ⟨rfl, HB.out⟩
end Go.Proofs.Ytljgglmaglmceaa
