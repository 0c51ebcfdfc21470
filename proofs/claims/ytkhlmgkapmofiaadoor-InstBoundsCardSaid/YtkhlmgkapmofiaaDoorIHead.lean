/- Heads and rows as arrays: headOf, rowOf, stop. -/
import Derived.Test.YtkhlmgkapmofiaaDoorIMem
namespace Go.Proofs.YtkhlmgkapmofiaaDoor
open Go.ChangeShapes Go.WideShapes Go.ChangeAt Go.RowKit

set_option maxRecDepth 100000 in
theorem headOf_any (I : Ins) (v : Value) (w : World) : Calls Tryd.prog 32 #[.agg #[.int .i64 I.p, .int .i64 I.c, .int .i64 I.r, v]] w fun e w' => e = .returned (.agg #[.int .i64 I.p, .int .i64 I.c, .int .i64 I.r]) ∧ Below w.heap.size w w' := by
  go_enter Tryd.func32, Tryd.ntmps32
  go_wp2
  exact bodyPost_ret (v := .agg #[.int .i64 I.p, .int .i64 I.c, .int .i64 I.r]) (by simp [results, Tryd.results32, go_sem]) rfl ⟨rfl, by
    repeat' (first | exact Below.refl _ w | (refine Below.alloc ?_ ?_ _) | (refine Below.setCell ?_ ?_ _) | (simp; omega) | simp)⟩
set_option maxRecDepth 100000 in
theorem rowOf_any (t : Stp) (w : World) : Calls Tryd.prog 41 #[.agg #[.int .i64 t.x, .int .i64 t.y, .int .i64 t.d, .int .i64 t.r, .int .i64 t.u, .int .i64 t.s]] w fun e w' => e = .returned (.agg #[.int .i64 t.x, .int .i64 t.y, .int .i64 t.d, .int .i64 t.r, .int .i64 t.u, .int .i64 t.s]) ∧ Below w.heap.size w w' := by
  go_enter Tryd.func41, Tryd.ntmps41
  go_wp2
  exact bodyPost_ret (v := .agg #[.int .i64 t.x, .int .i64 t.y, .int .i64 t.d, .int .i64 t.r, .int .i64 t.u, .int .i64 t.s]) (by simp [results, Tryd.results41, go_sem]) rfl ⟨rfl, by
    repeat' (first | exact Below.refl _ w | (refine Below.alloc ?_ ?_ _) | (refine Below.setCell ?_ ?_ _) | (simp; omega) | simp)⟩
set_option maxRecDepth 100000 in
theorem rowStop_any (t : Stp) (w : World) : Calls Tryd.prog 38 #[.agg #[.int .i64 t.x, .int .i64 t.y, .int .i64 t.d, .int .i64 t.r, .int .i64 t.u, .int .i64 t.s]] w fun e w' => e = .returned (.agg #[.int .i64 t.x, .int .i64 t.y, .int .i64 t.d, .int .i64 t.r, .int .i64 t.u, .int .i64 t.s]) ∧ Below w.heap.size w w' := by
  go_enter Tryd.func38, Tryd.ntmps38
  go_wp2
  exact bodyPost_ret (v := .agg #[.int .i64 t.x, .int .i64 t.y, .int .i64 t.d, .int .i64 t.r, .int .i64 t.u, .int .i64 t.s]) (by simp [results, Tryd.results38, go_sem]) rfl ⟨rfl, by
    repeat' (first | exact Below.refl _ w | (refine Below.alloc ?_ ?_ _) | (refine Below.setCell ?_ ?_ _) | (simp; omega) | simp)⟩
end Go.Proofs.YtkhlmgkapmofiaaDoor
