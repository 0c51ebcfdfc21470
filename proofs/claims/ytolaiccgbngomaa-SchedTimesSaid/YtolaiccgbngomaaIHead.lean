/- Heads and rows as arrays: headOf, rowOf, stop. -/
import Derived.Test.YtolaiccgbngomaaIMem
namespace Go.Proofs.Ytolaiccgbngomaa
open Go.ChangeShapes Go.WideShapes Go.ChangeAt Go.RowKit

set_option maxRecDepth 100000 in
theorem rowStop_any (t : Stp) (w : World) : Calls Try.prog 52 #[.agg #[.int .i64 t.x, .int .i64 t.y, .int .i64 t.d, .int .i64 t.r, .int .i64 t.u, .int .i64 t.s]] w fun e w' => e = .returned (.agg #[.int .i64 t.x, .int .i64 t.y, .int .i64 t.d, .int .i64 t.r, .int .i64 t.u, .int .i64 t.s]) ∧ Below w.heap.size w w' := by
  go_enter Try.func52, Try.ntmps52
  go_wp2
  exact bodyPost_ret (v := .agg #[.int .i64 t.x, .int .i64 t.y, .int .i64 t.d, .int .i64 t.r, .int .i64 t.u, .int .i64 t.s]) (by simp [results, Try.results52, go_sem]) rfl ⟨rfl, by
    repeat' (first | exact Below.refl _ w | (refine Below.alloc ?_ ?_ _) | (refine Below.setCell ?_ ?_ _) | (simp; omega) | simp)⟩
end Go.Proofs.Ytolaiccgbngomaa
