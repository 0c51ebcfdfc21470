/- The chapter's example. -/
import Derived.Test.YtclepdnpclmegaaRJoin
import Derived.Test.YtclepdnpclmegaaRCov
import Derived.Test.YtclepdnpclmegaaXSDoc
import Derived.Test.YtclepdnpclmegaaXTSched
namespace Go.Proofs.Ytclepdnpclmegaa
open Go.ChangeShapes Go.WideShapes Go.ChangeAt Go.RowKit

def xg1 : Sta := ⟨4, 0, 5, 0, 0, 6, 6, 0⟩
def xg2 : Sta := ⟨4, 0, 4, 0, 0, 10, 10, 0⟩
def xgJ : Sta := ⟨4, 0, 4, 0, 0, 2, 14, 0⟩
theorem xg_join : joinS [xg1, xg2] = some xgJ := by decide +kernel
theorem xg_cov : Covers xgJ xg1 := by decide +kernel
theorem xg_sets : SetsOk xg1 ∧ SetsOk xg2 ∧ SetsOk xgJ := by unfold SetsOk; decide
set_option maxRecDepth 1000000 in
set_option maxHeartbeats 4000000 in
theorem xawake_any (w : World) : Calls Try.prog 9 #[] w fun e w' => e = .returned (.bool true) ∧ Below w.heap.size w w' := by
  have keq : ∀ w : World, (Op.equalIn 10000 24 (.agg #[.int .i64 4, .int .i64 0, .int .i64 4, .int .i64 0, .int .i64 0, .int .u64 2, .int .u64 14, .int .u64 0]) (.agg #[.int .i64 4, .int .i64 0, .int .i64 4, .int .i64 0, .int .i64 0, .int .u64 2, .int .u64 14, .int .u64 0])).run Try.prog w = .ok true w := fun w => equalSta xgJ xgJ w
  have kg := guardSta
  go_enter Try.func9, Try.ntmps9
  go_wp2_with fail
  have HB := Lib.hid ((Below.refl w.heap.size w).alloc (Nat.le_refl _) (.cells (gflat stL [xg1, xg2]).toArray 24))
  have HR := Lib.hid (grow_block (l := [xg1, xg2]) encSta (heap_alloc_new w (.cells (gflat stL [xg1, xg2]).toArray 24)) (by decide))
  change Calls _ _ _ (w.alloc (.cells (gflat stL [xg1, xg2]).toArray 24)) _
  generalize w.alloc (.cells (gflat stL [xg1, xg2]).toArray 24) = W at *
  refine (xjoin_any (l := [xg1, xg2]) HR.out (by
    intro s hs
    simp only [List.mem_cons, List.not_mem_nil, or_false] at hs
    rcases hs with rfl | rfl
    · exact xg_sets.1
    · exact xg_sets.2.1)).mono ?_
  rw [jOf_some xg_join, xg_join]
  rintro e w1 ⟨rfl, hb⟩
  have HB1 := Lib.hid (HB.out.trans (hb.mono HB.out.size))
  clear hb HB HR
  rw [show staV xgJ = (.agg #[.int .i64 4, .int .i64 0, .int .i64 4, .int .i64 0, .int .i64 0, .int .u64 2, .int .u64 14, .int .u64 0]) from rfl, show (some xgJ).isSome = true from rfl]
  go_upto_region 2 with fail
  have HT := Lib.hid (st_new w1 xgJ)
  have HB2 := Lib.hid (HB1.out.alloc HB1.out.size (boxSt xgJ))
  change Code.wp _ _ _ _ (w1.alloc (boxSt xgJ))
  generalize w1.alloc (boxSt xgJ) = W2 at *
  generalize w1.heap.size = bs at *
  have z0 := HT.out.c0
  have z1 := HT.out.c1
  have z2 := HT.out.c2
  have z3 := HT.out.c3
  have z4 := HT.out.c4
  have z5 := HT.out.c5
  have z6 := HT.out.c6
  have z7 := HT.out.c7
  rw [show xgJ = ⟨4, 0, 4, 0, 0, 2, 14, 0⟩ from rfl] at z0 z1 z2 z3 z4 z5 z6 z7
  simp only at z0 z1 z2 z3 z4 z5 z6 z7
  go_wp2_with fail
  clear z0 z1 z2 z3 z4 z5 z6 z7
  change Calls _ _ #[staV xgJ, staV xg1] _ _
  refine (covers_any _ xg_sets.2.2 xg_sets.1).mono ?_
  rw [decide_eq_true xg_cov]
  rintro e w3 ⟨rfl, hb⟩
  have HB3 := Lib.hid (HB2.out.trans (hb.mono HB2.out.size))
  clear hb HB2
  go_wp2
  go_ret
  exact ⟨rfl, HB3.out⟩
end Go.Proofs.Ytclepdnpclmegaa
