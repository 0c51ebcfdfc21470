/- The chapter's example. -/
import Derived.Test.YtaaljploegiihaaGProg
namespace Go.Proofs.Ytaaljploegiihaa
open Go.ChangeShapes Go.WideShapes Go.ChangeAt Go.RowKit

def gw5 : Nod := ⟨noughtS, 5, []⟩
def gw3 : Nod := ⟨noughtS, 3, []⟩
theorem gw_front : frontL [gw5, gw3] = [gw3] := by decide
theorem gw_than : decide (Than gw3 gw5) = true := by decide
theorem gw_sets : SetsOk noughtS := by unfold SetsOk noughtS; decide
theorem gw_row (w : World) : NRow (w.alloc (.cells #[.int .i64 0, .int .i64 0, .int .i64 0, .int .i64 0, .int .i64 0, .int .u64 0, .int .u64 0, .int .u64 0, .int .i64 5, .slice none 0 0, .int .i64 0, .int .i64 0, .int .i64 0, .int .i64 0, .int .i64 0, .int .u64 0, .int .u64 0, .int .u64 0, .int .i64 3, .slice none 0 0] 30)) (.slice (some ⟨w.heap.size, 0, none⟩) 2 2) [gw5, gw3] :=
  ⟨[⟨noughtS, 5, none, 0, 0⟩, ⟨noughtS, 3, none, 0, 0⟩], by exact grow_block (f := nvL) (k := 10) (l := ([⟨noughtS, 5, none, 0, 0⟩, ⟨noughtS, 3, none, 0, 0⟩] : List RawN)) (t := 30) (fr := (0, 0)) encNod (by exact heap_alloc_new w (.cells #[.int .i64 0, .int .i64 0, .int .i64 0, .int .i64 0, .int .i64 0, .int .u64 0, .int .u64 0, .int .u64 0, .int .i64 5, .slice none 0 0, .int .i64 0, .int .i64 0, .int .i64 0, .int .i64 0, .int .i64 0, .int .u64 0, .int .u64 0, .int .u64 0, .int .i64 3, .slice none 0 0] 30)) (by simp [maxLen]), ⟨rfl, rfl, .inl (row_nil _)⟩, ⟨rfl, rfl, .inl (row_nil _)⟩, trivial⟩
set_option maxRecDepth 1000000 in
set_option maxHeartbeats 4000000 in
theorem gawake_any (w : World) : Calls Try.prog 27 #[] w fun e w' => e = .returned (.bool true) ∧ Below w.heap.size w w' := by
  go_enter Try.func27, Try.ntmps27
  go_wp2_with fail
  have HR := Lib.hid (gw_row w)
  have HB := Lib.hid ((Below.refl w.heap.size w).alloc (Nat.le_refl _) (.cells #[.int .i64 0, .int .i64 0, .int .i64 0, .int .i64 0, .int .i64 0, .int .u64 0, .int .u64 0, .int .u64 0, .int .i64 5, .slice none 0 0, .int .i64 0, .int .i64 0, .int .i64 0, .int .i64 0, .int .i64 0, .int .u64 0, .int .u64 0, .int .u64 0, .int .i64 3, .slice none 0 0] 30))
  change Calls _ _ _ (w.alloc (.cells #[.int .i64 0, .int .i64 0, .int .i64 0, .int .i64 0, .int .i64 0, .int .u64 0, .int .u64 0, .int .u64 0, .int .i64 5, .slice none 0 0, .int .i64 0, .int .i64 0, .int .i64 0, .int .i64 0, .int .i64 0, .int .u64 0, .int .u64 0, .int .u64 0, .int .i64 3, .slice none 0 0] 30)) _
  generalize w.alloc (.cells #[.int .i64 0, .int .i64 0, .int .i64 0, .int .i64 0, .int .i64 0, .int .u64 0, .int .u64 0, .int .u64 0, .int .i64 5, .slice none 0 0, .int .i64 0, .int .i64 0, .int .i64 0, .int .i64 0, .int .i64 0, .int .u64 0, .int .u64 0, .int .u64 0, .int .i64 3, .slice none 0 0] 30) = W at *
  refine (gfront_any (w0 := W) HR.out (Below.refl _ _) (fun n hn => by
    simp only [List.mem_cons, List.not_mem_nil, or_false] at hn
    rcases hn with rfl | rfl <;> exact ⟨gw_sets, ⟨by decide, by decide⟩, by decide⟩) (by decide)).mono ?_
  rw [gw_front]
  rintro e w1 ⟨u, rfl, hu, hb⟩
  have HB1 := Lib.hid (HB.out.trans (hb.mono HB.out.size))
  obtain ⟨g, cp, rfl, _⟩ := hu.block (by decide)
  obtain ⟨pa, pc, hn, _⟩ := nrowB_here hu.rowB 0 gw3 rfl
  have x8 := hn.2.2.2.2.2.2.2.2.1
  clear hu hb hn
  rw [show 0 + 0 * 10 + 8 = 8 from rfl] at x8
  have x8' : w1.cell? ⟨g, 8, none⟩ = some (.int .i64 3) := x8
  clear x8
  go_wp2_with fail
  change Calls _ _ #[nodeV gw3.s gw3.cost (.slice none 0 0), nodeV gw5.s gw5.cost (.slice none 0 0)] _ _
  refine (gthan_any _ gw_sets gw_sets).mono ?_
  rw [gw_than]
  rintro e w2 ⟨rfl, hb⟩
  have HB2 := Lib.hid (HB1.out.trans (hb.mono HB1.out.size))
  clear hb
  go_wp2
  go_ret
  exact ⟨rfl, HB2.out⟩
end Go.Proofs.Ytaaljploegiihaa
