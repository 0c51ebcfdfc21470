/- What Print answers. -/
import Derived.Test.YtofapalakpkkpaaXIForm
import Derived.Test.YtofapalakpkkpaaXIMay
import Derived.Test.YtofapalakpkkpaaIFrom
namespace Go.Proofs.Ytofapalakpkkpaa
open Go.ChangeShapes Go.WideShapes Go.ChangeAt Go.RowKit

theorem may_fits {I : Ins} (h : mayB I = true) : Fits (linesI I) := fun l hl n hn => by
  have := may_tiny h l hl n hn
  omega
/-- The answer of Print: nothing, or the text. -/
def Printed (w w' : World) (I : Ins) (e : Ending) : Prop :=
  (mayB I = false ∧ e = .returned (.tuple #[.slice none 0 0, .int .i64 1]) ∧ Below w.heap.size w w') ∨
  (mayB I = true ∧ ∃ v, e = .returned (.tuple #[v, .int .i64 0]) ∧ OwnB w' w.heap.size v (textOf (linesI I)) ∧ Below w.heap.size w w')
end Go.Proofs.Ytofapalakpkkpaa
/- What Parse answers. -/
namespace Go.Proofs.Ytofapalakpkkpaa
open Go.ChangeShapes Go.WideShapes Go.ChangeAt Go.RowKit

theorem cnt_ge : ∀ (L : List (List Int)), (∀ l ∈ L, l ≠ []) → L.length ≤ cnt L
  | [], _ => by simp [cnt]
  | l :: L, h => by
    have := cnt_ge L (fun x hx => h x (by simp [hx]))
    have := List.length_pos_iff.2 (h l (by simp))
    simp [cnt]; omega
theorem res_small (bs : List Int) : (resOf bs).length ≤ 5000 := by
  unfold resOf
  by_cases h : 4096 < bs.length
  · simp [h]
  · cases hp : parse bs with
    | none => simp [h]
    | some A =>
      obtain ⟨h1, h2⟩ := parse_good bs A hp
      have := cnt_ge A (fun l hl => (h1 l hl).1)
      simp [h]; omega
theorem pins_bad {bs : List Int} {k : Int} (hk : k ≠ 0) (h : perr bs = k) : pins bs = noIns := perr_bad (by rw [h]; exact hk)
theorem perr_1 {bs : List Int} (h : errOf bs ≠ 0) : perr bs = errOf bs := by unfold perr; rw [if_pos h]
theorem perr_2 {bs : List Int} (h : errOf bs = 0) (h2 : wf (resOf bs) = false) : perr bs = 2 := by unfold perr; simp [h, h2]
theorem perr_3 {bs : List Int} (h : errOf bs = 0) (h2 : wf (resOf bs) = true) (h3 : mayB (insOf (resOf bs)) = false) : perr bs = 1 := by unfold perr; simp [h, h2, h3]
theorem perr_4 {bs : List Int} (h : errOf bs = 0) (h2 : wf (resOf bs) = true) (h3 : mayB (insOf (resOf bs)) = true) : perr bs = 0 := by unfold perr; simp [h, h2, h3]
/-- The answer's block waits. -/
def ZBox (N : Nat) (w : World) : Prop := w.heap[N]? = some (.cells #[.int .i64 0, .int .i64 0, .int .i64 0, .slice none 0 0] 37 (0, 0))
theorem ZBox.below {N M : Nat} {w w' : World} (h : ZBox N w) (hN : N < M) (hb : Below M w w') : ZBox N w' := by unfold ZBox; rw [hb.block N hN]; exact h
theorem ZBox.cell {N : Nat} {w : World} (h : ZBox N w) (i : Nat) : w.cell? ⟨N, i, none⟩ = [Value.int .i64 0, .int .i64 0, .int .i64 0, .slice none 0 0][i]? := by rw [cell_of_row w N i _ _ _ h]; simp
theorem ZBox.free {N : Nat} {w : World} (h : ZBox N w) (i : Nat) : w.frozen? ⟨N, i, none⟩ = false := frozen_of_row w N i _ _ h
theorem zbox_new (w : World) : ZBox w.heap.size (w.alloc (.cells #[.int .i64 0, .int .i64 0, .int .i64 0, .slice none 0 0] 37)) := heap_alloc_new w _
/-- The answer of Parse. -/
def Parsed (w w' : World) (bs : List Int) (e : Ending) : Prop := ∃ v, e = .returned (.tuple #[insV (pins bs) v, .int .i64 (perr bs)]) ∧ OwnS w' w.heap.size v (pins bs).l ∧ Below w.heap.size w w'
theorem parsed_bad {w w' : World} {bs : List Int} {k : Int} (h : perr bs = k) (hk : k ≠ 0) (hb : Below w.heap.size w w') : Parsed w w' bs (.returned (.tuple #[.agg #[.int .i64 0, .int .i64 0, .int .i64 0, .slice none 0 0], .int .i64 k])) := by
  refine ⟨.slice none 0 0, ?_, ?_, hb⟩
  · rw [pins_bad hk h, h]; rfl
  · rw [pins_bad hk h]; exact ownS_nil _ _
end Go.Proofs.Ytofapalakpkkpaa
