/- What Print answers. -/
import Derived.Test.YtbhgpiohniplbaaXIForm
import Derived.Test.YtbhgpiohniplbaaXIMay
import Derived.Test.YtbhgpiohniplbaaIFrom
namespace Go.Proofs.Ytbhgpiohniplbaa
open Go.ChangeShapes Go.WideShapes Go.ChangeAt Go.RowKit

theorem may_fits {I : Ins} (h : mayB I = true) : Fits (linesI I) := fun l hl n hn => by
  have := may_tiny h l hl n hn
  omega
/-- The answer of Print: nothing, or the text. -/
def Printed (w w' : World) (I : Ins) (e : Ending) : Prop :=
  (mayB I = false ∧ e = .returned (.tuple #[.slice none 0 0, .int .i64 1]) ∧ Below w.heap.size w w') ∨
  (mayB I = true ∧ ∃ v, e = .returned (.tuple #[v, .int .i64 0]) ∧ OwnB w' w.heap.size v (textOf (linesI I)) ∧ Below w.heap.size w w')
end Go.Proofs.Ytbhgpiohniplbaa
/- What Parse answers. -/
namespace Go.Proofs.Ytbhgpiohniplbaa
open Go.ChangeShapes Go.WideShapes Go.ChangeAt Go.RowKit

theorem cnt_ge : ∀ (L : List (List Int)), (∀ l ∈ L, l ≠ []) → L.length ≤ cnt L
  | [], _ => by simp [cnt]
  | l :: L, h => by
    have := cnt_ge L (fun x hx => h x (by simp [hx]))
    have := List.length_pos_iff.2 (h l (by simp))
    simp [cnt]; omega
theorem res_small (bs : List Int) : (resOf bs).length ≤ 5000 := by
  unfold resOf
  by_cases h : 4096 < bs.length
  · simp [h]
  · cases hp : parse bs with
    | none => simp [h]
    | some A =>
      obtain ⟨h1, h2⟩ := parse_good bs A hp
      have := cnt_ge A (fun l hl => (h1 l hl).1)
      simp [h]; omega
theorem pins_bad {bs : List Int} {k : Int} (hk : k ≠ 0) (h : perr bs = k) : pins bs = noIns := perr_bad (by rw [h]; exact hk)
theorem perr_1 {bs : List Int} (h : errOf bs ≠ 0) : perr bs = errOf bs := by unfold perr; rw [if_pos h]
theorem perr_2 {bs : List Int} (h : errOf bs = 0) (h2 : wf (resOf bs) = false) : perr bs = 2 := by unfold perr; simp [h, h2]
theorem perr_3 {bs : List Int} (h : errOf bs = 0) (h2 : wf (resOf bs) = true) (h3 : mayB (insOf (resOf bs)) = false) : perr bs = 1 := by unfold perr; simp [h, h2, h3]
theorem perr_4 {bs : List Int} (h : errOf bs = 0) (h2 : wf (resOf bs) = true) (h3 : mayB (insOf (resOf bs)) = true) : perr bs = 0 := by unfold perr; simp [h, h2, h3]
end Go.Proofs.Ytbhgpiohniplbaa
