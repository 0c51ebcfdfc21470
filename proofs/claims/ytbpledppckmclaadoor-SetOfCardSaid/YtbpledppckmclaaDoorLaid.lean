/- What the row's condition gives the walks: the library's table, cell by cell; and that the program's own start lays it so. -/
import Derived.Test.YtbpledppckmclaaDoorSame
import Derived.LaidMore
import Derived.Lib.LaidTab
import Derived.Stop.Joined
import Derived.MakeChecks
namespace Go.Proofs.YtbpledppckmclaaDoor
open Go.ChangeShapes Go.WideShapes Go.ChangeAt Go.RowKit

theorem own : ownKnob Tryd.prog.godebug = none := by kernel_rfl
theorem tabName : Rows.setTellsRow.laid = Rows.setOfRow.laid := rfl
theorem tabIs : (Rows.laid_math_bits_deBruijn64tab : DataW Unit) = Lib.tabData .u8 (Lib.deBruijn64tab.map (fun n : Nat => (n : Int))) := rfl
theorem gTab (n : String) (d : DataW Unit) (h : Rows.setTellsRow.laid = [(n, d)]) : Tryd.prog.globalNamed n = some 0 := by
  cases h
  kernel_rfl
theorem tTab : (Tryd.prog.globals[0]?).map (·.type) = some 40 := by kernel_rfl
theorem c5 : Tryd.prog.cellsOf 5 = 1 := by kernel_rfl
theorem c40 : Tryd.prog.cellsOf 40 = 64 := by kernel_rfl

theorem tab_of_laid {W : World} (h : laidMetH Tryd.prog Rows.setTellsRow.laid W) : TabAt W := by
  rw [MakeChecks.laidMetH_plain _ _ _ (by kernel_rfl)] at h
  have ht : Lib.TabIs Tryd.prog W _ .u8 (Lib.deBruijn64tab.map (fun n : Nat => (n : Int))) :=
    Lib.tabIs_of_head (rest := []) (g := 0) (t := 40) (e := 5) (n := 64) (gTab _ _ rfl) tTab Tryd.underlying40 Tryd.underlying5 c5 c40 h
  intro j hj
  have := World.var?_cell (gTab _ _ rfl) ht j
  rw [this]
  have hl : Lib.deBruijn64tab.length = 64 := by decide
  simp [List.getD, hl, hj]
theorem door_met (os : Os) (args : Array Value) : laidMetH Tryd.prog Rows.setTellsRow.laid ((World.doorLaid Tryd.prog 14 os).forCall (fun _ _ => 0) ⟨#[], args, []⟩).memory :=
  laidMetH_of_parts3 (fuel := 8) (laidMet_of_run' 8 (by kernel_rfl) (by kernel_rfl)) (by kernel_rfl) (by kernel_rfl)
end Go.Proofs.YtbpledppckmclaaDoor
