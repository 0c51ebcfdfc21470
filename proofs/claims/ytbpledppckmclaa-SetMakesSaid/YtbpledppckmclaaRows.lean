/-
  No cell of these rows narrows 'for every input' (looked for: loops, veiled, ifaces, maps, wideKeys, modest, calm, conditions, laid).
  DERIVED. THE GIVEN ROWS OF THIS SEAT. 6 by the template 'for every input the law returns true; each argument reads behind the call as it read before'; 0 by the template 'total and deterministic' (their statements: YtbpledppckmclaaTotals.lean).
  GIVEN WITH THE SEED: the statements are not yours to turn. If you find one false, say at which input.
  Laid BY PROGRAM, IN A SANDBOX (cutbox-rows.mjs): the forced cells as the released guide's own fill.sh prints them over the translation 6b76833a0b174544… (all of the seat's roots in one cut). By AI agents, Wed Nov 11 2026. No macro, syntax, notation, axiom, sorry.
-/
import Derived.Test.YtbpledppckmclaaChecked
import GoSem.Claim
import GoSem.ClaimJoined
import GoSem.ClaimMapViews
import Derived.JoinedTies
import Derived.KernelRfl
namespace Go.Proofs.Ytbpledppckmclaa
/- THE CELL 'sum', in the pinned program and in every row, IS THE sha256 OF THE DUMP (.gsa) THAT YtbpledppckmclaaProg.lean LOADS. Nothing in Lean hashes anything: it is a label: what it is worth is what the hold of that sum in a sandbox is worth. -/
noncomputable def Try.pinned : Pinned := { name := "ytbpledppckmclaa", sum := "6b76833a0b1745448ef5f8dc9dfb63d35f83f8df00dac43e3b11ee8eb283fb9f", checked := Try.checked }
namespace Rows
def none {H : Type} : Left H := { results := [], args := [] }

/-- 'haulierlaw02.SetMakes': WHATEVER THE INPUT: true; the input reads as it did. -/
def setMakesSpec : ChangeSpec := { name := "setMakes", fn := fun _ => fun
  | [d1, d2, d3] => { results := [.lit (.bool true)], args := [d1, d2, d3] }
  | _ => none }
def setMakesRow : OpenClaim := { program := "ytbpledppckmclaa", sum := "6b76833a0b1745448ef5f8dc9dfb63d35f83f8df00dac43e3b11ee8eb283fb9f", func := "haulier/haulierlaw02.SetMakes", spec := "setMakes", apart := false }
def SetMakesSaid : Prop := setMakesRow.holds Try.pinned (OpenSpec.ofChange setMakesSpec)

/-- ITS FALSE NEIGHBOUR: 'it returns false'. Refute it at one input. -/
def setMakesWrong : ChangeSpec := { name := "setMakes", fn := fun _ => fun
  | [d1, d2, d3] => { results := [.lit (.bool false)], args := [d1, d2, d3] }
  | _ => none }
def SetMakesWrongFalsely : Prop := setMakesRow.holds Try.pinned (OpenSpec.ofChange setMakesWrong)

/-- 'haulierlaw02.SetBack': WHATEVER THE INPUT: true; the input reads as it did. -/
def setBackSpec : ChangeSpec := { name := "setBack", fn := fun _ => fun
  | [d1, d2, d3] => { results := [.lit (.bool true)], args := [d1, d2, d3] }
  | _ => none }
def setBackRow : OpenClaim := { program := "ytbpledppckmclaa", sum := "6b76833a0b1745448ef5f8dc9dfb63d35f83f8df00dac43e3b11ee8eb283fb9f", func := "haulier/haulierlaw02.SetBack", spec := "setBack", apart := false }
def SetBackSaid : Prop := setBackRow.holds Try.pinned (OpenSpec.ofChange setBackSpec)

/-- ITS FALSE NEIGHBOUR: 'it returns false'. Refute it at one input. -/
def setBackWrong : ChangeSpec := { name := "setBack", fn := fun _ => fun
  | [d1, d2, d3] => { results := [.lit (.bool false)], args := [d1, d2, d3] }
  | _ => none }
def SetBackWrongFalsely : Prop := setBackRow.holds Try.pinned (OpenSpec.ofChange setBackWrong)

/-- 'haulierlaw02.SetOrder': WHATEVER THE INPUT: true; the input reads as it did. -/
def setOrderSpec : ChangeSpec := { name := "setOrder", fn := fun _ => fun
  | [d1, d2, d3] => { results := [.lit (.bool true)], args := [d1, d2, d3] }
  | _ => none }
def setOrderRow : OpenClaim := { program := "ytbpledppckmclaa", sum := "6b76833a0b1745448ef5f8dc9dfb63d35f83f8df00dac43e3b11ee8eb283fb9f", func := "haulier/haulierlaw02.SetOrder", spec := "setOrder", apart := false }
def SetOrderSaid : Prop := setOrderRow.holds Try.pinned (OpenSpec.ofChange setOrderSpec)

/-- ITS FALSE NEIGHBOUR: 'it returns false'. Refute it at one input. -/
def setOrderWrong : ChangeSpec := { name := "setOrder", fn := fun _ => fun
  | [d1, d2, d3] => { results := [.lit (.bool false)], args := [d1, d2, d3] }
  | _ => none }
def SetOrderWrongFalsely : Prop := setOrderRow.holds Try.pinned (OpenSpec.ofChange setOrderWrong)

/-- 'haulierlaw02.SetShifts': WHATEVER THE INPUT: true; the input reads as it did. -/
def setShiftsSpec : ChangeSpec := { name := "setShifts", fn := fun _ => fun
  | [d1, d2, d3] => { results := [.lit (.bool true)], args := [d1, d2, d3] }
  | _ => none }
def setShiftsRow : OpenClaim := { program := "ytbpledppckmclaa", sum := "6b76833a0b1745448ef5f8dc9dfb63d35f83f8df00dac43e3b11ee8eb283fb9f", func := "haulier/haulierlaw02.SetShifts", spec := "setShifts", apart := false }
def SetShiftsSaid : Prop := setShiftsRow.holds Try.pinned (OpenSpec.ofChange setShiftsSpec)

/-- ITS FALSE NEIGHBOUR: 'it returns false'. Refute it at one input. -/
def setShiftsWrong : ChangeSpec := { name := "setShifts", fn := fun _ => fun
  | [d1, d2, d3] => { results := [.lit (.bool false)], args := [d1, d2, d3] }
  | _ => none }
def SetShiftsWrongFalsely : Prop := setShiftsRow.holds Try.pinned (OpenSpec.ofChange setShiftsWrong)

/-- 'haulierlaw02.SetLaws': WHATEVER THE INPUT: true; the input reads as it did. -/
def setLawsSpec : ChangeSpec := { name := "setLaws", fn := fun _ => fun
  | [d1, d2, d3] => { results := [.lit (.bool true)], args := [d1, d2, d3] }
  | _ => none }
def setLawsRow : OpenClaim := { program := "ytbpledppckmclaa", sum := "6b76833a0b1745448ef5f8dc9dfb63d35f83f8df00dac43e3b11ee8eb283fb9f", func := "haulier/haulierlaw02.SetLaws", spec := "setLaws", apart := false }
def SetLawsSaid : Prop := setLawsRow.holds Try.pinned (OpenSpec.ofChange setLawsSpec)

/-- ITS FALSE NEIGHBOUR: 'it returns false'. Refute it at one input. -/
def setLawsWrong : ChangeSpec := { name := "setLaws", fn := fun _ => fun
  | [d1, d2, d3] => { results := [.lit (.bool false)], args := [d1, d2, d3] }
  | _ => none }
def SetLawsWrongFalsely : Prop := setLawsRow.holds Try.pinned (OpenSpec.ofChange setLawsWrong)

/-- 'haulierlaw02.SetUpto': WHATEVER THE INPUT: true; the input reads as it did. -/
def setUptoSpec : ChangeSpec := { name := "setUpto", fn := fun _ => fun
  | [d1, d2] => { results := [.lit (.bool true)], args := [d1, d2] }
  | _ => none }
def setUptoRow : OpenClaim := { program := "ytbpledppckmclaa", sum := "6b76833a0b1745448ef5f8dc9dfb63d35f83f8df00dac43e3b11ee8eb283fb9f", func := "haulier/haulierlaw02.SetUpto", spec := "setUpto", apart := false }
def SetUptoSaid : Prop := setUptoRow.holds Try.pinned (OpenSpec.ofChange setUptoSpec)

/-- ITS FALSE NEIGHBOUR: 'it returns false'. Refute it at one input. -/
def setUptoWrong : ChangeSpec := { name := "setUpto", fn := fun _ => fun
  | [d1, d2] => { results := [.lit (.bool false)], args := [d1, d2] }
  | _ => none }
def SetUptoWrongFalsely : Prop := setUptoRow.holds Try.pinned (OpenSpec.ofChange setUptoWrong)

/- THE SECOND FORM. 'bulk': how many values and letters a reading holds, each counted each time it is reached (what is shared counts as often as it is met; a slice's spare places count too). A statement '..UptoSaid' is the law's where the arguments, and the package variables that the reading takes, are together of bulk at most 1048576: NARROWER than '..Said'. Prove '..Said' where nothing that the law and all that it calls make is longer than what came in: it says more and counts as full. Else prove '..UptoSaid'. A law counts once. -/
mutual
def uptoBulk {H : Type} : DataW H → Nat
  | .lit (.string bytes) => bytes.length + 1
  | .lit _ => 1
  | .nil => 1
  | .ptr d => uptoBulk d + 1
  | .slice elems spare => uptoBulkAll elems + uptoBulkAll spare + 1
  | .agg parts => uptoBulkAll parts + 1
  | .iface _ d => uptoBulk d + 1
  | .map entries => uptoBulkEntries entries + 1
  | .held _ => 1
def uptoBulkAll {H : Type} : List (DataW H) → Nat
  | [] => 0
  | d :: r => uptoBulk d + uptoBulkAll r
def uptoBulkEntries {H : Type} : List (Lit × DataW H) → Nat
  | [] => 0
  | x :: r => uptoBulkEntry x + uptoBulkEntries r
def uptoBulkEntry {H : Type} : Lit × DataW H → Nat
  | (.string bytes, d) => bytes.length + uptoBulk d + 1
  | (_, d) => uptoBulk d + 1
 end
def uptoSmall : (H : Type) → List (DataW H) → Bool := fun _ ds => decide (uptoBulkAll ds ≤ 1048576)
def OpenSpec.upto (s : _root_.Go.ChangeSpec) : _root_.Go.OpenSpec := { _root_.Go.OpenSpec.ofChange s with cond := some uptoSmall }

/-- 'haulierlaw02.SetMakes', WHERE WHAT IT READS IS OF BULK AT MOST 1048576: true; the input reads as it did. -/
def setMakesUptoRow : OpenClaim := { program := "ytbpledppckmclaa", sum := "6b76833a0b1745448ef5f8dc9dfb63d35f83f8df00dac43e3b11ee8eb283fb9f", func := "haulier/haulierlaw02.SetMakes", spec := "setMakes", apart := false, narrowed := true }
def SetMakesUptoSaid : Prop := setMakesUptoRow.holds Try.pinned (OpenSpec.upto setMakesSpec)

/-- 'haulierlaw02.SetBack', WHERE WHAT IT READS IS OF BULK AT MOST 1048576: true; the input reads as it did. -/
def setBackUptoRow : OpenClaim := { program := "ytbpledppckmclaa", sum := "6b76833a0b1745448ef5f8dc9dfb63d35f83f8df00dac43e3b11ee8eb283fb9f", func := "haulier/haulierlaw02.SetBack", spec := "setBack", apart := false, narrowed := true }
def SetBackUptoSaid : Prop := setBackUptoRow.holds Try.pinned (OpenSpec.upto setBackSpec)

/-- 'haulierlaw02.SetOrder', WHERE WHAT IT READS IS OF BULK AT MOST 1048576: true; the input reads as it did. -/
def setOrderUptoRow : OpenClaim := { program := "ytbpledppckmclaa", sum := "6b76833a0b1745448ef5f8dc9dfb63d35f83f8df00dac43e3b11ee8eb283fb9f", func := "haulier/haulierlaw02.SetOrder", spec := "setOrder", apart := false, narrowed := true }
def SetOrderUptoSaid : Prop := setOrderUptoRow.holds Try.pinned (OpenSpec.upto setOrderSpec)

/-- 'haulierlaw02.SetShifts', WHERE WHAT IT READS IS OF BULK AT MOST 1048576: true; the input reads as it did. -/
def setShiftsUptoRow : OpenClaim := { program := "ytbpledppckmclaa", sum := "6b76833a0b1745448ef5f8dc9dfb63d35f83f8df00dac43e3b11ee8eb283fb9f", func := "haulier/haulierlaw02.SetShifts", spec := "setShifts", apart := false, narrowed := true }
def SetShiftsUptoSaid : Prop := setShiftsUptoRow.holds Try.pinned (OpenSpec.upto setShiftsSpec)

/-- 'haulierlaw02.SetLaws', WHERE WHAT IT READS IS OF BULK AT MOST 1048576: true; the input reads as it did. -/
def setLawsUptoRow : OpenClaim := { program := "ytbpledppckmclaa", sum := "6b76833a0b1745448ef5f8dc9dfb63d35f83f8df00dac43e3b11ee8eb283fb9f", func := "haulier/haulierlaw02.SetLaws", spec := "setLaws", apart := false, narrowed := true }
def SetLawsUptoSaid : Prop := setLawsUptoRow.holds Try.pinned (OpenSpec.upto setLawsSpec)

/-- 'haulierlaw02.SetUpto', WHERE WHAT IT READS IS OF BULK AT MOST 1048576: true; the input reads as it did. -/
def setUptoUptoRow : OpenClaim := { program := "ytbpledppckmclaa", sum := "6b76833a0b1745448ef5f8dc9dfb63d35f83f8df00dac43e3b11ee8eb283fb9f", func := "haulier/haulierlaw02.SetUpto", spec := "setUpto", apart := false, narrowed := true }
def SetUptoUptoSaid : Prop := setUptoUptoRow.holds Try.pinned (OpenSpec.upto setUptoSpec)

end Rows
end Go.Proofs.Ytbpledppckmclaa
