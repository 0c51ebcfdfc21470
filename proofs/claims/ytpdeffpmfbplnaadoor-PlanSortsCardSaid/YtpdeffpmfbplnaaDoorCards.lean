/-
  DERIVED. GIVEN WITH THE SEED: THE CARDS: each row of YtpdeffpmfbplnaaDoorRows.lean that lists a variable, with what it lists TIED to the program's text (the seventh form; the later family's looks); each row that meets fmt, with fmt's text TOLD by the authors' own Lean function (tested against real Go, not proved from fmt's source: count such statements apart). THE CARD IS WHAT COUNTS. Prove the row's statement (the work); the ties are given (YtpdeffpmfbplnaaDoorTie.lean); close each card by the builder's one call (the guide's Derived/Test/ToyasCard.lean, 'card_holds'). Laid BY PROGRAM, IN A SANDBOX (cutbox-door.mjs). By AI agents, Wed Nov 11 2026. No macro, syntax, notation, axiom, sorry.
-/
import Derived.Test.YtpdeffpmfbplnaaDoorRows
import GoSem.ClaimSeven
namespace Go.Proofs.YtpdeffpmfbplnaaDoor
namespace Rows

/-- THE TIED CARD OF 'haulierlaw08.PlanCosts'. -/
def planCostsCard : Claim7 := { stood := { row := planCostsRow, standIns := [], harness := (true, "fbb0b5fc3b7f20bf07f375be6d76d55138f3ed7f8b704a3b386f47b8f026b02f"), looks := false }, kinds := [], alts := [], laidByText := true, laidKinds := [.data, .data, .data], laidTests := true, laidLooks := .later }
def PlanCostsCardSaid : Prop := Claim7.holds Tryd.pinned (.plain (OpenSpec.ofChange planCostsSpec)) planCostsCard

/-- THE TIED CARD OF 'haulierlaw08.PlanTexts'. -/
def planTextsCard : Claim7 := { stood := { row := planTextsRow, standIns := [], harness := (true, "fbb0b5fc3b7f20bf07f375be6d76d55138f3ed7f8b704a3b386f47b8f026b02f"), looks := false }, kinds := [], alts := [], laidByText := true, laidKinds := [.data, .data, .data], laidTests := true, laidLooks := .later }
def PlanTextsCardSaid : Prop := Claim7.holds Tryd.pinned (.plain (OpenSpec.ofChange planTextsSpec)) planTextsCard

/-- THE TIED CARD OF 'haulierlaw08.PlanBack'. -/
def planBackCard : Claim7 := { stood := { row := planBackRow, standIns := [], harness := (true, "fbb0b5fc3b7f20bf07f375be6d76d55138f3ed7f8b704a3b386f47b8f026b02f"), looks := false }, kinds := [], alts := [], laidByText := true, laidKinds := [.data, .data, .data], laidTests := true, laidLooks := .later }
def PlanBackCardSaid : Prop := Claim7.holds Tryd.pinned (.plain (OpenSpec.ofChange planBackSpec)) planBackCard

/-- THE TIED CARD OF 'haulierlaw08.PlanOrder'. -/
def planOrderCard : Claim7 := { stood := { row := planOrderRow, standIns := [], harness := (true, "fbb0b5fc3b7f20bf07f375be6d76d55138f3ed7f8b704a3b386f47b8f026b02f"), looks := false }, kinds := [], alts := [], laidByText := true, laidKinds := [.data, .data, .data], laidTests := true, laidLooks := .later }
def PlanOrderCardSaid : Prop := Claim7.holds Tryd.pinned (.plain (OpenSpec.ofChange planOrderSpec)) planOrderCard

/-- THE TIED CARD OF 'haulierlaw08.PlanWhole'. -/
def planWholeCard : Claim7 := { stood := { row := planWholeRow, standIns := [], harness := (true, "fbb0b5fc3b7f20bf07f375be6d76d55138f3ed7f8b704a3b386f47b8f026b02f"), looks := false }, kinds := [], alts := [], laidByText := true, laidKinds := [.data, .data, .data], laidTests := true, laidLooks := .later }
def PlanWholeCardSaid : Prop := Claim7.holds Tryd.pinned (.plain (OpenSpec.ofChange planWholeSpec)) planWholeCard

/-- THE TIED CARD OF 'haulierlaw08.PlanSplit'. -/
def planSplitCard : Claim7 := { stood := { row := planSplitRow, standIns := [], harness := (true, "fbb0b5fc3b7f20bf07f375be6d76d55138f3ed7f8b704a3b386f47b8f026b02f"), looks := false }, kinds := [], alts := [], laidByText := true, laidKinds := [.data, .data, .data], laidTests := true, laidLooks := .later }
def PlanSplitCardSaid : Prop := Claim7.holds Tryd.pinned (.plain (OpenSpec.ofChange planSplitSpec)) planSplitCard

/-- THE TIED CARD OF 'haulierlaw08.PlanSorts'. -/
def planSortsCard : Claim7 := { stood := { row := planSortsRow, standIns := [], harness := (true, "fbb0b5fc3b7f20bf07f375be6d76d55138f3ed7f8b704a3b386f47b8f026b02f"), looks := false }, kinds := [], alts := [], laidByText := true, laidKinds := [.data, .data, .data], laidTests := true, laidLooks := .later }
def PlanSortsCardSaid : Prop := Claim7.holds Tryd.pinned (.plain (OpenSpec.ofChange planSortsSpec)) planSortsCard

/-- THE SECOND FORM's CARD OF 'haulierlaw08.PlanCosts'. -/
def planCostsUptoCard : Claim7 := { stood := { row := planCostsUptoRow, standIns := [], harness := (true, "fbb0b5fc3b7f20bf07f375be6d76d55138f3ed7f8b704a3b386f47b8f026b02f"), looks := false }, kinds := [], alts := [], laidByText := true, laidKinds := [.data, .data, .data], laidTests := true, laidLooks := .later }
def PlanCostsUptoCardSaid : Prop := Claim7.holds Tryd.pinned (.plain (OpenSpec.upto planCostsSpec)) planCostsUptoCard

/-- THE SECOND FORM's CARD OF 'haulierlaw08.PlanTexts'. -/
def planTextsUptoCard : Claim7 := { stood := { row := planTextsUptoRow, standIns := [], harness := (true, "fbb0b5fc3b7f20bf07f375be6d76d55138f3ed7f8b704a3b386f47b8f026b02f"), looks := false }, kinds := [], alts := [], laidByText := true, laidKinds := [.data, .data, .data], laidTests := true, laidLooks := .later }
def PlanTextsUptoCardSaid : Prop := Claim7.holds Tryd.pinned (.plain (OpenSpec.upto planTextsSpec)) planTextsUptoCard

/-- THE SECOND FORM's CARD OF 'haulierlaw08.PlanBack'. -/
def planBackUptoCard : Claim7 := { stood := { row := planBackUptoRow, standIns := [], harness := (true, "fbb0b5fc3b7f20bf07f375be6d76d55138f3ed7f8b704a3b386f47b8f026b02f"), looks := false }, kinds := [], alts := [], laidByText := true, laidKinds := [.data, .data, .data], laidTests := true, laidLooks := .later }
def PlanBackUptoCardSaid : Prop := Claim7.holds Tryd.pinned (.plain (OpenSpec.upto planBackSpec)) planBackUptoCard

/-- THE SECOND FORM's CARD OF 'haulierlaw08.PlanOrder'. -/
def planOrderUptoCard : Claim7 := { stood := { row := planOrderUptoRow, standIns := [], harness := (true, "fbb0b5fc3b7f20bf07f375be6d76d55138f3ed7f8b704a3b386f47b8f026b02f"), looks := false }, kinds := [], alts := [], laidByText := true, laidKinds := [.data, .data, .data], laidTests := true, laidLooks := .later }
def PlanOrderUptoCardSaid : Prop := Claim7.holds Tryd.pinned (.plain (OpenSpec.upto planOrderSpec)) planOrderUptoCard

/-- THE SECOND FORM's CARD OF 'haulierlaw08.PlanWhole'. -/
def planWholeUptoCard : Claim7 := { stood := { row := planWholeUptoRow, standIns := [], harness := (true, "fbb0b5fc3b7f20bf07f375be6d76d55138f3ed7f8b704a3b386f47b8f026b02f"), looks := false }, kinds := [], alts := [], laidByText := true, laidKinds := [.data, .data, .data], laidTests := true, laidLooks := .later }
def PlanWholeUptoCardSaid : Prop := Claim7.holds Tryd.pinned (.plain (OpenSpec.upto planWholeSpec)) planWholeUptoCard

/-- THE SECOND FORM's CARD OF 'haulierlaw08.PlanSplit'. -/
def planSplitUptoCard : Claim7 := { stood := { row := planSplitUptoRow, standIns := [], harness := (true, "fbb0b5fc3b7f20bf07f375be6d76d55138f3ed7f8b704a3b386f47b8f026b02f"), looks := false }, kinds := [], alts := [], laidByText := true, laidKinds := [.data, .data, .data], laidTests := true, laidLooks := .later }
def PlanSplitUptoCardSaid : Prop := Claim7.holds Tryd.pinned (.plain (OpenSpec.upto planSplitSpec)) planSplitUptoCard

/-- THE SECOND FORM's CARD OF 'haulierlaw08.PlanSorts'. -/
def planSortsUptoCard : Claim7 := { stood := { row := planSortsUptoRow, standIns := [], harness := (true, "fbb0b5fc3b7f20bf07f375be6d76d55138f3ed7f8b704a3b386f47b8f026b02f"), looks := false }, kinds := [], alts := [], laidByText := true, laidKinds := [.data, .data, .data], laidTests := true, laidLooks := .later }
def PlanSortsUptoCardSaid : Prop := Claim7.holds Tryd.pinned (.plain (OpenSpec.upto planSortsSpec)) planSortsUptoCard
end Rows
end Go.Proofs.YtpdeffpmfbplnaaDoor
