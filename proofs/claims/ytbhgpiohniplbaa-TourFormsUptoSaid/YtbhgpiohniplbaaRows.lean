/-
  No cell of these rows narrows 'for every input' (looked for: loops, veiled, ifaces, maps, wideKeys, modest, calm, conditions, laid).
  DERIVED. THE GIVEN ROWS OF THIS SEAT. 6 by the template 'for every input the law returns true; each argument reads behind the call as it read before'; 0 by the template 'total and deterministic' (their statements: YtbhgpiohniplbaaTotals.lean).
  GIVEN WITH THE SEED: the statements are not yours to turn. If you find one false, say at which input.
  Laid BY PROGRAM, IN A SANDBOX (cutbox-rows.mjs): the forced cells as the released guide's own fill.sh prints them over the translation 58f579e8fb3c5941… (all of the seat's roots in one cut). By AI agents, Wed Nov 11 2026. No macro, syntax, notation, axiom, sorry.
-/
import Derived.Test.YtbhgpiohniplbaaChecked
import GoSem.Claim
import GoSem.ClaimJoined
import GoSem.ClaimMapViews
import Derived.JoinedTies
import Derived.KernelRfl
namespace Go.Proofs.Ytbhgpiohniplbaa
/- THE CELL 'sum', in the pinned program and in every row, IS THE sha256 OF THE DUMP (.gsa) THAT YtbhgpiohniplbaaProg.lean LOADS. Nothing in Lean hashes anything: it is a label: what it is worth is what the hold of that sum in a sandbox is worth. -/
noncomputable def Try.pinned : Pinned := { name := "ytbhgpiohniplbaa", sum := "58f579e8fb3c5941558c897ca752338276c001df30d841a0dc1af6d444e15f2e", checked := Try.checked }
namespace Rows
def none {H : Type} : Left H := { results := [], args := [] }

/-- 'haulierlaw09.TourJoins': WHATEVER THE INPUT: true; the input reads as it did. -/
def tourJoinsSpec : ChangeSpec := { name := "tourJoins", fn := fun _ => fun
  | [d] => { results := [.lit (.bool true)], args := [d] }
  | _ => none }
def tourJoinsRow : OpenClaim := { program := "ytbhgpiohniplbaa", sum := "58f579e8fb3c5941558c897ca752338276c001df30d841a0dc1af6d444e15f2e", func := "haulier/haulierlaw09.TourJoins", spec := "tourJoins", unfollowed := true, recurses := true, apart := false }
def TourJoinsSaid : Prop := tourJoinsRow.holds Try.pinned (OpenSpec.ofChange tourJoinsSpec)

/-- ITS FALSE NEIGHBOUR: 'it returns false'. Refute it at one input. -/
def tourJoinsWrong : ChangeSpec := { name := "tourJoins", fn := fun _ => fun
  | [d] => { results := [.lit (.bool false)], args := [d] }
  | _ => none }
def TourJoinsWrongFalsely : Prop := tourJoinsRow.holds Try.pinned (OpenSpec.ofChange tourJoinsWrong)

/-- 'haulierlaw09.TourSplits': WHATEVER THE INPUT: true; the input reads as it did. -/
def tourSplitsSpec : ChangeSpec := { name := "tourSplits", fn := fun _ => fun
  | [d] => { results := [.lit (.bool true)], args := [d] }
  | _ => none }
def tourSplitsRow : OpenClaim := { program := "ytbhgpiohniplbaa", sum := "58f579e8fb3c5941558c897ca752338276c001df30d841a0dc1af6d444e15f2e", func := "haulier/haulierlaw09.TourSplits", spec := "tourSplits", unfollowed := true, recurses := true, apart := false }
def TourSplitsSaid : Prop := tourSplitsRow.holds Try.pinned (OpenSpec.ofChange tourSplitsSpec)

/-- ITS FALSE NEIGHBOUR: 'it returns false'. Refute it at one input. -/
def tourSplitsWrong : ChangeSpec := { name := "tourSplits", fn := fun _ => fun
  | [d] => { results := [.lit (.bool false)], args := [d] }
  | _ => none }
def TourSplitsWrongFalsely : Prop := tourSplitsRow.holds Try.pinned (OpenSpec.ofChange tourSplitsWrong)

/-- 'haulierlaw09.TourBack': WHATEVER THE INPUT: true; the input reads as it did. -/
def tourBackSpec : ChangeSpec := { name := "tourBack", fn := fun _ => fun
  | [d] => { results := [.lit (.bool true)], args := [d] }
  | _ => none }
def tourBackRow : OpenClaim := { program := "ytbhgpiohniplbaa", sum := "58f579e8fb3c5941558c897ca752338276c001df30d841a0dc1af6d444e15f2e", func := "haulier/haulierlaw09.TourBack", spec := "tourBack", unfollowed := true, recurses := true, apart := false }
def TourBackSaid : Prop := tourBackRow.holds Try.pinned (OpenSpec.ofChange tourBackSpec)

/-- ITS FALSE NEIGHBOUR: 'it returns false'. Refute it at one input. -/
def tourBackWrong : ChangeSpec := { name := "tourBack", fn := fun _ => fun
  | [d] => { results := [.lit (.bool false)], args := [d] }
  | _ => none }
def TourBackWrongFalsely : Prop := tourBackRow.holds Try.pinned (OpenSpec.ofChange tourBackWrong)

/-- 'haulierlaw09.TourPlans': WHATEVER THE INPUT: true; the input reads as it did. -/
def tourPlansSpec : ChangeSpec := { name := "tourPlans", fn := fun _ => fun
  | [d] => { results := [.lit (.bool true)], args := [d] }
  | _ => none }
def tourPlansRow : OpenClaim := { program := "ytbhgpiohniplbaa", sum := "58f579e8fb3c5941558c897ca752338276c001df30d841a0dc1af6d444e15f2e", func := "haulier/haulierlaw09.TourPlans", spec := "tourPlans", unfollowed := true, recurses := true, apart := false }
def TourPlansSaid : Prop := tourPlansRow.holds Try.pinned (OpenSpec.ofChange tourPlansSpec)

/-- ITS FALSE NEIGHBOUR: 'it returns false'. Refute it at one input. -/
def tourPlansWrong : ChangeSpec := { name := "tourPlans", fn := fun _ => fun
  | [d] => { results := [.lit (.bool false)], args := [d] }
  | _ => none }
def TourPlansWrongFalsely : Prop := tourPlansRow.holds Try.pinned (OpenSpec.ofChange tourPlansWrong)

/-- 'haulierlaw09.TourLong': WHATEVER THE INPUT: true; the input reads as it did. -/
def tourLongSpec : ChangeSpec := { name := "tourLong", fn := fun _ => fun
  | [d] => { results := [.lit (.bool true)], args := [d] }
  | _ => none }
def tourLongRow : OpenClaim := { program := "ytbhgpiohniplbaa", sum := "58f579e8fb3c5941558c897ca752338276c001df30d841a0dc1af6d444e15f2e", func := "haulier/haulierlaw09.TourLong", spec := "tourLong", unfollowed := true, recurses := true, apart := false }
def TourLongSaid : Prop := tourLongRow.holds Try.pinned (OpenSpec.ofChange tourLongSpec)

/-- ITS FALSE NEIGHBOUR: 'it returns false'. Refute it at one input. -/
def tourLongWrong : ChangeSpec := { name := "tourLong", fn := fun _ => fun
  | [d] => { results := [.lit (.bool false)], args := [d] }
  | _ => none }
def TourLongWrongFalsely : Prop := tourLongRow.holds Try.pinned (OpenSpec.ofChange tourLongWrong)

/-- 'haulierlaw09.TourForms': WHATEVER THE INPUT: true; the input reads as it did. -/
def tourFormsSpec : ChangeSpec := { name := "tourForms", fn := fun _ => fun
  | [d1, d2] => { results := [.lit (.bool true)], args := [d1, d2] }
  | _ => none }
def tourFormsRow : OpenClaim := { program := "ytbhgpiohniplbaa", sum := "58f579e8fb3c5941558c897ca752338276c001df30d841a0dc1af6d444e15f2e", func := "haulier/haulierlaw09.TourForms", spec := "tourForms", unfollowed := true, recurses := true, apart := false }
def TourFormsSaid : Prop := tourFormsRow.holds Try.pinned (OpenSpec.ofChange tourFormsSpec)

/-- ITS FALSE NEIGHBOUR: 'it returns false'. Refute it at one input. -/
def tourFormsWrong : ChangeSpec := { name := "tourForms", fn := fun _ => fun
  | [d1, d2] => { results := [.lit (.bool false)], args := [d1, d2] }
  | _ => none }
def TourFormsWrongFalsely : Prop := tourFormsRow.holds Try.pinned (OpenSpec.ofChange tourFormsWrong)

/- THE SECOND FORM. 'bulk': how many values and letters a reading holds, each counted each time it is reached (what is shared counts as often as it is met; a slice's spare places count too). A statement '..UptoSaid' is the law's where the arguments, and the package variables that the reading takes, are together of bulk at most 1048576: NARROWER than '..Said'. Prove '..Said' where nothing that the law and all that it calls make is longer than what came in: it says more and counts as full. Else prove '..UptoSaid'. A law counts once. -/
mutual
def uptoBulk {H : Type} : DataW H → Nat
  | .lit (.string bytes) => bytes.length + 1
  | .lit _ => 1
  | .nil => 1
  | .ptr d => uptoBulk d + 1
  | .slice elems spare => uptoBulkAll elems + uptoBulkAll spare + 1
  | .agg parts => uptoBulkAll parts + 1
  | .iface _ d => uptoBulk d + 1
  | .map entries => uptoBulkEntries entries + 1
  | .held _ => 1
def uptoBulkAll {H : Type} : List (DataW H) → Nat
  | [] => 0
  | d :: r => uptoBulk d + uptoBulkAll r
def uptoBulkEntries {H : Type} : List (Lit × DataW H) → Nat
  | [] => 0
  | x :: r => uptoBulkEntry x + uptoBulkEntries r
def uptoBulkEntry {H : Type} : Lit × DataW H → Nat
  | (.string bytes, d) => bytes.length + uptoBulk d + 1
  | (_, d) => uptoBulk d + 1
 end
def uptoSmall : (H : Type) → List (DataW H) → Bool := fun _ ds => decide (uptoBulkAll ds ≤ 1048576)
def OpenSpec.upto (s : _root_.Go.ChangeSpec) : _root_.Go.OpenSpec := { _root_.Go.OpenSpec.ofChange s with cond := some uptoSmall }

/-- 'haulierlaw09.TourJoins', WHERE WHAT IT READS IS OF BULK AT MOST 1048576: true; the input reads as it did. -/
def tourJoinsUptoRow : OpenClaim := { program := "ytbhgpiohniplbaa", sum := "58f579e8fb3c5941558c897ca752338276c001df30d841a0dc1af6d444e15f2e", func := "haulier/haulierlaw09.TourJoins", spec := "tourJoins", unfollowed := true, recurses := true, apart := false, narrowed := true }
def TourJoinsUptoSaid : Prop := tourJoinsUptoRow.holds Try.pinned (OpenSpec.upto tourJoinsSpec)

/-- 'haulierlaw09.TourSplits', WHERE WHAT IT READS IS OF BULK AT MOST 1048576: true; the input reads as it did. -/
def tourSplitsUptoRow : OpenClaim := { program := "ytbhgpiohniplbaa", sum := "58f579e8fb3c5941558c897ca752338276c001df30d841a0dc1af6d444e15f2e", func := "haulier/haulierlaw09.TourSplits", spec := "tourSplits", unfollowed := true, recurses := true, apart := false, narrowed := true }
def TourSplitsUptoSaid : Prop := tourSplitsUptoRow.holds Try.pinned (OpenSpec.upto tourSplitsSpec)

/-- 'haulierlaw09.TourBack', WHERE WHAT IT READS IS OF BULK AT MOST 1048576: true; the input reads as it did. -/
def tourBackUptoRow : OpenClaim := { program := "ytbhgpiohniplbaa", sum := "58f579e8fb3c5941558c897ca752338276c001df30d841a0dc1af6d444e15f2e", func := "haulier/haulierlaw09.TourBack", spec := "tourBack", unfollowed := true, recurses := true, apart := false, narrowed := true }
def TourBackUptoSaid : Prop := tourBackUptoRow.holds Try.pinned (OpenSpec.upto tourBackSpec)

/-- 'haulierlaw09.TourPlans', WHERE WHAT IT READS IS OF BULK AT MOST 1048576: true; the input reads as it did. -/
def tourPlansUptoRow : OpenClaim := { program := "ytbhgpiohniplbaa", sum := "58f579e8fb3c5941558c897ca752338276c001df30d841a0dc1af6d444e15f2e", func := "haulier/haulierlaw09.TourPlans", spec := "tourPlans", unfollowed := true, recurses := true, apart := false, narrowed := true }
def TourPlansUptoSaid : Prop := tourPlansUptoRow.holds Try.pinned (OpenSpec.upto tourPlansSpec)

/-- 'haulierlaw09.TourLong', WHERE WHAT IT READS IS OF BULK AT MOST 1048576: true; the input reads as it did. -/
def tourLongUptoRow : OpenClaim := { program := "ytbhgpiohniplbaa", sum := "58f579e8fb3c5941558c897ca752338276c001df30d841a0dc1af6d444e15f2e", func := "haulier/haulierlaw09.TourLong", spec := "tourLong", unfollowed := true, recurses := true, apart := false, narrowed := true }
def TourLongUptoSaid : Prop := tourLongUptoRow.holds Try.pinned (OpenSpec.upto tourLongSpec)

/-- 'haulierlaw09.TourForms', WHERE WHAT IT READS IS OF BULK AT MOST 1048576: true; the input reads as it did. -/
def tourFormsUptoRow : OpenClaim := { program := "ytbhgpiohniplbaa", sum := "58f579e8fb3c5941558c897ca752338276c001df30d841a0dc1af6d444e15f2e", func := "haulier/haulierlaw09.TourForms", spec := "tourForms", unfollowed := true, recurses := true, apart := false, narrowed := true }
def TourFormsUptoSaid : Prop := tourFormsUptoRow.holds Try.pinned (OpenSpec.upto tourFormsSpec)

end Rows
end Go.Proofs.Ytbhgpiohniplbaa
