/-
  No cell of these rows narrows 'for every input' (looked for: loops, veiled, ifaces, maps, wideKeys, modest, calm, conditions, laid).
  DERIVED. THE GIVEN ROWS OF THIS SEAT. 10 by the template 'for every input the law returns true; each argument reads behind the call as it read before'; 0 by the template 'total and deterministic' (their statements: YtaaljploegiihaaTotals.lean).
  GIVEN WITH THE SEED: the statements are not yours to turn. If you find one false, say at which input.
  Laid BY PROGRAM, IN A SANDBOX (cutbox-rows.mjs): the forced cells as the released guide's own fill.sh prints them over the translation 7d51a1ac1eef9736… (all of the seat's roots in one cut). By AI agents, Wed Nov 11 2026. No macro, syntax, notation, axiom, sorry.
-/
import Derived.Test.YtaaljploegiihaaChecked
import GoSem.Claim
import GoSem.ClaimJoined
import GoSem.ClaimMapViews
import Derived.JoinedTies
import Derived.KernelRfl
namespace Go.Proofs.Ytaaljploegiihaa
/- THE CELL 'sum', in the pinned program and in every row, IS THE sha256 OF THE DUMP (.gsa) THAT YtaaljploegiihaaProg.lean LOADS. Nothing in Lean hashes anything: it is a label: what it is worth is what the hold of that sum in a sandbox is worth. -/
noncomputable def Try.pinned : Pinned := { name := "ytaaljploegiihaa", sum := "7d51a1ac1eef9736350fc5e1723f3f5d30922a65c2f4748cf3417b046405cc66", checked := Try.checked }
namespace Rows
def none {H : Type} : Left H := { results := [], args := [] }

/-- 'haulierlaw12.BoundTells': WHATEVER THE INPUT: true; the input reads as it did. -/
def boundTellsSpec : ChangeSpec := { name := "boundTells", fn := fun _ => fun
  | [d1, d2] => { results := [.lit (.bool true)], args := [d1, d2] }
  | _ => none }
def boundTellsRow : OpenClaim := { program := "ytaaljploegiihaa", sum := "7d51a1ac1eef9736350fc5e1723f3f5d30922a65c2f4748cf3417b046405cc66", func := "haulier/haulierlaw12.BoundTells", spec := "boundTells", unfollowed := true, recurses := true, plainKeys := false, apart := false }
def BoundTellsSaid : Prop := boundTellsRow.holds Try.pinned (OpenSpec.ofChange boundTellsSpec)

/-- ITS FALSE NEIGHBOUR: 'it returns false'. Refute it at one input. -/
def boundTellsWrong : ChangeSpec := { name := "boundTells", fn := fun _ => fun
  | [d1, d2] => { results := [.lit (.bool false)], args := [d1, d2] }
  | _ => none }
def BoundTellsWrongFalsely : Prop := boundTellsRow.holds Try.pinned (OpenSpec.ofChange boundTellsWrong)

/-- 'haulierlaw12.BoundSteps': WHATEVER THE INPUT: true; the input reads as it did. -/
def boundStepsSpec : ChangeSpec := { name := "boundSteps", fn := fun _ => fun
  | [d1, d2] => { results := [.lit (.bool true)], args := [d1, d2] }
  | _ => none }
def boundStepsRow : OpenClaim := { program := "ytaaljploegiihaa", sum := "7d51a1ac1eef9736350fc5e1723f3f5d30922a65c2f4748cf3417b046405cc66", func := "haulier/haulierlaw12.BoundSteps", spec := "boundSteps", unfollowed := true, recurses := true, plainKeys := false, apart := false }
def BoundStepsSaid : Prop := boundStepsRow.holds Try.pinned (OpenSpec.ofChange boundStepsSpec)

/-- ITS FALSE NEIGHBOUR: 'it returns false'. Refute it at one input. -/
def boundStepsWrong : ChangeSpec := { name := "boundSteps", fn := fun _ => fun
  | [d1, d2] => { results := [.lit (.bool false)], args := [d1, d2] }
  | _ => none }
def BoundStepsWrongFalsely : Prop := boundStepsRow.holds Try.pinned (OpenSpec.ofChange boundStepsWrong)

/-- 'haulierlaw12.BoundWays': WHATEVER THE INPUT: true; the input reads as it did. -/
def boundWaysSpec : ChangeSpec := { name := "boundWays", fn := fun _ => fun
  | [d1, d2, d3] => { results := [.lit (.bool true)], args := [d1, d2, d3] }
  | _ => none }
def boundWaysRow : OpenClaim := { program := "ytaaljploegiihaa", sum := "7d51a1ac1eef9736350fc5e1723f3f5d30922a65c2f4748cf3417b046405cc66", func := "haulier/haulierlaw12.BoundWays", spec := "boundWays", unfollowed := true, recurses := true, plainKeys := false, apart := false }
def BoundWaysSaid : Prop := boundWaysRow.holds Try.pinned (OpenSpec.ofChange boundWaysSpec)

/-- ITS FALSE NEIGHBOUR: 'it returns false'. Refute it at one input. -/
def boundWaysWrong : ChangeSpec := { name := "boundWays", fn := fun _ => fun
  | [d1, d2, d3] => { results := [.lit (.bool false)], args := [d1, d2, d3] }
  | _ => none }
def BoundWaysWrongFalsely : Prop := boundWaysRow.holds Try.pinned (OpenSpec.ofChange boundWaysWrong)

/-- 'haulierlaw12.BoundCovers': WHATEVER THE INPUT: true; the input reads as it did. -/
def boundCoversSpec : ChangeSpec := { name := "boundCovers", fn := fun _ => fun
  | [d1, d2, d3] => { results := [.lit (.bool true)], args := [d1, d2, d3] }
  | _ => none }
def boundCoversRow : OpenClaim := { program := "ytaaljploegiihaa", sum := "7d51a1ac1eef9736350fc5e1723f3f5d30922a65c2f4748cf3417b046405cc66", func := "haulier/haulierlaw12.BoundCovers", spec := "boundCovers", unfollowed := true, recurses := true, plainKeys := false, apart := false }
def BoundCoversSaid : Prop := boundCoversRow.holds Try.pinned (OpenSpec.ofChange boundCoversSpec)

/-- ITS FALSE NEIGHBOUR: 'it returns false'. Refute it at one input. -/
def boundCoversWrong : ChangeSpec := { name := "boundCovers", fn := fun _ => fun
  | [d1, d2, d3] => { results := [.lit (.bool false)], args := [d1, d2, d3] }
  | _ => none }
def BoundCoversWrongFalsely : Prop := boundCoversRow.holds Try.pinned (OpenSpec.ofChange boundCoversWrong)

/-- 'haulierlaw12.BoundLess': WHATEVER THE INPUT: true; the input reads as it did. -/
def boundLessSpec : ChangeSpec := { name := "boundLess", fn := fun _ => fun
  | [d1, d2, d3] => { results := [.lit (.bool true)], args := [d1, d2, d3] }
  | _ => none }
def boundLessRow : OpenClaim := { program := "ytaaljploegiihaa", sum := "7d51a1ac1eef9736350fc5e1723f3f5d30922a65c2f4748cf3417b046405cc66", func := "haulier/haulierlaw12.BoundLess", spec := "boundLess", unfollowed := true, recurses := true, plainKeys := false, apart := false }
def BoundLessSaid : Prop := boundLessRow.holds Try.pinned (OpenSpec.ofChange boundLessSpec)

/-- ITS FALSE NEIGHBOUR: 'it returns false'. Refute it at one input. -/
def boundLessWrong : ChangeSpec := { name := "boundLess", fn := fun _ => fun
  | [d1, d2, d3] => { results := [.lit (.bool false)], args := [d1, d2, d3] }
  | _ => none }
def BoundLessWrongFalsely : Prop := boundLessRow.holds Try.pinned (OpenSpec.ofChange boundLessWrong)

/-- 'haulierlaw13.BetterWays': WHATEVER THE INPUT: true; the input reads as it did. -/
def betterWaysSpec : ChangeSpec := { name := "betterWays", fn := fun _ => fun
  | [d1, d2, d3, d4] => { results := [.lit (.bool true)], args := [d1, d2, d3, d4] }
  | _ => none }
def betterWaysRow : OpenClaim := { program := "ytaaljploegiihaa", sum := "7d51a1ac1eef9736350fc5e1723f3f5d30922a65c2f4748cf3417b046405cc66", func := "haulier/haulierlaw13.BetterWays", spec := "betterWays", unfollowed := true, recurses := true, plainKeys := false, apart := false }
def BetterWaysSaid : Prop := betterWaysRow.holds Try.pinned (OpenSpec.ofChange betterWaysSpec)

/-- ITS FALSE NEIGHBOUR: 'it returns false'. Refute it at one input. -/
def betterWaysWrong : ChangeSpec := { name := "betterWays", fn := fun _ => fun
  | [d1, d2, d3, d4] => { results := [.lit (.bool false)], args := [d1, d2, d3, d4] }
  | _ => none }
def BetterWaysWrongFalsely : Prop := betterWaysRow.holds Try.pinned (OpenSpec.ofChange betterWaysWrong)

/-- 'haulierlaw15.ExactEvery': WHATEVER THE INPUT: true; the input reads as it did. -/
def exactEverySpec : ChangeSpec := { name := "exactEvery", fn := fun _ => fun
  | [d] => { results := [.lit (.bool true)], args := [d] }
  | _ => none }
def exactEveryRow : OpenClaim := { program := "ytaaljploegiihaa", sum := "7d51a1ac1eef9736350fc5e1723f3f5d30922a65c2f4748cf3417b046405cc66", func := "haulier/haulierlaw15.ExactEvery", spec := "exactEvery", unfollowed := true, recurses := true, plainKeys := false, apart := false }
def ExactEverySaid : Prop := exactEveryRow.holds Try.pinned (OpenSpec.ofChange exactEverySpec)

/-- ITS FALSE NEIGHBOUR: 'it returns false'. Refute it at one input. -/
def exactEveryWrong : ChangeSpec := { name := "exactEvery", fn := fun _ => fun
  | [d] => { results := [.lit (.bool false)], args := [d] }
  | _ => none }
def ExactEveryWrongFalsely : Prop := exactEveryRow.holds Try.pinned (OpenSpec.ofChange exactEveryWrong)

/-- 'haulierlaw15.ExactBound': WHATEVER THE INPUT: true; the input reads as it did. -/
def exactBoundSpec : ChangeSpec := { name := "exactBound", fn := fun _ => fun
  | [d] => { results := [.lit (.bool true)], args := [d] }
  | _ => none }
def exactBoundRow : OpenClaim := { program := "ytaaljploegiihaa", sum := "7d51a1ac1eef9736350fc5e1723f3f5d30922a65c2f4748cf3417b046405cc66", func := "haulier/haulierlaw15.ExactBound", spec := "exactBound", unfollowed := true, recurses := true, plainKeys := false, apart := false }
def ExactBoundSaid : Prop := exactBoundRow.holds Try.pinned (OpenSpec.ofChange exactBoundSpec)

/-- ITS FALSE NEIGHBOUR: 'it returns false'. Refute it at one input. -/
def exactBoundWrong : ChangeSpec := { name := "exactBound", fn := fun _ => fun
  | [d] => { results := [.lit (.bool false)], args := [d] }
  | _ => none }
def ExactBoundWrongFalsely : Prop := exactBoundRow.holds Try.pinned (OpenSpec.ofChange exactBoundWrong)

/-- 'haulierlaw15.ExactSteps': WHATEVER THE INPUT: true; the input reads as it did. -/
def exactStepsSpec : ChangeSpec := { name := "exactSteps", fn := fun _ => fun
  | [d1, d2] => { results := [.lit (.bool true)], args := [d1, d2] }
  | _ => none }
def exactStepsRow : OpenClaim := { program := "ytaaljploegiihaa", sum := "7d51a1ac1eef9736350fc5e1723f3f5d30922a65c2f4748cf3417b046405cc66", func := "haulier/haulierlaw15.ExactSteps", spec := "exactSteps", unfollowed := true, recurses := true, plainKeys := false, apart := false }
def ExactStepsSaid : Prop := exactStepsRow.holds Try.pinned (OpenSpec.ofChange exactStepsSpec)

/-- ITS FALSE NEIGHBOUR: 'it returns false'. Refute it at one input. -/
def exactStepsWrong : ChangeSpec := { name := "exactSteps", fn := fun _ => fun
  | [d1, d2] => { results := [.lit (.bool false)], args := [d1, d2] }
  | _ => none }
def ExactStepsWrongFalsely : Prop := exactStepsRow.holds Try.pinned (OpenSpec.ofChange exactStepsWrong)

/-- 'haulierlaw15.ExactWider': WHATEVER THE INPUT: true; the input reads as it did. -/
def exactWiderSpec : ChangeSpec := { name := "exactWider", fn := fun _ => fun
  | [d1, d2, d3, d4] => { results := [.lit (.bool true)], args := [d1, d2, d3, d4] }
  | _ => none }
def exactWiderRow : OpenClaim := { program := "ytaaljploegiihaa", sum := "7d51a1ac1eef9736350fc5e1723f3f5d30922a65c2f4748cf3417b046405cc66", func := "haulier/haulierlaw15.ExactWider", spec := "exactWider", unfollowed := true, recurses := true, plainKeys := false, apart := false }
def ExactWiderSaid : Prop := exactWiderRow.holds Try.pinned (OpenSpec.ofChange exactWiderSpec)

/-- ITS FALSE NEIGHBOUR: 'it returns false'. Refute it at one input. -/
def exactWiderWrong : ChangeSpec := { name := "exactWider", fn := fun _ => fun
  | [d1, d2, d3, d4] => { results := [.lit (.bool false)], args := [d1, d2, d3, d4] }
  | _ => none }
def ExactWiderWrongFalsely : Prop := exactWiderRow.holds Try.pinned (OpenSpec.ofChange exactWiderWrong)

/- THE SECOND FORM. 'bulk': how many values and letters a reading holds, each counted each time it is reached (what is shared counts as often as it is met; a slice's spare places count too). A statement '..UptoSaid' is the law's where the arguments, and the package variables that the reading takes, are together of bulk at most 1048576: NARROWER than '..Said'. Prove '..Said' where nothing that the law and all that it calls make is longer than what came in: it says more and counts as full. Else prove '..UptoSaid'. A law counts once. -/
mutual
def uptoBulk {H : Type} : DataW H → Nat
  | .lit (.string bytes) => bytes.length + 1
  | .lit _ => 1
  | .nil => 1
  | .ptr d => uptoBulk d + 1
  | .slice elems spare => uptoBulkAll elems + uptoBulkAll spare + 1
  | .agg parts => uptoBulkAll parts + 1
  | .iface _ d => uptoBulk d + 1
  | .map entries => uptoBulkEntries entries + 1
  | .held _ => 1
def uptoBulkAll {H : Type} : List (DataW H) → Nat
  | [] => 0
  | d :: r => uptoBulk d + uptoBulkAll r
def uptoBulkEntries {H : Type} : List (Lit × DataW H) → Nat
  | [] => 0
  | x :: r => uptoBulkEntry x + uptoBulkEntries r
def uptoBulkEntry {H : Type} : Lit × DataW H → Nat
  | (.string bytes, d) => bytes.length + uptoBulk d + 1
  | (_, d) => uptoBulk d + 1
 end
def uptoSmall : (H : Type) → List (DataW H) → Bool := fun _ ds => decide (uptoBulkAll ds ≤ 1048576)
def OpenSpec.upto (s : _root_.Go.ChangeSpec) : _root_.Go.OpenSpec := { _root_.Go.OpenSpec.ofChange s with cond := some uptoSmall }

/-- 'haulierlaw12.BoundTells', WHERE WHAT IT READS IS OF BULK AT MOST 1048576: true; the input reads as it did. -/
def boundTellsUptoRow : OpenClaim := { program := "ytaaljploegiihaa", sum := "7d51a1ac1eef9736350fc5e1723f3f5d30922a65c2f4748cf3417b046405cc66", func := "haulier/haulierlaw12.BoundTells", spec := "boundTells", unfollowed := true, recurses := true, plainKeys := false, apart := false, narrowed := true }
def BoundTellsUptoSaid : Prop := boundTellsUptoRow.holds Try.pinned (OpenSpec.upto boundTellsSpec)

/-- 'haulierlaw12.BoundSteps', WHERE WHAT IT READS IS OF BULK AT MOST 1048576: true; the input reads as it did. -/
def boundStepsUptoRow : OpenClaim := { program := "ytaaljploegiihaa", sum := "7d51a1ac1eef9736350fc5e1723f3f5d30922a65c2f4748cf3417b046405cc66", func := "haulier/haulierlaw12.BoundSteps", spec := "boundSteps", unfollowed := true, recurses := true, plainKeys := false, apart := false, narrowed := true }
def BoundStepsUptoSaid : Prop := boundStepsUptoRow.holds Try.pinned (OpenSpec.upto boundStepsSpec)

/-- 'haulierlaw12.BoundWays', WHERE WHAT IT READS IS OF BULK AT MOST 1048576: true; the input reads as it did. -/
def boundWaysUptoRow : OpenClaim := { program := "ytaaljploegiihaa", sum := "7d51a1ac1eef9736350fc5e1723f3f5d30922a65c2f4748cf3417b046405cc66", func := "haulier/haulierlaw12.BoundWays", spec := "boundWays", unfollowed := true, recurses := true, plainKeys := false, apart := false, narrowed := true }
def BoundWaysUptoSaid : Prop := boundWaysUptoRow.holds Try.pinned (OpenSpec.upto boundWaysSpec)

/-- 'haulierlaw12.BoundCovers', WHERE WHAT IT READS IS OF BULK AT MOST 1048576: true; the input reads as it did. -/
def boundCoversUptoRow : OpenClaim := { program := "ytaaljploegiihaa", sum := "7d51a1ac1eef9736350fc5e1723f3f5d30922a65c2f4748cf3417b046405cc66", func := "haulier/haulierlaw12.BoundCovers", spec := "boundCovers", unfollowed := true, recurses := true, plainKeys := false, apart := false, narrowed := true }
def BoundCoversUptoSaid : Prop := boundCoversUptoRow.holds Try.pinned (OpenSpec.upto boundCoversSpec)

/-- 'haulierlaw12.BoundLess', WHERE WHAT IT READS IS OF BULK AT MOST 1048576: true; the input reads as it did. -/
def boundLessUptoRow : OpenClaim := { program := "ytaaljploegiihaa", sum := "7d51a1ac1eef9736350fc5e1723f3f5d30922a65c2f4748cf3417b046405cc66", func := "haulier/haulierlaw12.BoundLess", spec := "boundLess", unfollowed := true, recurses := true, plainKeys := false, apart := false, narrowed := true }
def BoundLessUptoSaid : Prop := boundLessUptoRow.holds Try.pinned (OpenSpec.upto boundLessSpec)

/-- 'haulierlaw13.BetterWays', WHERE WHAT IT READS IS OF BULK AT MOST 1048576: true; the input reads as it did. -/
def betterWaysUptoRow : OpenClaim := { program := "ytaaljploegiihaa", sum := "7d51a1ac1eef9736350fc5e1723f3f5d30922a65c2f4748cf3417b046405cc66", func := "haulier/haulierlaw13.BetterWays", spec := "betterWays", unfollowed := true, recurses := true, plainKeys := false, apart := false, narrowed := true }
def BetterWaysUptoSaid : Prop := betterWaysUptoRow.holds Try.pinned (OpenSpec.upto betterWaysSpec)

/-- 'haulierlaw15.ExactEvery', WHERE WHAT IT READS IS OF BULK AT MOST 1048576: true; the input reads as it did. -/
def exactEveryUptoRow : OpenClaim := { program := "ytaaljploegiihaa", sum := "7d51a1ac1eef9736350fc5e1723f3f5d30922a65c2f4748cf3417b046405cc66", func := "haulier/haulierlaw15.ExactEvery", spec := "exactEvery", unfollowed := true, recurses := true, plainKeys := false, apart := false, narrowed := true }
def ExactEveryUptoSaid : Prop := exactEveryUptoRow.holds Try.pinned (OpenSpec.upto exactEverySpec)

/-- 'haulierlaw15.ExactBound', WHERE WHAT IT READS IS OF BULK AT MOST 1048576: true; the input reads as it did. -/
def exactBoundUptoRow : OpenClaim := { program := "ytaaljploegiihaa", sum := "7d51a1ac1eef9736350fc5e1723f3f5d30922a65c2f4748cf3417b046405cc66", func := "haulier/haulierlaw15.ExactBound", spec := "exactBound", unfollowed := true, recurses := true, plainKeys := false, apart := false, narrowed := true }
def ExactBoundUptoSaid : Prop := exactBoundUptoRow.holds Try.pinned (OpenSpec.upto exactBoundSpec)

/-- 'haulierlaw15.ExactSteps', WHERE WHAT IT READS IS OF BULK AT MOST 1048576: true; the input reads as it did. -/
def exactStepsUptoRow : OpenClaim := { program := "ytaaljploegiihaa", sum := "7d51a1ac1eef9736350fc5e1723f3f5d30922a65c2f4748cf3417b046405cc66", func := "haulier/haulierlaw15.ExactSteps", spec := "exactSteps", unfollowed := true, recurses := true, plainKeys := false, apart := false, narrowed := true }
def ExactStepsUptoSaid : Prop := exactStepsUptoRow.holds Try.pinned (OpenSpec.upto exactStepsSpec)

/-- 'haulierlaw15.ExactWider', WHERE WHAT IT READS IS OF BULK AT MOST 1048576: true; the input reads as it did. -/
def exactWiderUptoRow : OpenClaim := { program := "ytaaljploegiihaa", sum := "7d51a1ac1eef9736350fc5e1723f3f5d30922a65c2f4748cf3417b046405cc66", func := "haulier/haulierlaw15.ExactWider", spec := "exactWider", unfollowed := true, recurses := true, plainKeys := false, apart := false, narrowed := true }
def ExactWiderUptoSaid : Prop := exactWiderUptoRow.holds Try.pinned (OpenSpec.upto exactWiderSpec)

end Rows
end Go.Proofs.Ytaaljploegiihaa
