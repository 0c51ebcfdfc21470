/-
  No cell of these rows narrows 'for every input' (looked for: loops, veiled, ifaces, maps, wideKeys, modest, calm, conditions, laid).
  DERIVED. THE GIVEN ROWS OF THIS SEAT. 8 by the template 'for every input the law returns true; each argument reads behind the call as it read before'; 0 by the template 'total and deterministic' (their statements: YtipjaibemhoifaaTotals.lean).
  GIVEN WITH THE SEED: the statements are not yours to turn. If you find one false, say at which input.
  Laid BY PROGRAM, IN A SANDBOX (cutbox-rows.mjs): the forced cells as the released guide's own fill.sh prints them over the translation ed723e6e2bb0ae5c… (all of the seat's roots in one cut). By AI agents, Wed Nov 11 2026. No macro, syntax, notation, axiom, sorry.
-/
import Derived.Test.YtipjaibemhoifaaChecked
import GoSem.Claim
import GoSem.ClaimJoined
import GoSem.ClaimMapViews
import Derived.JoinedTies
import Derived.KernelRfl
namespace Go.Proofs.Ytipjaibemhoifaa
/- THE CELL 'sum', in the pinned program and in every row, IS THE sha256 OF THE DUMP (.gsa) THAT YtipjaibemhoifaaProg.lean LOADS. Nothing in Lean hashes anything: it is a label: what it is worth is what the hold of that sum in a sandbox is worth. -/
noncomputable def Try.pinned : Pinned := { name := "ytipjaibemhoifaa", sum := "ed723e6e2bb0ae5c9e398257340d664506ed09df74f73fb7b1989db56a0f1961", checked := Try.checked }
namespace Rows
def none {H : Type} : Left H := { results := [], args := [] }

/-- 'haulierlaw10.StateMoves': WHATEVER THE INPUT: true; the input reads as it did. -/
def stateMovesSpec : ChangeSpec := { name := "stateMoves", fn := fun _ => fun
  | [d1, d2, d3] => { results := [.lit (.bool true)], args := [d1, d2, d3] }
  | _ => none }
def stateMovesRow : OpenClaim := { program := "ytipjaibemhoifaa", sum := "ed723e6e2bb0ae5c9e398257340d664506ed09df74f73fb7b1989db56a0f1961", func := "haulier/haulierlaw10.StateMoves", spec := "stateMoves", unfollowed := true, recurses := true, apart := false }
def StateMovesSaid : Prop := stateMovesRow.holds Try.pinned (OpenSpec.ofChange stateMovesSpec)

/-- ITS FALSE NEIGHBOUR: 'it returns false'. Refute it at one input. -/
def stateMovesWrong : ChangeSpec := { name := "stateMoves", fn := fun _ => fun
  | [d1, d2, d3] => { results := [.lit (.bool false)], args := [d1, d2, d3] }
  | _ => none }
def StateMovesWrongFalsely : Prop := stateMovesRow.holds Try.pinned (OpenSpec.ofChange stateMovesWrong)

/-- 'haulierlaw10.StateFollows': WHATEVER THE INPUT: true; the input reads as it did. -/
def stateFollowsSpec : ChangeSpec := { name := "stateFollows", fn := fun _ => fun
  | [d1, d2] => { results := [.lit (.bool true)], args := [d1, d2] }
  | _ => none }
def stateFollowsRow : OpenClaim := { program := "ytipjaibemhoifaa", sum := "ed723e6e2bb0ae5c9e398257340d664506ed09df74f73fb7b1989db56a0f1961", func := "haulier/haulierlaw10.StateFollows", spec := "stateFollows", unfollowed := true, recurses := true, apart := false }
def StateFollowsSaid : Prop := stateFollowsRow.holds Try.pinned (OpenSpec.ofChange stateFollowsSpec)

/-- ITS FALSE NEIGHBOUR: 'it returns false'. Refute it at one input. -/
def stateFollowsWrong : ChangeSpec := { name := "stateFollows", fn := fun _ => fun
  | [d1, d2] => { results := [.lit (.bool false)], args := [d1, d2] }
  | _ => none }
def StateFollowsWrongFalsely : Prop := stateFollowsRow.holds Try.pinned (OpenSpec.ofChange stateFollowsWrong)

/-- 'haulierlaw10.StatePlans': WHATEVER THE INPUT: true; the input reads as it did. -/
def statePlansSpec : ChangeSpec := { name := "statePlans", fn := fun _ => fun
  | [d1, d2] => { results := [.lit (.bool true)], args := [d1, d2] }
  | _ => none }
def statePlansRow : OpenClaim := { program := "ytipjaibemhoifaa", sum := "ed723e6e2bb0ae5c9e398257340d664506ed09df74f73fb7b1989db56a0f1961", func := "haulier/haulierlaw10.StatePlans", spec := "statePlans", unfollowed := true, recurses := true, apart := false }
def StatePlansSaid : Prop := statePlansRow.holds Try.pinned (OpenSpec.ofChange statePlansSpec)

/-- ITS FALSE NEIGHBOUR: 'it returns false'. Refute it at one input. -/
def statePlansWrong : ChangeSpec := { name := "statePlans", fn := fun _ => fun
  | [d1, d2] => { results := [.lit (.bool false)], args := [d1, d2] }
  | _ => none }
def StatePlansWrongFalsely : Prop := statePlansRow.holds Try.pinned (OpenSpec.ofChange statePlansWrong)

/-- 'haulierlaw10.StateTours': WHATEVER THE INPUT: true; the input reads as it did. -/
def stateToursSpec : ChangeSpec := { name := "stateTours", fn := fun _ => fun
  | [d1, d2] => { results := [.lit (.bool true)], args := [d1, d2] }
  | _ => none }
def stateToursRow : OpenClaim := { program := "ytipjaibemhoifaa", sum := "ed723e6e2bb0ae5c9e398257340d664506ed09df74f73fb7b1989db56a0f1961", func := "haulier/haulierlaw10.StateTours", spec := "stateTours", unfollowed := true, recurses := true, apart := false }
def StateToursSaid : Prop := stateToursRow.holds Try.pinned (OpenSpec.ofChange stateToursSpec)

/-- ITS FALSE NEIGHBOUR: 'it returns false'. Refute it at one input. -/
def stateToursWrong : ChangeSpec := { name := "stateTours", fn := fun _ => fun
  | [d1, d2] => { results := [.lit (.bool false)], args := [d1, d2] }
  | _ => none }
def StateToursWrongFalsely : Prop := stateToursRow.holds Try.pinned (OpenSpec.ofChange stateToursWrong)

/-- 'haulierlaw10.StateSeen': WHATEVER THE INPUT: true; the input reads as it did. -/
def stateSeenSpec : ChangeSpec := { name := "stateSeen", fn := fun _ => fun
  | [d1, d2] => { results := [.lit (.bool true)], args := [d1, d2] }
  | _ => none }
def stateSeenRow : OpenClaim := { program := "ytipjaibemhoifaa", sum := "ed723e6e2bb0ae5c9e398257340d664506ed09df74f73fb7b1989db56a0f1961", func := "haulier/haulierlaw10.StateSeen", spec := "stateSeen", unfollowed := true, recurses := true, apart := false }
def StateSeenSaid : Prop := stateSeenRow.holds Try.pinned (OpenSpec.ofChange stateSeenSpec)

/-- ITS FALSE NEIGHBOUR: 'it returns false'. Refute it at one input. -/
def stateSeenWrong : ChangeSpec := { name := "stateSeen", fn := fun _ => fun
  | [d1, d2] => { results := [.lit (.bool false)], args := [d1, d2] }
  | _ => none }
def StateSeenWrongFalsely : Prop := stateSeenRow.holds Try.pinned (OpenSpec.ofChange stateSeenWrong)

/-- 'haulierlaw10.StateSteps': WHATEVER THE INPUT: true; the input reads as it did. -/
def stateStepsSpec : ChangeSpec := { name := "stateSteps", fn := fun _ => fun
  | [d1, d2] => { results := [.lit (.bool true)], args := [d1, d2] }
  | _ => none }
def stateStepsRow : OpenClaim := { program := "ytipjaibemhoifaa", sum := "ed723e6e2bb0ae5c9e398257340d664506ed09df74f73fb7b1989db56a0f1961", func := "haulier/haulierlaw10.StateSteps", spec := "stateSteps", unfollowed := true, recurses := true, apart := false }
def StateStepsSaid : Prop := stateStepsRow.holds Try.pinned (OpenSpec.ofChange stateStepsSpec)

/-- ITS FALSE NEIGHBOUR: 'it returns false'. Refute it at one input. -/
def stateStepsWrong : ChangeSpec := { name := "stateSteps", fn := fun _ => fun
  | [d1, d2] => { results := [.lit (.bool false)], args := [d1, d2] }
  | _ => none }
def StateStepsWrongFalsely : Prop := stateStepsRow.holds Try.pinned (OpenSpec.ofChange stateStepsWrong)

/-- 'haulierlaw10.StateLate': WHATEVER THE INPUT: true; the input reads as it did. -/
def stateLateSpec : ChangeSpec := { name := "stateLate", fn := fun _ => fun
  | [d1, d2, d3, d4, d5] => { results := [.lit (.bool true)], args := [d1, d2, d3, d4, d5] }
  | _ => none }
def stateLateRow : OpenClaim := { program := "ytipjaibemhoifaa", sum := "ed723e6e2bb0ae5c9e398257340d664506ed09df74f73fb7b1989db56a0f1961", func := "haulier/haulierlaw10.StateLate", spec := "stateLate", unfollowed := true, recurses := true, apart := false }
def StateLateSaid : Prop := stateLateRow.holds Try.pinned (OpenSpec.ofChange stateLateSpec)

/-- ITS FALSE NEIGHBOUR: 'it returns false'. Refute it at one input. -/
def stateLateWrong : ChangeSpec := { name := "stateLate", fn := fun _ => fun
  | [d1, d2, d3, d4, d5] => { results := [.lit (.bool false)], args := [d1, d2, d3, d4, d5] }
  | _ => none }
def StateLateWrongFalsely : Prop := stateLateRow.holds Try.pinned (OpenSpec.ofChange stateLateWrong)

/-- 'haulierlaw10.StateEnds': WHATEVER THE INPUT: true; the input reads as it did. -/
def stateEndsSpec : ChangeSpec := { name := "stateEnds", fn := fun _ => fun
  | [d1, d2] => { results := [.lit (.bool true)], args := [d1, d2] }
  | _ => none }
def stateEndsRow : OpenClaim := { program := "ytipjaibemhoifaa", sum := "ed723e6e2bb0ae5c9e398257340d664506ed09df74f73fb7b1989db56a0f1961", func := "haulier/haulierlaw10.StateEnds", spec := "stateEnds", unfollowed := true, recurses := true, apart := false }
def StateEndsSaid : Prop := stateEndsRow.holds Try.pinned (OpenSpec.ofChange stateEndsSpec)

/-- ITS FALSE NEIGHBOUR: 'it returns false'. Refute it at one input. -/
def stateEndsWrong : ChangeSpec := { name := "stateEnds", fn := fun _ => fun
  | [d1, d2] => { results := [.lit (.bool false)], args := [d1, d2] }
  | _ => none }
def StateEndsWrongFalsely : Prop := stateEndsRow.holds Try.pinned (OpenSpec.ofChange stateEndsWrong)

/- THE SECOND FORM. 'bulk': how many values and letters a reading holds, each counted each time it is reached (what is shared counts as often as it is met; a slice's spare places count too). A statement '..UptoSaid' is the law's where the arguments, and the package variables that the reading takes, are together of bulk at most 1048576: NARROWER than '..Said'. Prove '..Said' where nothing that the law and all that it calls make is longer than what came in: it says more and counts as full. Else prove '..UptoSaid'. A law counts once. -/
mutual
def uptoBulk {H : Type} : DataW H → Nat
  | .lit (.string bytes) => bytes.length + 1
  | .lit _ => 1
  | .nil => 1
  | .ptr d => uptoBulk d + 1
  | .slice elems spare => uptoBulkAll elems + uptoBulkAll spare + 1
  | .agg parts => uptoBulkAll parts + 1
  | .iface _ d => uptoBulk d + 1
  | .map entries => uptoBulkEntries entries + 1
  | .held _ => 1
def uptoBulkAll {H : Type} : List (DataW H) → Nat
  | [] => 0
  | d :: r => uptoBulk d + uptoBulkAll r
def uptoBulkEntries {H : Type} : List (Lit × DataW H) → Nat
  | [] => 0
  | x :: r => uptoBulkEntry x + uptoBulkEntries r
def uptoBulkEntry {H : Type} : Lit × DataW H → Nat
  | (.string bytes, d) => bytes.length + uptoBulk d + 1
  | (_, d) => uptoBulk d + 1
 end
def uptoSmall : (H : Type) → List (DataW H) → Bool := fun _ ds => decide (uptoBulkAll ds ≤ 1048576)
def OpenSpec.upto (s : _root_.Go.ChangeSpec) : _root_.Go.OpenSpec := { _root_.Go.OpenSpec.ofChange s with cond := some uptoSmall }

/-- 'haulierlaw10.StateMoves', WHERE WHAT IT READS IS OF BULK AT MOST 1048576: true; the input reads as it did. -/
def stateMovesUptoRow : OpenClaim := { program := "ytipjaibemhoifaa", sum := "ed723e6e2bb0ae5c9e398257340d664506ed09df74f73fb7b1989db56a0f1961", func := "haulier/haulierlaw10.StateMoves", spec := "stateMoves", unfollowed := true, recurses := true, apart := false, narrowed := true }
def StateMovesUptoSaid : Prop := stateMovesUptoRow.holds Try.pinned (OpenSpec.upto stateMovesSpec)

/-- 'haulierlaw10.StateFollows', WHERE WHAT IT READS IS OF BULK AT MOST 1048576: true; the input reads as it did. -/
def stateFollowsUptoRow : OpenClaim := { program := "ytipjaibemhoifaa", sum := "ed723e6e2bb0ae5c9e398257340d664506ed09df74f73fb7b1989db56a0f1961", func := "haulier/haulierlaw10.StateFollows", spec := "stateFollows", unfollowed := true, recurses := true, apart := false, narrowed := true }
def StateFollowsUptoSaid : Prop := stateFollowsUptoRow.holds Try.pinned (OpenSpec.upto stateFollowsSpec)

/-- 'haulierlaw10.StatePlans', WHERE WHAT IT READS IS OF BULK AT MOST 1048576: true; the input reads as it did. -/
def statePlansUptoRow : OpenClaim := { program := "ytipjaibemhoifaa", sum := "ed723e6e2bb0ae5c9e398257340d664506ed09df74f73fb7b1989db56a0f1961", func := "haulier/haulierlaw10.StatePlans", spec := "statePlans", unfollowed := true, recurses := true, apart := false, narrowed := true }
def StatePlansUptoSaid : Prop := statePlansUptoRow.holds Try.pinned (OpenSpec.upto statePlansSpec)

/-- 'haulierlaw10.StateTours', WHERE WHAT IT READS IS OF BULK AT MOST 1048576: true; the input reads as it did. -/
def stateToursUptoRow : OpenClaim := { program := "ytipjaibemhoifaa", sum := "ed723e6e2bb0ae5c9e398257340d664506ed09df74f73fb7b1989db56a0f1961", func := "haulier/haulierlaw10.StateTours", spec := "stateTours", unfollowed := true, recurses := true, apart := false, narrowed := true }
def StateToursUptoSaid : Prop := stateToursUptoRow.holds Try.pinned (OpenSpec.upto stateToursSpec)

/-- 'haulierlaw10.StateSeen', WHERE WHAT IT READS IS OF BULK AT MOST 1048576: true; the input reads as it did. -/
def stateSeenUptoRow : OpenClaim := { program := "ytipjaibemhoifaa", sum := "ed723e6e2bb0ae5c9e398257340d664506ed09df74f73fb7b1989db56a0f1961", func := "haulier/haulierlaw10.StateSeen", spec := "stateSeen", unfollowed := true, recurses := true, apart := false, narrowed := true }
def StateSeenUptoSaid : Prop := stateSeenUptoRow.holds Try.pinned (OpenSpec.upto stateSeenSpec)

/-- 'haulierlaw10.StateSteps', WHERE WHAT IT READS IS OF BULK AT MOST 1048576: true; the input reads as it did. -/
def stateStepsUptoRow : OpenClaim := { program := "ytipjaibemhoifaa", sum := "ed723e6e2bb0ae5c9e398257340d664506ed09df74f73fb7b1989db56a0f1961", func := "haulier/haulierlaw10.StateSteps", spec := "stateSteps", unfollowed := true, recurses := true, apart := false, narrowed := true }
def StateStepsUptoSaid : Prop := stateStepsUptoRow.holds Try.pinned (OpenSpec.upto stateStepsSpec)

/-- 'haulierlaw10.StateLate', WHERE WHAT IT READS IS OF BULK AT MOST 1048576: true; the input reads as it did. -/
def stateLateUptoRow : OpenClaim := { program := "ytipjaibemhoifaa", sum := "ed723e6e2bb0ae5c9e398257340d664506ed09df74f73fb7b1989db56a0f1961", func := "haulier/haulierlaw10.StateLate", spec := "stateLate", unfollowed := true, recurses := true, apart := false, narrowed := true }
def StateLateUptoSaid : Prop := stateLateUptoRow.holds Try.pinned (OpenSpec.upto stateLateSpec)

/-- 'haulierlaw10.StateEnds', WHERE WHAT IT READS IS OF BULK AT MOST 1048576: true; the input reads as it did. -/
def stateEndsUptoRow : OpenClaim := { program := "ytipjaibemhoifaa", sum := "ed723e6e2bb0ae5c9e398257340d664506ed09df74f73fb7b1989db56a0f1961", func := "haulier/haulierlaw10.StateEnds", spec := "stateEnds", unfollowed := true, recurses := true, apart := false, narrowed := true }
def StateEndsUptoSaid : Prop := stateEndsUptoRow.holds Try.pinned (OpenSpec.upto stateEndsSpec)

end Rows
end Go.Proofs.Ytipjaibemhoifaa
