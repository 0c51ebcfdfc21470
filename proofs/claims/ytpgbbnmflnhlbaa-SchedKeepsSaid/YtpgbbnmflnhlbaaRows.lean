/-
  No cell of these rows narrows 'for every input' (looked for: loops, veiled, ifaces, maps, wideKeys, modest, calm, conditions, laid).
  DERIVED. THE GIVEN ROWS OF THIS SEAT. 28 by the template 'for every input the law returns true; each argument reads behind the call as it read before'; 0 by the template 'total and deterministic' (their statements: YtpgbbnmflnhlbaaTotals.lean).
  GIVEN WITH THE SEED: the statements are not yours to turn. If you find one false, say at which input.
  Laid BY PROGRAM, IN A SANDBOX (cutbox-rows.mjs): the forced cells as the released guide's own fill.sh prints them over the translation b0bb37884af3402e… (all of the seat's roots in one cut). By AI agents, Wed Nov 11 2026. No macro, syntax, notation, axiom, sorry.
-/
import Derived.Test.YtpgbbnmflnhlbaaChecked
import GoSem.Claim
import GoSem.ClaimJoined
import GoSem.ClaimMapViews
import Derived.JoinedTies
import Derived.KernelRfl
namespace Go.Proofs.Ytpgbbnmflnhlbaa
/- THE CELL 'sum', in the pinned program and in every row, IS THE sha256 OF THE DUMP (.gsa) THAT YtpgbbnmflnhlbaaProg.lean LOADS. Nothing in Lean hashes anything: it is a label: what it is worth is what the hold of that sum in a sandbox is worth. -/
noncomputable def Try.pinned : Pinned := { name := "ytpgbbnmflnhlbaa", sum := "b0bb37884af3402e853b7a856aa8bcaf101c5e31675bd626fd5f34d5194584e0", checked := Try.checked }
namespace Rows
def none {H : Type} : Left H := { results := [], args := [] }

/-- 'haulierlaw06.PlaneTells': WHATEVER THE INPUT: true; the input reads as it did. -/
def planeTellsSpec : ChangeSpec := { name := "planeTells", fn := fun _ => fun
  | [d1, d2, d3] => { results := [.lit (.bool true)], args := [d1, d2, d3] }
  | _ => none }
def planeTellsRow : OpenClaim := { program := "ytpgbbnmflnhlbaa", sum := "b0bb37884af3402e853b7a856aa8bcaf101c5e31675bd626fd5f34d5194584e0", func := "haulier/haulierlaw06.PlaneTells", spec := "planeTells", plainKeys := false, apart := false }
def PlaneTellsSaid : Prop := planeTellsRow.holds Try.pinned (OpenSpec.ofChange planeTellsSpec)

/-- ITS FALSE NEIGHBOUR: 'it returns false'. Refute it at one input. -/
def planeTellsWrong : ChangeSpec := { name := "planeTells", fn := fun _ => fun
  | [d1, d2, d3] => { results := [.lit (.bool false)], args := [d1, d2, d3] }
  | _ => none }
def PlaneTellsWrongFalsely : Prop := planeTellsRow.holds Try.pinned (OpenSpec.ofChange planeTellsWrong)

/-- 'haulierlaw06.PlaneWays': WHATEVER THE INPUT: true; the input reads as it did. -/
def planeWaysSpec : ChangeSpec := { name := "planeWays", fn := fun _ => fun
  | [d1, d2, d3] => { results := [.lit (.bool true)], args := [d1, d2, d3] }
  | _ => none }
def planeWaysRow : OpenClaim := { program := "ytpgbbnmflnhlbaa", sum := "b0bb37884af3402e853b7a856aa8bcaf101c5e31675bd626fd5f34d5194584e0", func := "haulier/haulierlaw06.PlaneWays", spec := "planeWays", plainKeys := false, apart := false }
def PlaneWaysSaid : Prop := planeWaysRow.holds Try.pinned (OpenSpec.ofChange planeWaysSpec)

/-- ITS FALSE NEIGHBOUR: 'it returns false'. Refute it at one input. -/
def planeWaysWrong : ChangeSpec := { name := "planeWays", fn := fun _ => fun
  | [d1, d2, d3] => { results := [.lit (.bool false)], args := [d1, d2, d3] }
  | _ => none }
def PlaneWaysWrongFalsely : Prop := planeWaysRow.holds Try.pinned (OpenSpec.ofChange planeWaysWrong)

/-- 'haulierlaw06.PlaneMoves': WHATEVER THE INPUT: true; the input reads as it did. -/
def planeMovesSpec : ChangeSpec := { name := "planeMoves", fn := fun _ => fun
  | [d1, d2, d3, d4] => { results := [.lit (.bool true)], args := [d1, d2, d3, d4] }
  | _ => none }
def planeMovesRow : OpenClaim := { program := "ytpgbbnmflnhlbaa", sum := "b0bb37884af3402e853b7a856aa8bcaf101c5e31675bd626fd5f34d5194584e0", func := "haulier/haulierlaw06.PlaneMoves", spec := "planeMoves", plainKeys := false, apart := false }
def PlaneMovesSaid : Prop := planeMovesRow.holds Try.pinned (OpenSpec.ofChange planeMovesSpec)

/-- ITS FALSE NEIGHBOUR: 'it returns false'. Refute it at one input. -/
def planeMovesWrong : ChangeSpec := { name := "planeMoves", fn := fun _ => fun
  | [d1, d2, d3, d4] => { results := [.lit (.bool false)], args := [d1, d2, d3, d4] }
  | _ => none }
def PlaneMovesWrongFalsely : Prop := planeMovesRow.holds Try.pinned (OpenSpec.ofChange planeMovesWrong)

/-- 'haulierlaw06.PlaneNear': WHATEVER THE INPUT: true; the input reads as it did. -/
def planeNearSpec : ChangeSpec := { name := "planeNear", fn := fun _ => fun
  | [d] => { results := [.lit (.bool true)], args := [d] }
  | _ => none }
def planeNearRow : OpenClaim := { program := "ytpgbbnmflnhlbaa", sum := "b0bb37884af3402e853b7a856aa8bcaf101c5e31675bd626fd5f34d5194584e0", func := "haulier/haulierlaw06.PlaneNear", spec := "planeNear", plainKeys := false, apart := false }
def PlaneNearSaid : Prop := planeNearRow.holds Try.pinned (OpenSpec.ofChange planeNearSpec)

/-- ITS FALSE NEIGHBOUR: 'it returns false'. Refute it at one input. -/
def planeNearWrong : ChangeSpec := { name := "planeNear", fn := fun _ => fun
  | [d] => { results := [.lit (.bool false)], args := [d] }
  | _ => none }
def PlaneNearWrongFalsely : Prop := planeNearRow.holds Try.pinned (OpenSpec.ofChange planeNearWrong)

/-- 'haulierlaw06.PlaneSame': WHATEVER THE INPUT: true; the input reads as it did. -/
def planeSameSpec : ChangeSpec := { name := "planeSame", fn := fun _ => fun
  | [d1, d2, d3] => { results := [.lit (.bool true)], args := [d1, d2, d3] }
  | _ => none }
def planeSameRow : OpenClaim := { program := "ytpgbbnmflnhlbaa", sum := "b0bb37884af3402e853b7a856aa8bcaf101c5e31675bd626fd5f34d5194584e0", func := "haulier/haulierlaw06.PlaneSame", spec := "planeSame", plainKeys := false, apart := false }
def PlaneSameSaid : Prop := planeSameRow.holds Try.pinned (OpenSpec.ofChange planeSameSpec)

/-- ITS FALSE NEIGHBOUR: 'it returns false'. Refute it at one input. -/
def planeSameWrong : ChangeSpec := { name := "planeSame", fn := fun _ => fun
  | [d1, d2, d3] => { results := [.lit (.bool false)], args := [d1, d2, d3] }
  | _ => none }
def PlaneSameWrongFalsely : Prop := planeSameRow.holds Try.pinned (OpenSpec.ofChange planeSameWrong)

/-- 'haulierlaw07.SchedTimes': WHATEVER THE INPUT: true; the input reads as it did. -/
def schedTimesSpec : ChangeSpec := { name := "schedTimes", fn := fun _ => fun
  | [d1, d2] => { results := [.lit (.bool true)], args := [d1, d2] }
  | _ => none }
def schedTimesRow : OpenClaim := { program := "ytpgbbnmflnhlbaa", sum := "b0bb37884af3402e853b7a856aa8bcaf101c5e31675bd626fd5f34d5194584e0", func := "haulier/haulierlaw07.SchedTimes", spec := "schedTimes", plainKeys := false, apart := false }
def SchedTimesSaid : Prop := schedTimesRow.holds Try.pinned (OpenSpec.ofChange schedTimesSpec)

/-- ITS FALSE NEIGHBOUR: 'it returns false'. Refute it at one input. -/
def schedTimesWrong : ChangeSpec := { name := "schedTimes", fn := fun _ => fun
  | [d1, d2] => { results := [.lit (.bool false)], args := [d1, d2] }
  | _ => none }
def SchedTimesWrongFalsely : Prop := schedTimesRow.holds Try.pinned (OpenSpec.ofChange schedTimesWrong)

/-- 'haulierlaw07.SchedKeeps': WHATEVER THE INPUT: true; the input reads as it did. -/
def schedKeepsSpec : ChangeSpec := { name := "schedKeeps", fn := fun _ => fun
  | [d1, d2] => { results := [.lit (.bool true)], args := [d1, d2] }
  | _ => none }
def schedKeepsRow : OpenClaim := { program := "ytpgbbnmflnhlbaa", sum := "b0bb37884af3402e853b7a856aa8bcaf101c5e31675bd626fd5f34d5194584e0", func := "haulier/haulierlaw07.SchedKeeps", spec := "schedKeeps", plainKeys := false, apart := false }
def SchedKeepsSaid : Prop := schedKeepsRow.holds Try.pinned (OpenSpec.ofChange schedKeepsSpec)

/-- ITS FALSE NEIGHBOUR: 'it returns false'. Refute it at one input. -/
def schedKeepsWrong : ChangeSpec := { name := "schedKeeps", fn := fun _ => fun
  | [d1, d2] => { results := [.lit (.bool false)], args := [d1, d2] }
  | _ => none }
def SchedKeepsWrongFalsely : Prop := schedKeepsRow.holds Try.pinned (OpenSpec.ofChange schedKeepsWrong)

/-- 'haulierlaw07.SchedLess': WHATEVER THE INPUT: true; the input reads as it did. -/
def schedLessSpec : ChangeSpec := { name := "schedLess", fn := fun _ => fun
  | [d1, d2, d3] => { results := [.lit (.bool true)], args := [d1, d2, d3] }
  | _ => none }
def schedLessRow : OpenClaim := { program := "ytpgbbnmflnhlbaa", sum := "b0bb37884af3402e853b7a856aa8bcaf101c5e31675bd626fd5f34d5194584e0", func := "haulier/haulierlaw07.SchedLess", spec := "schedLess", plainKeys := false, apart := false }
def SchedLessSaid : Prop := schedLessRow.holds Try.pinned (OpenSpec.ofChange schedLessSpec)

/-- ITS FALSE NEIGHBOUR: 'it returns false'. Refute it at one input. -/
def schedLessWrong : ChangeSpec := { name := "schedLess", fn := fun _ => fun
  | [d1, d2, d3] => { results := [.lit (.bool false)], args := [d1, d2, d3] }
  | _ => none }
def SchedLessWrongFalsely : Prop := schedLessRow.holds Try.pinned (OpenSpec.ofChange schedLessWrong)

/-- 'haulierlaw07.SchedHead': WHATEVER THE INPUT: true; the input reads as it did. -/
def schedHeadSpec : ChangeSpec := { name := "schedHead", fn := fun _ => fun
  | [d1, d2, d3] => { results := [.lit (.bool true)], args := [d1, d2, d3] }
  | _ => none }
def schedHeadRow : OpenClaim := { program := "ytpgbbnmflnhlbaa", sum := "b0bb37884af3402e853b7a856aa8bcaf101c5e31675bd626fd5f34d5194584e0", func := "haulier/haulierlaw07.SchedHead", spec := "schedHead", plainKeys := false, apart := false }
def SchedHeadSaid : Prop := schedHeadRow.holds Try.pinned (OpenSpec.ofChange schedHeadSpec)

/-- ITS FALSE NEIGHBOUR: 'it returns false'. Refute it at one input. -/
def schedHeadWrong : ChangeSpec := { name := "schedHead", fn := fun _ => fun
  | [d1, d2, d3] => { results := [.lit (.bool false)], args := [d1, d2, d3] }
  | _ => none }
def SchedHeadWrongFalsely : Prop := schedHeadRow.holds Try.pinned (OpenSpec.ofChange schedHeadWrong)

/-- 'haulierlaw07.SchedBack': WHATEVER THE INPUT: true; the input reads as it did. -/
def schedBackSpec : ChangeSpec := { name := "schedBack", fn := fun _ => fun
  | [d1, d2] => { results := [.lit (.bool true)], args := [d1, d2] }
  | _ => none }
def schedBackRow : OpenClaim := { program := "ytpgbbnmflnhlbaa", sum := "b0bb37884af3402e853b7a856aa8bcaf101c5e31675bd626fd5f34d5194584e0", func := "haulier/haulierlaw07.SchedBack", spec := "schedBack", plainKeys := false, apart := false }
def SchedBackSaid : Prop := schedBackRow.holds Try.pinned (OpenSpec.ofChange schedBackSpec)

/-- ITS FALSE NEIGHBOUR: 'it returns false'. Refute it at one input. -/
def schedBackWrong : ChangeSpec := { name := "schedBack", fn := fun _ => fun
  | [d1, d2] => { results := [.lit (.bool false)], args := [d1, d2] }
  | _ => none }
def SchedBackWrongFalsely : Prop := schedBackRow.holds Try.pinned (OpenSpec.ofChange schedBackWrong)

/-- 'haulierlaw07.SchedOne': WHATEVER THE INPUT: true; the input reads as it did. -/
def schedOneSpec : ChangeSpec := { name := "schedOne", fn := fun _ => fun
  | [d1, d2] => { results := [.lit (.bool true)], args := [d1, d2] }
  | _ => none }
def schedOneRow : OpenClaim := { program := "ytpgbbnmflnhlbaa", sum := "b0bb37884af3402e853b7a856aa8bcaf101c5e31675bd626fd5f34d5194584e0", func := "haulier/haulierlaw07.SchedOne", spec := "schedOne", plainKeys := false, apart := false }
def SchedOneSaid : Prop := schedOneRow.holds Try.pinned (OpenSpec.ofChange schedOneSpec)

/-- ITS FALSE NEIGHBOUR: 'it returns false'. Refute it at one input. -/
def schedOneWrong : ChangeSpec := { name := "schedOne", fn := fun _ => fun
  | [d1, d2] => { results := [.lit (.bool false)], args := [d1, d2] }
  | _ => none }
def SchedOneWrongFalsely : Prop := schedOneRow.holds Try.pinned (OpenSpec.ofChange schedOneWrong)

/-- 'haulierlaw07.SchedWider': WHATEVER THE INPUT: true; the input reads as it did. -/
def schedWiderSpec : ChangeSpec := { name := "schedWider", fn := fun _ => fun
  | [d1, d2, d3, d4, d5, d6] => { results := [.lit (.bool true)], args := [d1, d2, d3, d4, d5, d6] }
  | _ => none }
def schedWiderRow : OpenClaim := { program := "ytpgbbnmflnhlbaa", sum := "b0bb37884af3402e853b7a856aa8bcaf101c5e31675bd626fd5f34d5194584e0", func := "haulier/haulierlaw07.SchedWider", spec := "schedWider", plainKeys := false, apart := false }
def SchedWiderSaid : Prop := schedWiderRow.holds Try.pinned (OpenSpec.ofChange schedWiderSpec)

/-- ITS FALSE NEIGHBOUR: 'it returns false'. Refute it at one input. -/
def schedWiderWrong : ChangeSpec := { name := "schedWider", fn := fun _ => fun
  | [d1, d2, d3, d4, d5, d6] => { results := [.lit (.bool false)], args := [d1, d2, d3, d4, d5, d6] }
  | _ => none }
def SchedWiderWrongFalsely : Prop := schedWiderRow.holds Try.pinned (OpenSpec.ofChange schedWiderWrong)

/-- 'haulierlaw10.StateMoves': WHATEVER THE INPUT: true; the input reads as it did. -/
def stateMovesSpec : ChangeSpec := { name := "stateMoves", fn := fun _ => fun
  | [d1, d2, d3] => { results := [.lit (.bool true)], args := [d1, d2, d3] }
  | _ => none }
def stateMovesRow : OpenClaim := { program := "ytpgbbnmflnhlbaa", sum := "b0bb37884af3402e853b7a856aa8bcaf101c5e31675bd626fd5f34d5194584e0", func := "haulier/haulierlaw10.StateMoves", spec := "stateMoves", unfollowed := true, recurses := true, plainKeys := false, apart := false }
def StateMovesSaid : Prop := stateMovesRow.holds Try.pinned (OpenSpec.ofChange stateMovesSpec)

/-- ITS FALSE NEIGHBOUR: 'it returns false'. Refute it at one input. -/
def stateMovesWrong : ChangeSpec := { name := "stateMoves", fn := fun _ => fun
  | [d1, d2, d3] => { results := [.lit (.bool false)], args := [d1, d2, d3] }
  | _ => none }
def StateMovesWrongFalsely : Prop := stateMovesRow.holds Try.pinned (OpenSpec.ofChange stateMovesWrong)

/-- 'haulierlaw10.StateFollows': WHATEVER THE INPUT: true; the input reads as it did. -/
def stateFollowsSpec : ChangeSpec := { name := "stateFollows", fn := fun _ => fun
  | [d1, d2] => { results := [.lit (.bool true)], args := [d1, d2] }
  | _ => none }
def stateFollowsRow : OpenClaim := { program := "ytpgbbnmflnhlbaa", sum := "b0bb37884af3402e853b7a856aa8bcaf101c5e31675bd626fd5f34d5194584e0", func := "haulier/haulierlaw10.StateFollows", spec := "stateFollows", unfollowed := true, recurses := true, plainKeys := false, apart := false }
def StateFollowsSaid : Prop := stateFollowsRow.holds Try.pinned (OpenSpec.ofChange stateFollowsSpec)

/-- ITS FALSE NEIGHBOUR: 'it returns false'. Refute it at one input. -/
def stateFollowsWrong : ChangeSpec := { name := "stateFollows", fn := fun _ => fun
  | [d1, d2] => { results := [.lit (.bool false)], args := [d1, d2] }
  | _ => none }
def StateFollowsWrongFalsely : Prop := stateFollowsRow.holds Try.pinned (OpenSpec.ofChange stateFollowsWrong)

/-- 'haulierlaw10.StatePlans': WHATEVER THE INPUT: true; the input reads as it did. -/
def statePlansSpec : ChangeSpec := { name := "statePlans", fn := fun _ => fun
  | [d1, d2] => { results := [.lit (.bool true)], args := [d1, d2] }
  | _ => none }
def statePlansRow : OpenClaim := { program := "ytpgbbnmflnhlbaa", sum := "b0bb37884af3402e853b7a856aa8bcaf101c5e31675bd626fd5f34d5194584e0", func := "haulier/haulierlaw10.StatePlans", spec := "statePlans", unfollowed := true, recurses := true, plainKeys := false, apart := false }
def StatePlansSaid : Prop := statePlansRow.holds Try.pinned (OpenSpec.ofChange statePlansSpec)

/-- ITS FALSE NEIGHBOUR: 'it returns false'. Refute it at one input. -/
def statePlansWrong : ChangeSpec := { name := "statePlans", fn := fun _ => fun
  | [d1, d2] => { results := [.lit (.bool false)], args := [d1, d2] }
  | _ => none }
def StatePlansWrongFalsely : Prop := statePlansRow.holds Try.pinned (OpenSpec.ofChange statePlansWrong)

/-- 'haulierlaw10.StateTours': WHATEVER THE INPUT: true; the input reads as it did. -/
def stateToursSpec : ChangeSpec := { name := "stateTours", fn := fun _ => fun
  | [d1, d2] => { results := [.lit (.bool true)], args := [d1, d2] }
  | _ => none }
def stateToursRow : OpenClaim := { program := "ytpgbbnmflnhlbaa", sum := "b0bb37884af3402e853b7a856aa8bcaf101c5e31675bd626fd5f34d5194584e0", func := "haulier/haulierlaw10.StateTours", spec := "stateTours", unfollowed := true, recurses := true, plainKeys := false, apart := false }
def StateToursSaid : Prop := stateToursRow.holds Try.pinned (OpenSpec.ofChange stateToursSpec)

/-- ITS FALSE NEIGHBOUR: 'it returns false'. Refute it at one input. -/
def stateToursWrong : ChangeSpec := { name := "stateTours", fn := fun _ => fun
  | [d1, d2] => { results := [.lit (.bool false)], args := [d1, d2] }
  | _ => none }
def StateToursWrongFalsely : Prop := stateToursRow.holds Try.pinned (OpenSpec.ofChange stateToursWrong)

/-- 'haulierlaw10.StateSeen': WHATEVER THE INPUT: true; the input reads as it did. -/
def stateSeenSpec : ChangeSpec := { name := "stateSeen", fn := fun _ => fun
  | [d1, d2] => { results := [.lit (.bool true)], args := [d1, d2] }
  | _ => none }
def stateSeenRow : OpenClaim := { program := "ytpgbbnmflnhlbaa", sum := "b0bb37884af3402e853b7a856aa8bcaf101c5e31675bd626fd5f34d5194584e0", func := "haulier/haulierlaw10.StateSeen", spec := "stateSeen", unfollowed := true, recurses := true, plainKeys := false, apart := false }
def StateSeenSaid : Prop := stateSeenRow.holds Try.pinned (OpenSpec.ofChange stateSeenSpec)

/-- ITS FALSE NEIGHBOUR: 'it returns false'. Refute it at one input. -/
def stateSeenWrong : ChangeSpec := { name := "stateSeen", fn := fun _ => fun
  | [d1, d2] => { results := [.lit (.bool false)], args := [d1, d2] }
  | _ => none }
def StateSeenWrongFalsely : Prop := stateSeenRow.holds Try.pinned (OpenSpec.ofChange stateSeenWrong)

/-- 'haulierlaw10.StateSteps': WHATEVER THE INPUT: true; the input reads as it did. -/
def stateStepsSpec : ChangeSpec := { name := "stateSteps", fn := fun _ => fun
  | [d1, d2] => { results := [.lit (.bool true)], args := [d1, d2] }
  | _ => none }
def stateStepsRow : OpenClaim := { program := "ytpgbbnmflnhlbaa", sum := "b0bb37884af3402e853b7a856aa8bcaf101c5e31675bd626fd5f34d5194584e0", func := "haulier/haulierlaw10.StateSteps", spec := "stateSteps", unfollowed := true, recurses := true, plainKeys := false, apart := false }
def StateStepsSaid : Prop := stateStepsRow.holds Try.pinned (OpenSpec.ofChange stateStepsSpec)

/-- ITS FALSE NEIGHBOUR: 'it returns false'. Refute it at one input. -/
def stateStepsWrong : ChangeSpec := { name := "stateSteps", fn := fun _ => fun
  | [d1, d2] => { results := [.lit (.bool false)], args := [d1, d2] }
  | _ => none }
def StateStepsWrongFalsely : Prop := stateStepsRow.holds Try.pinned (OpenSpec.ofChange stateStepsWrong)

/-- 'haulierlaw10.StateLate': WHATEVER THE INPUT: true; the input reads as it did. -/
def stateLateSpec : ChangeSpec := { name := "stateLate", fn := fun _ => fun
  | [d1, d2, d3, d4, d5] => { results := [.lit (.bool true)], args := [d1, d2, d3, d4, d5] }
  | _ => none }
def stateLateRow : OpenClaim := { program := "ytpgbbnmflnhlbaa", sum := "b0bb37884af3402e853b7a856aa8bcaf101c5e31675bd626fd5f34d5194584e0", func := "haulier/haulierlaw10.StateLate", spec := "stateLate", unfollowed := true, recurses := true, plainKeys := false, apart := false }
def StateLateSaid : Prop := stateLateRow.holds Try.pinned (OpenSpec.ofChange stateLateSpec)

/-- ITS FALSE NEIGHBOUR: 'it returns false'. Refute it at one input. -/
def stateLateWrong : ChangeSpec := { name := "stateLate", fn := fun _ => fun
  | [d1, d2, d3, d4, d5] => { results := [.lit (.bool false)], args := [d1, d2, d3, d4, d5] }
  | _ => none }
def StateLateWrongFalsely : Prop := stateLateRow.holds Try.pinned (OpenSpec.ofChange stateLateWrong)

/-- 'haulierlaw10.StateEnds': WHATEVER THE INPUT: true; the input reads as it did. -/
def stateEndsSpec : ChangeSpec := { name := "stateEnds", fn := fun _ => fun
  | [d1, d2] => { results := [.lit (.bool true)], args := [d1, d2] }
  | _ => none }
def stateEndsRow : OpenClaim := { program := "ytpgbbnmflnhlbaa", sum := "b0bb37884af3402e853b7a856aa8bcaf101c5e31675bd626fd5f34d5194584e0", func := "haulier/haulierlaw10.StateEnds", spec := "stateEnds", unfollowed := true, recurses := true, plainKeys := false, apart := false }
def StateEndsSaid : Prop := stateEndsRow.holds Try.pinned (OpenSpec.ofChange stateEndsSpec)

/-- ITS FALSE NEIGHBOUR: 'it returns false'. Refute it at one input. -/
def stateEndsWrong : ChangeSpec := { name := "stateEnds", fn := fun _ => fun
  | [d1, d2] => { results := [.lit (.bool false)], args := [d1, d2] }
  | _ => none }
def StateEndsWrongFalsely : Prop := stateEndsRow.holds Try.pinned (OpenSpec.ofChange stateEndsWrong)

/-- 'haulierlaw11.RelaxMoves': WHATEVER THE INPUT: true; the input reads as it did. -/
def relaxMovesSpec : ChangeSpec := { name := "relaxMoves", fn := fun _ => fun
  | [d1, d2, d3] => { results := [.lit (.bool true)], args := [d1, d2, d3] }
  | _ => none }
def relaxMovesRow : OpenClaim := { program := "ytpgbbnmflnhlbaa", sum := "b0bb37884af3402e853b7a856aa8bcaf101c5e31675bd626fd5f34d5194584e0", func := "haulier/haulierlaw11.RelaxMoves", spec := "relaxMoves", unfollowed := true, recurses := true, plainKeys := false, apart := false }
def RelaxMovesSaid : Prop := relaxMovesRow.holds Try.pinned (OpenSpec.ofChange relaxMovesSpec)

/-- ITS FALSE NEIGHBOUR: 'it returns false'. Refute it at one input. -/
def relaxMovesWrong : ChangeSpec := { name := "relaxMoves", fn := fun _ => fun
  | [d1, d2, d3] => { results := [.lit (.bool false)], args := [d1, d2, d3] }
  | _ => none }
def RelaxMovesWrongFalsely : Prop := relaxMovesRow.holds Try.pinned (OpenSpec.ofChange relaxMovesWrong)

/-- 'haulierlaw11.RelaxWays': WHATEVER THE INPUT: true; the input reads as it did. -/
def relaxWaysSpec : ChangeSpec := { name := "relaxWays", fn := fun _ => fun
  | [d1, d2, d3, d4] => { results := [.lit (.bool true)], args := [d1, d2, d3, d4] }
  | _ => none }
def relaxWaysRow : OpenClaim := { program := "ytpgbbnmflnhlbaa", sum := "b0bb37884af3402e853b7a856aa8bcaf101c5e31675bd626fd5f34d5194584e0", func := "haulier/haulierlaw11.RelaxWays", spec := "relaxWays", unfollowed := true, recurses := true, plainKeys := false, apart := false }
def RelaxWaysSaid : Prop := relaxWaysRow.holds Try.pinned (OpenSpec.ofChange relaxWaysSpec)

/-- ITS FALSE NEIGHBOUR: 'it returns false'. Refute it at one input. -/
def relaxWaysWrong : ChangeSpec := { name := "relaxWays", fn := fun _ => fun
  | [d1, d2, d3, d4] => { results := [.lit (.bool false)], args := [d1, d2, d3, d4] }
  | _ => none }
def RelaxWaysWrongFalsely : Prop := relaxWaysRow.holds Try.pinned (OpenSpec.ofChange relaxWaysWrong)

/-- 'haulierlaw12.BoundTells': WHATEVER THE INPUT: true; the input reads as it did. -/
def boundTellsSpec : ChangeSpec := { name := "boundTells", fn := fun _ => fun
  | [d1, d2] => { results := [.lit (.bool true)], args := [d1, d2] }
  | _ => none }
def boundTellsRow : OpenClaim := { program := "ytpgbbnmflnhlbaa", sum := "b0bb37884af3402e853b7a856aa8bcaf101c5e31675bd626fd5f34d5194584e0", func := "haulier/haulierlaw12.BoundTells", spec := "boundTells", unfollowed := true, recurses := true, plainKeys := false, apart := false }
def BoundTellsSaid : Prop := boundTellsRow.holds Try.pinned (OpenSpec.ofChange boundTellsSpec)

/-- ITS FALSE NEIGHBOUR: 'it returns false'. Refute it at one input. -/
def boundTellsWrong : ChangeSpec := { name := "boundTells", fn := fun _ => fun
  | [d1, d2] => { results := [.lit (.bool false)], args := [d1, d2] }
  | _ => none }
def BoundTellsWrongFalsely : Prop := boundTellsRow.holds Try.pinned (OpenSpec.ofChange boundTellsWrong)

/-- 'haulierlaw12.BoundSteps': WHATEVER THE INPUT: true; the input reads as it did. -/
def boundStepsSpec : ChangeSpec := { name := "boundSteps", fn := fun _ => fun
  | [d1, d2] => { results := [.lit (.bool true)], args := [d1, d2] }
  | _ => none }
def boundStepsRow : OpenClaim := { program := "ytpgbbnmflnhlbaa", sum := "b0bb37884af3402e853b7a856aa8bcaf101c5e31675bd626fd5f34d5194584e0", func := "haulier/haulierlaw12.BoundSteps", spec := "boundSteps", unfollowed := true, recurses := true, plainKeys := false, apart := false }
def BoundStepsSaid : Prop := boundStepsRow.holds Try.pinned (OpenSpec.ofChange boundStepsSpec)

/-- ITS FALSE NEIGHBOUR: 'it returns false'. Refute it at one input. -/
def boundStepsWrong : ChangeSpec := { name := "boundSteps", fn := fun _ => fun
  | [d1, d2] => { results := [.lit (.bool false)], args := [d1, d2] }
  | _ => none }
def BoundStepsWrongFalsely : Prop := boundStepsRow.holds Try.pinned (OpenSpec.ofChange boundStepsWrong)

/-- 'haulierlaw12.BoundWays': WHATEVER THE INPUT: true; the input reads as it did. -/
def boundWaysSpec : ChangeSpec := { name := "boundWays", fn := fun _ => fun
  | [d1, d2, d3] => { results := [.lit (.bool true)], args := [d1, d2, d3] }
  | _ => none }
def boundWaysRow : OpenClaim := { program := "ytpgbbnmflnhlbaa", sum := "b0bb37884af3402e853b7a856aa8bcaf101c5e31675bd626fd5f34d5194584e0", func := "haulier/haulierlaw12.BoundWays", spec := "boundWays", unfollowed := true, recurses := true, plainKeys := false, apart := false }
def BoundWaysSaid : Prop := boundWaysRow.holds Try.pinned (OpenSpec.ofChange boundWaysSpec)

/-- ITS FALSE NEIGHBOUR: 'it returns false'. Refute it at one input. -/
def boundWaysWrong : ChangeSpec := { name := "boundWays", fn := fun _ => fun
  | [d1, d2, d3] => { results := [.lit (.bool false)], args := [d1, d2, d3] }
  | _ => none }
def BoundWaysWrongFalsely : Prop := boundWaysRow.holds Try.pinned (OpenSpec.ofChange boundWaysWrong)

/-- 'haulierlaw12.BoundCovers': WHATEVER THE INPUT: true; the input reads as it did. -/
def boundCoversSpec : ChangeSpec := { name := "boundCovers", fn := fun _ => fun
  | [d1, d2, d3] => { results := [.lit (.bool true)], args := [d1, d2, d3] }
  | _ => none }
def boundCoversRow : OpenClaim := { program := "ytpgbbnmflnhlbaa", sum := "b0bb37884af3402e853b7a856aa8bcaf101c5e31675bd626fd5f34d5194584e0", func := "haulier/haulierlaw12.BoundCovers", spec := "boundCovers", unfollowed := true, recurses := true, plainKeys := false, apart := false }
def BoundCoversSaid : Prop := boundCoversRow.holds Try.pinned (OpenSpec.ofChange boundCoversSpec)

/-- ITS FALSE NEIGHBOUR: 'it returns false'. Refute it at one input. -/
def boundCoversWrong : ChangeSpec := { name := "boundCovers", fn := fun _ => fun
  | [d1, d2, d3] => { results := [.lit (.bool false)], args := [d1, d2, d3] }
  | _ => none }
def BoundCoversWrongFalsely : Prop := boundCoversRow.holds Try.pinned (OpenSpec.ofChange boundCoversWrong)

/-- 'haulierlaw12.BoundLess': WHATEVER THE INPUT: true; the input reads as it did. -/
def boundLessSpec : ChangeSpec := { name := "boundLess", fn := fun _ => fun
  | [d1, d2, d3] => { results := [.lit (.bool true)], args := [d1, d2, d3] }
  | _ => none }
def boundLessRow : OpenClaim := { program := "ytpgbbnmflnhlbaa", sum := "b0bb37884af3402e853b7a856aa8bcaf101c5e31675bd626fd5f34d5194584e0", func := "haulier/haulierlaw12.BoundLess", spec := "boundLess", unfollowed := true, recurses := true, plainKeys := false, apart := false }
def BoundLessSaid : Prop := boundLessRow.holds Try.pinned (OpenSpec.ofChange boundLessSpec)

/-- ITS FALSE NEIGHBOUR: 'it returns false'. Refute it at one input. -/
def boundLessWrong : ChangeSpec := { name := "boundLess", fn := fun _ => fun
  | [d1, d2, d3] => { results := [.lit (.bool false)], args := [d1, d2, d3] }
  | _ => none }
def BoundLessWrongFalsely : Prop := boundLessRow.holds Try.pinned (OpenSpec.ofChange boundLessWrong)

/-- 'haulierlaw13.BetterWays': WHATEVER THE INPUT: true; the input reads as it did. -/
def betterWaysSpec : ChangeSpec := { name := "betterWays", fn := fun _ => fun
  | [d1, d2, d3, d4] => { results := [.lit (.bool true)], args := [d1, d2, d3, d4] }
  | _ => none }
def betterWaysRow : OpenClaim := { program := "ytpgbbnmflnhlbaa", sum := "b0bb37884af3402e853b7a856aa8bcaf101c5e31675bd626fd5f34d5194584e0", func := "haulier/haulierlaw13.BetterWays", spec := "betterWays", unfollowed := true, recurses := true, plainKeys := false, apart := false }
def BetterWaysSaid : Prop := betterWaysRow.holds Try.pinned (OpenSpec.ofChange betterWaysSpec)

/-- ITS FALSE NEIGHBOUR: 'it returns false'. Refute it at one input. -/
def betterWaysWrong : ChangeSpec := { name := "betterWays", fn := fun _ => fun
  | [d1, d2, d3, d4] => { results := [.lit (.bool false)], args := [d1, d2, d3, d4] }
  | _ => none }
def BetterWaysWrongFalsely : Prop := betterWaysRow.holds Try.pinned (OpenSpec.ofChange betterWaysWrong)

/- THE SECOND FORM. 'bulk': how many values and letters a reading holds, each counted each time it is reached (what is shared counts as often as it is met; a slice's spare places count too). A statement '..UptoSaid' is the law's where the arguments, and the package variables that the reading takes, are together of bulk at most 1048576: NARROWER than '..Said'. Prove '..Said' where nothing that the law and all that it calls make is longer than what came in: it says more and counts as full. Else prove '..UptoSaid'. A law counts once. -/
mutual
def uptoBulk {H : Type} : DataW H → Nat
  | .lit (.string bytes) => bytes.length + 1
  | .lit _ => 1
  | .nil => 1
  | .ptr d => uptoBulk d + 1
  | .slice elems spare => uptoBulkAll elems + uptoBulkAll spare + 1
  | .agg parts => uptoBulkAll parts + 1
  | .iface _ d => uptoBulk d + 1
  | .map entries => uptoBulkEntries entries + 1
  | .held _ => 1
def uptoBulkAll {H : Type} : List (DataW H) → Nat
  | [] => 0
  | d :: r => uptoBulk d + uptoBulkAll r
def uptoBulkEntries {H : Type} : List (Lit × DataW H) → Nat
  | [] => 0
  | x :: r => uptoBulkEntry x + uptoBulkEntries r
def uptoBulkEntry {H : Type} : Lit × DataW H → Nat
  | (.string bytes, d) => bytes.length + uptoBulk d + 1
  | (_, d) => uptoBulk d + 1
 end
def uptoSmall : (H : Type) → List (DataW H) → Bool := fun _ ds => decide (uptoBulkAll ds ≤ 1048576)
def OpenSpec.upto (s : _root_.Go.ChangeSpec) : _root_.Go.OpenSpec := { _root_.Go.OpenSpec.ofChange s with cond := some uptoSmall }

/-- 'haulierlaw06.PlaneTells', WHERE WHAT IT READS IS OF BULK AT MOST 1048576: true; the input reads as it did. -/
def planeTellsUptoRow : OpenClaim := { program := "ytpgbbnmflnhlbaa", sum := "b0bb37884af3402e853b7a856aa8bcaf101c5e31675bd626fd5f34d5194584e0", func := "haulier/haulierlaw06.PlaneTells", spec := "planeTells", plainKeys := false, apart := false, narrowed := true }
def PlaneTellsUptoSaid : Prop := planeTellsUptoRow.holds Try.pinned (OpenSpec.upto planeTellsSpec)

/-- 'haulierlaw06.PlaneWays', WHERE WHAT IT READS IS OF BULK AT MOST 1048576: true; the input reads as it did. -/
def planeWaysUptoRow : OpenClaim := { program := "ytpgbbnmflnhlbaa", sum := "b0bb37884af3402e853b7a856aa8bcaf101c5e31675bd626fd5f34d5194584e0", func := "haulier/haulierlaw06.PlaneWays", spec := "planeWays", plainKeys := false, apart := false, narrowed := true }
def PlaneWaysUptoSaid : Prop := planeWaysUptoRow.holds Try.pinned (OpenSpec.upto planeWaysSpec)

/-- 'haulierlaw06.PlaneMoves', WHERE WHAT IT READS IS OF BULK AT MOST 1048576: true; the input reads as it did. -/
def planeMovesUptoRow : OpenClaim := { program := "ytpgbbnmflnhlbaa", sum := "b0bb37884af3402e853b7a856aa8bcaf101c5e31675bd626fd5f34d5194584e0", func := "haulier/haulierlaw06.PlaneMoves", spec := "planeMoves", plainKeys := false, apart := false, narrowed := true }
def PlaneMovesUptoSaid : Prop := planeMovesUptoRow.holds Try.pinned (OpenSpec.upto planeMovesSpec)

/-- 'haulierlaw06.PlaneNear', WHERE WHAT IT READS IS OF BULK AT MOST 1048576: true; the input reads as it did. -/
def planeNearUptoRow : OpenClaim := { program := "ytpgbbnmflnhlbaa", sum := "b0bb37884af3402e853b7a856aa8bcaf101c5e31675bd626fd5f34d5194584e0", func := "haulier/haulierlaw06.PlaneNear", spec := "planeNear", plainKeys := false, apart := false, narrowed := true }
def PlaneNearUptoSaid : Prop := planeNearUptoRow.holds Try.pinned (OpenSpec.upto planeNearSpec)

/-- 'haulierlaw06.PlaneSame', WHERE WHAT IT READS IS OF BULK AT MOST 1048576: true; the input reads as it did. -/
def planeSameUptoRow : OpenClaim := { program := "ytpgbbnmflnhlbaa", sum := "b0bb37884af3402e853b7a856aa8bcaf101c5e31675bd626fd5f34d5194584e0", func := "haulier/haulierlaw06.PlaneSame", spec := "planeSame", plainKeys := false, apart := false, narrowed := true }
def PlaneSameUptoSaid : Prop := planeSameUptoRow.holds Try.pinned (OpenSpec.upto planeSameSpec)

/-- 'haulierlaw07.SchedTimes', WHERE WHAT IT READS IS OF BULK AT MOST 1048576: true; the input reads as it did. -/
def schedTimesUptoRow : OpenClaim := { program := "ytpgbbnmflnhlbaa", sum := "b0bb37884af3402e853b7a856aa8bcaf101c5e31675bd626fd5f34d5194584e0", func := "haulier/haulierlaw07.SchedTimes", spec := "schedTimes", plainKeys := false, apart := false, narrowed := true }
def SchedTimesUptoSaid : Prop := schedTimesUptoRow.holds Try.pinned (OpenSpec.upto schedTimesSpec)

/-- 'haulierlaw07.SchedKeeps', WHERE WHAT IT READS IS OF BULK AT MOST 1048576: true; the input reads as it did. -/
def schedKeepsUptoRow : OpenClaim := { program := "ytpgbbnmflnhlbaa", sum := "b0bb37884af3402e853b7a856aa8bcaf101c5e31675bd626fd5f34d5194584e0", func := "haulier/haulierlaw07.SchedKeeps", spec := "schedKeeps", plainKeys := false, apart := false, narrowed := true }
def SchedKeepsUptoSaid : Prop := schedKeepsUptoRow.holds Try.pinned (OpenSpec.upto schedKeepsSpec)

/-- 'haulierlaw07.SchedLess', WHERE WHAT IT READS IS OF BULK AT MOST 1048576: true; the input reads as it did. -/
def schedLessUptoRow : OpenClaim := { program := "ytpgbbnmflnhlbaa", sum := "b0bb37884af3402e853b7a856aa8bcaf101c5e31675bd626fd5f34d5194584e0", func := "haulier/haulierlaw07.SchedLess", spec := "schedLess", plainKeys := false, apart := false, narrowed := true }
def SchedLessUptoSaid : Prop := schedLessUptoRow.holds Try.pinned (OpenSpec.upto schedLessSpec)

/-- 'haulierlaw07.SchedHead', WHERE WHAT IT READS IS OF BULK AT MOST 1048576: true; the input reads as it did. -/
def schedHeadUptoRow : OpenClaim := { program := "ytpgbbnmflnhlbaa", sum := "b0bb37884af3402e853b7a856aa8bcaf101c5e31675bd626fd5f34d5194584e0", func := "haulier/haulierlaw07.SchedHead", spec := "schedHead", plainKeys := false, apart := false, narrowed := true }
def SchedHeadUptoSaid : Prop := schedHeadUptoRow.holds Try.pinned (OpenSpec.upto schedHeadSpec)

/-- 'haulierlaw07.SchedBack', WHERE WHAT IT READS IS OF BULK AT MOST 1048576: true; the input reads as it did. -/
def schedBackUptoRow : OpenClaim := { program := "ytpgbbnmflnhlbaa", sum := "b0bb37884af3402e853b7a856aa8bcaf101c5e31675bd626fd5f34d5194584e0", func := "haulier/haulierlaw07.SchedBack", spec := "schedBack", plainKeys := false, apart := false, narrowed := true }
def SchedBackUptoSaid : Prop := schedBackUptoRow.holds Try.pinned (OpenSpec.upto schedBackSpec)

/-- 'haulierlaw07.SchedOne', WHERE WHAT IT READS IS OF BULK AT MOST 1048576: true; the input reads as it did. -/
def schedOneUptoRow : OpenClaim := { program := "ytpgbbnmflnhlbaa", sum := "b0bb37884af3402e853b7a856aa8bcaf101c5e31675bd626fd5f34d5194584e0", func := "haulier/haulierlaw07.SchedOne", spec := "schedOne", plainKeys := false, apart := false, narrowed := true }
def SchedOneUptoSaid : Prop := schedOneUptoRow.holds Try.pinned (OpenSpec.upto schedOneSpec)

/-- 'haulierlaw07.SchedWider', WHERE WHAT IT READS IS OF BULK AT MOST 1048576: true; the input reads as it did. -/
def schedWiderUptoRow : OpenClaim := { program := "ytpgbbnmflnhlbaa", sum := "b0bb37884af3402e853b7a856aa8bcaf101c5e31675bd626fd5f34d5194584e0", func := "haulier/haulierlaw07.SchedWider", spec := "schedWider", plainKeys := false, apart := false, narrowed := true }
def SchedWiderUptoSaid : Prop := schedWiderUptoRow.holds Try.pinned (OpenSpec.upto schedWiderSpec)

/-- 'haulierlaw10.StateMoves', WHERE WHAT IT READS IS OF BULK AT MOST 1048576: true; the input reads as it did. -/
def stateMovesUptoRow : OpenClaim := { program := "ytpgbbnmflnhlbaa", sum := "b0bb37884af3402e853b7a856aa8bcaf101c5e31675bd626fd5f34d5194584e0", func := "haulier/haulierlaw10.StateMoves", spec := "stateMoves", unfollowed := true, recurses := true, plainKeys := false, apart := false, narrowed := true }
def StateMovesUptoSaid : Prop := stateMovesUptoRow.holds Try.pinned (OpenSpec.upto stateMovesSpec)

/-- 'haulierlaw10.StateFollows', WHERE WHAT IT READS IS OF BULK AT MOST 1048576: true; the input reads as it did. -/
def stateFollowsUptoRow : OpenClaim := { program := "ytpgbbnmflnhlbaa", sum := "b0bb37884af3402e853b7a856aa8bcaf101c5e31675bd626fd5f34d5194584e0", func := "haulier/haulierlaw10.StateFollows", spec := "stateFollows", unfollowed := true, recurses := true, plainKeys := false, apart := false, narrowed := true }
def StateFollowsUptoSaid : Prop := stateFollowsUptoRow.holds Try.pinned (OpenSpec.upto stateFollowsSpec)

/-- 'haulierlaw10.StatePlans', WHERE WHAT IT READS IS OF BULK AT MOST 1048576: true; the input reads as it did. -/
def statePlansUptoRow : OpenClaim := { program := "ytpgbbnmflnhlbaa", sum := "b0bb37884af3402e853b7a856aa8bcaf101c5e31675bd626fd5f34d5194584e0", func := "haulier/haulierlaw10.StatePlans", spec := "statePlans", unfollowed := true, recurses := true, plainKeys := false, apart := false, narrowed := true }
def StatePlansUptoSaid : Prop := statePlansUptoRow.holds Try.pinned (OpenSpec.upto statePlansSpec)

/-- 'haulierlaw10.StateTours', WHERE WHAT IT READS IS OF BULK AT MOST 1048576: true; the input reads as it did. -/
def stateToursUptoRow : OpenClaim := { program := "ytpgbbnmflnhlbaa", sum := "b0bb37884af3402e853b7a856aa8bcaf101c5e31675bd626fd5f34d5194584e0", func := "haulier/haulierlaw10.StateTours", spec := "stateTours", unfollowed := true, recurses := true, plainKeys := false, apart := false, narrowed := true }
def StateToursUptoSaid : Prop := stateToursUptoRow.holds Try.pinned (OpenSpec.upto stateToursSpec)

/-- 'haulierlaw10.StateSeen', WHERE WHAT IT READS IS OF BULK AT MOST 1048576: true; the input reads as it did. -/
def stateSeenUptoRow : OpenClaim := { program := "ytpgbbnmflnhlbaa", sum := "b0bb37884af3402e853b7a856aa8bcaf101c5e31675bd626fd5f34d5194584e0", func := "haulier/haulierlaw10.StateSeen", spec := "stateSeen", unfollowed := true, recurses := true, plainKeys := false, apart := false, narrowed := true }
def StateSeenUptoSaid : Prop := stateSeenUptoRow.holds Try.pinned (OpenSpec.upto stateSeenSpec)

/-- 'haulierlaw10.StateSteps', WHERE WHAT IT READS IS OF BULK AT MOST 1048576: true; the input reads as it did. -/
def stateStepsUptoRow : OpenClaim := { program := "ytpgbbnmflnhlbaa", sum := "b0bb37884af3402e853b7a856aa8bcaf101c5e31675bd626fd5f34d5194584e0", func := "haulier/haulierlaw10.StateSteps", spec := "stateSteps", unfollowed := true, recurses := true, plainKeys := false, apart := false, narrowed := true }
def StateStepsUptoSaid : Prop := stateStepsUptoRow.holds Try.pinned (OpenSpec.upto stateStepsSpec)

/-- 'haulierlaw10.StateLate', WHERE WHAT IT READS IS OF BULK AT MOST 1048576: true; the input reads as it did. -/
def stateLateUptoRow : OpenClaim := { program := "ytpgbbnmflnhlbaa", sum := "b0bb37884af3402e853b7a856aa8bcaf101c5e31675bd626fd5f34d5194584e0", func := "haulier/haulierlaw10.StateLate", spec := "stateLate", unfollowed := true, recurses := true, plainKeys := false, apart := false, narrowed := true }
def StateLateUptoSaid : Prop := stateLateUptoRow.holds Try.pinned (OpenSpec.upto stateLateSpec)

/-- 'haulierlaw10.StateEnds', WHERE WHAT IT READS IS OF BULK AT MOST 1048576: true; the input reads as it did. -/
def stateEndsUptoRow : OpenClaim := { program := "ytpgbbnmflnhlbaa", sum := "b0bb37884af3402e853b7a856aa8bcaf101c5e31675bd626fd5f34d5194584e0", func := "haulier/haulierlaw10.StateEnds", spec := "stateEnds", unfollowed := true, recurses := true, plainKeys := false, apart := false, narrowed := true }
def StateEndsUptoSaid : Prop := stateEndsUptoRow.holds Try.pinned (OpenSpec.upto stateEndsSpec)

/-- 'haulierlaw11.RelaxMoves', WHERE WHAT IT READS IS OF BULK AT MOST 1048576: true; the input reads as it did. -/
def relaxMovesUptoRow : OpenClaim := { program := "ytpgbbnmflnhlbaa", sum := "b0bb37884af3402e853b7a856aa8bcaf101c5e31675bd626fd5f34d5194584e0", func := "haulier/haulierlaw11.RelaxMoves", spec := "relaxMoves", unfollowed := true, recurses := true, plainKeys := false, apart := false, narrowed := true }
def RelaxMovesUptoSaid : Prop := relaxMovesUptoRow.holds Try.pinned (OpenSpec.upto relaxMovesSpec)

/-- 'haulierlaw11.RelaxWays', WHERE WHAT IT READS IS OF BULK AT MOST 1048576: true; the input reads as it did. -/
def relaxWaysUptoRow : OpenClaim := { program := "ytpgbbnmflnhlbaa", sum := "b0bb37884af3402e853b7a856aa8bcaf101c5e31675bd626fd5f34d5194584e0", func := "haulier/haulierlaw11.RelaxWays", spec := "relaxWays", unfollowed := true, recurses := true, plainKeys := false, apart := false, narrowed := true }
def RelaxWaysUptoSaid : Prop := relaxWaysUptoRow.holds Try.pinned (OpenSpec.upto relaxWaysSpec)

/-- 'haulierlaw12.BoundTells', WHERE WHAT IT READS IS OF BULK AT MOST 1048576: true; the input reads as it did. -/
def boundTellsUptoRow : OpenClaim := { program := "ytpgbbnmflnhlbaa", sum := "b0bb37884af3402e853b7a856aa8bcaf101c5e31675bd626fd5f34d5194584e0", func := "haulier/haulierlaw12.BoundTells", spec := "boundTells", unfollowed := true, recurses := true, plainKeys := false, apart := false, narrowed := true }
def BoundTellsUptoSaid : Prop := boundTellsUptoRow.holds Try.pinned (OpenSpec.upto boundTellsSpec)

/-- 'haulierlaw12.BoundSteps', WHERE WHAT IT READS IS OF BULK AT MOST 1048576: true; the input reads as it did. -/
def boundStepsUptoRow : OpenClaim := { program := "ytpgbbnmflnhlbaa", sum := "b0bb37884af3402e853b7a856aa8bcaf101c5e31675bd626fd5f34d5194584e0", func := "haulier/haulierlaw12.BoundSteps", spec := "boundSteps", unfollowed := true, recurses := true, plainKeys := false, apart := false, narrowed := true }
def BoundStepsUptoSaid : Prop := boundStepsUptoRow.holds Try.pinned (OpenSpec.upto boundStepsSpec)

/-- 'haulierlaw12.BoundWays', WHERE WHAT IT READS IS OF BULK AT MOST 1048576: true; the input reads as it did. -/
def boundWaysUptoRow : OpenClaim := { program := "ytpgbbnmflnhlbaa", sum := "b0bb37884af3402e853b7a856aa8bcaf101c5e31675bd626fd5f34d5194584e0", func := "haulier/haulierlaw12.BoundWays", spec := "boundWays", unfollowed := true, recurses := true, plainKeys := false, apart := false, narrowed := true }
def BoundWaysUptoSaid : Prop := boundWaysUptoRow.holds Try.pinned (OpenSpec.upto boundWaysSpec)

/-- 'haulierlaw12.BoundCovers', WHERE WHAT IT READS IS OF BULK AT MOST 1048576: true; the input reads as it did. -/
def boundCoversUptoRow : OpenClaim := { program := "ytpgbbnmflnhlbaa", sum := "b0bb37884af3402e853b7a856aa8bcaf101c5e31675bd626fd5f34d5194584e0", func := "haulier/haulierlaw12.BoundCovers", spec := "boundCovers", unfollowed := true, recurses := true, plainKeys := false, apart := false, narrowed := true }
def BoundCoversUptoSaid : Prop := boundCoversUptoRow.holds Try.pinned (OpenSpec.upto boundCoversSpec)

/-- 'haulierlaw12.BoundLess', WHERE WHAT IT READS IS OF BULK AT MOST 1048576: true; the input reads as it did. -/
def boundLessUptoRow : OpenClaim := { program := "ytpgbbnmflnhlbaa", sum := "b0bb37884af3402e853b7a856aa8bcaf101c5e31675bd626fd5f34d5194584e0", func := "haulier/haulierlaw12.BoundLess", spec := "boundLess", unfollowed := true, recurses := true, plainKeys := false, apart := false, narrowed := true }
def BoundLessUptoSaid : Prop := boundLessUptoRow.holds Try.pinned (OpenSpec.upto boundLessSpec)

/-- 'haulierlaw13.BetterWays', WHERE WHAT IT READS IS OF BULK AT MOST 1048576: true; the input reads as it did. -/
def betterWaysUptoRow : OpenClaim := { program := "ytpgbbnmflnhlbaa", sum := "b0bb37884af3402e853b7a856aa8bcaf101c5e31675bd626fd5f34d5194584e0", func := "haulier/haulierlaw13.BetterWays", spec := "betterWays", unfollowed := true, recurses := true, plainKeys := false, apart := false, narrowed := true }
def BetterWaysUptoSaid : Prop := betterWaysUptoRow.holds Try.pinned (OpenSpec.upto betterWaysSpec)

end Rows
end Go.Proofs.Ytpgbbnmflnhlbaa
