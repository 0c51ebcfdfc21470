/-
  No cell of these rows narrows 'for every input' (looked for: loops, veiled, ifaces, maps, wideKeys, modest, calm, conditions, laid).
  DERIVED. THE GIVEN ROWS OF THIS SEAT. 5 by the template 'for every input the law returns true; each argument reads behind the call as it read before'; 0 by the template 'total and deterministic' (their statements: YtofapalakpkkpaaTotals.lean).
  GIVEN WITH THE SEED: the statements are not yours to turn. If you find one false, say at which input.
  Laid BY PROGRAM, IN A SANDBOX (cutbox-rows.mjs): the forced cells as the released guide's own fill.sh prints them over the translation eeef5abae9246b39… (all of the seat's roots in one cut). By AI agents, Wed Nov 11 2026. No macro, syntax, notation, axiom, sorry.
-/
import Derived.Test.YtofapalakpkkpaaChecked
import GoSem.Claim
import GoSem.ClaimJoined
import GoSem.ClaimMapViews
import Derived.JoinedTies
import Derived.KernelRfl
namespace Go.Proofs.Ytofapalakpkkpaa
/- THE CELL 'sum', in the pinned program and in every row, IS THE sha256 OF THE DUMP (.gsa) THAT YtofapalakpkkpaaProg.lean LOADS. Nothing in Lean hashes anything: it is a label: what it is worth is what the hold of that sum in a sandbox is worth. -/
noncomputable def Try.pinned : Pinned := { name := "ytofapalakpkkpaa", sum := "eeef5abae9246b39caef4174f6b1f8593a2afa14c4523b864e07503eea50d0c2", checked := Try.checked }
namespace Rows
def none {H : Type} : Left H := { results := [], args := [] }

/-- 'haulierlaw13.BetterTells': WHATEVER THE INPUT: true; the input reads as it did. -/
def betterTellsSpec : ChangeSpec := { name := "betterTells", fn := fun _ => fun
  | [d1, d2, d3] => { results := [.lit (.bool true)], args := [d1, d2, d3] }
  | _ => none }
def betterTellsRow : OpenClaim := { program := "ytofapalakpkkpaa", sum := "eeef5abae9246b39caef4174f6b1f8593a2afa14c4523b864e07503eea50d0c2", func := "haulier/haulierlaw13.BetterTells", spec := "betterTells", unfollowed := true, recurses := true, plainKeys := false, apart := false }
def BetterTellsSaid : Prop := betterTellsRow.holds Try.pinned (OpenSpec.ofChange betterTellsSpec)

/-- ITS FALSE NEIGHBOUR: 'it returns false'. Refute it at one input. -/
def betterTellsWrong : ChangeSpec := { name := "betterTells", fn := fun _ => fun
  | [d1, d2, d3] => { results := [.lit (.bool false)], args := [d1, d2, d3] }
  | _ => none }
def BetterTellsWrongFalsely : Prop := betterTellsRow.holds Try.pinned (OpenSpec.ofChange betterTellsWrong)

/-- 'haulierlaw13.BetterFront': WHATEVER THE INPUT: true; the input reads as it did. -/
def betterFrontSpec : ChangeSpec := { name := "betterFront", fn := fun _ => fun
  | [d] => { results := [.lit (.bool true)], args := [d] }
  | _ => none }
def betterFrontRow : OpenClaim := { program := "ytofapalakpkkpaa", sum := "eeef5abae9246b39caef4174f6b1f8593a2afa14c4523b864e07503eea50d0c2", func := "haulier/haulierlaw13.BetterFront", spec := "betterFront", unfollowed := true, recurses := true, plainKeys := false, apart := false }
def BetterFrontSaid : Prop := betterFrontRow.holds Try.pinned (OpenSpec.ofChange betterFrontSpec)

/-- ITS FALSE NEIGHBOUR: 'it returns false'. Refute it at one input. -/
def betterFrontWrong : ChangeSpec := { name := "betterFront", fn := fun _ => fun
  | [d] => { results := [.lit (.bool false)], args := [d] }
  | _ => none }
def BetterFrontWrongFalsely : Prop := betterFrontRow.holds Try.pinned (OpenSpec.ofChange betterFrontWrong)

/-- 'haulierlaw13.BetterWays': WHATEVER THE INPUT: true; the input reads as it did. -/
def betterWaysSpec : ChangeSpec := { name := "betterWays", fn := fun _ => fun
  | [d1, d2, d3, d4] => { results := [.lit (.bool true)], args := [d1, d2, d3, d4] }
  | _ => none }
def betterWaysRow : OpenClaim := { program := "ytofapalakpkkpaa", sum := "eeef5abae9246b39caef4174f6b1f8593a2afa14c4523b864e07503eea50d0c2", func := "haulier/haulierlaw13.BetterWays", spec := "betterWays", unfollowed := true, recurses := true, plainKeys := false, apart := false }
def BetterWaysSaid : Prop := betterWaysRow.holds Try.pinned (OpenSpec.ofChange betterWaysSpec)

/-- ITS FALSE NEIGHBOUR: 'it returns false'. Refute it at one input. -/
def betterWaysWrong : ChangeSpec := { name := "betterWays", fn := fun _ => fun
  | [d1, d2, d3, d4] => { results := [.lit (.bool false)], args := [d1, d2, d3, d4] }
  | _ => none }
def BetterWaysWrongFalsely : Prop := betterWaysRow.holds Try.pinned (OpenSpec.ofChange betterWaysWrong)

/-- 'haulierlaw13.BetterTwice': WHATEVER THE INPUT: true; the input reads as it did. -/
def betterTwiceSpec : ChangeSpec := { name := "betterTwice", fn := fun _ => fun
  | [d] => { results := [.lit (.bool true)], args := [d] }
  | _ => none }
def betterTwiceRow : OpenClaim := { program := "ytofapalakpkkpaa", sum := "eeef5abae9246b39caef4174f6b1f8593a2afa14c4523b864e07503eea50d0c2", func := "haulier/haulierlaw13.BetterTwice", spec := "betterTwice", unfollowed := true, recurses := true, plainKeys := false, apart := false }
def BetterTwiceSaid : Prop := betterTwiceRow.holds Try.pinned (OpenSpec.ofChange betterTwiceSpec)

/-- ITS FALSE NEIGHBOUR: 'it returns false'. Refute it at one input. -/
def betterTwiceWrong : ChangeSpec := { name := "betterTwice", fn := fun _ => fun
  | [d] => { results := [.lit (.bool false)], args := [d] }
  | _ => none }
def BetterTwiceWrongFalsely : Prop := betterTwiceRow.holds Try.pinned (OpenSpec.ofChange betterTwiceWrong)

/-- 'haulierlaw13.BetterOrder': WHATEVER THE INPUT: true; the input reads as it did. -/
def betterOrderSpec : ChangeSpec := { name := "betterOrder", fn := fun _ => fun
  | [d1, d2, d3] => { results := [.lit (.bool true)], args := [d1, d2, d3] }
  | _ => none }
def betterOrderRow : OpenClaim := { program := "ytofapalakpkkpaa", sum := "eeef5abae9246b39caef4174f6b1f8593a2afa14c4523b864e07503eea50d0c2", func := "haulier/haulierlaw13.BetterOrder", spec := "betterOrder", unfollowed := true, recurses := true, plainKeys := false, apart := false }
def BetterOrderSaid : Prop := betterOrderRow.holds Try.pinned (OpenSpec.ofChange betterOrderSpec)

/-- ITS FALSE NEIGHBOUR: 'it returns false'. Refute it at one input. -/
def betterOrderWrong : ChangeSpec := { name := "betterOrder", fn := fun _ => fun
  | [d1, d2, d3] => { results := [.lit (.bool false)], args := [d1, d2, d3] }
  | _ => none }
def BetterOrderWrongFalsely : Prop := betterOrderRow.holds Try.pinned (OpenSpec.ofChange betterOrderWrong)

/- THE SECOND FORM. 'bulk': how many values and letters a reading holds, each counted each time it is reached (what is shared counts as often as it is met; a slice's spare places count too). A statement '..UptoSaid' is the law's where the arguments, and the package variables that the reading takes, are together of bulk at most 1048576: NARROWER than '..Said'. Prove '..Said' where nothing that the law and all that it calls make is longer than what came in: it says more and counts as full. Else prove '..UptoSaid'. A law counts once. -/
mutual
def uptoBulk {H : Type} : DataW H → Nat
  | .lit (.string bytes) => bytes.length + 1
  | .lit _ => 1
  | .nil => 1
  | .ptr d => uptoBulk d + 1
  | .slice elems spare => uptoBulkAll elems + uptoBulkAll spare + 1
  | .agg parts => uptoBulkAll parts + 1
  | .iface _ d => uptoBulk d + 1
  | .map entries => uptoBulkEntries entries + 1
  | .held _ => 1
def uptoBulkAll {H : Type} : List (DataW H) → Nat
  | [] => 0
  | d :: r => uptoBulk d + uptoBulkAll r
def uptoBulkEntries {H : Type} : List (Lit × DataW H) → Nat
  | [] => 0
  | x :: r => uptoBulkEntry x + uptoBulkEntries r
def uptoBulkEntry {H : Type} : Lit × DataW H → Nat
  | (.string bytes, d) => bytes.length + uptoBulk d + 1
  | (_, d) => uptoBulk d + 1
 end
def uptoSmall : (H : Type) → List (DataW H) → Bool := fun _ ds => decide (uptoBulkAll ds ≤ 1048576)
def OpenSpec.upto (s : _root_.Go.ChangeSpec) : _root_.Go.OpenSpec := { _root_.Go.OpenSpec.ofChange s with cond := some uptoSmall }

/-- 'haulierlaw13.BetterTells', WHERE WHAT IT READS IS OF BULK AT MOST 1048576: true; the input reads as it did. -/
def betterTellsUptoRow : OpenClaim := { program := "ytofapalakpkkpaa", sum := "eeef5abae9246b39caef4174f6b1f8593a2afa14c4523b864e07503eea50d0c2", func := "haulier/haulierlaw13.BetterTells", spec := "betterTells", unfollowed := true, recurses := true, plainKeys := false, apart := false, narrowed := true }
def BetterTellsUptoSaid : Prop := betterTellsUptoRow.holds Try.pinned (OpenSpec.upto betterTellsSpec)

/-- 'haulierlaw13.BetterFront', WHERE WHAT IT READS IS OF BULK AT MOST 1048576: true; the input reads as it did. -/
def betterFrontUptoRow : OpenClaim := { program := "ytofapalakpkkpaa", sum := "eeef5abae9246b39caef4174f6b1f8593a2afa14c4523b864e07503eea50d0c2", func := "haulier/haulierlaw13.BetterFront", spec := "betterFront", unfollowed := true, recurses := true, plainKeys := false, apart := false, narrowed := true }
def BetterFrontUptoSaid : Prop := betterFrontUptoRow.holds Try.pinned (OpenSpec.upto betterFrontSpec)

/-- 'haulierlaw13.BetterWays', WHERE WHAT IT READS IS OF BULK AT MOST 1048576: true; the input reads as it did. -/
def betterWaysUptoRow : OpenClaim := { program := "ytofapalakpkkpaa", sum := "eeef5abae9246b39caef4174f6b1f8593a2afa14c4523b864e07503eea50d0c2", func := "haulier/haulierlaw13.BetterWays", spec := "betterWays", unfollowed := true, recurses := true, plainKeys := false, apart := false, narrowed := true }
def BetterWaysUptoSaid : Prop := betterWaysUptoRow.holds Try.pinned (OpenSpec.upto betterWaysSpec)

/-- 'haulierlaw13.BetterTwice', WHERE WHAT IT READS IS OF BULK AT MOST 1048576: true; the input reads as it did. -/
def betterTwiceUptoRow : OpenClaim := { program := "ytofapalakpkkpaa", sum := "eeef5abae9246b39caef4174f6b1f8593a2afa14c4523b864e07503eea50d0c2", func := "haulier/haulierlaw13.BetterTwice", spec := "betterTwice", unfollowed := true, recurses := true, plainKeys := false, apart := false, narrowed := true }
def BetterTwiceUptoSaid : Prop := betterTwiceUptoRow.holds Try.pinned (OpenSpec.upto betterTwiceSpec)

/-- 'haulierlaw13.BetterOrder', WHERE WHAT IT READS IS OF BULK AT MOST 1048576: true; the input reads as it did. -/
def betterOrderUptoRow : OpenClaim := { program := "ytofapalakpkkpaa", sum := "eeef5abae9246b39caef4174f6b1f8593a2afa14c4523b864e07503eea50d0c2", func := "haulier/haulierlaw13.BetterOrder", spec := "betterOrder", unfollowed := true, recurses := true, plainKeys := false, apart := false, narrowed := true }
def BetterOrderUptoSaid : Prop := betterOrderUptoRow.holds Try.pinned (OpenSpec.upto betterOrderSpec)

end Rows
end Go.Proofs.Ytofapalakpkkpaa
