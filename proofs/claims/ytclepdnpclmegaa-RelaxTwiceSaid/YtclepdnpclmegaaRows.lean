/-
  No cell of these rows narrows 'for every input' (looked for: loops, veiled, ifaces, maps, wideKeys, modest, calm, conditions, laid).
  DERIVED. THE GIVEN ROWS OF THIS SEAT. 6 by the template 'for every input the law returns true; each argument reads behind the call as it read before'; 0 by the template 'total and deterministic' (their statements: YtclepdnpclmegaaTotals.lean).
  GIVEN WITH THE SEED: the statements are not yours to turn. If you find one false, say at which input.
  Laid BY PROGRAM, IN A SANDBOX (cutbox-rows.mjs): the forced cells as the released guide's own fill.sh prints them over the translation ac1ef8a426e8bb7a… (all of the seat's roots in one cut). By AI agents, Wed Nov 11 2026. No macro, syntax, notation, axiom, sorry.
-/
import Derived.Test.YtclepdnpclmegaaChecked
import GoSem.Claim
import GoSem.ClaimJoined
import GoSem.ClaimMapViews
import Derived.JoinedTies
import Derived.KernelRfl
namespace Go.Proofs.Ytclepdnpclmegaa
/- THE CELL 'sum', in the pinned program and in every row, IS THE sha256 OF THE DUMP (.gsa) THAT YtclepdnpclmegaaProg.lean LOADS. Nothing in Lean hashes anything: it is a label: what it is worth is what the hold of that sum in a sandbox is worth. -/
noncomputable def Try.pinned : Pinned := { name := "ytclepdnpclmegaa", sum := "ac1ef8a426e8bb7a1bc3faf97f3c8b2695063bb49280643f5c9bd1d51891e670", checked := Try.checked }
namespace Rows
def none {H : Type} : Left H := { results := [], args := [] }

/-- 'haulierlaw11.RelaxTells': WHATEVER THE INPUT: true; the input reads as it did. -/
def relaxTellsSpec : ChangeSpec := { name := "relaxTells", fn := fun _ => fun
  | [d1, d2, d3] => { results := [.lit (.bool true)], args := [d1, d2, d3] }
  | _ => none }
def relaxTellsRow : OpenClaim := { program := "ytclepdnpclmegaa", sum := "ac1ef8a426e8bb7a1bc3faf97f3c8b2695063bb49280643f5c9bd1d51891e670", func := "haulier/haulierlaw11.RelaxTells", spec := "relaxTells", unfollowed := true, recurses := true, apart := false }
def RelaxTellsSaid : Prop := relaxTellsRow.holds Try.pinned (OpenSpec.ofChange relaxTellsSpec)

/-- ITS FALSE NEIGHBOUR: 'it returns false'. Refute it at one input. -/
def relaxTellsWrong : ChangeSpec := { name := "relaxTells", fn := fun _ => fun
  | [d1, d2, d3] => { results := [.lit (.bool false)], args := [d1, d2, d3] }
  | _ => none }
def RelaxTellsWrongFalsely : Prop := relaxTellsRow.holds Try.pinned (OpenSpec.ofChange relaxTellsWrong)

/-- 'haulierlaw11.RelaxJoins': WHATEVER THE INPUT: true; the input reads as it did. -/
def relaxJoinsSpec : ChangeSpec := { name := "relaxJoins", fn := fun _ => fun
  | [d1, d2] => { results := [.lit (.bool true)], args := [d1, d2] }
  | _ => none }
def relaxJoinsRow : OpenClaim := { program := "ytclepdnpclmegaa", sum := "ac1ef8a426e8bb7a1bc3faf97f3c8b2695063bb49280643f5c9bd1d51891e670", func := "haulier/haulierlaw11.RelaxJoins", spec := "relaxJoins", unfollowed := true, recurses := true, apart := false }
def RelaxJoinsSaid : Prop := relaxJoinsRow.holds Try.pinned (OpenSpec.ofChange relaxJoinsSpec)

/-- ITS FALSE NEIGHBOUR: 'it returns false'. Refute it at one input. -/
def relaxJoinsWrong : ChangeSpec := { name := "relaxJoins", fn := fun _ => fun
  | [d1, d2] => { results := [.lit (.bool false)], args := [d1, d2] }
  | _ => none }
def RelaxJoinsWrongFalsely : Prop := relaxJoinsRow.holds Try.pinned (OpenSpec.ofChange relaxJoinsWrong)

/-- 'haulierlaw11.RelaxOrder': WHATEVER THE INPUT: true; the input reads as it did. -/
def relaxOrderSpec : ChangeSpec := { name := "relaxOrder", fn := fun _ => fun
  | [d1, d2, d3] => { results := [.lit (.bool true)], args := [d1, d2, d3] }
  | _ => none }
def relaxOrderRow : OpenClaim := { program := "ytclepdnpclmegaa", sum := "ac1ef8a426e8bb7a1bc3faf97f3c8b2695063bb49280643f5c9bd1d51891e670", func := "haulier/haulierlaw11.RelaxOrder", spec := "relaxOrder", unfollowed := true, recurses := true, apart := false }
def RelaxOrderSaid : Prop := relaxOrderRow.holds Try.pinned (OpenSpec.ofChange relaxOrderSpec)

/-- ITS FALSE NEIGHBOUR: 'it returns false'. Refute it at one input. -/
def relaxOrderWrong : ChangeSpec := { name := "relaxOrder", fn := fun _ => fun
  | [d1, d2, d3] => { results := [.lit (.bool false)], args := [d1, d2, d3] }
  | _ => none }
def RelaxOrderWrongFalsely : Prop := relaxOrderRow.holds Try.pinned (OpenSpec.ofChange relaxOrderWrong)

/-- 'haulierlaw11.RelaxMoves': WHATEVER THE INPUT: true; the input reads as it did. -/
def relaxMovesSpec : ChangeSpec := { name := "relaxMoves", fn := fun _ => fun
  | [d1, d2, d3] => { results := [.lit (.bool true)], args := [d1, d2, d3] }
  | _ => none }
def relaxMovesRow : OpenClaim := { program := "ytclepdnpclmegaa", sum := "ac1ef8a426e8bb7a1bc3faf97f3c8b2695063bb49280643f5c9bd1d51891e670", func := "haulier/haulierlaw11.RelaxMoves", spec := "relaxMoves", unfollowed := true, recurses := true, apart := false }
def RelaxMovesSaid : Prop := relaxMovesRow.holds Try.pinned (OpenSpec.ofChange relaxMovesSpec)

/-- ITS FALSE NEIGHBOUR: 'it returns false'. Refute it at one input. -/
def relaxMovesWrong : ChangeSpec := { name := "relaxMoves", fn := fun _ => fun
  | [d1, d2, d3] => { results := [.lit (.bool false)], args := [d1, d2, d3] }
  | _ => none }
def RelaxMovesWrongFalsely : Prop := relaxMovesRow.holds Try.pinned (OpenSpec.ofChange relaxMovesWrong)

/-- 'haulierlaw11.RelaxTwice': WHATEVER THE INPUT: true; the input reads as it did. -/
def relaxTwiceSpec : ChangeSpec := { name := "relaxTwice", fn := fun _ => fun
  | [d1, d2] => { results := [.lit (.bool true)], args := [d1, d2] }
  | _ => none }
def relaxTwiceRow : OpenClaim := { program := "ytclepdnpclmegaa", sum := "ac1ef8a426e8bb7a1bc3faf97f3c8b2695063bb49280643f5c9bd1d51891e670", func := "haulier/haulierlaw11.RelaxTwice", spec := "relaxTwice", unfollowed := true, recurses := true, apart := false }
def RelaxTwiceSaid : Prop := relaxTwiceRow.holds Try.pinned (OpenSpec.ofChange relaxTwiceSpec)

/-- ITS FALSE NEIGHBOUR: 'it returns false'. Refute it at one input. -/
def relaxTwiceWrong : ChangeSpec := { name := "relaxTwice", fn := fun _ => fun
  | [d1, d2] => { results := [.lit (.bool false)], args := [d1, d2] }
  | _ => none }
def RelaxTwiceWrongFalsely : Prop := relaxTwiceRow.holds Try.pinned (OpenSpec.ofChange relaxTwiceWrong)

/-- 'haulierlaw11.RelaxWays': WHATEVER THE INPUT: true; the input reads as it did. -/
def relaxWaysSpec : ChangeSpec := { name := "relaxWays", fn := fun _ => fun
  | [d1, d2, d3, d4] => { results := [.lit (.bool true)], args := [d1, d2, d3, d4] }
  | _ => none }
def relaxWaysRow : OpenClaim := { program := "ytclepdnpclmegaa", sum := "ac1ef8a426e8bb7a1bc3faf97f3c8b2695063bb49280643f5c9bd1d51891e670", func := "haulier/haulierlaw11.RelaxWays", spec := "relaxWays", unfollowed := true, recurses := true, apart := false }
def RelaxWaysSaid : Prop := relaxWaysRow.holds Try.pinned (OpenSpec.ofChange relaxWaysSpec)

/-- ITS FALSE NEIGHBOUR: 'it returns false'. Refute it at one input. -/
def relaxWaysWrong : ChangeSpec := { name := "relaxWays", fn := fun _ => fun
  | [d1, d2, d3, d4] => { results := [.lit (.bool false)], args := [d1, d2, d3, d4] }
  | _ => none }
def RelaxWaysWrongFalsely : Prop := relaxWaysRow.holds Try.pinned (OpenSpec.ofChange relaxWaysWrong)

/- THE SECOND FORM. 'bulk': how many values and letters a reading holds, each counted each time it is reached (what is shared counts as often as it is met; a slice's spare places count too). A statement '..UptoSaid' is the law's where the arguments, and the package variables that the reading takes, are together of bulk at most 1048576: NARROWER than '..Said'. Prove '..Said' where nothing that the law and all that it calls make is longer than what came in: it says more and counts as full. Else prove '..UptoSaid'. A law counts once. -/
mutual
def uptoBulk {H : Type} : DataW H → Nat
  | .lit (.string bytes) => bytes.length + 1
  | .lit _ => 1
  | .nil => 1
  | .ptr d => uptoBulk d + 1
  | .slice elems spare => uptoBulkAll elems + uptoBulkAll spare + 1
  | .agg parts => uptoBulkAll parts + 1
  | .iface _ d => uptoBulk d + 1
  | .map entries => uptoBulkEntries entries + 1
  | .held _ => 1
def uptoBulkAll {H : Type} : List (DataW H) → Nat
  | [] => 0
  | d :: r => uptoBulk d + uptoBulkAll r
def uptoBulkEntries {H : Type} : List (Lit × DataW H) → Nat
  | [] => 0
  | x :: r => uptoBulkEntry x + uptoBulkEntries r
def uptoBulkEntry {H : Type} : Lit × DataW H → Nat
  | (.string bytes, d) => bytes.length + uptoBulk d + 1
  | (_, d) => uptoBulk d + 1
 end
def uptoSmall : (H : Type) → List (DataW H) → Bool := fun _ ds => decide (uptoBulkAll ds ≤ 1048576)
def OpenSpec.upto (s : _root_.Go.ChangeSpec) : _root_.Go.OpenSpec := { _root_.Go.OpenSpec.ofChange s with cond := some uptoSmall }

/-- 'haulierlaw11.RelaxTells', WHERE WHAT IT READS IS OF BULK AT MOST 1048576: true; the input reads as it did. -/
def relaxTellsUptoRow : OpenClaim := { program := "ytclepdnpclmegaa", sum := "ac1ef8a426e8bb7a1bc3faf97f3c8b2695063bb49280643f5c9bd1d51891e670", func := "haulier/haulierlaw11.RelaxTells", spec := "relaxTells", unfollowed := true, recurses := true, apart := false, narrowed := true }
def RelaxTellsUptoSaid : Prop := relaxTellsUptoRow.holds Try.pinned (OpenSpec.upto relaxTellsSpec)

/-- 'haulierlaw11.RelaxJoins', WHERE WHAT IT READS IS OF BULK AT MOST 1048576: true; the input reads as it did. -/
def relaxJoinsUptoRow : OpenClaim := { program := "ytclepdnpclmegaa", sum := "ac1ef8a426e8bb7a1bc3faf97f3c8b2695063bb49280643f5c9bd1d51891e670", func := "haulier/haulierlaw11.RelaxJoins", spec := "relaxJoins", unfollowed := true, recurses := true, apart := false, narrowed := true }
def RelaxJoinsUptoSaid : Prop := relaxJoinsUptoRow.holds Try.pinned (OpenSpec.upto relaxJoinsSpec)

/-- 'haulierlaw11.RelaxOrder', WHERE WHAT IT READS IS OF BULK AT MOST 1048576: true; the input reads as it did. -/
def relaxOrderUptoRow : OpenClaim := { program := "ytclepdnpclmegaa", sum := "ac1ef8a426e8bb7a1bc3faf97f3c8b2695063bb49280643f5c9bd1d51891e670", func := "haulier/haulierlaw11.RelaxOrder", spec := "relaxOrder", unfollowed := true, recurses := true, apart := false, narrowed := true }
def RelaxOrderUptoSaid : Prop := relaxOrderUptoRow.holds Try.pinned (OpenSpec.upto relaxOrderSpec)

/-- 'haulierlaw11.RelaxMoves', WHERE WHAT IT READS IS OF BULK AT MOST 1048576: true; the input reads as it did. -/
def relaxMovesUptoRow : OpenClaim := { program := "ytclepdnpclmegaa", sum := "ac1ef8a426e8bb7a1bc3faf97f3c8b2695063bb49280643f5c9bd1d51891e670", func := "haulier/haulierlaw11.RelaxMoves", spec := "relaxMoves", unfollowed := true, recurses := true, apart := false, narrowed := true }
def RelaxMovesUptoSaid : Prop := relaxMovesUptoRow.holds Try.pinned (OpenSpec.upto relaxMovesSpec)

/-- 'haulierlaw11.RelaxTwice', WHERE WHAT IT READS IS OF BULK AT MOST 1048576: true; the input reads as it did. -/
def relaxTwiceUptoRow : OpenClaim := { program := "ytclepdnpclmegaa", sum := "ac1ef8a426e8bb7a1bc3faf97f3c8b2695063bb49280643f5c9bd1d51891e670", func := "haulier/haulierlaw11.RelaxTwice", spec := "relaxTwice", unfollowed := true, recurses := true, apart := false, narrowed := true }
def RelaxTwiceUptoSaid : Prop := relaxTwiceUptoRow.holds Try.pinned (OpenSpec.upto relaxTwiceSpec)

/-- 'haulierlaw11.RelaxWays', WHERE WHAT IT READS IS OF BULK AT MOST 1048576: true; the input reads as it did. -/
def relaxWaysUptoRow : OpenClaim := { program := "ytclepdnpclmegaa", sum := "ac1ef8a426e8bb7a1bc3faf97f3c8b2695063bb49280643f5c9bd1d51891e670", func := "haulier/haulierlaw11.RelaxWays", spec := "relaxWays", unfollowed := true, recurses := true, apart := false, narrowed := true }
def RelaxWaysUptoSaid : Prop := relaxWaysUptoRow.holds Try.pinned (OpenSpec.upto relaxWaysSpec)

end Rows
end Go.Proofs.Ytclepdnpclmegaa
