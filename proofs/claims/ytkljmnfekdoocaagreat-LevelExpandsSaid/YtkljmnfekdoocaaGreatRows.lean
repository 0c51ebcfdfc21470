/-
  No cell of these rows narrows 'for every input' (looked for: loops, veiled, ifaces, maps, wideKeys, modest, calm, conditions, laid).
  DERIVED. THE GIVEN ROWS OF THIS SEAT. 3 by the template 'for every input the law returns true; each argument reads behind the call as it read before'; 0 by the template 'total and deterministic' (their statements: YtkljmnfekdoocaaGreatTotals.lean).
  GIVEN WITH THE SEED: the statements are not yours to turn. If you find one false, say at which input.
  Laid BY PROGRAM, IN A SANDBOX (cutbox-rows.mjs): the forced cells as the released guide's own fill.sh prints them over the translation bb22f9a2b6037e49… (all of the seat's roots in one cut). By AI agents, Wed Nov 11 2026. No macro, syntax, notation, axiom, sorry.
-/
import Derived.Test.YtkljmnfekdoocaaGreatChecked
import GoSem.Claim
import GoSem.ClaimJoined
import GoSem.ClaimMapViews
import Derived.JoinedTies
import Derived.KernelRfl
namespace Go.Proofs.YtkljmnfekdoocaaGreat
/- THE CELL 'sum', in the pinned program and in every row, IS THE sha256 OF THE DUMP (.gsa) THAT YtkljmnfekdoocaaGreatProg.lean LOADS. Nothing in Lean hashes anything: it is a label: what it is worth is what the hold of that sum in a sandbox is worth. -/
noncomputable def Tryz.pinned : Pinned := { name := "ytkljmnfekdoocaagreat", sum := "bb22f9a2b6037e4910ff386a460abb5ccd3b0558776398c96d1d6c8a74ca2796", checked := Tryz.checked }
namespace Rows
def none {H : Type} : Left H := { results := [], args := [] }

/-- 'haulierlaw14.LevelExpands': WHATEVER THE INPUT: true; the input reads as it did. -/
def levelExpandsSpec : ChangeSpec := { name := "levelExpands", fn := fun _ => fun
  | [d1, d2, d3] => { results := [.lit (.bool true)], args := [d1, d2, d3] }
  | _ => none }
def levelExpandsRow : OpenClaim := { program := "ytkljmnfekdoocaagreat", sum := "bb22f9a2b6037e4910ff386a460abb5ccd3b0558776398c96d1d6c8a74ca2796", func := "haulier/haulierlaw14.LevelExpands", spec := "levelExpands", unfollowed := true, recurses := true, plainKeys := false, apart := false }
def LevelExpandsSaid : Prop := levelExpandsRow.holds Tryz.pinned (OpenSpec.ofChange levelExpandsSpec)

/-- ITS FALSE NEIGHBOUR: 'it returns false'. Refute it at one input. -/
def levelExpandsWrong : ChangeSpec := { name := "levelExpands", fn := fun _ => fun
  | [d1, d2, d3] => { results := [.lit (.bool false)], args := [d1, d2, d3] }
  | _ => none }
def LevelExpandsWrongFalsely : Prop := levelExpandsRow.holds Tryz.pinned (OpenSpec.ofChange levelExpandsWrong)

/-- 'haulierlaw14.LevelSorts': WHATEVER THE INPUT: true; the input reads as it did. -/
def levelSortsSpec : ChangeSpec := { name := "levelSorts", fn := fun _ => fun
  | [d1, d2] => { results := [.lit (.bool true)], args := [d1, d2] }
  | _ => none }
def levelSortsRow : OpenClaim := { program := "ytkljmnfekdoocaagreat", sum := "bb22f9a2b6037e4910ff386a460abb5ccd3b0558776398c96d1d6c8a74ca2796", func := "haulier/haulierlaw14.LevelSorts", spec := "levelSorts", unfollowed := true, recurses := true, plainKeys := false, apart := false }
def LevelSortsSaid : Prop := levelSortsRow.holds Tryz.pinned (OpenSpec.ofChange levelSortsSpec)

/-- ITS FALSE NEIGHBOUR: 'it returns false'. Refute it at one input. -/
def levelSortsWrong : ChangeSpec := { name := "levelSorts", fn := fun _ => fun
  | [d1, d2] => { results := [.lit (.bool false)], args := [d1, d2] }
  | _ => none }
def LevelSortsWrongFalsely : Prop := levelSortsRow.holds Tryz.pinned (OpenSpec.ofChange levelSortsWrong)

/-- 'haulierlaw14.LevelOrder': WHATEVER THE INPUT: true; the input reads as it did. -/
def levelOrderSpec : ChangeSpec := { name := "levelOrder", fn := fun _ => fun
  | [d1, d2] => { results := [.lit (.bool true)], args := [d1, d2] }
  | _ => none }
def levelOrderRow : OpenClaim := { program := "ytkljmnfekdoocaagreat", sum := "bb22f9a2b6037e4910ff386a460abb5ccd3b0558776398c96d1d6c8a74ca2796", func := "haulier/haulierlaw14.LevelOrder", spec := "levelOrder", unfollowed := true, recurses := true, plainKeys := false, apart := false }
def LevelOrderSaid : Prop := levelOrderRow.holds Tryz.pinned (OpenSpec.ofChange levelOrderSpec)

/-- ITS FALSE NEIGHBOUR: 'it returns false'. Refute it at one input. -/
def levelOrderWrong : ChangeSpec := { name := "levelOrder", fn := fun _ => fun
  | [d1, d2] => { results := [.lit (.bool false)], args := [d1, d2] }
  | _ => none }
def LevelOrderWrongFalsely : Prop := levelOrderRow.holds Tryz.pinned (OpenSpec.ofChange levelOrderWrong)

/- THE SECOND FORM. 'bulk': how many values and letters a reading holds, each counted each time it is reached (what is shared counts as often as it is met; a slice's spare places count too). A statement '..UptoSaid' is the law's where the arguments, and the package variables that the reading takes, are together of bulk at most 1048576: NARROWER than '..Said'. Prove '..Said' where nothing that the law and all that it calls make is longer than what came in: it says more and counts as full. Else prove '..UptoSaid'. A law counts once. -/
mutual
def uptoBulk {H : Type} : DataW H → Nat
  | .lit (.string bytes) => bytes.length + 1
  | .lit _ => 1
  | .nil => 1
  | .ptr d => uptoBulk d + 1
  | .slice elems spare => uptoBulkAll elems + uptoBulkAll spare + 1
  | .agg parts => uptoBulkAll parts + 1
  | .iface _ d => uptoBulk d + 1
  | .map entries => uptoBulkEntries entries + 1
  | .held _ => 1
def uptoBulkAll {H : Type} : List (DataW H) → Nat
  | [] => 0
  | d :: r => uptoBulk d + uptoBulkAll r
def uptoBulkEntries {H : Type} : List (Lit × DataW H) → Nat
  | [] => 0
  | x :: r => uptoBulkEntry x + uptoBulkEntries r
def uptoBulkEntry {H : Type} : Lit × DataW H → Nat
  | (.string bytes, d) => bytes.length + uptoBulk d + 1
  | (_, d) => uptoBulk d + 1
 end
def uptoSmall : (H : Type) → List (DataW H) → Bool := fun _ ds => decide (uptoBulkAll ds ≤ 1048576)
def OpenSpec.upto (s : _root_.Go.ChangeSpec) : _root_.Go.OpenSpec := { _root_.Go.OpenSpec.ofChange s with cond := some uptoSmall }

/-- 'haulierlaw14.LevelExpands', WHERE WHAT IT READS IS OF BULK AT MOST 1048576: true; the input reads as it did. -/
def levelExpandsUptoRow : OpenClaim := { program := "ytkljmnfekdoocaagreat", sum := "bb22f9a2b6037e4910ff386a460abb5ccd3b0558776398c96d1d6c8a74ca2796", func := "haulier/haulierlaw14.LevelExpands", spec := "levelExpands", unfollowed := true, recurses := true, plainKeys := false, apart := false, narrowed := true }
def LevelExpandsUptoSaid : Prop := levelExpandsUptoRow.holds Tryz.pinned (OpenSpec.upto levelExpandsSpec)

/-- 'haulierlaw14.LevelSorts', WHERE WHAT IT READS IS OF BULK AT MOST 1048576: true; the input reads as it did. -/
def levelSortsUptoRow : OpenClaim := { program := "ytkljmnfekdoocaagreat", sum := "bb22f9a2b6037e4910ff386a460abb5ccd3b0558776398c96d1d6c8a74ca2796", func := "haulier/haulierlaw14.LevelSorts", spec := "levelSorts", unfollowed := true, recurses := true, plainKeys := false, apart := false, narrowed := true }
def LevelSortsUptoSaid : Prop := levelSortsUptoRow.holds Tryz.pinned (OpenSpec.upto levelSortsSpec)

/-- 'haulierlaw14.LevelOrder', WHERE WHAT IT READS IS OF BULK AT MOST 1048576: true; the input reads as it did. -/
def levelOrderUptoRow : OpenClaim := { program := "ytkljmnfekdoocaagreat", sum := "bb22f9a2b6037e4910ff386a460abb5ccd3b0558776398c96d1d6c8a74ca2796", func := "haulier/haulierlaw14.LevelOrder", spec := "levelOrder", unfollowed := true, recurses := true, plainKeys := false, apart := false, narrowed := true }
def LevelOrderUptoSaid : Prop := levelOrderUptoRow.holds Tryz.pinned (OpenSpec.upto levelOrderSpec)

end Rows
end Go.Proofs.YtkljmnfekdoocaaGreat
