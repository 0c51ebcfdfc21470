/-
  No cell of these rows narrows 'for every input' (looked for: loops, veiled, ifaces, maps, wideKeys, modest, calm, conditions, laid).
  DERIVED. THE GIVEN ROWS OF THIS SEAT. 4 by the template 'for every input the law returns true; each argument reads behind the call as it read before'; 0 by the template 'total and deterministic' (their statements: YtkljmnfekdoocaaTotals.lean).
  GIVEN WITH THE SEED: the statements are not yours to turn. If you find one false, say at which input.
  Laid BY PROGRAM, IN A SANDBOX (cutbox-rows.mjs): the forced cells as the released guide's own fill.sh prints them over the translation 486192740b46b689… (all of the seat's roots in one cut). By AI agents, Wed Nov 11 2026. No macro, syntax, notation, axiom, sorry.
-/
import Derived.Test.YtkljmnfekdoocaaChecked
import GoSem.Claim
import GoSem.ClaimJoined
import GoSem.ClaimMapViews
import Derived.JoinedTies
import Derived.KernelRfl
namespace Go.Proofs.Ytkljmnfekdoocaa
/- THE CELL 'sum', in the pinned program and in every row, IS THE sha256 OF THE DUMP (.gsa) THAT YtkljmnfekdoocaaProg.lean LOADS. Nothing in Lean hashes anything: it is a label: what it is worth is what the hold of that sum in a sandbox is worth. -/
noncomputable def Try.pinned : Pinned := { name := "ytkljmnfekdoocaa", sum := "486192740b46b68907faf22bde279157353d24cae5c178339edaa6bfbebb5d47", checked := Try.checked }
namespace Rows
def none {H : Type} : Left H := { results := [], args := [] }

/-- 'haulierlaw14.LevelKeeps': WHATEVER THE INPUT: true; the input reads as it did. -/
def levelKeepsSpec : ChangeSpec := { name := "levelKeeps", fn := fun _ => fun
  | [d1, d2, d3, d4, d5] => { results := [.lit (.bool true)], args := [d1, d2, d3, d4, d5] }
  | _ => none }
def levelKeepsRow : OpenClaim := { program := "ytkljmnfekdoocaa", sum := "486192740b46b68907faf22bde279157353d24cae5c178339edaa6bfbebb5d47", func := "haulier/haulierlaw14.LevelKeeps", spec := "levelKeeps", unfollowed := true, recurses := true, plainKeys := false, apart := false }
def LevelKeepsSaid : Prop := levelKeepsRow.holds Try.pinned (OpenSpec.ofChange levelKeepsSpec)

/-- ITS FALSE NEIGHBOUR: 'it returns false'. Refute it at one input. -/
def levelKeepsWrong : ChangeSpec := { name := "levelKeeps", fn := fun _ => fun
  | [d1, d2, d3, d4, d5] => { results := [.lit (.bool false)], args := [d1, d2, d3, d4, d5] }
  | _ => none }
def LevelKeepsWrongFalsely : Prop := levelKeepsRow.holds Try.pinned (OpenSpec.ofChange levelKeepsWrong)

/-- 'haulierlaw14.LevelOnce': WHATEVER THE INPUT: true; the input reads as it did. -/
def levelOnceSpec : ChangeSpec := { name := "levelOnce", fn := fun _ => fun
  | [d] => { results := [.lit (.bool true)], args := [d] }
  | _ => none }
def levelOnceRow : OpenClaim := { program := "ytkljmnfekdoocaa", sum := "486192740b46b68907faf22bde279157353d24cae5c178339edaa6bfbebb5d47", func := "haulier/haulierlaw14.LevelOnce", spec := "levelOnce", unfollowed := true, recurses := true, plainKeys := false, apart := false }
def LevelOnceSaid : Prop := levelOnceRow.holds Try.pinned (OpenSpec.ofChange levelOnceSpec)

/-- ITS FALSE NEIGHBOUR: 'it returns false'. Refute it at one input. -/
def levelOnceWrong : ChangeSpec := { name := "levelOnce", fn := fun _ => fun
  | [d] => { results := [.lit (.bool false)], args := [d] }
  | _ => none }
def LevelOnceWrongFalsely : Prop := levelOnceRow.holds Try.pinned (OpenSpec.ofChange levelOnceWrong)

/-- 'haulierlaw14.LevelChildren': WHATEVER THE INPUT: true; the input reads as it did. -/
def levelChildrenSpec : ChangeSpec := { name := "levelChildren", fn := fun _ => fun
  | [d1, d2, d3] => { results := [.lit (.bool true)], args := [d1, d2, d3] }
  | _ => none }
def levelChildrenRow : OpenClaim := { program := "ytkljmnfekdoocaa", sum := "486192740b46b68907faf22bde279157353d24cae5c178339edaa6bfbebb5d47", func := "haulier/haulierlaw14.LevelChildren", spec := "levelChildren", unfollowed := true, recurses := true, plainKeys := false, apart := false }
def LevelChildrenSaid : Prop := levelChildrenRow.holds Try.pinned (OpenSpec.ofChange levelChildrenSpec)

/-- ITS FALSE NEIGHBOUR: 'it returns false'. Refute it at one input. -/
def levelChildrenWrong : ChangeSpec := { name := "levelChildren", fn := fun _ => fun
  | [d1, d2, d3] => { results := [.lit (.bool false)], args := [d1, d2, d3] }
  | _ => none }
def LevelChildrenWrongFalsely : Prop := levelChildrenRow.holds Try.pinned (OpenSpec.ofChange levelChildrenWrong)

/-- 'haulierlaw14.LevelLess': WHATEVER THE INPUT: true; the input reads as it did. -/
def levelLessSpec : ChangeSpec := { name := "levelLess", fn := fun _ => fun
  | [d1, d2, d3, d4] => { results := [.lit (.bool true)], args := [d1, d2, d3, d4] }
  | _ => none }
def levelLessRow : OpenClaim := { program := "ytkljmnfekdoocaa", sum := "486192740b46b68907faf22bde279157353d24cae5c178339edaa6bfbebb5d47", func := "haulier/haulierlaw14.LevelLess", spec := "levelLess", unfollowed := true, recurses := true, plainKeys := false, apart := false }
def LevelLessSaid : Prop := levelLessRow.holds Try.pinned (OpenSpec.ofChange levelLessSpec)

/-- ITS FALSE NEIGHBOUR: 'it returns false'. Refute it at one input. -/
def levelLessWrong : ChangeSpec := { name := "levelLess", fn := fun _ => fun
  | [d1, d2, d3, d4] => { results := [.lit (.bool false)], args := [d1, d2, d3, d4] }
  | _ => none }
def LevelLessWrongFalsely : Prop := levelLessRow.holds Try.pinned (OpenSpec.ofChange levelLessWrong)

/- THE SECOND FORM. 'bulk': how many values and letters a reading holds, each counted each time it is reached (what is shared counts as often as it is met; a slice's spare places count too). A statement '..UptoSaid' is the law's where the arguments, and the package variables that the reading takes, are together of bulk at most 1048576: NARROWER than '..Said'. Prove '..Said' where nothing that the law and all that it calls make is longer than what came in: it says more and counts as full. Else prove '..UptoSaid'. A law counts once. -/
mutual
def uptoBulk {H : Type} : DataW H → Nat
  | .lit (.string bytes) => bytes.length + 1
  | .lit _ => 1
  | .nil => 1
  | .ptr d => uptoBulk d + 1
  | .slice elems spare => uptoBulkAll elems + uptoBulkAll spare + 1
  | .agg parts => uptoBulkAll parts + 1
  | .iface _ d => uptoBulk d + 1
  | .map entries => uptoBulkEntries entries + 1
  | .held _ => 1
def uptoBulkAll {H : Type} : List (DataW H) → Nat
  | [] => 0
  | d :: r => uptoBulk d + uptoBulkAll r
def uptoBulkEntries {H : Type} : List (Lit × DataW H) → Nat
  | [] => 0
  | x :: r => uptoBulkEntry x + uptoBulkEntries r
def uptoBulkEntry {H : Type} : Lit × DataW H → Nat
  | (.string bytes, d) => bytes.length + uptoBulk d + 1
  | (_, d) => uptoBulk d + 1
 end
def uptoSmall : (H : Type) → List (DataW H) → Bool := fun _ ds => decide (uptoBulkAll ds ≤ 1048576)
def OpenSpec.upto (s : _root_.Go.ChangeSpec) : _root_.Go.OpenSpec := { _root_.Go.OpenSpec.ofChange s with cond := some uptoSmall }

/-- 'haulierlaw14.LevelKeeps', WHERE WHAT IT READS IS OF BULK AT MOST 1048576: true; the input reads as it did. -/
def levelKeepsUptoRow : OpenClaim := { program := "ytkljmnfekdoocaa", sum := "486192740b46b68907faf22bde279157353d24cae5c178339edaa6bfbebb5d47", func := "haulier/haulierlaw14.LevelKeeps", spec := "levelKeeps", unfollowed := true, recurses := true, plainKeys := false, apart := false, narrowed := true }
def LevelKeepsUptoSaid : Prop := levelKeepsUptoRow.holds Try.pinned (OpenSpec.upto levelKeepsSpec)

/-- 'haulierlaw14.LevelOnce', WHERE WHAT IT READS IS OF BULK AT MOST 1048576: true; the input reads as it did. -/
def levelOnceUptoRow : OpenClaim := { program := "ytkljmnfekdoocaa", sum := "486192740b46b68907faf22bde279157353d24cae5c178339edaa6bfbebb5d47", func := "haulier/haulierlaw14.LevelOnce", spec := "levelOnce", unfollowed := true, recurses := true, plainKeys := false, apart := false, narrowed := true }
def LevelOnceUptoSaid : Prop := levelOnceUptoRow.holds Try.pinned (OpenSpec.upto levelOnceSpec)

/-- 'haulierlaw14.LevelChildren', WHERE WHAT IT READS IS OF BULK AT MOST 1048576: true; the input reads as it did. -/
def levelChildrenUptoRow : OpenClaim := { program := "ytkljmnfekdoocaa", sum := "486192740b46b68907faf22bde279157353d24cae5c178339edaa6bfbebb5d47", func := "haulier/haulierlaw14.LevelChildren", spec := "levelChildren", unfollowed := true, recurses := true, plainKeys := false, apart := false, narrowed := true }
def LevelChildrenUptoSaid : Prop := levelChildrenUptoRow.holds Try.pinned (OpenSpec.upto levelChildrenSpec)

/-- 'haulierlaw14.LevelLess', WHERE WHAT IT READS IS OF BULK AT MOST 1048576: true; the input reads as it did. -/
def levelLessUptoRow : OpenClaim := { program := "ytkljmnfekdoocaa", sum := "486192740b46b68907faf22bde279157353d24cae5c178339edaa6bfbebb5d47", func := "haulier/haulierlaw14.LevelLess", spec := "levelLess", unfollowed := true, recurses := true, plainKeys := false, apart := false, narrowed := true }
def LevelLessUptoSaid : Prop := levelLessUptoRow.holds Try.pinned (OpenSpec.upto levelLessSpec)

end Rows
end Go.Proofs.Ytkljmnfekdoocaa
