/-
  No cell of these rows narrows 'for every input' (looked for: loops, veiled, ifaces, maps, wideKeys, modest, calm, conditions, laid).
  DERIVED. THE GIVEN ROWS OF THIS SEAT. 7 by the template 'for every input the law returns true; each argument reads behind the call as it read before'; 0 by the template 'total and deterministic' (their statements: YtolaiccgbngomaaTotals.lean).
  GIVEN WITH THE SEED: the statements are not yours to turn. If you find one false, say at which input.
  Laid BY PROGRAM, IN A SANDBOX (cutbox-rows.mjs): the forced cells as the released guide's own fill.sh prints them over the translation 0b8a2ff338b400d5… (all of the seat's roots in one cut). By AI agents, Wed Nov 11 2026. No macro, syntax, notation, axiom, sorry.
-/
import Derived.Test.YtolaiccgbngomaaChecked
import GoSem.Claim
import GoSem.ClaimJoined
import GoSem.ClaimMapViews
import Derived.JoinedTies
import Derived.KernelRfl
namespace Go.Proofs.Ytolaiccgbngomaa
/- THE CELL 'sum', in the pinned program and in every row, IS THE sha256 OF THE DUMP (.gsa) THAT YtolaiccgbngomaaProg.lean LOADS. Nothing in Lean hashes anything: it is a label: what it is worth is what the hold of that sum in a sandbox is worth. -/
noncomputable def Try.pinned : Pinned := { name := "ytolaiccgbngomaa", sum := "0b8a2ff338b400d5356d61f07b68f623c6fb824e224b010be02ff4ce4b8faac0", checked := Try.checked }
namespace Rows
def none {H : Type} : Left H := { results := [], args := [] }

/-- 'haulierlaw07.SchedTimes': WHATEVER THE INPUT: true; the input reads as it did. -/
def schedTimesSpec : ChangeSpec := { name := "schedTimes", fn := fun _ => fun
  | [d1, d2] => { results := [.lit (.bool true)], args := [d1, d2] }
  | _ => none }
def schedTimesRow : OpenClaim := { program := "ytolaiccgbngomaa", sum := "0b8a2ff338b400d5356d61f07b68f623c6fb824e224b010be02ff4ce4b8faac0", func := "haulier/haulierlaw07.SchedTimes", spec := "schedTimes", apart := false }
def SchedTimesSaid : Prop := schedTimesRow.holds Try.pinned (OpenSpec.ofChange schedTimesSpec)

/-- ITS FALSE NEIGHBOUR: 'it returns false'. Refute it at one input. -/
def schedTimesWrong : ChangeSpec := { name := "schedTimes", fn := fun _ => fun
  | [d1, d2] => { results := [.lit (.bool false)], args := [d1, d2] }
  | _ => none }
def SchedTimesWrongFalsely : Prop := schedTimesRow.holds Try.pinned (OpenSpec.ofChange schedTimesWrong)

/-- 'haulierlaw07.SchedKeeps': WHATEVER THE INPUT: true; the input reads as it did. -/
def schedKeepsSpec : ChangeSpec := { name := "schedKeeps", fn := fun _ => fun
  | [d1, d2] => { results := [.lit (.bool true)], args := [d1, d2] }
  | _ => none }
def schedKeepsRow : OpenClaim := { program := "ytolaiccgbngomaa", sum := "0b8a2ff338b400d5356d61f07b68f623c6fb824e224b010be02ff4ce4b8faac0", func := "haulier/haulierlaw07.SchedKeeps", spec := "schedKeeps", apart := false }
def SchedKeepsSaid : Prop := schedKeepsRow.holds Try.pinned (OpenSpec.ofChange schedKeepsSpec)

/-- ITS FALSE NEIGHBOUR: 'it returns false'. Refute it at one input. -/
def schedKeepsWrong : ChangeSpec := { name := "schedKeeps", fn := fun _ => fun
  | [d1, d2] => { results := [.lit (.bool false)], args := [d1, d2] }
  | _ => none }
def SchedKeepsWrongFalsely : Prop := schedKeepsRow.holds Try.pinned (OpenSpec.ofChange schedKeepsWrong)

/-- 'haulierlaw07.SchedLess': WHATEVER THE INPUT: true; the input reads as it did. -/
def schedLessSpec : ChangeSpec := { name := "schedLess", fn := fun _ => fun
  | [d1, d2, d3] => { results := [.lit (.bool true)], args := [d1, d2, d3] }
  | _ => none }
def schedLessRow : OpenClaim := { program := "ytolaiccgbngomaa", sum := "0b8a2ff338b400d5356d61f07b68f623c6fb824e224b010be02ff4ce4b8faac0", func := "haulier/haulierlaw07.SchedLess", spec := "schedLess", apart := false }
def SchedLessSaid : Prop := schedLessRow.holds Try.pinned (OpenSpec.ofChange schedLessSpec)

/-- ITS FALSE NEIGHBOUR: 'it returns false'. Refute it at one input. -/
def schedLessWrong : ChangeSpec := { name := "schedLess", fn := fun _ => fun
  | [d1, d2, d3] => { results := [.lit (.bool false)], args := [d1, d2, d3] }
  | _ => none }
def SchedLessWrongFalsely : Prop := schedLessRow.holds Try.pinned (OpenSpec.ofChange schedLessWrong)

/-- 'haulierlaw07.SchedHead': WHATEVER THE INPUT: true; the input reads as it did. -/
def schedHeadSpec : ChangeSpec := { name := "schedHead", fn := fun _ => fun
  | [d1, d2, d3] => { results := [.lit (.bool true)], args := [d1, d2, d3] }
  | _ => none }
def schedHeadRow : OpenClaim := { program := "ytolaiccgbngomaa", sum := "0b8a2ff338b400d5356d61f07b68f623c6fb824e224b010be02ff4ce4b8faac0", func := "haulier/haulierlaw07.SchedHead", spec := "schedHead", apart := false }
def SchedHeadSaid : Prop := schedHeadRow.holds Try.pinned (OpenSpec.ofChange schedHeadSpec)

/-- ITS FALSE NEIGHBOUR: 'it returns false'. Refute it at one input. -/
def schedHeadWrong : ChangeSpec := { name := "schedHead", fn := fun _ => fun
  | [d1, d2, d3] => { results := [.lit (.bool false)], args := [d1, d2, d3] }
  | _ => none }
def SchedHeadWrongFalsely : Prop := schedHeadRow.holds Try.pinned (OpenSpec.ofChange schedHeadWrong)

/-- 'haulierlaw07.SchedBack': WHATEVER THE INPUT: true; the input reads as it did. -/
def schedBackSpec : ChangeSpec := { name := "schedBack", fn := fun _ => fun
  | [d1, d2] => { results := [.lit (.bool true)], args := [d1, d2] }
  | _ => none }
def schedBackRow : OpenClaim := { program := "ytolaiccgbngomaa", sum := "0b8a2ff338b400d5356d61f07b68f623c6fb824e224b010be02ff4ce4b8faac0", func := "haulier/haulierlaw07.SchedBack", spec := "schedBack", apart := false }
def SchedBackSaid : Prop := schedBackRow.holds Try.pinned (OpenSpec.ofChange schedBackSpec)

/-- ITS FALSE NEIGHBOUR: 'it returns false'. Refute it at one input. -/
def schedBackWrong : ChangeSpec := { name := "schedBack", fn := fun _ => fun
  | [d1, d2] => { results := [.lit (.bool false)], args := [d1, d2] }
  | _ => none }
def SchedBackWrongFalsely : Prop := schedBackRow.holds Try.pinned (OpenSpec.ofChange schedBackWrong)

/-- 'haulierlaw07.SchedOne': WHATEVER THE INPUT: true; the input reads as it did. -/
def schedOneSpec : ChangeSpec := { name := "schedOne", fn := fun _ => fun
  | [d1, d2] => { results := [.lit (.bool true)], args := [d1, d2] }
  | _ => none }
def schedOneRow : OpenClaim := { program := "ytolaiccgbngomaa", sum := "0b8a2ff338b400d5356d61f07b68f623c6fb824e224b010be02ff4ce4b8faac0", func := "haulier/haulierlaw07.SchedOne", spec := "schedOne", apart := false }
def SchedOneSaid : Prop := schedOneRow.holds Try.pinned (OpenSpec.ofChange schedOneSpec)

/-- ITS FALSE NEIGHBOUR: 'it returns false'. Refute it at one input. -/
def schedOneWrong : ChangeSpec := { name := "schedOne", fn := fun _ => fun
  | [d1, d2] => { results := [.lit (.bool false)], args := [d1, d2] }
  | _ => none }
def SchedOneWrongFalsely : Prop := schedOneRow.holds Try.pinned (OpenSpec.ofChange schedOneWrong)

/-- 'haulierlaw07.SchedWider': WHATEVER THE INPUT: true; the input reads as it did. -/
def schedWiderSpec : ChangeSpec := { name := "schedWider", fn := fun _ => fun
  | [d1, d2, d3, d4, d5, d6] => { results := [.lit (.bool true)], args := [d1, d2, d3, d4, d5, d6] }
  | _ => none }
def schedWiderRow : OpenClaim := { program := "ytolaiccgbngomaa", sum := "0b8a2ff338b400d5356d61f07b68f623c6fb824e224b010be02ff4ce4b8faac0", func := "haulier/haulierlaw07.SchedWider", spec := "schedWider", apart := false }
def SchedWiderSaid : Prop := schedWiderRow.holds Try.pinned (OpenSpec.ofChange schedWiderSpec)

/-- ITS FALSE NEIGHBOUR: 'it returns false'. Refute it at one input. -/
def schedWiderWrong : ChangeSpec := { name := "schedWider", fn := fun _ => fun
  | [d1, d2, d3, d4, d5, d6] => { results := [.lit (.bool false)], args := [d1, d2, d3, d4, d5, d6] }
  | _ => none }
def SchedWiderWrongFalsely : Prop := schedWiderRow.holds Try.pinned (OpenSpec.ofChange schedWiderWrong)

/- THE SECOND FORM. 'bulk': how many values and letters a reading holds, each counted each time it is reached (what is shared counts as often as it is met; a slice's spare places count too). A statement '..UptoSaid' is the law's where the arguments, and the package variables that the reading takes, are together of bulk at most 1048576: NARROWER than '..Said'. Prove '..Said' where nothing that the law and all that it calls make is longer than what came in: it says more and counts as full. Else prove '..UptoSaid'. A law counts once. -/
mutual
def uptoBulk {H : Type} : DataW H → Nat
  | .lit (.string bytes) => bytes.length + 1
  | .lit _ => 1
  | .nil => 1
  | .ptr d => uptoBulk d + 1
  | .slice elems spare => uptoBulkAll elems + uptoBulkAll spare + 1
  | .agg parts => uptoBulkAll parts + 1
  | .iface _ d => uptoBulk d + 1
  | .map entries => uptoBulkEntries entries + 1
  | .held _ => 1
def uptoBulkAll {H : Type} : List (DataW H) → Nat
  | [] => 0
  | d :: r => uptoBulk d + uptoBulkAll r
def uptoBulkEntries {H : Type} : List (Lit × DataW H) → Nat
  | [] => 0
  | x :: r => uptoBulkEntry x + uptoBulkEntries r
def uptoBulkEntry {H : Type} : Lit × DataW H → Nat
  | (.string bytes, d) => bytes.length + uptoBulk d + 1
  | (_, d) => uptoBulk d + 1
 end
def uptoSmall : (H : Type) → List (DataW H) → Bool := fun _ ds => decide (uptoBulkAll ds ≤ 1048576)
def OpenSpec.upto (s : _root_.Go.ChangeSpec) : _root_.Go.OpenSpec := { _root_.Go.OpenSpec.ofChange s with cond := some uptoSmall }

/-- 'haulierlaw07.SchedTimes', WHERE WHAT IT READS IS OF BULK AT MOST 1048576: true; the input reads as it did. -/
def schedTimesUptoRow : OpenClaim := { program := "ytolaiccgbngomaa", sum := "0b8a2ff338b400d5356d61f07b68f623c6fb824e224b010be02ff4ce4b8faac0", func := "haulier/haulierlaw07.SchedTimes", spec := "schedTimes", apart := false, narrowed := true }
def SchedTimesUptoSaid : Prop := schedTimesUptoRow.holds Try.pinned (OpenSpec.upto schedTimesSpec)

/-- 'haulierlaw07.SchedKeeps', WHERE WHAT IT READS IS OF BULK AT MOST 1048576: true; the input reads as it did. -/
def schedKeepsUptoRow : OpenClaim := { program := "ytolaiccgbngomaa", sum := "0b8a2ff338b400d5356d61f07b68f623c6fb824e224b010be02ff4ce4b8faac0", func := "haulier/haulierlaw07.SchedKeeps", spec := "schedKeeps", apart := false, narrowed := true }
def SchedKeepsUptoSaid : Prop := schedKeepsUptoRow.holds Try.pinned (OpenSpec.upto schedKeepsSpec)

/-- 'haulierlaw07.SchedLess', WHERE WHAT IT READS IS OF BULK AT MOST 1048576: true; the input reads as it did. -/
def schedLessUptoRow : OpenClaim := { program := "ytolaiccgbngomaa", sum := "0b8a2ff338b400d5356d61f07b68f623c6fb824e224b010be02ff4ce4b8faac0", func := "haulier/haulierlaw07.SchedLess", spec := "schedLess", apart := false, narrowed := true }
def SchedLessUptoSaid : Prop := schedLessUptoRow.holds Try.pinned (OpenSpec.upto schedLessSpec)

/-- 'haulierlaw07.SchedHead', WHERE WHAT IT READS IS OF BULK AT MOST 1048576: true; the input reads as it did. -/
def schedHeadUptoRow : OpenClaim := { program := "ytolaiccgbngomaa", sum := "0b8a2ff338b400d5356d61f07b68f623c6fb824e224b010be02ff4ce4b8faac0", func := "haulier/haulierlaw07.SchedHead", spec := "schedHead", apart := false, narrowed := true }
def SchedHeadUptoSaid : Prop := schedHeadUptoRow.holds Try.pinned (OpenSpec.upto schedHeadSpec)

/-- 'haulierlaw07.SchedBack', WHERE WHAT IT READS IS OF BULK AT MOST 1048576: true; the input reads as it did. -/
def schedBackUptoRow : OpenClaim := { program := "ytolaiccgbngomaa", sum := "0b8a2ff338b400d5356d61f07b68f623c6fb824e224b010be02ff4ce4b8faac0", func := "haulier/haulierlaw07.SchedBack", spec := "schedBack", apart := false, narrowed := true }
def SchedBackUptoSaid : Prop := schedBackUptoRow.holds Try.pinned (OpenSpec.upto schedBackSpec)

/-- 'haulierlaw07.SchedOne', WHERE WHAT IT READS IS OF BULK AT MOST 1048576: true; the input reads as it did. -/
def schedOneUptoRow : OpenClaim := { program := "ytolaiccgbngomaa", sum := "0b8a2ff338b400d5356d61f07b68f623c6fb824e224b010be02ff4ce4b8faac0", func := "haulier/haulierlaw07.SchedOne", spec := "schedOne", apart := false, narrowed := true }
def SchedOneUptoSaid : Prop := schedOneUptoRow.holds Try.pinned (OpenSpec.upto schedOneSpec)

/-- 'haulierlaw07.SchedWider', WHERE WHAT IT READS IS OF BULK AT MOST 1048576: true; the input reads as it did. -/
def schedWiderUptoRow : OpenClaim := { program := "ytolaiccgbngomaa", sum := "0b8a2ff338b400d5356d61f07b68f623c6fb824e224b010be02ff4ce4b8faac0", func := "haulier/haulierlaw07.SchedWider", spec := "schedWider", apart := false, narrowed := true }
def SchedWiderUptoSaid : Prop := schedWiderUptoRow.holds Try.pinned (OpenSpec.upto schedWiderSpec)

end Rows
end Go.Proofs.Ytolaiccgbngomaa
