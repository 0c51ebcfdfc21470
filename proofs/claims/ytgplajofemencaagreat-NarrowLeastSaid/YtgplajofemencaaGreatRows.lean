/-
  No cell of these rows narrows 'for every input' (looked for: loops, veiled, ifaces, maps, wideKeys, modest, calm, conditions, laid).
  DERIVED. THE GIVEN ROWS OF THIS SEAT. 5 by the template 'for every input the law returns true; each argument reads behind the call as it read before'; 0 by the template 'total and deterministic' (their statements: YtgplajofemencaaGreatTotals.lean).
  GIVEN WITH THE SEED: the statements are not yours to turn. If you find one false, say at which input.
  Laid BY PROGRAM, IN A SANDBOX (cutbox-rows.mjs): the forced cells as the released guide's own fill.sh prints them over the translation 9d90fee95278b53a… (all of the seat's roots in one cut). By AI agents, Wed Nov 11 2026. No macro, syntax, notation, axiom, sorry.
-/
import Derived.Test.YtgplajofemencaaGreatChecked
import GoSem.Claim
import GoSem.ClaimJoined
import GoSem.ClaimMapViews
import Derived.JoinedTies
import Derived.KernelRfl
namespace Go.Proofs.YtgplajofemencaaGreat
/- THE CELL 'sum', in the pinned program and in every row, IS THE sha256 OF THE DUMP (.gsa) THAT YtgplajofemencaaGreatProg.lean LOADS. Nothing in Lean hashes anything: it is a label: what it is worth is what the hold of that sum in a sandbox is worth. -/
noncomputable def Tryz.pinned : Pinned := { name := "ytgplajofemencaagreat", sum := "9d90fee95278b53a1454dd932c732c38fc0f38835ac3a7ced69aebe2e4ca617f", checked := Tryz.checked }
namespace Rows
def none {H : Type} : Left H := { results := [], args := [] }

/-- 'haulierlaw16.NarrowBest': WHATEVER THE INPUT: true; the input reads as it did. -/
def narrowBestSpec : ChangeSpec := { name := "narrowBest", fn := fun _ => fun
  | [d1, d2, d3, d4] => { results := [.lit (.bool true)], args := [d1, d2, d3, d4] }
  | _ => none }
def narrowBestRow : OpenClaim := { program := "ytgplajofemencaagreat", sum := "9d90fee95278b53a1454dd932c732c38fc0f38835ac3a7ced69aebe2e4ca617f", func := "haulier/haulierlaw16.NarrowBest", spec := "narrowBest", unfollowed := true, recurses := true, plainKeys := false, apart := false }
def NarrowBestSaid : Prop := narrowBestRow.holds Tryz.pinned (OpenSpec.ofChange narrowBestSpec)

/-- ITS FALSE NEIGHBOUR: 'it returns false'. Refute it at one input. -/
def narrowBestWrong : ChangeSpec := { name := "narrowBest", fn := fun _ => fun
  | [d1, d2, d3, d4] => { results := [.lit (.bool false)], args := [d1, d2, d3, d4] }
  | _ => none }
def NarrowBestWrongFalsely : Prop := narrowBestRow.holds Tryz.pinned (OpenSpec.ofChange narrowBestWrong)

/-- 'haulierlaw16.NarrowPlans': WHATEVER THE INPUT: true; the input reads as it did. -/
def narrowPlansSpec : ChangeSpec := { name := "narrowPlans", fn := fun _ => fun
  | [d1, d2, d3] => { results := [.lit (.bool true)], args := [d1, d2, d3] }
  | _ => none }
def narrowPlansRow : OpenClaim := { program := "ytgplajofemencaagreat", sum := "9d90fee95278b53a1454dd932c732c38fc0f38835ac3a7ced69aebe2e4ca617f", func := "haulier/haulierlaw16.NarrowPlans", spec := "narrowPlans", unfollowed := true, recurses := true, plainKeys := false, apart := false }
def NarrowPlansSaid : Prop := narrowPlansRow.holds Tryz.pinned (OpenSpec.ofChange narrowPlansSpec)

/-- ITS FALSE NEIGHBOUR: 'it returns false'. Refute it at one input. -/
def narrowPlansWrong : ChangeSpec := { name := "narrowPlans", fn := fun _ => fun
  | [d1, d2, d3] => { results := [.lit (.bool false)], args := [d1, d2, d3] }
  | _ => none }
def NarrowPlansWrongFalsely : Prop := narrowPlansRow.holds Tryz.pinned (OpenSpec.ofChange narrowPlansWrong)

/-- 'haulierlaw16.NarrowLeast': WHATEVER THE INPUT: true; the input reads as it did. -/
def narrowLeastSpec : ChangeSpec := { name := "narrowLeast", fn := fun _ => fun
  | [d1, d2] => { results := [.lit (.bool true)], args := [d1, d2] }
  | _ => none }
def narrowLeastRow : OpenClaim := { program := "ytgplajofemencaagreat", sum := "9d90fee95278b53a1454dd932c732c38fc0f38835ac3a7ced69aebe2e4ca617f", func := "haulier/haulierlaw16.NarrowLeast", spec := "narrowLeast", unfollowed := true, recurses := true, plainKeys := false, apart := false }
def NarrowLeastSaid : Prop := narrowLeastRow.holds Tryz.pinned (OpenSpec.ofChange narrowLeastSpec)

/-- ITS FALSE NEIGHBOUR: 'it returns false'. Refute it at one input. -/
def narrowLeastWrong : ChangeSpec := { name := "narrowLeast", fn := fun _ => fun
  | [d1, d2] => { results := [.lit (.bool false)], args := [d1, d2] }
  | _ => none }
def NarrowLeastWrongFalsely : Prop := narrowLeastRow.holds Tryz.pinned (OpenSpec.ofChange narrowLeastWrong)

/-- 'haulierlaw16.NarrowBound': WHATEVER THE INPUT: true; the input reads as it did. -/
def narrowBoundSpec : ChangeSpec := { name := "narrowBound", fn := fun _ => fun
  | [d1, d2, d3] => { results := [.lit (.bool true)], args := [d1, d2, d3] }
  | _ => none }
def narrowBoundRow : OpenClaim := { program := "ytgplajofemencaagreat", sum := "9d90fee95278b53a1454dd932c732c38fc0f38835ac3a7ced69aebe2e4ca617f", func := "haulier/haulierlaw16.NarrowBound", spec := "narrowBound", unfollowed := true, recurses := true, plainKeys := false, apart := false }
def NarrowBoundSaid : Prop := narrowBoundRow.holds Tryz.pinned (OpenSpec.ofChange narrowBoundSpec)

/-- ITS FALSE NEIGHBOUR: 'it returns false'. Refute it at one input. -/
def narrowBoundWrong : ChangeSpec := { name := "narrowBound", fn := fun _ => fun
  | [d1, d2, d3] => { results := [.lit (.bool false)], args := [d1, d2, d3] }
  | _ => none }
def NarrowBoundWrongFalsely : Prop := narrowBoundRow.holds Tryz.pinned (OpenSpec.ofChange narrowBoundWrong)

/-- 'haulierlaw16.NarrowLow': WHATEVER THE INPUT: true; the input reads as it did. -/
def narrowLowSpec : ChangeSpec := { name := "narrowLow", fn := fun _ => fun
  | [d1, d2, d3] => { results := [.lit (.bool true)], args := [d1, d2, d3] }
  | _ => none }
def narrowLowRow : OpenClaim := { program := "ytgplajofemencaagreat", sum := "9d90fee95278b53a1454dd932c732c38fc0f38835ac3a7ced69aebe2e4ca617f", func := "haulier/haulierlaw16.NarrowLow", spec := "narrowLow", unfollowed := true, recurses := true, plainKeys := false, apart := false }
def NarrowLowSaid : Prop := narrowLowRow.holds Tryz.pinned (OpenSpec.ofChange narrowLowSpec)

/-- ITS FALSE NEIGHBOUR: 'it returns false'. Refute it at one input. -/
def narrowLowWrong : ChangeSpec := { name := "narrowLow", fn := fun _ => fun
  | [d1, d2, d3] => { results := [.lit (.bool false)], args := [d1, d2, d3] }
  | _ => none }
def NarrowLowWrongFalsely : Prop := narrowLowRow.holds Tryz.pinned (OpenSpec.ofChange narrowLowWrong)

/- THE SECOND FORM. 'bulk': how many values and letters a reading holds, each counted each time it is reached (what is shared counts as often as it is met; a slice's spare places count too). A statement '..UptoSaid' is the law's where the arguments, and the package variables that the reading takes, are together of bulk at most 1048576: NARROWER than '..Said'. Prove '..Said' where nothing that the law and all that it calls make is longer than what came in: it says more and counts as full. Else prove '..UptoSaid'. A law counts once. -/
mutual
def uptoBulk {H : Type} : DataW H → Nat
  | .lit (.string bytes) => bytes.length + 1
  | .lit _ => 1
  | .nil => 1
  | .ptr d => uptoBulk d + 1
  | .slice elems spare => uptoBulkAll elems + uptoBulkAll spare + 1
  | .agg parts => uptoBulkAll parts + 1
  | .iface _ d => uptoBulk d + 1
  | .map entries => uptoBulkEntries entries + 1
  | .held _ => 1
def uptoBulkAll {H : Type} : List (DataW H) → Nat
  | [] => 0
  | d :: r => uptoBulk d + uptoBulkAll r
def uptoBulkEntries {H : Type} : List (Lit × DataW H) → Nat
  | [] => 0
  | x :: r => uptoBulkEntry x + uptoBulkEntries r
def uptoBulkEntry {H : Type} : Lit × DataW H → Nat
  | (.string bytes, d) => bytes.length + uptoBulk d + 1
  | (_, d) => uptoBulk d + 1
 end
def uptoSmall : (H : Type) → List (DataW H) → Bool := fun _ ds => decide (uptoBulkAll ds ≤ 1048576)
def OpenSpec.upto (s : _root_.Go.ChangeSpec) : _root_.Go.OpenSpec := { _root_.Go.OpenSpec.ofChange s with cond := some uptoSmall }

/-- 'haulierlaw16.NarrowBest', WHERE WHAT IT READS IS OF BULK AT MOST 1048576: true; the input reads as it did. -/
def narrowBestUptoRow : OpenClaim := { program := "ytgplajofemencaagreat", sum := "9d90fee95278b53a1454dd932c732c38fc0f38835ac3a7ced69aebe2e4ca617f", func := "haulier/haulierlaw16.NarrowBest", spec := "narrowBest", unfollowed := true, recurses := true, plainKeys := false, apart := false, narrowed := true }
def NarrowBestUptoSaid : Prop := narrowBestUptoRow.holds Tryz.pinned (OpenSpec.upto narrowBestSpec)

/-- 'haulierlaw16.NarrowPlans', WHERE WHAT IT READS IS OF BULK AT MOST 1048576: true; the input reads as it did. -/
def narrowPlansUptoRow : OpenClaim := { program := "ytgplajofemencaagreat", sum := "9d90fee95278b53a1454dd932c732c38fc0f38835ac3a7ced69aebe2e4ca617f", func := "haulier/haulierlaw16.NarrowPlans", spec := "narrowPlans", unfollowed := true, recurses := true, plainKeys := false, apart := false, narrowed := true }
def NarrowPlansUptoSaid : Prop := narrowPlansUptoRow.holds Tryz.pinned (OpenSpec.upto narrowPlansSpec)

/-- 'haulierlaw16.NarrowLeast', WHERE WHAT IT READS IS OF BULK AT MOST 1048576: true; the input reads as it did. -/
def narrowLeastUptoRow : OpenClaim := { program := "ytgplajofemencaagreat", sum := "9d90fee95278b53a1454dd932c732c38fc0f38835ac3a7ced69aebe2e4ca617f", func := "haulier/haulierlaw16.NarrowLeast", spec := "narrowLeast", unfollowed := true, recurses := true, plainKeys := false, apart := false, narrowed := true }
def NarrowLeastUptoSaid : Prop := narrowLeastUptoRow.holds Tryz.pinned (OpenSpec.upto narrowLeastSpec)

/-- 'haulierlaw16.NarrowBound', WHERE WHAT IT READS IS OF BULK AT MOST 1048576: true; the input reads as it did. -/
def narrowBoundUptoRow : OpenClaim := { program := "ytgplajofemencaagreat", sum := "9d90fee95278b53a1454dd932c732c38fc0f38835ac3a7ced69aebe2e4ca617f", func := "haulier/haulierlaw16.NarrowBound", spec := "narrowBound", unfollowed := true, recurses := true, plainKeys := false, apart := false, narrowed := true }
def NarrowBoundUptoSaid : Prop := narrowBoundUptoRow.holds Tryz.pinned (OpenSpec.upto narrowBoundSpec)

/-- 'haulierlaw16.NarrowLow', WHERE WHAT IT READS IS OF BULK AT MOST 1048576: true; the input reads as it did. -/
def narrowLowUptoRow : OpenClaim := { program := "ytgplajofemencaagreat", sum := "9d90fee95278b53a1454dd932c732c38fc0f38835ac3a7ced69aebe2e4ca617f", func := "haulier/haulierlaw16.NarrowLow", spec := "narrowLow", unfollowed := true, recurses := true, plainKeys := false, apart := false, narrowed := true }
def NarrowLowUptoSaid : Prop := narrowLowUptoRow.holds Tryz.pinned (OpenSpec.upto narrowLowSpec)

end Rows
end Go.Proofs.YtgplajofemencaaGreat
