/- Tours: plain mathematics. -/
import Derived.Test.YtgplajofemencaaGreatYD
import Derived.Test.YtgplajofemencaaGreatYC
import Derived.ArgAppend
import Derived.Deep.CutBlock
import Derived.Deep.LoopGhost
import Derived.JoinedCond
import Derived.Deep.Slices
namespace Go.Proofs.YtgplajofemencaaGreat

/-- How long a tour is. -/
def sumL : List (List Int) → Nat
  | [] => 0
  | r :: L => (if r = [] then 0 else r.length + 1) + sumL L
/-! ### Split -/
/-- The routes that lie behind, and the one that is under way. -/
def cutStep (s : List (List Int) × List Int) (x : Int) : List (List Int) × List Int := if 0 < x then (s.1, s.2 ++ [x]) else (s.1 ++ [s.2], [])
def cutP (t : List Int) : List (List Int) × List Int := t.foldl cutStep ([], [])
theorem cutP_snoc (t : List Int) (x : Int) : cutP (t ++ [x]) = cutStep (cutP t) x := by simp [cutP]
theorem snoc_ind {P : List Int → Prop} (h0 : P []) (h1 : ∀ t x, P t → P (t ++ [x])) (t : List Int) : P t := by
  have : ∀ r : List Int, P r.reverse := by
    intro r
    induction r with
    | nil => exact h0
    | cons x r ih => rw [List.reverse_cons]; exact h1 _ x ih
  have h := this t.reverse
  rwa [List.reverse_reverse] at h
/-- What is wrong with a number of a tour, by what is ahead of it (the first one: a 0), and at the end. -/
def badAt (t : List Int) (i : Nat) : Bool := decide (t.getD i 0 < 0) || (decide (t.getD i 0 = 0) && (decide (i = 0) || decide (i = t.length - 1) || decide (t.getD (i - 1) 0 = 0)))
def FormT (t : List Int) : Prop := ∀ i, i < t.length → badAt t i = false
def RiseL (L : List (List Int)) : Prop := ∀ k, k + 1 < L.length → key (L.getD k []) < key (L.getD (k + 1) [])
/-! ### Which tours may be -/
end Go.Proofs.YtgplajofemencaaGreat
/- What tour.formed, copied, cut and rising answer. -/
namespace Go.Proofs.YtgplajofemencaaGreat
open Go.ChangeShapes Go.WideShapes Go.ChangeAt Go.RowKit

instance (t : List Int) : Decidable (FormT t) := by unfold FormT; infer_instance
end Go.Proofs.YtgplajofemencaaGreat
/- What the document's Sorted answers. -/
namespace Go.Proofs.YtgplajofemencaaGreat
open Go.ChangeShapes Go.WideShapes Go.ChangeAt Go.RowKit

theorem OwnIn.take {w : World} {B : Nat} : ∀ {vs : List Value} {L : List (List Int)} (k : Nat), OwnIn w B vs L → OwnIn w B (vs.take k) (L.take k)
  | [], [], _, _ => by simp [OwnIn]
  | _ :: _, _ :: _, 0, _ => trivial
  | _ :: _, _ :: _, k + 1, h => ⟨h.1, OwnIn.take k h.2⟩
  | [], _ :: _, _, h => h.elim
  | _ :: _, [], _, h => h.elim
theorem OwnIn.drop {w : World} {B : Nat} : ∀ {vs : List Value} {L : List (List Int)} (k : Nat), OwnIn w B vs L → OwnIn w B (vs.drop k) (L.drop k)
  | [], [], _, _ => by simp [OwnIn]
  | _ :: _, _ :: _, 0, h => h
  | _ :: _, _ :: _, k + 1, h => OwnIn.drop k h.2
  | [], _ :: _, _, h => h.elim
  | _ :: _, [], _, h => h.elim
theorem OwnIn.below {w w' : World} {B : Nat} (hb : Below w.heap.size w w') : ∀ {vs : List Value} {L : List (List Int)}, OwnIn w B vs L → OwnIn w' B vs L
  | [], [], _ => trivial
  | _ :: _, _ :: _, h => ⟨own_below h.1 hb, OwnIn.below hb h.2⟩
  | [], _ :: _, h => h.elim
  | _ :: _, [], h => h.elim
end Go.Proofs.YtgplajofemencaaGreat
/- What tour.cut and rising answer. -/
namespace Go.Proofs.YtgplajofemencaaGreat
open Go.ChangeShapes Go.WideShapes Go.ChangeAt Go.RowKit

instance (L : List (List Int)) : Decidable (RiseL L) := decidable_of_iff (∀ k, k < L.length → k + 1 < L.length → key (L.getD k []) < key (L.getD (k + 1) []))
  ⟨fun h k hk => h k (by omega) hk, fun h k _ hk => h k hk⟩
end Go.Proofs.YtgplajofemencaaGreat
/- What tour.Split answers. -/
namespace Go.Proofs.YtgplajofemencaaGreat
open Go.ChangeShapes Go.WideShapes Go.ChangeAt Go.RowKit

end Go.Proofs.YtgplajofemencaaGreat
/- What tour.Join and the document's Join answer. -/
namespace Go.Proofs.YtgplajofemencaaGreat
open Go.ChangeShapes Go.WideShapes Go.ChangeAt Go.RowKit

end Go.Proofs.YtgplajofemencaaGreat
/- What the document's Split answers. -/
namespace Go.Proofs.YtgplajofemencaaGreat
open Go.ChangeShapes Go.WideShapes Go.ChangeAt Go.RowKit

end Go.Proofs.YtgplajofemencaaGreat
/- The chapter's example. -/
namespace Go.Proofs.YtgplajofemencaaGreat
open Go.ChangeShapes Go.WideShapes Go.ChangeAt Go.RowKit

section
variable {H : Type} {enc : TypeId × Value → H} {w : World} {base : Nat} {spare : Nat → Bool} {held : Bool}
end
theorem few_sum : ∀ (L : List (List Int)), (∀ l ∈ L, l.length ≤ 100) → sumL L ≤ 101 * L.length
  | [], _ => by simp [sumL]
  | l :: L, h => by
    have h1 := few_sum L (fun x hx => h x (by simp [hx]))
    have h2 := h l (by simp)
    simp only [sumL, List.length_cons]
    split <;> omega
theorem FewP.sum {L : List (List Int)} (h : FewP L) : sumL L ≤ 1000000 := by have := few_sum L h.2; have := h.1; omega
theorem FewP.num {L : List (List Int)} (h : FewP L) : L.length ≤ 1000 := by have := h.1; omega
end Go.Proofs.YtgplajofemencaaGreat
