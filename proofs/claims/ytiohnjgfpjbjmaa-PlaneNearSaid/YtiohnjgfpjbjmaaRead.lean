/- What a reader's steps do: a byte's kind, the next byte, a digit taken, a number ended, a line ended. -/
import Derived.Test.YtiohnjgfpjbjmaaMem
import Derived.Deep.RegionLaw
import Derived.OwnWalk
import Derived.BigRegion
namespace Go.Proofs.Ytiohnjgfpjbjmaa
open Go.ChangeShapes Go.WideShapes Go.ChangeAt Go.RowKit

theorem kd_1 : (1 : Int) = kd 32 := by decide
theorem kd_2 : (2 : Int) = kd 45 := by decide
theorem kd_4 : (4 : Int) = kd 35 := by decide
theorem kd_5 : (5 : Int) = kd 10 := by decide
theorem kd_3 {c : Int} (h1 : 48 ≤ c) (h2 : c ≤ 57) : 3 = kd c := by have := kd_cases c; omega
theorem kd_0 {c : Int} (a1 : c ≠ 32) (a2 : c ≠ 45) (a3 : c ≠ 35) (a4 : c ≠ 10) (h : ¬ (48 ≤ c ∧ c ≤ 57)) : 0 = kd c := by have := kd_cases c; omega
theorem own_each {w : World} {B : Nat} (n : Nat) : ∀ {vs : List Value} {L : List (List Int)}, OwnIn w B vs L → OwnIn (w.drewN n) B vs L
  | [], [], _ => trivial
  | _ :: _, _ :: _, h => ⟨h.1, own_each n h.2⟩
  | [], _ :: _, h => h.elim
  | _ :: _, [], h => h.elim
section
variable {w : World} {B b : Nat} {tv : Value} {p : Nat} {L : List (List Int)} {l : List Int} {sz dg : Nat} {neg : Bool} {bs : List Int}
theorem below_drewN {B : Nat} {a w : World} (h : Below B a w) (n : Nat) : Below B a (w.drewN n) := ⟨h.os, h.tape, h.output, h.size, h.block⟩
theorem row_at {xs : List Value} (ht : Row w tv xs) (hp : p < xs.length) : ∃ tb off cap, tv = .slice (some ⟨tb, off, none⟩) xs.length cap ∧ w.cell? ⟨tb, off + p, none⟩ = xs[p]? ∧ xs.length ≤ maxLen ∧ tb < w.heap.size := by
  obtain ⟨hm, a, cap, rfl, _, _, h | ⟨tb, off, rfl, hc⟩⟩ := ht
  · rw [h] at hp; simp at hp
  · have h1 := hc p hp
    have h2 := h1
    rw [List.getElem?_eq_getElem hp] at h2
    exact ⟨tb, off, cap, rfl, h1, hm, World.block_lt_of_cell? w _ h2⟩
end
end Go.Proofs.Ytiohnjgfpjbjmaa
