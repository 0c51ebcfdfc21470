/- What a reader does with a digit, at a number's end, and at a line's end. -/
import Derived.Test.YtiohnjgfpjbjmaaRead
namespace Go.Proofs.Ytiohnjgfpjbjmaa
open Go.ChangeShapes Go.WideShapes Go.ChangeAt Go.RowKit

theorem infoInt : (Try.prog.info? 3).map (fun i => (i.zero, i.size, i.bytes)) = some (some (.int .i64 0), 1, 8) := by kernel_rfl
theorem infoInts : (Try.prog.info? 32).map (fun i => (i.zero, i.size, i.bytes)) = some (some (.slice none 0 0), 1, 24) := by kernel_rfl
theorem infoByte : (Try.prog.info? 5).map (fun i => (i.zero, i.size, i.bytes)) = some (some (.int .u8 0), 1, 1) := by kernel_rfl

theorem own_diff {w : World} {B C : Nat} {e e' : TypeId} {s s' : Nat} {v u : Value} {n m : Nat} {xs ys : List Value} (h : w.ownsRow B e s v n xs) (k : w.ownsRow C e' s' u m ys) (he : e ≠ e') : v.ownBlock = none ∨ v.ownBlock ≠ u.ownBlock := by
  rcases k.2 with ⟨rfl, _⟩ | ⟨g, cap, cur, rfl, _, hg, _⟩
  · cases v.ownBlock <;> simp [Value.ownBlock]
  · exact .inr (own_ne h hg he)
theorem OwnIn.lt {w : World} {B : Nat} : ∀ {vs : List Value} {L : List (List Int)}, OwnIn w B vs L → ∀ u ∈ vs, ∀ g, u.ownBlock = some g → B ≤ g ∧ g < w.heap.size
  | [], [], _, u, hu, _, _ => by simp at hu
  | v :: _, _ :: _, h, u, hu, g, hg => by
    simp only [List.mem_cons] at hu
    rcases hu with rfl | hu
    · exact h.1.lt g hg
    · exact OwnIn.lt h.2 u hu g hg
  | [], _ :: _, h, _, _, _, _ => h.elim
  | _ :: _, [], h, _, _, _, _ => h.elim
theorem grown_alloc {w w1 : World} {O : Obj} {row : Option Nat} (h : (w.alloc O).grownBy w1 row) : w.grownBy w1 row := (World.grownBy_alloc w O row).trans h
theorem grown_drew {w w1 : World} {row : Option Nat} (h : w.drew.grownBy w1 row) : w.grownBy w1 row := ⟨h.os, h.tape, h.output, h.size, h.block⟩
theorem grown_below {B : Nat} {w w1 : World} {row : Option Nat} (h : w.grownBy w1 row) (hB : B ≤ w.heap.size) (hr : ∀ k, row = some k → B ≤ k) : Below B w w1 :=
  ⟨h.os, h.tape, h.output, h.size, fun k hk => h.block k (by omega) (fun e => by have := hr k e.symm; omega)⟩
theorem own_shape {w : World} {B : Nat} {e : TypeId} {s : Nat} {v : Value} {n : Nat} {xs : List Value} (h : w.ownsRow B e s v n xs) : ∃ a cap, v = .slice a n cap := by
  rcases h.2 with ⟨rfl, rfl⟩ | ⟨g, cap, cur, rfl, _⟩
  · exact ⟨_, _, rfl⟩
  · exact ⟨_, _, rfl⟩
theorem ints_snoc (l : List Int) (x : Int) : ints (l ++ [x]) = ints l ++ [.int .i64 x] := by simp [ints]
theorem byts_snoc (l : List Int) (x : Int) : byts (l ++ [x]) = byts l ++ [.int .u8 x] := by simp [byts]

section
variable {w : World} {B b : Nat} {tv : Value} {p : Nat} {L : List (List Int)} {l : List Int} {sz dg : Nat} {neg : Bool} {lv v : Value} {vs : List Value} {bs : List Int}
theorem addL_nil (L : List (List Int)) : addL L [] = L := by simp [addL]
theorem addL_some (L : List (List Int)) (l : List Int) (h : l ≠ []) : addL L l = L ++ [l] := by simp [addL, h]
end
end Go.Proofs.Ytiohnjgfpjbjmaa
