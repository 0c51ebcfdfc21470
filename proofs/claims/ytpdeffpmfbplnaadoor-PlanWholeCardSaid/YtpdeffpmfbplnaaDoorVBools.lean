/- Rows of bools that a call has made; the beginning of a law over an instance and a plan. -/
import Derived.Test.YtpdeffpmfbplnaaDoorVAwake
import Derived.Test.YtpdeffpmfbplnaaDoorXVB
namespace Go.Proofs.YtpdeffpmfbplnaaDoor
open Go.ChangeShapes Go.WideShapes Go.ChangeAt Go.RowKit

theorem infoBool : (Tryd.prog.info? 4).map (fun i => (i.zero, i.size, i.bytes)) = some (some (.bool false), 1, 1) := by kernel_rfl
/-- Which of n are in D. -/
def inD (n : Nat) (D : List Int) : List Value := (List.range n).map (fun (i : Nat) => Value.bool (decide ((i : Int) ∈ D)))
theorem inD_len (n : Nat) (D : List Int) : (inD n D).length = n := by simp [inD]
theorem inD_nil (n : Nat) : inD n [] = List.replicate n (.bool false) := by
  unfold inD
  apply List.ext_getElem (by simp)
  intro i h1 h2
  simp
theorem inD_at (n : Nat) (D : List Int) (i : Nat) (h : i < n) : (inD n D)[i]? = some (.bool (decide ((i : Int) ∈ D))) := by
  unfold inD; rw [List.getElem?_map, List.getElem?_range h]; rfl
theorem inD_snoc (n : Nat) (D : List Int) (i : Nat) : (inD n D).set i (.bool true) = inD n (D ++ [(i : Int)]) := by
  apply List.ext_getElem (by simp [inD])
  intro j h1 h2
  have hj : j < n := by simpa [inD] using h1
  rw [List.getElem_set]
  unfold inD
  simp only [List.getElem_map, List.getElem_range]
  by_cases h : i = j
  · subst h; simp
  · rw [if_neg h]
    have : (j : Int) ≠ (i : Int) := by omega
    simp [this]
theorem make_bools {w : World} {ops : Array Oper} {rest : List Oper} {o : Oper} {a : Act} {Q : Exit → Act → World → Prop} (hgd : o.guard = none) (l c : Operand) (ho : o.op = Op.makeSlice 43 l c)
    (B n : Nat) (hl : a.eval l = .int .i64 (n : Int)) (hc : a.eval c = .int .i64 (n : Int)) (hn : n ≤ 1000000) (hB : B ≤ w.heap.size)
    (h : ∀ w', w'.ownsRow B 4 1 (.slice (some ⟨w.heap.size, 0, none⟩) n n) n (inD n []) → w.grownBy w' none → wpList Tryd.prog ops Q rest (a.put o.dst (.slice (some ⟨w.heap.size, 0, none⟩) n n)) w') : wpList Tryd.prog ops Q (o :: rest) a w := by
  obtain ⟨i0, hi, hz0, hz1, hz2⟩ := info_parts infoBool
  refine wpList_make_full w hgd l c 43 ho B 4 i0 _ 1 Tryd.underlying43 hi hz0 hz1 .i64 .i64 _ _ n hl hc rfl rfl (by rw [hz2]; omega) (by unfold maxLen; omega) hB ?_
  intro w' h1 h2
  refine h w' ?_ h2
  rw [inD_nil]
  have : (madeCells (Value.bool false).cells (n * 1)).toList = List.replicate n (.bool false) := by
    rw [show (Value.bool false).cells = #[Value.bool false] from rfl, Nat.mul_one, toList_madeCells_one]
  rw [← this]
  exact h1
end Go.Proofs.YtpdeffpmfbplnaaDoor
