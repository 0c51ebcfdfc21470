/- What a car's visit leaves. -/
import Derived.Test.YtolaiccgbngomaaTWrong
import Derived.Test.YtolaiccgbngomaaTUntil
import Derived.Deep.Cut
import Derived.Deep.AppendLies
namespace Go.Proofs.Ytolaiccgbngomaa
open Go.ChangeShapes Go.WideShapes Go.ChangeAt Go.RowKit

/-- A car on its way: its box, the rows that it owns (what its box says of them may be older), and a time in a box of its own. -/
structure VJ (w0 : World) (b z : Nat) (I : Ins) (sv : Value) (a n g h : Int) (S : List Bool) (tb lb tv lv : Value) (T : List Tm) (Q : List Int) (t : Tm) (w : World) : Prop where
  base : w0.heap.size ≤ b ∧ w0.heap.size ≤ z ∧ z ≠ b
  car : CarB w b I sv a n g h S tb lb
  tim : w.heap[z]? = some (.cells #[.int .i64 t.come, .int .i64 t.begn, .int .i64 t.leave] 40 (0, 0))
  ts : OwnT w w0.heap.size tv T
  ls : OwnI w w0.heap.size lv Q
  ap : tv.ownBlock ≠ some z
  bel : Below w0.heap.size w0 w
def cellsZ (z : Nat) (t : Tm) : List (Addr × Value) := [(⟨z, 0, none⟩, .int .i64 t.come), (⟨z, 1, none⟩, .int .i64 t.begn), (⟨z, 2, none⟩, .int .i64 t.leave)]
section
variable {w0 w w' : World} {b z : Nat} {I : Ins} {sv : Value} {a n g h : Int} {S : List Bool} {tb lb tv lv : Value} {T : List Tm} {Q : List Int} {t : Tm}
theorem VJ.ltz (k : VJ w0 b z I sv a n g h S tb lb tv lv T Q t w) : z < w.heap.size := (Array.getElem?_eq_some_iff.1 k.tim).1
theorem VJ.holdsZ (k : VJ w0 b z I sv a n g h S tb lb tv lv T Q t w) : Holds (cellsZ z t) w := by
  have hc : ∀ i, w.cell? ⟨z, i, none⟩ = [Value.int .i64 t.come, .int .i64 t.begn, .int .i64 t.leave][i]? := fun i => by rw [cell_of_row w z i _ _ _ k.tim]; simp
  exact ⟨hc 0, hc 1, hc 2, trivial⟩
def cellsV (b z : Nat) (h : Int) (tb lb : Value) (t : Tm) : List (Addr × Value) := [(⟨b, 7, none⟩, .int .i64 h), (⟨b, 41, none⟩, tb), (⟨b, 42, none⟩, lb), (⟨z, 0, none⟩, .int .i64 t.come), (⟨z, 1, none⟩, .int .i64 t.begn), (⟨z, 2, none⟩, .int .i64 t.leave)]
theorem VJ.holdsV (k : VJ w0 b z I sv a n g h S tb lb tv lv T Q t w) : Holds (cellsV b z h tb lb t) w := ⟨k.car.c7, k.car.ct, k.car.cl, k.holdsZ⟩
theorem VJ.later (k : VJ w0 b z I sv a n g h S tb lb tv lv T Q t w) (hb : Below w.heap.size w w') : VJ w0 b z I sv a n g h S tb lb tv lv T Q t w' :=
  ⟨k.base, k.car.later hb, by rw [hb.block z k.ltz]; exact k.tim, k.ts.below hb, k.ls.below hb, k.ap, k.bel.trans (hb.mono k.bel.size)⟩
theorem own_car {e : TypeId} {s m : Nat} {u : Value} {xs : List Value} {B : Nat} (k : CarB w b I sv a n g h S tb lb) (ho : w.ownsRow B e s u m xs) (he : e ≠ 53) : u.ownBlock ≠ some b := own_ne ho k.2 he
/-- A cell of its box is stored. -/
theorem VJ.put (k : VJ w0 b z I sv a n g h S tb lb tv lv T Q t w) (i : Nat) (u : Value) {a2 n2 g2 h2 : Int} {S2 : List Bool} {tb2 lb2 : Value} (hc : CarB (w.setCell ⟨b, i, none⟩ u) b I sv a2 n2 g2 h2 S2 tb2 lb2) :
    VJ w0 b z I sv a2 n2 g2 h2 S2 tb2 lb2 tv lv T Q t (w.setCell ⟨b, i, none⟩ u) := by
  have hg : w.grownBy (w.setCell ⟨b, i, none⟩ u) (some b) := ⟨rfl, rfl, rfl, by simp [World.setCell], fun j _ hj => heap_setCell_other w ⟨b, i, none⟩ j _ (fun e => hj (by rw [e]))⟩
  refine ⟨k.base, hc, ?_, k.ts.kept hg (.inr (own_car k.car k.ts (by decide))), ?_, k.ap, k.bel.setCell k.base.1 u⟩
  · rw [heap_setCell_other w ⟨b, i, none⟩ z u (fun e => k.base.2.2 e)]; exact k.tim
  · have h1 : w.ownsRow w0.heap.size 3 1 lv Q.length (ints Q) := k.ls
    exact h1.kept hg (.inr (own_car k.car h1 (by decide)))
/-- The times have grown. -/
theorem VJ.moreT (k : VJ w0 b z I sv a n g h S tb lb tv lv T Q t w) {tv2 : Value} {T2 : List Tm} (ho : OwnT w' w0.heap.size tv2 T2) (hg : w.grownBy w' tv.ownBlock) (hn : tv2.ownBlock = tv.ownBlock ∨ tv2.ownBlock = some w.heap.size) :
    VJ w0 b z I sv a n g h S tb lb tv2 lv T2 Q t w' := by
  have h1 : w.ownsRow w0.heap.size 3 1 lv Q.length (ints Q) := k.ls
  have h2 : w.ownsRow w0.heap.size 40 3 tv T.length (flatT T) := k.ts
  refine ⟨k.base, k.car.grown hg (own_car k.car k.ts (by decide)), ?_, ho, h1.kept hg (own_diff h1 h2 (by decide)), ?_, k.bel.grown hg k.bel.size (fun j hj => (World.ownsRow.lt h2 j hj).1)⟩
  · rw [hg.block z k.ltz (fun e => k.ap e.symm)]; exact k.tim
  · rcases hn with e | e
    · rw [e]; exact k.ap
    · rw [e]; intro e2; simp at e2; have := k.ltz; omega
/-- The loads have grown. -/
theorem VJ.moreI (k : VJ w0 b z I sv a n g h S tb lb tv lv T Q t w) {lv2 : Value} {Q2 : List Int} (ho : OwnI w' w0.heap.size lv2 Q2) (hg : w.grownBy w' lv.ownBlock) :
    VJ w0 b z I sv a n g h S tb lb tv lv2 T Q2 t w' := by
  have h1 : w.ownsRow w0.heap.size 3 1 lv Q.length (ints Q) := k.ls
  have h2 : w.ownsRow w0.heap.size 40 3 tv T.length (flatT T) := k.ts
  refine ⟨k.base, k.car.grown hg (own_car k.car h1 (by decide)), ?_, k.ts.kept hg (own_diff h2 h1 (by decide)), ho, k.ap, k.bel.grown hg k.bel.size (fun j hj => (World.ownsRow.lt h1 j hj).1)⟩
  rw [hg.block z k.ltz (fun e => own_ne h1 k.tim (by decide) e.symm)]; exact k.tim
end
theorem ownT_more {w : World} {B g n cp : Nat} {l : List Tm} {t : Tm} (h : w.ownsRow B 40 3 (.slice (some ⟨g, 0, none⟩) n cp) (l.length + 1) (flatT l ++ rowT t)) : OwnT w B (.slice (some ⟨g, 0, none⟩) n cp) (l ++ [t]) := by
  unfold OwnT
  rw [List.length_append, flatT_append]
  simpa [flatT] using h
theorem ownI_more {w : World} {B g n cp : Nat} {l : List Int} {x : Int} (h : w.ownsRow B 3 1 (.slice (some ⟨g, 0, none⟩) n cp) (l.length + 1) (ints l ++ [.int .i64 x])) : OwnI w B (.slice (some ⟨g, 0, none⟩) n cp) (l ++ [x]) := by
  unfold OwnI
  rw [List.length_append, show ints (l ++ [x]) = ints l ++ [.int .i64 x] by simp [ints]]
  exact h
theorem rowT_one (t : Tm) : ∀ u ∈ rowT t, u.oneCell' = true := fun u hu => flatT_one [t] u (by rw [flatT]; simp [hu])
end Go.Proofs.Ytolaiccgbngomaa
