/- What a car's visit leaves. -/
import Derived.Test.YtgplajofemencaaGreatXTCar
import Derived.Deep.Cut
import Derived.Deep.AppendLies
namespace Go.Proofs.YtgplajofemencaaGreat
open Go.ChangeShapes Go.WideShapes Go.ChangeAt Go.RowKit

/-- A car on its way: its box, the rows that it owns (what its box says of them may be older), and a time in a box of its own. -/
structure VJ (w0 : World) (b z : Nat) (I : Ins) (sv : Value) (a n g h : Int) (S : List Bool) (tb lb tv lv : Value) (T : List Tm) (Q : List Int) (t : Tm) (w : World) : Prop where
  base : w0.heap.size ≤ b ∧ w0.heap.size ≤ z ∧ z ≠ b
  car : CarB w b I sv a n g h S tb lb
  tim : w.heap[z]? = some (.cells #[.int .i64 t.come, .int .i64 t.begn, .int .i64 t.leave] 179 (0, 0))
  ts : OwnT w w0.heap.size tv T
  ls : OwnI w w0.heap.size lv Q
  ap : tv.ownBlock ≠ some z
  bel : Below w0.heap.size w0 w
section
variable {w0 w w' : World} {b z : Nat} {I : Ins} {sv : Value} {a n g h : Int} {S : List Bool} {tb lb tv lv : Value} {T : List Tm} {Q : List Int} {t : Tm}
theorem VJ.ltz (k : VJ w0 b z I sv a n g h S tb lb tv lv T Q t w) : z < w.heap.size := (Array.getElem?_eq_some_iff.1 k.tim).1
theorem VJ.later (k : VJ w0 b z I sv a n g h S tb lb tv lv T Q t w) (hb : Below w.heap.size w w') : VJ w0 b z I sv a n g h S tb lb tv lv T Q t w' :=
  ⟨k.base, k.car.later hb, by rw [hb.block z k.ltz]; exact k.tim, k.ts.below hb, k.ls.below hb, k.ap, k.bel.trans (hb.mono k.bel.size)⟩
theorem own_car {e : TypeId} {s m : Nat} {u : Value} {xs : List Value} {B : Nat} (k : CarB w b I sv a n g h S tb lb) (ho : w.ownsRow B e s u m xs) (he : e ≠ 125) : u.ownBlock ≠ some b := own_ne ho k.2 he
/-- A cell of its box is stored. -/
theorem VJ.put (k : VJ w0 b z I sv a n g h S tb lb tv lv T Q t w) (i : Nat) (u : Value) {a2 n2 g2 h2 : Int} {S2 : List Bool} {tb2 lb2 : Value} (hc : CarB (w.setCell ⟨b, i, none⟩ u) b I sv a2 n2 g2 h2 S2 tb2 lb2) :
    VJ w0 b z I sv a2 n2 g2 h2 S2 tb2 lb2 tv lv T Q t (w.setCell ⟨b, i, none⟩ u) := by
  have hg : w.grownBy (w.setCell ⟨b, i, none⟩ u) (some b) := ⟨rfl, rfl, rfl, by simp [World.setCell], fun j _ hj => heap_setCell_other w ⟨b, i, none⟩ j _ (fun e => hj (by rw [e]))⟩
  refine ⟨k.base, hc, ?_, k.ts.kept hg (.inr (own_car k.car k.ts (by decide))), ?_, k.ap, k.bel.setCell k.base.1 u⟩
  · rw [heap_setCell_other w ⟨b, i, none⟩ z u (fun e => k.base.2.2 e)]; exact k.tim
  · have h1 : w.ownsRow w0.heap.size 3 1 lv Q.length (ints Q) := k.ls
    exact h1.kept hg (.inr (own_car k.car h1 (by decide)))
end
end Go.Proofs.YtgplajofemencaaGreat
/- What a car's visit leaves: the walk. -/
namespace Go.Proofs.YtgplajofemencaaGreat
open Go.ChangeShapes Go.WideShapes Go.ChangeAt Go.RowKit

end Go.Proofs.YtgplajofemencaaGreat
