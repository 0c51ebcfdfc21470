/- The program's own among: which places of a list are left. -/
import Derived.Test.YtgplajofemencaaGreatGLeft
namespace Go.Proofs.YtgplajofemencaaGreat
open Go.ChangeShapes Go.WideShapes Go.ChangeAt Go.RowKit

/-- A round's first half: what is in the map at what this node has seen. -/
structure AmR (w wr : World) (v : Value) (l : List Nod) (k N : Nat) (n : Nod) (x : Value) (u : Value) : Prop where
  box : CellB wr w.heap.size 35 v
  mp : CellB wr (w.heap.size + 1 + 1) 127 (.map (some (w.heap.size + 1)))
  nod : NodB wr N n.s n.cost x
  bel : Below w.heap.size w wr
  left : ∃ f, LeftAt wr w.heap.size (w.heap.size + 1) k l f ∧ u = f (sawS n.s)
theorem AmR.below {w wr w' : World} {v : Value} {l : List Nod} {k N : Nat} {n : Nod} {x u : Value} (h : AmR w wr v l k N n x u) (hb : Below wr.heap.size wr w') : AmR w w' v l k N n x u := by
  obtain ⟨h1, h2, h3, h4, f, h5, h6⟩ := h
  exact ⟨h1.later hb, h2.later hb, h3.later hb, h4.trans (hb.mono h4.size), f, h5.below hb, h6⟩
/-- A round's second half: the row of what this node has seen is u now, and has zs. -/
structure AmO (w wr : World) (v : Value) (l : List Nod) (k N : Nat) (n : Nod) (x : Value) (f : Sta → Value) (u : Value) (zs : List Int) : Prop where
  box : CellB wr w.heap.size 35 v
  mp : CellB wr (w.heap.size + 1 + 1) 127 (.map (some (w.heap.size + 1)))
  nod : NodB wr N n.s n.cost x
  bel : Below w.heap.size w wr
  left : LeftOut wr w.heap.size (w.heap.size + 1) k l f (sawS n.s) u zs
section
variable {w wr w' : World} {v : Value} {l : List Nod} {k N : Nat} {n : Nod} {x u u' : Value} {f : Sta → Value} {zs zs' : List Int}
theorem AmO.below (h : AmO w wr v l k N n x f u zs) (hb : Below wr.heap.size wr w') : AmO w w' v l k N n x f u zs :=
  ⟨h.box.later hb, h.mp.later hb, h.nod.later hb, h.bel.trans (hb.mono h.bel.size), h.left.below hb⟩
theorem AmO.turn (h : AmO w wr v l k N n x f u zs) (hg : wr.grownBy w' u.ownBlock) (ho : OwnI w' w.heap.size u' zs') (hl : u'.ownBlock = u.ownBlock ∨ u'.ownBlock = some wr.heap.size) : AmO w w' v l k N n x f u' zs' :=
  ⟨h.box.kept hg (own_cell h.left.own h.box (by decide)), h.mp.kept hg (own_cell h.left.own h.mp (by decide)), h.nod.kept hg (own_nod h.left.own h.nod),
    Below.grown h.bel hg h.bel.size (fun g e => (own_lt h.left.own g e).1), h.left.turn hg ho hl⟩
theorem AmO.holds (h : AmO w wr v l k N n x f u zs) : Holds (cellsN N n.s n.cost x ++ [(⟨w.heap.size + 1 + 1, 0, none⟩, .map (some (w.heap.size + 1)))]) wr := Holds.app.2 ⟨h.nod.holds, h.mp.cell, trivial⟩
theorem AmR.holds (h : AmR w wr v l k N n x u) : Holds (cellsN N n.s n.cost x ++ [(⟨w.heap.size + 1 + 1, 0, none⟩, .map (some (w.heap.size + 1)))]) wr := Holds.app.2 ⟨h.nod.holds, h.mp.cell, trivial⟩
theorem AmO.put (h : AmO w wr v l k N n x f u zs) (hn : nodAt l k = n) (hm : MapV w' (w.heap.size + 1) (k + 1) (fun r => if r = sawS n.s then u else f r)) (hg : wr.grownBy w' (some (w.heap.size + 1))) (hz : zs = ni (leftK l (k + 1) (sawS n.s))) : AmJ w w' v l (k + 1) := by
  have e : ∀ {b : Nat} {c : Array Value} {t : TypeId} {fr : Nat × Nat}, wr.heap[b]? = some (.cells c t fr) → some b ≠ some (w.heap.size + 1) := fun hb e2 => by
    cases e2
    exact h.left.map.notCells hb
  exact ⟨h.box.kept hg (e h.box), h.mp.kept hg (e h.mp), Below.grown h.bel hg h.bel.size (fun g e2 => by cases e2; omega), _, h.left.put hm hg (by rw [hn]) hz⟩
theorem AmR.out (h : AmR w wr v l k N n x u) (hk : KeyFit (sawS n.s)) : ∃ f, AmO w wr v l k N n x f u (ni (leftK l k (sawS n.s))) := by
  obtain ⟨h1, h2, h3, h4, f, h5, rfl⟩ := h
  exact ⟨f, h1, h2, h3, h4, h5.out hk⟩
theorem AmR.same (h : AmR w wr v l k N n x u) (he : ∀ q, leftK l (k + 1) q = leftK l k q) : AmJ w wr v l (k + 1) := by
  obtain ⟨h1, h2, _, h4, f, h5, _⟩ := h
  exact ⟨h1, h2, h4, f, h5.same he⟩
end
end Go.Proofs.YtgplajofemencaaGreat
