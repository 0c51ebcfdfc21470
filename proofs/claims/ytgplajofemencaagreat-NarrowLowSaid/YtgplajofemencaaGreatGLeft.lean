/- What among keeps in memory, and what its closures answer. -/
import Derived.Test.YtgplajofemencaaGreatGThan13
import Derived.Test.YtgplajofemencaaGreatGMap
import Derived.Test.YtgplajofemencaaGreatXG
import Derived.Test.YtgplajofemencaaGreatXN
import Derived.Test.YtgplajofemencaaGreatYG
import Derived.Test.YtgplajofemencaaGreatYJ
namespace Go.Proofs.YtgplajofemencaaGreat
open Go.ChangeShapes Go.WideShapes Go.ChangeAt Go.RowKit

/-- A variable in a block of its own. -/
def CellB (w : World) (b : Nat) (t : TypeId) (v : Value) : Prop := w.heap[b]? = some (.cells #[v] t (0, 0))
theorem CellB.lt {w : World} {b : Nat} {t : TypeId} {v : Value} (h : CellB w b t v) : b < w.heap.size := (Array.getElem?_eq_some_iff.1 h).1
theorem CellB.later {w w' : World} {b : Nat} {t : TypeId} {v : Value} (h : CellB w b t v) (hb : Below w.heap.size w w') : CellB w' b t v := by unfold CellB; rw [hb.block b h.lt]; exact h
theorem CellB.kept {w w' : World} {b : Nat} {t : TypeId} {v : Value} {g : Option Nat} (h : CellB w b t v) (hg : w.grownBy w' g) (hne : some b ≠ g) : CellB w' b t v := by unfold CellB; rw [hg.block b h.lt hne]; exact h
theorem CellB.cell {w : World} {b : Nat} {t : TypeId} {v : Value} (h : CellB w b t v) : w.cell? ⟨b, 0, none⟩ = some v := cell_of_row w b 0 _ _ _ h
theorem NodB.kept {w w' : World} {b : Nat} {s : Sta} {c : Int} {v : Value} {g : Option Nat} (h : NodB w b s c v) (hg : w.grownBy w' g) (hne : some b ≠ g) : NodB w' b s c v := by unfold NodB; rw [hg.block b h.lt hne]; exact h
/-- A row of numbers that the call has made lies in none of these. -/
theorem own_cell {w : World} {B b : Nat} {t : TypeId} {v x : Value} {zs : List Int} (h : OwnI w B v zs) (hb : CellB w b t x) (ht : t ≠ 3) : some b ≠ v.ownBlock := fun e =>
  (own_ne (show w.ownsRow B 3 1 v zs.length (ints zs) from h) hb (fun e => ht e.symm)) e.symm
theorem own_nod {w : World} {B b : Nat} {s : Sta} {c : Int} {v u : Value} {zs : List Int} (h : OwnI w B v zs) (hb : NodB w b s c u) : some b ≠ v.ownBlock := fun e =>
  (own_ne (show w.ownsRow B 3 1 v zs.length (ints zs) from h) hb (by decide)) e.symm
theorem own_map {w : World} {B bm n : Nat} {v : Value} {zs : List Int} {f : Sta → Value} (h : OwnI w B v zs) (hm : MapV w bm n f) : v.ownBlock ≠ some bm := by
  intro e
  rcases (show w.ownsRow B 3 1 v zs.length (ints zs) from h).2 with ⟨rfl, _⟩ | ⟨g, cap, cur, rfl, _, hg, _⟩
  · simp [Value.ownBlock] at e
  · simp only [Value.ownBlock, Option.some.injEq] at e
    subst e
    exact hm.notCells hg
theorem own_lt {w : World} {B : Nat} {v : Value} {zs : List Int} (h : OwnI w B v zs) (g : Nat) (hg : v.ownBlock = some g) : B ≤ g ∧ g < w.heap.size := World.ownsRow.lt (show w.ownsRow B 3 1 v zs.length (ints zs) from h) g hg
theorem MapV.mono {w : World} {bm n m : Nat} {f : Sta → Value} (h : MapV w bm n f) (hn : n ≤ m) : MapV w bm m f := by
  obtain ⟨D, h1, h2⟩ := h
  exact ⟨D, h1.mono hn, h2⟩
/-- The map of the places that are left so far. -/
def LeftAt (w : World) (B bm k : Nat) (l : List Nod) (f : Sta → Value) : Prop :=
  MapV w bm k f ∧ (∀ q, KeyFit q → OwnI w B (f q) (ni (leftK l k q))) ∧ ∀ q r, KeyFit q → KeyFit r → q ≠ r → (f q).ownBlock = none ∨ (f q).ownBlock ≠ (f r).ownBlock
/-- The same, but for one state's row, which is u now, and has zs. -/
structure LeftOut (w : World) (B bm k : Nat) (l : List Nod) (f : Sta → Value) (q0 : Sta) (u : Value) (zs : List Int) : Prop where
  map : MapV w bm k f
  own : OwnI w B u zs
  others : ∀ q, KeyFit q → q ≠ q0 → OwnI w B (f q) (ni (leftK l k q))
  apart : ∀ q, KeyFit q → q ≠ q0 → (f q).ownBlock = none ∨ (f q).ownBlock ≠ u.ownBlock
  pairs : ∀ q r, KeyFit q → KeyFit r → q ≠ q0 → r ≠ q0 → q ≠ r → (f q).ownBlock = none ∨ (f q).ownBlock ≠ (f r).ownBlock
theorem LeftAt.below {w w' : World} {B bm k : Nat} {l : List Nod} {f : Sta → Value} (h : LeftAt w B bm k l f) (hb : Below w.heap.size w w') : LeftAt w' B bm k l f :=
  ⟨h.1.kept (grown_from (g := none) hb) (by simp), fun q hq => (h.2.1 q hq).below hb, h.2.2⟩
theorem LeftAt.out {w : World} {B bm k : Nat} {l : List Nod} {f : Sta → Value} (h : LeftAt w B bm k l f) {q0 : Sta} (h0 : KeyFit q0) : LeftOut w B bm k l f q0 (f q0) (ni (leftK l k q0)) :=
  ⟨h.1, h.2.1 q0 h0, fun q hq _ => h.2.1 q hq, fun q hq hne => h.2.2 q q0 hq h0 hne, fun q r hq hr _ _ hne => h.2.2 q r hq hr hne⟩
theorem LeftOut.below {w w' : World} {B bm k : Nat} {l : List Nod} {f : Sta → Value} {q0 : Sta} {u : Value} {zs : List Int} (h : LeftOut w B bm k l f q0 u zs) (hb : Below w.heap.size w w') : LeftOut w' B bm k l f q0 u zs :=
  ⟨h.map.kept (grown_from (g := none) hb) (by simp), h.own.below hb, fun q hq hne => (h.others q hq hne).below hb, h.apart, h.pairs⟩
theorem LeftOut.turn {w w' : World} {B bm k : Nat} {l : List Nod} {f : Sta → Value} {q0 : Sta} {u u' : Value} {zs zs' : List Int} (h : LeftOut w B bm k l f q0 u zs) (hg : w.grownBy w' u.ownBlock)
    (ho : OwnI w' B u' zs') (hl : u'.ownBlock = u.ownBlock ∨ u'.ownBlock = some w.heap.size) : LeftOut w' B bm k l f q0 u' zs' :=
  ⟨h.map.kept hg (fun e => own_map h.own h.map e.symm), ho, fun q hq hne => (h.others q hq hne).kept hg (h.apart q hq hne), fun q hq hne => by
    rcases hl with e | e
    · rw [e]; exact h.apart q hq hne
    · cases hx : (f q).ownBlock with
      | none => exact .inl rfl
      | some g =>
        refine .inr (fun e2 => ?_)
        have := (own_lt (h.others q hq hne) g hx).2
        rw [e] at e2
        cases e2
        omega, h.pairs⟩
theorem LeftOut.put {w w' : World} {B bm k : Nat} {l : List Nod} {f : Sta → Value} {q0 : Sta} {u : Value} {zs : List Int} (h : LeftOut w B bm k l f q0 u zs)
    (hm : MapV w' bm (k + 1) (fun r => if r = q0 then u else f r)) (hg : w.grownBy w' (some bm)) (hq0 : sawS (nodAt l k).s = q0) (hz : zs = ni (leftK l (k + 1) q0)) : LeftAt w' B bm (k + 1) l (fun r => if r = q0 then u else f r) := by
  refine ⟨hm, fun q hq => ?_, fun q r hq hr hne => ?_⟩
  · show OwnI w' B (if q = q0 then u else f q) _
    by_cases e : q = q0
    · subst e
      rw [if_pos rfl, ← hz]
      exact h.own.kept hg (.inr (own_map h.own h.map))
    · rw [if_neg e, leftK_other (fun e2 => e (by rw [← e2, hq0]))]
      exact (h.others q hq e).kept hg (.inr (own_map (h.others q hq e) h.map))
  · show (if q = q0 then u else f q).ownBlock = none ∨ (if q = q0 then u else f q).ownBlock ≠ (if r = q0 then u else f r).ownBlock
    by_cases e : q = q0
    · rw [if_pos e]
      have e2 : r ≠ q0 := fun e2 => hne (by rw [e, e2])
      rw [if_neg e2]
      rcases h.apart r hr e2 with h1 | h1
      · rw [h1]
        cases u.ownBlock with
        | none => exact .inl rfl
        | some g => exact .inr (by simp)
      · exact .inr (fun e3 => h1 e3.symm)
    · rw [if_neg e]
      by_cases e2 : r = q0
      · rw [if_pos e2]; exact h.apart q hq e
      · rw [if_neg e2]; exact h.pairs q r hq hr e e2 hne
theorem LeftAt.same {w : World} {B bm k : Nat} {l : List Nod} {f : Sta → Value} (h : LeftAt w B bm k l f) (he : ∀ q, leftK l (k + 1) q = leftK l k q) : LeftAt w B bm (k + 1) l f :=
  ⟨h.1.mono (Nat.le_succ _), fun q hq => by rw [he]; exact h.2.1 q hq, h.2.2⟩
/-- What a round finds, and leaves. -/
structure AmJ (w wr : World) (v : Value) (l : List Nod) (k : Nat) : Prop where
  box : CellB wr w.heap.size 35 v
  mp : CellB wr (w.heap.size + 1 + 1) 127 (.map (some (w.heap.size + 1)))
  bel : Below w.heap.size w wr
  left : ∃ f, LeftAt wr w.heap.size (w.heap.size + 1) k l f
theorem AmJ.below {w wr w' : World} {v : Value} {l : List Nod} {k : Nat} (h : AmJ w wr v l k) (hb : Below wr.heap.size wr w') : AmJ w w' v l k := by
  obtain ⟨h1, h2, h3, f, h4⟩ := h
  exact ⟨h1.later hb, h2.later hb, h3.trans (hb.mono h3.size), f, h4.below hb⟩
end Go.Proofs.YtgplajofemencaaGreat
