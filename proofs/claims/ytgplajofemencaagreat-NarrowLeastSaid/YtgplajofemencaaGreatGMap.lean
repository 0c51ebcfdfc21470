/- A map of the call's own, by states: what it holds, told value by value. -/
import Derived.Test.YtgplajofemencaaGreatXG
import Derived.Test.YtgplajofemencaaGreatXL
import Derived.Maps.OwnOps
import Derived.Maps.Views
import Derived.DeepKeys4
import Derived.StringKeys
namespace Go.Proofs.YtgplajofemencaaGreat
open Go.ChangeShapes Go.WideShapes Go.ChangeAt Go.RowKit

def nilI : Value := .slice none 0 0
def heldR (v : Value) : Option (DataW Value × List MemPlace) := some (.held v, [])
/-- Block bm is a map of at most n entries that holds f q at each state q. -/
def MapV (w : World) (bm n : Nat) (f : Sta → Value) : Prop :=
  ∃ D : DataW Value, w.ownsMap Tryz.prog 27 heldR bm n D ∧ ∀ q, KeyFit q → D.atKey (.string (keyBytes (staLits q))) (.held nilI) = .held (f q)
theorem mapV_made (w : World) : MapV (w.alloc (.map #[] 0)) w.heap.size 0 (fun _ => nilI) :=
  ⟨.map [], World.ownsMap_made w Tryz.prog 27 heldR, fun _ _ => rfl⟩
theorem MapV.kept {w w' : World} {bm n : Nat} {f : Sta → Value} {row : Option Nat} (h : MapV w bm n f) (hg : w.grownBy w' row) (hne : some bm ≠ row) : MapV w' bm n f := by
  obtain ⟨D, h1, h2⟩ := h
  exact ⟨D, h1.kept hg hne, h2⟩
theorem MapV.lt {w : World} {bm n : Nat} {f : Sta → Value} (h : MapV w bm n f) : bm < w.heap.size := by
  obtain ⟨D, h1, _⟩ := h
  exact h1.lt
/-- It is no row of cells. -/
theorem MapV.notCells {w : World} {bm n : Nat} {f : Sta → Value} (h : MapV w bm n f) {c : Array Value} {t : TypeId} {fr : Nat × Nat} : w.heap[bm]? ≠ some (.cells c t fr) := by
  obtain ⟨D, ⟨es, clock, hb, _⟩, _⟩ := h
  rw [hb]
  intro e
  cases e
theorem MapV.look {w : World} {bm n : Nat} {f : Sta → Value} (h : MapV w bm n f) {q : Sta} (hq : KeyFit q) : (Instr.lookup 127 (.map (some bm)) (staV q) false).run Tryz.prog w = .ok (f q) w := by
  obtain ⟨D, h1, h2⟩ := h
  obtain ⟨v, ps, hrun, hv⟩ := h1.lookup lawKey Tryz.underlying127 (z := nilI) (by kernel_rfl) (zd := .held nilI) (zp := []) rfl (key_of hq)
  rw [h2 q hq] at hv
  have : v = f q := by
    unfold heldR at hv
    simp only [Option.some.injEq, Prod.mk.injEq, DataW.held.injEq] at hv
    exact hv.1
  subst this
  exact hrun
theorem MapV.put {w : World} {bm n : Nat} {f : Sta → Value} (h : MapV w bm n f) (hn : n < maxLen) {q : Sta} (hq : KeyFit q) (v : Value) :
    ∃ w', (Instr.mapUpdate 127 (.map (some bm)) (staV q) v).run Tryz.prog w = .ok () w' ∧ MapV w' bm (n + 1) (fun r => if r = q then v else f r) ∧ w.grownBy w' (some bm) := by
  obtain ⟨D, h1, h2⟩ := h
  have hM : Go.Maps.IsMap D := by
    obtain ⟨es, clock, _, _, _, e⟩ := h1
    exact ⟨_, e⟩
  obtain ⟨w', hrun, h3, h4⟩ := h1.update lawKey Tryz.underlying127 hn (key_of hq) (val := v) (d := .held v) (ps := []) rfl
  refine ⟨w', hrun, ⟨_, h3, fun r hr => ?_⟩, h4⟩
  by_cases e : r = q
  · subst e
    show _ = DataW.held (if r = r then v else f r)
    rw [if_pos rfl]
    exact Go.Maps.atKey_put_same hM (lawKey.key (key_of hq)) _ _
  · show _ = DataW.held (if r = q then v else f r)
    rw [if_neg e, Go.Maps.atKey_put_other (key_ne hr hq e)]
    exact h2 r hr
/-- The store at the operation: of a drawn region, or of a list. -/
theorem MapV.wp_put {w : World} {bm n : Nat} {f : Sta → Value} (h : MapV w bm n f) (hn : n < maxLen) {q : Sta} (hq : KeyFit q) {o : Oper} {a : Act} {K : Act → World → Prop} {Q : Exit → Act → World → Prop} (m x y : Operand)
    (ho : o.op = .mapUpdate 127 m x y) (hm : a.eval m = .map (some bm)) (hx : a.eval x = staV q) {v : Value} (hv : a.eval y = v)
    (hK : ∀ w', MapV w' bm (n + 1) (fun r => if r = q then v else f r) → w.grownBy w' (some bm) → K (a.put o.dst undef) w') : o.wp Tryz.prog a w K Q := by
  obtain ⟨w', hrun, h1, h2⟩ := h.put hn hq v
  unfold Oper.wp execOp
  simp only [ho, hm, hx, hv, Sem.run_bind, Sem.run_pure, hrun, Result.andThen_ok]
  exact hK w' h1 h2
end Go.Proofs.YtgplajofemencaaGreat
