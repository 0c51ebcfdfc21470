/- A map of the call's own, by states: what it holds, told value by value. -/
import Derived.Test.YtofapalakpkkpaaGIdx
import Derived.Maps.OwnOps
import Derived.Maps.Views
import Derived.DeepKeys4
import Derived.StringKeys
namespace Go.Proofs.Ytofapalakpkkpaa
open Go.ChangeShapes Go.WideShapes Go.ChangeAt Go.RowKit

theorem laidKey : laidOutB Try.prog = true := by kernel_rfl
theorem rowKey : (24 : TypeId) < Try.prog.types.size := of_decide_eq_true (by kernel_rfl)
theorem wideKey : (match Try.prog.underlying 24 with | some (.array _ _) | some (.struct _) => true | _ => false) = true := by rw [Try.underlying24]
theorem lawKey : Go.Maps.Keyed Try.prog 24 := Go.Maps.Keyed.of_law (deep_law_laid laidKey (m := 3) (by omega) rowKey (by kernel_rfl) wideKey)
/-- A state that may be a key. -/
def KeyFit (q : Sta) : Prop := FitSt q ∧ SetsOk q
theorem wf_i64 {n : Int} (h : Fit n) : (Lit.int .i64 n).wf = true := by
  unfold Fit at h
  have h1 : IntKind.i64.min = -9223372036854775808 := rfl
  have h2 : IntKind.i64.max = 9223372036854775807 := rfl
  simp only [Lit.wf, h1, h2, decide_eq_true_eq, Bool.and_eq_true]
  exact h
theorem wf_u64 {n : Nat} (h : n < 18446744073709551616) : (Lit.int .u64 (n : Int)).wf = true := by
  have h1 : IntKind.u64.min = 0 := rfl
  have h2 : IntKind.u64.max = 18446744073709551615 := rfl
  simp only [Lit.wf, h1, h2, decide_eq_true_eq, Bool.and_eq_true]
  omega
def staLits (q : Sta) : List Lit := [.int .i64 q.pos, .int .i64 q.car, .int .i64 q.time, .int .i64 q.load, .int .i64 q.first, .int .u64 q.must, .int .u64 q.may, .int .u64 q.on]
theorem kc_int : Try.prog.cellsOf 3 = 1 := by kernel_rfl
theorem kc_u64 : Try.prog.cellsOf 22 = 1 := by kernel_rfl
theorem kc_sta : Try.prog.cellsOf 24 = 8 := by kernel_rfl
theorem key_int {d : Nat} {n : Int} (h : Fit n) : Try.prog.keyLits (d + 1) 3 [.int .i64 n] = some [.int .i64 n] := by
  unfold Program.keyLits
  simp [Try.underlying3, wf_i64 h]
theorem key_u64 {d : Nat} {n : Nat} (h : n < 18446744073709551616) : Try.prog.keyLits (d + 1) 22 [.int .u64 (n : Int)] = some [.int .u64 (n : Int)] := by
  unfold Program.keyLits
  simp [Try.underlying22, wf_u64 h]
theorem key_sta {d : Nat} {q : Sta} (h : KeyFit q) : Try.prog.keyLits (d + 1 + 1) 24 [.int .i64 q.pos, .int .i64 q.car, .int .i64 q.time, .int .i64 q.load, .int .i64 q.first, .int .u64 q.must, .int .u64 q.may, .int .u64 q.on] = some (staLits q) := by
  obtain ⟨⟨h1, h2, h3, h4, h5⟩, h6, h7, h8⟩ := h
  unfold Program.keyLits
  simp [Try.underlying24, kc_sta, kc_int, kc_u64, key_int h1, key_int h2, key_int h3, key_int h4, key_int h5, key_u64 h6, key_u64 h7, key_u64 h8, staLits]
theorem key_of {q : Sta} (h : KeyFit q) : keyOf Try.prog 24 (staV q) = some (.string (keyBytes (staLits q))) := by
  have h1 : Try.prog.keyType 24 = true := by kernel_rfl
  have h2 : (staV q).formed Try.prog 24 = true := by
    unfold staV Value.formed
    rw [Try.underlying24, kc_sta]
    rfl
  obtain ⟨d, hd⟩ : ∃ d, Try.prog.types.size + 1 = d + 1 + 1 := ⟨Try.prog.types.size - 1, by have h9 : (24 : Nat) < Try.prog.types.size := rowKey; omega⟩
  unfold keyOf
  rw [Try.underlying24]
  simp only [h1, h2, Bool.and_self, if_true, hd]
  rw [show (staV q).cells.toList = [.int .i64 q.pos, .int .i64 q.car, .int .i64 q.time, .int .i64 q.load, .int .i64 q.first, .int .u64 q.must, .int .u64 q.may, .int .u64 q.on] from rfl, key_sta h]
  rfl
theorem staV_inj {q r : Sta} (h : staV q = staV r) : q = r := by
  unfold staV at h
  simp at h
  obtain ⟨a1, a2, a3, a4, a5, a6, a7, a8⟩ := q
  obtain ⟨b1, b2, b3, b4, b5, b6, b7, b8⟩ := r
  simp only at h
  obtain ⟨rfl, rfl, rfl, rfl, rfl, h6, h7, h8⟩ := h
  obtain rfl : a6 = b6 := by omega
  obtain rfl : a7 = b7 := by omega
  obtain rfl : a8 = b8 := by omega
  rfl
theorem key_ne {q r : Sta} (hq : KeyFit q) (hr : KeyFit r) (hne : q ≠ r) : (Lit.string (keyBytes (staLits q))) ≠ .string (keyBytes (staLits r)) := fun e =>
  hne (staV_inj (lawKey.inj (key_of hq) (by rw [e]; exact key_of hr)))
def nilI : Value := .slice none 0 0
def heldR (v : Value) : Option (DataW Value × List MemPlace) := some (.held v, [])
/-- Block bm is a map of at most n entries that holds f q at each state q. -/
def MapV (w : World) (bm n : Nat) (f : Sta → Value) : Prop :=
  ∃ D : DataW Value, w.ownsMap Try.prog 24 heldR bm n D ∧ ∀ q, KeyFit q → D.atKey (.string (keyBytes (staLits q))) (.held nilI) = .held (f q)
theorem mapV_made (w : World) : MapV (w.alloc (.map #[] 0)) w.heap.size 0 (fun _ => nilI) :=
  ⟨.map [], World.ownsMap_made w Try.prog 24 heldR, fun _ _ => rfl⟩
theorem MapV.kept {w w' : World} {bm n : Nat} {f : Sta → Value} {row : Option Nat} (h : MapV w bm n f) (hg : w.grownBy w' row) (hne : some bm ≠ row) : MapV w' bm n f := by
  obtain ⟨D, h1, h2⟩ := h
  exact ⟨D, h1.kept hg hne, h2⟩
theorem MapV.lt {w : World} {bm n : Nat} {f : Sta → Value} (h : MapV w bm n f) : bm < w.heap.size := by
  obtain ⟨D, h1, _⟩ := h
  exact h1.lt
/-- It is no row of cells. -/
theorem MapV.notCells {w : World} {bm n : Nat} {f : Sta → Value} (h : MapV w bm n f) {c : Array Value} {t : TypeId} {fr : Nat × Nat} : w.heap[bm]? ≠ some (.cells c t fr) := by
  obtain ⟨D, ⟨es, clock, hb, _⟩, _⟩ := h
  rw [hb]
  intro e
  cases e
theorem MapV.look {w : World} {bm n : Nat} {f : Sta → Value} (h : MapV w bm n f) {q : Sta} (hq : KeyFit q) : (Instr.lookup 59 (.map (some bm)) (staV q) false).run Try.prog w = .ok (f q) w := by
  obtain ⟨D, h1, h2⟩ := h
  obtain ⟨v, ps, hrun, hv⟩ := h1.lookup lawKey Try.underlying59 (z := nilI) (by kernel_rfl) (zd := .held nilI) (zp := []) rfl (key_of hq)
  rw [h2 q hq] at hv
  have : v = f q := by
    unfold heldR at hv
    simp only [Option.some.injEq, Prod.mk.injEq, DataW.held.injEq] at hv
    exact hv.1
  subst this
  exact hrun
theorem MapV.put {w : World} {bm n : Nat} {f : Sta → Value} (h : MapV w bm n f) (hn : n < maxLen) {q : Sta} (hq : KeyFit q) (v : Value) :
    ∃ w', (Instr.mapUpdate 59 (.map (some bm)) (staV q) v).run Try.prog w = .ok () w' ∧ MapV w' bm (n + 1) (fun r => if r = q then v else f r) ∧ w.grownBy w' (some bm) := by
  obtain ⟨D, h1, h2⟩ := h
  have hM : Go.Maps.IsMap D := by
    obtain ⟨es, clock, _, _, _, e⟩ := h1
    exact ⟨_, e⟩
  obtain ⟨w', hrun, h3, h4⟩ := h1.update lawKey Try.underlying59 hn (key_of hq) (val := v) (d := .held v) (ps := []) rfl
  refine ⟨w', hrun, ⟨_, h3, fun r hr => ?_⟩, h4⟩
  by_cases e : r = q
  · subst e
    show _ = DataW.held (if r = r then v else f r)
    rw [if_pos rfl]
    exact Go.Maps.atKey_put_same hM (lawKey.key (key_of hq)) _ _
  · show _ = DataW.held (if r = q then v else f r)
    rw [if_neg e, Go.Maps.atKey_put_other (key_ne hr hq e)]
    exact h2 r hr
/-- The store at the operation: of a drawn region, or of a list. -/
theorem MapV.wp_put {w : World} {bm n : Nat} {f : Sta → Value} (h : MapV w bm n f) (hn : n < maxLen) {q : Sta} (hq : KeyFit q) {o : Oper} {a : Act} {K : Act → World → Prop} {Q : Exit → Act → World → Prop} (m x y : Operand)
    (ho : o.op = .mapUpdate 59 m x y) (hm : a.eval m = .map (some bm)) (hx : a.eval x = staV q) {v : Value} (hv : a.eval y = v)
    (hK : ∀ w', MapV w' bm (n + 1) (fun r => if r = q then v else f r) → w.grownBy w' (some bm) → K (a.put o.dst undef) w') : o.wp Try.prog a w K Q := by
  obtain ⟨w', hrun, h1, h2⟩ := h.put hn hq v
  unfold Oper.wp execOp
  simp only [ho, hm, hx, hv, Sem.run_bind, Sem.run_pure, hrun, Result.andThen_ok]
  exact hK w' h1 h2
end Go.Proofs.Ytofapalakpkkpaa
