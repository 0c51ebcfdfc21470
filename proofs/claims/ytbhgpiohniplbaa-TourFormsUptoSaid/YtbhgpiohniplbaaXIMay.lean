/- What inst.May answers. -/
import Derived.Test.YtbhgpiohniplbaaXIMem
namespace Go.Proofs.Ytbhgpiohniplbaa
open Go.ChangeShapes Go.WideShapes Go.ChangeAt Go.RowKit

def cellsI (N : Nat) (I : Ins) (v : Value) : List (Addr × Value) := [(⟨N, 0, none⟩, .int .i64 I.p), (⟨N, 1, none⟩, .int .i64 I.c), (⟨N, 2, none⟩, .int .i64 I.r), (⟨N, 3, none⟩, v)]
def cellsS (b o : Nat) (t : Stp) : List (Addr × Value) := [(⟨b, o, none⟩, .int .i64 t.x), (⟨b, o + 1, none⟩, .int .i64 t.y), (⟨b, o + 2, none⟩, .int .i64 t.d), (⟨b, o + 3, none⟩, .int .i64 t.r), (⟨b, o + 4, none⟩, .int .i64 t.u), (⟨b, o + 5, none⟩, .int .i64 t.s)]
def cellsA (N : Nat) (I : Ins) (v : Value) (b o : Nat) (t : Stp) : List (Addr × Value) := [(⟨N, 0, none⟩, .int .i64 I.p), (⟨N, 1, none⟩, .int .i64 I.c), (⟨N, 2, none⟩, .int .i64 I.r), (⟨N, 3, none⟩, v), (⟨b, o, none⟩, .int .i64 t.x), (⟨b, o + 1, none⟩, .int .i64 t.y), (⟨b, o + 2, none⟩, .int .i64 t.d), (⟨b, o + 3, none⟩, .int .i64 t.r), (⟨b, o + 4, none⟩, .int .i64 t.u), (⟨b, o + 5, none⟩, .int .i64 t.s)]
theorem Holds.app {w : World} : ∀ {a b : List (Addr × Value)}, Holds (a ++ b) w ↔ Holds a w ∧ Holds b w
  | [], b => by simp [Holds]
  | x :: a, b => by simp [Holds, Holds.app, and_assoc]
theorem Lows.app {M : Nat} : ∀ {a b : List (Addr × Value)}, Lows M a → Lows M b → Lows M (a ++ b)
  | [], _, _, h => h
  | _ :: _, _, h, k => ⟨h.1, Lows.app h.2 k⟩
theorem lows_S {M b o : Nat} {t : Stp} (h : b < M) : Lows M (cellsS b o t) := ⟨h, h, h, h, h, h, trivial⟩
theorem At.holds {w : World} {b o : Nat} {t : Stp} (h : At w b o t) : Holds (cellsS b o t) w := by
  obtain ⟨h0, h1, h2, h3, h4, h5⟩ := h
  exact ⟨h0, h1, h2, h3, h4, h5, trivial⟩
theorem eql_len (n : Nat) (p : Int) : ((n : Int) == 2 * p + 1) = lenOk p n := by unfold lenOk; rw [Bool.eq_iff_iff]; simp
end Go.Proofs.Ytbhgpiohniplbaa
/- The document's May. -/
namespace Go.Proofs.Ytbhgpiohniplbaa
open Go.ChangeShapes Go.WideShapes Go.ChangeAt Go.RowKit

theorem okAt_no {I : Ins} {i : Nat} (hi : i < I.l.length) (h : ¬ okAt I.p.toNat I.l i) : mayB I = false := by
  cases hm : mayB I with
  | false => rfl
  | true => exact absurd (((may_iff I).1 hm).2.2.2.2 i hi) h
theorem okAt_all {I : Ins} (h1 : inb 0 16 I.p = true) (h2 : inb 1 8 I.c = true) (h3 : inb 1 1000 I.r = true) (h4 : lenOk I.p I.l.length = true) (h : ∀ i, i < I.l.length → okAt I.p.toNat I.l i) : mayB I = true := (may_iff I).2 ⟨h1, h2, h3, h4, h⟩
theorem okAt_next {p : Nat} {l : List Stp} {k : Nat} (h : ∀ i, i < k → okAt p l i) (hk : okAt p l k) : ∀ i, i < k + 1 → okAt p l i := fun i hi => by
  by_cases c : i < k
  · exact h i c
  · obtain rfl : i = k := by omega
    exact hk
theorem may_no {I : Ins} (h : ¬ (inb 0 16 I.p = true ∧ inb 1 8 I.c = true ∧ inb 1 1000 I.r = true ∧ lenOk I.p I.l.length = true)) : mayB I = false := by
  cases hm : mayB I with
  | false => rfl
  | true => have := (may_iff I).1 hm; exact absurd ⟨this.1, this.2.1, this.2.2.1, this.2.2.2.1⟩ h
theorem lenNe (n : Nat) (p : Int) : ((n : Int) != 2 * p + 1) = !lenOk p n := by unfold lenOk; rw [Bool.eq_iff_iff]; simp
end Go.Proofs.Ytbhgpiohniplbaa
