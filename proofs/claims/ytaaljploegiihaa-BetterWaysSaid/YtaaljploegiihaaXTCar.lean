/- Rows of numbers that a law is handed. -/
import Derived.Test.YtaaljploegiihaaYC
import Derived.Test.YtaaljploegiihaaXMath
import Derived.Deep.MidRow
namespace Go.Proofs.Ytaaljploegiihaa
open Go.ChangeShapes Go.WideShapes Go.ChangeAt Go.RowKit

section
variable {H : Type} {enc : TypeId × Value → H} {w : World} {base : Nat} {spare : Nat → Bool} {held : Bool}
end
end Go.Proofs.Ytaaljploegiihaa
/- How times lie in memory. -/
namespace Go.Proofs.Ytaaljploegiihaa
open Go.ChangeShapes Go.WideShapes Go.ChangeAt Go.RowKit

def rowT (t : Tm) : List Value := [.int .i64 t.come, .int .i64 t.begn, .int .i64 t.leave]
def nthT (l : List Tm) (i : Nat) : Tm := l.getD i ⟨0, 0, 0⟩
/-- The three cells of a time. -/
def TAt (w : World) (b o : Nat) (t : Tm) : Prop := w.cell? ⟨b, o, none⟩ = some (.int .i64 t.come) ∧ w.cell? ⟨b, o + 1, none⟩ = some (.int .i64 t.begn) ∧ w.cell? ⟨b, o + 2, none⟩ = some (.int .i64 t.leave)
theorem TAt.lt {w : World} {b o : Nat} {t : Tm} (h : TAt w b o t) : b < w.heap.size := World.block_lt_of_cell? w _ h.1
theorem TAt.below {w w' : World} {b o M : Nat} {t : Tm} (h : TAt w b o t) (hb : b < M) (hw : Below M w w') : TAt w' b o t :=
  ⟨(hw.cell (p := ⟨b, o, none⟩) hb).trans h.1, (hw.cell (p := ⟨b, o + 1, none⟩) hb).trans h.2.1, (hw.cell (p := ⟨b, o + 2, none⟩) hb).trans h.2.2⟩
theorem TAt.of {w : World} {b o : Nat} {t : Tm} (h : TAt w b o t) (k : Nat) (hk : k < 3) : w.cell? ⟨b, o + k, none⟩ = (rowT t)[k]? := by
  obtain ⟨h0, h1, h2⟩ := h
  match k, hk with
  | 0, _ => exact h0
  | 1, _ => exact h1
  | 2, _ => exact h2
/-- Times that may be read. -/
def TRow (w : World) (v : Value) (l : List Tm) : Prop :=
  l.length ≤ maxLen ∧ ∃ a cap, v = .slice a l.length cap ∧ l.length ≤ cap ∧ (cap ≤ maxLen ∧ (a = none → cap = 0)) ∧ (l = [] ∨ ∃ b off, a = some ⟨b, off, none⟩ ∧ ∀ i, i < l.length → TAt w b (off + i * 3) (nthT l i))
theorem TRow.below {w w' : World} {v : Value} {l : List Tm} (h : TRow w v l) (hb : Below w.heap.size w w') : TRow w' v l := by
  obtain ⟨hm, a, cap, hv, hc, hc2, h⟩ := h
  refine ⟨hm, a, cap, hv, hc, hc2, ?_⟩
  rcases h with h | ⟨b, off, ha, hc⟩
  · exact .inl h
  · exact .inr ⟨b, off, ha, fun i hi => (hc i hi).below (hc i hi).lt hb⟩
theorem TRow.form {w : World} {v : Value} {l : List Tm} (h : TRow w v l) : ∃ a cap, v = .slice a l.length cap ∧ l.length ≤ maxLen ∧ l.length ≤ cap ∧ cap ≤ maxLen := by
  obtain ⟨hm, a, cap, rfl, hc, hc2, _⟩ := h
  exact ⟨a, cap, rfl, hm, hc, hc2.1⟩
/-! ### Two times held against each other -/
theorem Tm.eq_iff (a b : Tm) : (a.come = b.come ∧ a.begn = b.begn ∧ a.leave = b.leave) ↔ a = b := by cases a; cases b; simp
end Go.Proofs.Ytaaljploegiihaa
/- How a car lies in memory. -/
namespace Go.Proofs.Ytaaljploegiihaa
open Go.ChangeShapes Go.WideShapes Go.ChangeAt Go.RowKit

def atS (l : List Int) : Int := l.getLastD 0
theorem atS_snoc (l : List Int) (i : Int) : atS (l ++ [i]) = i := by simp [atS]
section
variable {w w' : World} {b : Nat} {I : Ins} {sv : Value} {a n g h : Int} {S : List Bool} {tv lv : Value}
end
end Go.Proofs.Ytaaljploegiihaa
/- What a car's farTo and timeAt answer. -/
namespace Go.Proofs.Ytaaljploegiihaa
open Go.ChangeShapes Go.WideShapes Go.ChangeAt Go.RowKit

end Go.Proofs.Ytaaljploegiihaa
/- What a car's wrongAt and wrongBack answer. -/
namespace Go.Proofs.Ytaaljploegiihaa
open Go.ChangeShapes Go.WideShapes Go.ChangeAt Go.RowKit

section
variable {I : Ins} {L : List Int} {n : Int} {s : Stp} {i : Int}
end
end Go.Proofs.Ytaaljploegiihaa
/- A drawn region in which some cells are held until one of its operations (its first store) comes up: what waits not for it is taken while they are held. -/
namespace Go.Proofs.Ytaaljploegiihaa

section
variable {P : Program} {ops : Array Oper} {Q : Exit → Act → World → Prop} {md : Region.Mode} {S : World → Prop} {m : Nat}
/-- Whatever order is picked from here on; S holds behind each operation till number m comes up. -/
def AnyU (P : Program) (md : Region.Mode) (ops : Array Oper) (Q : Exit → Act → World → Prop) (S : World → Prop) (m : Nat) : Nat → Array Bool → Act → World → Prop
  | 0, l, a, w => Region.ready md ops l = [] ∧ Q .normal a w
  | n + 1, l, a, w => (Region.ready md ops l = [] → Q .normal a w) ∧
    ∀ i ∈ Region.ready md ops l, wpOp P ops Q i (fun a' w' => (i ≠ m → l.getD m true = false → S w') ∧ AnyU P md ops Q S m n (l.setIfInBounds i true) a' w') a w
/-- Each of these comes up next. -/
def NextU (P : Program) (md : Region.Mode) (ops : Array Oper) (Q : Exit → Act → World → Prop) (S : World → Prop) (m n : Nat) (l : Array Bool) (a : Act) (w : World) (rs : List Nat) : Prop :=
  ∀ i ∈ rs, wpOp P ops Q i (fun a' w' => (i ≠ m → l.getD m true = false → S w') ∧ AnyU P md ops Q S m n (l.setIfInBounds i true) a' w') a w
theorem NextU.nil {n : Nat} {l : Array Bool} {a : Act} {w : World} : NextU P md ops Q S m n l a w [] := fun _ h => by cases h
/-- One more, ahead of number m: S is shown anew behind it. -/
theorem NextU.cons {n : Nat} {l : Array Bool} {a : Act} {w : World} {i : Nat} {o : Oper} {rs : List Nat} (ho : ops[i]? = some o)
    (h : ∀ K' : Act → World → Prop, Shut (∀ a w, S w → (S w → AnyU P md ops Q S m n (l.setIfInBounds i true) a w) → K' a w) → if Region.wanted o (yielded ops a.tmps) = true then Oper.wp P o a w K' Q else K' (a.put o.dst undef) w)
    (hs : NextU P md ops Q S m n l a w rs) : NextU P md ops Q S m n l a w (i :: rs) := fun j hj => by
  rcases List.mem_cons.1 hj with rfl | hj
  · exact wpOp_step ho (fun K' hK => h K' (fun a w hS hW => hK a w ⟨fun _ _ => hS, hW hS⟩))
  · exact hs j hj
end
end Go.Proofs.Ytaaljploegiihaa
