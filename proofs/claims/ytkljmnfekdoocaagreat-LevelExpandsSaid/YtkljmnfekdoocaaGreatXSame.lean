/- Whether two lists of lines are the same; the chapter's example. -/
import Derived.Test.YtkljmnfekdoocaaGreatLines
import Derived.Lib.SlBytesConst
import Derived.Laws.AppendOwnNone
import Derived.Deep.Slices
import Derived.ChangeSame
import Derived.ShutString
import Derived.ChangeOld
namespace Go.Proofs.YtkljmnfekdoocaaGreat
open Go.ChangeShapes Go.WideShapes Go.ChangeAt Go.RowKit

theorem row_cell {w : World} {a : Option Addr} {n cap : Nat} {xs : List Value} (h : Row w (.slice a n cap) xs) (p : Nat) (hp : p < xs.length) : ∃ tb off, a = some ⟨tb, off, none⟩ ∧ w.cell? ⟨tb, off + p, none⟩ = xs[p]? ∧ tb < w.heap.size := by
  obtain ⟨tb, off, cap', he, hc, _, hlt⟩ := row_at h hp
  simp at he
  exact ⟨tb, off, he.1, hc, hlt⟩
theorem Row.form {w : World} {v : Value} {xs : List Value} (h : Row w v xs) : ∃ a cap, v = .slice a xs.length cap ∧ xs.length ≤ maxLen := by
  obtain ⟨hm, a, cap, rfl, _⟩ := h
  exact ⟨a, cap, rfl, hm⟩
theorem IsLL.form {w : World} {v : Value} {L : List (List Int)} (h : IsLL w v L) : ∃ a cap, v = .slice a L.length cap ∧ L.length ≤ maxLen := by
  obtain ⟨vs, h1, h2⟩ := h
  obtain ⟨a, cap, rfl, hm⟩ := h1.form
  rw [h2.len] at *
  exact ⟨a, cap, rfl, hm⟩
theorem ll_at {w : World} {a : Option Addr} {n cap : Nat} {L : List (List Int)} (h : IsLL w (.slice a n cap) L) (j : Nat) (hj : j < L.length) :
    ∃ tb off a1 n1 c1, a = some ⟨tb, off, none⟩ ∧ tb < w.heap.size ∧ w.cell? ⟨tb, off + j, none⟩ = some (.slice a1 n1 c1) ∧ n1 = (L.getD j []).length ∧ n1 ≤ maxLen ∧ Row w (.slice a1 n1 c1) (ints (L.getD j [])) := by
  obtain ⟨vs, h1, h2⟩ := h
  obtain ⟨u, hu, hr⟩ := h2.at j hj
  obtain ⟨tb, off, ha, hc, hlt⟩ := row_cell h1 j (by rw [h2.len]; exact hj)
  obtain ⟨a1, c1, rfl, hm⟩ := hr.form
  rw [ints_len] at *
  exact ⟨tb, off, a1, _, c1, ha, hlt, by rw [hc, hu], rfl, hm, hr⟩
theorem take_on {α : Type} {d : α} {A B : List α} {j : Nat} (hl : A.length = B.length) (hj : j < A.length) (h : A.take j = B.take j) (he : A.getD j d = B.getD j d) : A.take (j + 1) = B.take (j + 1) := by
  rw [List.take_add_one, List.take_add_one, h]
  rw [List.getD_eq_getElem?_getD, List.getD_eq_getElem?_getD, List.getElem?_eq_getElem hj, List.getElem?_eq_getElem (by omega)] at he
  rw [List.getElem?_eq_getElem hj, List.getElem?_eq_getElem (by omega)]
  simp at he
  rw [he]
theorem take_all {α : Type} {A B : List α} (hl : A.length = B.length) (h : A.take A.length = B.take A.length) : A = B := by
  rw [List.take_length, hl, List.take_length] at h; exact h

end Go.Proofs.YtkljmnfekdoocaaGreat
/- Texts that a law is handed, and texts that it puts together. -/
namespace Go.Proofs.YtkljmnfekdoocaaGreat
open Go.ChangeShapes Go.WideShapes Go.ChangeAt Go.RowKit

theorem own : ownKnob Tryz.prog.godebug = none := by kernel_rfl
theorem laidOut : laidOutB Tryz.prog = true := by kernel_rfl
theorem add_off (b off k : Nat) : (⟨b, off, none⟩ : Addr).add k = ⟨b, off + k, none⟩ := by rw [Go.WideShapes.add_plain]

section
variable {H : Type} {enc : TypeId × Value → H} {w : World} {base : Nat} {spare : Nat → Bool} {held : Bool}
theorem row_of_ints {k : IntKind} {x : Addr} {len cap : Nat} {zs : List Int} (hl : len ≤ cap) (hm : cap ≤ maxLen) (hz : len ≤ zs.length) (hc : ∀ i, i < zs.length → w.cell? (x.add i) = some (.int k (zs.getD i 0))) :
    Row w (.slice (some x) len cap) ((zs.take len).map (Value.int k)) := by
  have e : ((zs.take len).map (Value.int k)).length = len := by simp; omega
  refine ⟨by rw [e]; omega, some x, cap, by rw [e], by rw [e]; exact hl, ⟨hm, fun h => by simp at h⟩, ?_⟩
  by_cases h0 : len = 0
  · left; subst h0; simp
  · right
    obtain ⟨b, off, spot⟩ := x
    have hspot : spot = none := by
      have := World.cell?_spot (hc 0 (by omega))
      simpa [Addr.add] using this
    subst hspot
    refine ⟨b, off, rfl, fun i hi => ?_⟩
    rw [e] at hi
    have := hc i (by omega)
    rw [add_off] at this
    rw [this]
    simp [hi, List.getD_eq_getElem?_getD, show i < zs.length by omega]
end

theorem row_here {w : World} {tb off n cap : Nat} {xs : List Value} (h : Row w (.slice (some ⟨tb, off, none⟩) n cap) xs) (p : Nat) (hp : p < xs.length) : w.cell? ⟨tb, off + p, none⟩ = xs[p]? := by
  obtain ⟨tb', off', he, hc, _⟩ := row_cell h p hp
  simp only [Option.some.injEq, Addr.mk.injEq, and_true] at he
  obtain ⟨rfl, rfl⟩ := he
  exact hc
/-- A text that the law has made. -/
def OwnB (w : World) (B : Nat) (v : Value) (ys : List Int) : Prop := w.ownsRow B 5 1 v ys.length (byts ys)
theorem OwnB.alloc {w : World} {B : Nat} {v : Value} {ys : List Int} (h : OwnB w B v ys) (O : Obj) : OwnB (w.alloc O) B v ys := World.ownsRow.alloc h O
theorem OwnB.row {w : World} {B : Nat} {v : Value} {ys : List Int} (h : OwnB w B v ys) : Row w v (byts ys) := own_row h
theorem OwnB.below {w w' : World} {B : Nat} {v : Value} {ys : List Int} (h : OwnB w B v ys) (hb : Below w.heap.size w w') : OwnB w' B v ys := own_below h hb
/-- Two of them: what grows at one leaves the other. -/
theorem OwnB.kept {w w' : World} {B : Nat} {v : Value} {ys : List Int} {row : Option Nat} (h : OwnB w B v ys) (hg : w.grownBy w' row) (hne : v.ownBlock = none ∨ v.ownBlock ≠ row) : OwnB w' B v ys := World.ownsRow.kept h hg hne
theorem OwnLL.alloc {w : World} {B : Nat} {v : Value} {L : List (List Int)} (h : OwnLL w B v L) (O : Obj) : OwnLL (w.alloc O) B v L := h.below ((Below.refl _ _).alloc (Nat.le_refl _) O)
/-- What was made later stays. -/
theorem OwnLL.later {w w' : World} {B : Nat} {v : Value} {L : List (List Int)} {row : Option Nat} (h : OwnLL w B v L) (hg : w.grownBy w' row) (hr : ∀ g, row = some g → g < B) : OwnLL w' B v L := by
  obtain ⟨vs, h1, h2⟩ := h
  refine ⟨vs, h1.kept hg ?_, h2.kept hg (fun u hu => ?_)⟩
  · cases hv : v.ownBlock with
    | none => exact .inl rfl
    | some g =>
      right
      intro e
      have := (h1.lt g hv).1
      have := hr g e.symm
      omega
  · cases hv : u.ownBlock with
    | none => exact .inl rfl
    | some g =>
      right
      intro e
      have := (h2.lt u hu g hv).1
      have := hr g e.symm
      omega
theorem OwnLL.ge {w : World} {B : Nat} {v : Value} {L : List (List Int)} (h : OwnLL w B v L) : ∀ g, v.ownBlock = some g → B ≤ g := by
  obtain ⟨vs, h1, h2⟩ := h
  exact fun g hg => (h1.lt g hg).1
theorem OwnLL.lt {w : World} {B : Nat} {v : Value} {L : List (List Int)} (h : OwnLL w B v L) : ∀ g, v.ownBlock = some g → g < w.heap.size := by
  obtain ⟨vs, h1, h2⟩ := h
  exact fun g hg => (h1.lt g hg).2
end Go.Proofs.YtkljmnfekdoocaaGreat
