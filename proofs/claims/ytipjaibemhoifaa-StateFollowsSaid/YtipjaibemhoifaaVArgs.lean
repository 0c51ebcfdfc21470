/- How plans come in. -/
import Derived.Test.YtipjaibemhoifaaVPlan
import Derived.Test.YtipjaibemhoifaaXIOwn
namespace Go.Proofs.Ytipjaibemhoifaa
open Go.ChangeShapes Go.WideShapes Go.ChangeAt Go.RowKit

theorem cells_plan : Try.prog.cellsOf 44 = 1 := by kernel_rfl
theorem cells_lines : Try.prog.cellsOf 42 = 1 := by kernel_rfl
section
variable {H : Type} {enc : TypeId × Value → H} {w : World} {base : Nat} {spare : Nat → Bool} {held : Bool}
set_option maxRecDepth 100000 in
/-- A plan by value. -/
theorem open_plan {r : Reach} {b0 : Nat} {v : Value} {d : DataW H} {p : List MemPlace} (hv : Value.okWide Try.prog w r b0 44 v) (h : DataW.Trod enc Try.prog w base spare held 44 v d p) : ∃ (u : Value) (L : List (List Int)), v = planV u ∧ IsLL w u L ∧ Fits L := by
  obtain ⟨cs, rfl, _⟩ := okWide_struct Try.underlying44 hv
  obtain ⟨fuel, hf⟩ := h
  obtain ⟨l⟩ := cs
  obtain ⟨xs, n, _, _, hlen, hxl, hf⟩ := DataW.trod_struct Try.underlying44 hf
  rw [cells_plan] at hlen
  have hxl' : xs.length = 1 := hxl
  have hl : l.length = 1 := by simpa [Value.cells] using hlen
  have f0 : DataW.trod enc Try.prog w base spare held n 42 ((l.drop 0).take (Try.prog.cellsOf 42)) = xs[0]? := by simpa [Value.cells] using hf 0 _ rfl
  rw [cells_lines, List.getElem?_eq_getElem (by omega)] at f0
  match l, hl with
  | [c0], _ =>
    simp only [List.drop_zero, List.take_succ_cons, List.take_zero] at f0
    rcases Go.Deep.open_slice Try.underlying42 f0 with ⟨h0, _⟩ | ⟨ad, ln, cp, m, n', D, Pl, hcs, hb, hl, hm, hmm, hx, hi⟩
    · simp at h0
      subst h0
      obtain ⟨L, h1, h2⟩ := open_lines (w := w) (⟨n, f0⟩ : DataW.Trod enc Try.prog w base spare held 42 (.slice none 0 0) _ _)
      exact ⟨_, L, rfl, h1, h2⟩
    · simp at hcs
      subst hcs
      obtain ⟨L, h1, h2⟩ := open_lines (w := w) (⟨n, f0⟩ : DataW.Trod enc Try.prog w base spare held 42 (.slice (some ad) ln cp) _ _)
      exact ⟨_, L, rfl, h1, h2⟩
end
end Go.Proofs.Ytipjaibemhoifaa
