/- What scan.Print answers. -/
import Derived.Test.YtolaiccgbngomaaArgs
import Derived.Test.YtolaiccgbngomaaMathp
namespace Go.Proofs.Ytolaiccgbngomaa
open Go.ChangeShapes Go.WideShapes Go.ChangeAt Go.RowKit

def Fits (L : List (List Int)) : Prop := ∀ l ∈ L, ∀ n ∈ l, -9223372036854775808 ≤ n ∧ n ≤ 9223372036854775807
theorem cells_itoa (i : Int) : Lib.byteCells (Lib.itoa i) = byts (itoaI i) := by
  unfold Lib.byteCells byts itoaI toI
  rw [List.map_map]
  rfl
theorem len_itoa (i : Int) : (Lib.itoa i).length = (itoaI i).length := by simp [itoaI, toI]
theorem own_some {w : World} {B : Nat} {v : Value} {ys : List Int} (h : OwnB w B v ys) (hn : ys ≠ []) : ∃ g cg, v = .slice (some ⟨g, 0, none⟩) ys.length cg := by
  unfold OwnB at h
  rcases h.2 with ⟨_, h0⟩ | ⟨g, cg, cur, h, _⟩
  · exact (hn (List.eq_nil_of_length_eq_zero h0)).elim
  · exact ⟨g, cg, h⟩
/-- Its last byte is another one. -/
theorem own_last {w : World} {B g n cap : Nat} {zs : List Int} {c : Int} (h : OwnB w B (.slice (some ⟨g, 0, none⟩) n cap) (zs ++ [c])) (d : Int) :
    n = zs.length + 1 ∧ w.cell? ⟨g, zs.length, none⟩ = some (.int .u8 c) ∧ w.frozen? ⟨g, zs.length, none⟩ = false ∧ g < w.heap.size ∧
    OwnB (w.setCell ⟨g, zs.length, none⟩ (.int .u8 d)) B (.slice (some ⟨g, 0, none⟩) n cap) (zs ++ [d]) ∧ Below B w (w.setCell ⟨g, zs.length, none⟩ (.int .u8 d)) := by
  have hn : n = zs.length + 1 := by
    rcases (show w.ownsRow B 5 1 _ (zs ++ [c]).length (byts (zs ++ [c])) from h).2 with ⟨h', _⟩ | ⟨g', cap', cur, h', _⟩
    · simp at h'
    · simp at h'; omega
  subst hn
  have h' : w.ownsRow B 5 1 (.slice (some ⟨g, 0, none⟩) (zs.length + 1) cap) (zs.length + 1) (byts (zs ++ [c])) := by
    have := show w.ownsRow B 5 1 (.slice (some ⟨g, 0, none⟩) (zs.length + 1) cap) (zs ++ [c]).length (byts (zs ++ [c])) from h
    rw [show (zs ++ [c]).length = zs.length + 1 by simp] at this
    exact this
  have hlt := h'.lt g rfl
  have hst := h'.stored zs.length (.int .u8 d)
  refine ⟨rfl, ?_, h'.frozenAt _, hlt.2, ?_, ?_⟩
  · rw [h'.cellAt _ (by omega)]; simp [byts]
  · have := hst.1
    unfold OwnB
    rw [show (zs ++ [d]).length = zs.length + 1 by simp, show byts (zs ++ [d]) = (byts (zs ++ [c])).set zs.length (.int .u8 d) by simp [byts]]
    exact this
  · exact grown_below hst.2 (by have := hlt.1; omega) (fun k hk => by simp at hk; omega)
theorem sp_take (l : List Int) (k : Nat) (hk : k < l.length) (n : Int) (hn : l.getD k 0 = n) : sp (l.take (k + 1)) = sp (l.take k) ++ itoaI n ++ [32] := by
  have e : l.take (k + 1) = l.take k ++ [n] := by
    rw [List.take_add_one, List.getElem?_eq_getElem hk, ← hn, List.getD_eq_getElem?_getD, List.getElem?_eq_getElem hk]; rfl
  rw [e, sp_append]
  simp [sp]
theorem sp_len (l : List Int) : (sp l).length = (lineT l).length := by
  by_cases h : l = []
  · subst h; rfl
  · obtain ⟨z, h1, h2⟩ := sp_line l h
    rw [h1, h2]; simp
theorem sp_mono (l : List Int) (k : Nat) : (sp (l.take k)).length ≤ (lineT l).length := by
  rw [← sp_len l]
  have := congrArg (fun x => (sp x).length) (List.take_append_drop k l)
  simp only [sp_append, List.length_append] at this
  omega

theorem textOf_take (L : List (List Int)) (k : Nat) (hk : k < L.length) : textOf (L.take (k + 1)) = textOf (L.take k) ++ lineT (L.getD k []) := by
  have e : L.take (k + 1) = L.take k ++ [L.getD k []] := by
    rw [List.take_add_one, List.getElem?_eq_getElem hk, List.getD_eq_getElem?_getD, List.getElem?_eq_getElem hk]; rfl
  rw [e, textOf_append]
  simp [textOf]
theorem textOf_mono (L : List (List Int)) (k : Nat) : (textOf (L.take k)).length ≤ (textOf L).length := by
  have := congrArg (fun x => (textOf x).length) (List.take_append_drop k L)
  simp only [textOf_append, List.length_append] at this
  omega
theorem getD_mem {L : List (List Int)} {k : Nat} (hk : k < L.length) : L.getD k [] ∈ L := by
  rw [List.getD_eq_getElem?_getD, List.getElem?_eq_getElem hk]; simp

/-- At most 100 lines, of at most 100 numbers each. -/
def Few (L : List (List Int)) : Prop := L.length ≤ 100 ∧ ∀ l ∈ L, l.length ≤ 100
instance (L : List (List Int)) : Decidable (Few L) := by unfold Few; infer_instance
theorem few_step {L : List (List Int)} {k : Nat} (hk : k < L.length) (h : ∀ l ∈ L.take k, l.length ≤ 100) (hc : (L.getD k []).length ≤ 100) : ∀ l ∈ L.take (k + 1), l.length ≤ 100 := by
  intro l hl
  rw [List.take_add_one, List.getElem?_eq_getElem hk] at hl
  simp only [List.mem_append, Option.toList_some, List.mem_singleton] at hl
  rcases hl with hl | rfl
  · exact h l hl
  · rw [List.getD_eq_getElem?_getD, List.getElem?_eq_getElem hk] at hc; exact hc
end Go.Proofs.Ytolaiccgbngomaa
