/- What the laws' loops have in common: putting all of a list in. -/
import Derived.Test.YtljgglmaglmceaaEq
namespace Go.Proofs.Ytljgglmaglmceaa
open Go.ChangeShapes Go.WideShapes Go.ChangeAt Go.RowKit

theorem live_perm {w0 w : World} {b : Nat} {o : Int} {m m' : List Ent} {A : Nat → Prop} (h : Live w0 w b o m A) (p : m.Perm m') : Live w0 w b o m' A := by
  obtain ⟨v, ⟨l, h1, h2, h3⟩, h4, h5⟩ := h
  exact ⟨v, ⟨l, h1, h2, h3.trans p⟩, h4, h5⟩
theorem take_perm (l : List Ent) (k : Nat) (h : k < l.length) : (nth l k :: l.take k).Perm (l.take (k + 1)) := by
  rw [take_snoc l k h]; exact (List.perm_append_singleton _ _).symm
theorem first_bound (m : List Ent) (h : m ≠ []) : (first 0 m).b = minB m := by
  obtain ⟨h1, h2⟩ := first_isMin 0 m h
  refine (minB_of m _ ⟨_, h1, rfl⟩ (fun y hy => ?_)).symm
  have := h2 y hy
  unfold lt lexB at this
  simp at this
  omega
theorem minB_le (m : List Ent) (k : Nat) (h : k < m.length) : minB m ≤ (nth m k).b :=
  (minB_spec m (fun e => by rw [e] at h; simp at h)).2 _ (nth_mem m k h)
end Go.Proofs.Ytljgglmaglmceaa
