/- Which places of a list are left so far, by what their nodes have seen: plain mathematics. -/
import Derived.Test.YtgplajofemencaaGreatXB
namespace Go.Proofs.YtgplajofemencaaGreat

/-- What two states have the same, if one can leave the other one without use. -/
def sawS (s : Sta) : Sta := ⟨s.pos, 0, 0, 0, 0, s.must, s.may, s.on⟩
theorem than_saw {a b : Nod} (h : Than a b) : sawS a.s = sawS b.s := by
  obtain ⟨h1, h2, h3, h4, _⟩ := h
  unfold sawS
  rw [h1, h2, h3, h4.1]
/-- No node ahead of m leaves node i without use. -/
def Alive (l : List Nod) (m i : Nat) : Prop := ∀ j, j < m → ¬ Beats l j i
instance (l : List Nod) (m i : Nat) : Decidable (Alive l m i) := by unfold Alive; infer_instance
/-- The places ahead of k that are left so far, of those that have seen q. -/
def leftK (l : List Nod) (k : Nat) (q : Sta) : List Nat := (List.range k).filter (fun i => decide (sawS (nodAt l i).s = q ∧ Alive l k i))
def ni (L : List Nat) : List Int := L.map (fun (i : Nat) => (i : Int))
theorem alive_succ {l : List Nod} {k i : Nat} : Alive l (k + 1) i ↔ Alive l k i ∧ ¬ Beats l k i := by
  constructor
  · exact fun h => ⟨fun j hj => h j (by omega), h k (by omega)⟩
  · rintro ⟨h1, h2⟩ j hj
    by_cases e : j = k
    · subst e; exact h2
    · exact h1 j (by omega)
/-- Of those that have seen other things nothing changes. -/
theorem leftK_other {l : List Nod} {k : Nat} {q : Sta} (hq : sawS (nodAt l k).s ≠ q) : leftK l (k + 1) q = leftK l k q := by
  unfold leftK
  rw [List.range_succ, List.filter_append]
  have h1 : [k].filter (fun i => decide (sawS (nodAt l i).s = q ∧ Alive l (k + 1) i)) = [] := by simp [hq]
  rw [h1, List.append_nil]
  refine List.filter_congr (fun i hi => ?_)
  rw [Bool.eq_iff_iff, decide_eq_true_eq, decide_eq_true_eq, alive_succ]
  constructor
  · rintro ⟨h1, h2, _⟩; exact ⟨h1, h2⟩
  · rintro ⟨h1, h2⟩
    exact ⟨h1, h2, fun hb => hq (by rw [← h1]; exact than_saw hb.2.1)⟩
end Go.Proofs.YtgplajofemencaaGreat
