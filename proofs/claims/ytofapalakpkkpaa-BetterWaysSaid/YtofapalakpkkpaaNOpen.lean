/- Nodes that a law is handed. -/
import Derived.Test.YtofapalakpkkpaaNRow
namespace Go.Proofs.Ytofapalakpkkpaa
open Go.ChangeShapes Go.WideShapes Go.ChangeAt Go.RowKit

/-- What a node's numbers are. -/
def NodFit (n : Nod) : Prop := SetsOk n.s ∧ Fit n.cost ∧ (∀ x ∈ n.path, Fit x) ∧ Fit n.s.pos
section
variable {H : Type} {enc : TypeId × Value → H} {w : World} {base : Nat} {spare : Nat → Bool} {held : Bool}
theorem nin_of {w : World} : ∀ (l : List (RawN × Nod)), (∀ (i : Nat) (x : RawN × Nod), l[i]? = some x → NodIs w w x.1 x.2) → NIn w w (l.map (·.1)) (l.map (·.2))
  | [], _ => trivial
  | x :: l, h => ⟨h 0 x rfl, nin_of l (fun i y hy => h (i + 1) y (by simpa using hy))⟩
set_option maxRecDepth 1000000 in
theorem nodes_cells {fuel : Nat} {cs : List Value} {x : DataW H × List MemPlace} (h : DataW.trod enc Try.prog w base spare held fuel 28 cs = some x) : ∃ (v : Value) (l : List Nod), cs = [v] ∧ NRow w v l ∧ ∀ n ∈ l, NodFit n := by
  rcases Go.Deep.open_slice Try.underlying28 h with ⟨h0, _⟩ | ⟨ad, ln, cp, m, n, D, Pl, hcs, hb, hl, hm, hmm, hx, hi⟩
  · exact ⟨_, [], h0, nrow_nil w, fun n hn => nomatch hn⟩
  · have hlm : ln ≤ m := by rw [hmm]; split <;> omega
    obtain ⟨l, hll, hp⟩ := list_of ((⟨⟨0, 0, 0, 0, 0, 0, 0, 0⟩, 0, none, 0, 0⟩, ⟨⟨0, 0, 0, 0, 0, 0, 0, 0⟩, 0, []⟩) : RawN × Nod) (fun i t => (∀ k, k < 10 → w.cell? ((ad.add (i * 10)).add k) = (nvL t.1)[k]?) ∧ NodIs w w t.1 t.2 ∧ NodFit t.2) ln (fun i hil => by
      obtain ⟨cs', hc, ht⟩ := hi i (by omega)
      rw [cells_node] at hc
      obtain ⟨s, c, v, p, rfl, hst, hs, hf, hr, hpf⟩ := node_cells ht
      obtain ⟨_, _, hat⟩ := World.cells?_some hc
      obtain ⟨pa, pc, rfl, _⟩ := hr.form
      exact ⟨(⟨s, c, pa, _, pc⟩, ⟨s, c, p⟩), fun k hk => hat k hk, ⟨rfl, rfl, .inl hr⟩, hs, hf, hpf, hst.1⟩)
    subst hll
    have hg : ∀ i t, l[i]? = some t → (∀ k, k < 10 → w.cell? ((ad.add (i * 10)).add k) = (nvL t.1)[k]?) ∧ NodIs w w t.1 t.2 ∧ NodFit t.2 := fun i t hit => by
      have hil := (List.getElem?_eq_some_iff.1 hit).1
      have := hp i hil
      simpa [List.getD_eq_getElem?_getD, nth, hit] using this
    have e : (l.map (·.1)).length = l.length := List.length_map _
    refine ⟨_, l.map (·.2), hcs, ⟨l.map (·.1), ?_, nin_of l (fun i t hit => (hg i t hit).2.1)⟩, fun t ht => ?_⟩
    · rw [← e] at hl ⊢
      refine grow_of encNod hl hm (fun i r hir => ?_)
      rw [List.getElem?_map] at hir
      cases hq : l[i]? with
      | none => rw [hq] at hir; cases hir
      | some t =>
        rw [hq] at hir
        cases hir
        exact (hg i t hq).1
    · obtain ⟨y, hy, rfl⟩ := List.mem_map.1 ht
      obtain ⟨i, hi2, rfl⟩ := List.mem_iff_getElem.1 hy
      exact (hg i _ (List.getElem?_eq_getElem hi2)).2.2
/-- Nodes that a law is handed. -/
theorem open_nodes {a : Option Addr} {len cap : Nat} {d : DataW H} {p : List MemPlace} (h : DataW.Trod enc Try.prog w base spare held 28 (.slice a len cap) d p) :
    ∃ l : List Nod, NRow w (.slice a len cap) l ∧ ∀ n ∈ l, NodFit n := by
  obtain ⟨fuel, hf⟩ := h
  obtain ⟨v, l, hcs, hr, hfit⟩ := nodes_cells hf
  simp [Value.cells] at hcs
  subst hcs
  exact ⟨l, hr, hfit⟩
end
end Go.Proofs.Ytofapalakpkkpaa
