/- Which places of a list are left so far, by what their nodes have seen: plain mathematics. -/
import Derived.Test.YtgplajofemencaaGreatXB
namespace Go.Proofs.YtgplajofemencaaGreat

/-- What two states have the same, if one can leave the other one without use. -/
def sawS (s : Sta) : Sta := ⟨s.pos, 0, 0, 0, 0, s.must, s.may, s.on⟩
theorem than_saw {a b : Nod} (h : Than a b) : sawS a.s = sawS b.s := by
  obtain ⟨h1, h2, h3, h4, _⟩ := h
  unfold sawS
  rw [h1, h2, h3, h4.1]
theorem saw_same (a b : Nod) : Than a b ↔ (sawS a.s = sawS b.s ∧ Covers a.s b.s ∧ a.cost ≤ b.cost) := by
  constructor
  · exact fun h => ⟨than_saw h, h.2.2.2.1, h.2.2.2.2⟩
  · rintro ⟨h1, h2, h3⟩
    unfold sawS at h1
    simp only [Sta.mk.injEq] at h1
    exact ⟨h1.2.2.2.2.2.1, h1.2.2.2.2.2.2.1, h1.2.2.2.2.2.2.2, h2, h3⟩
/-- No node ahead of m leaves node i without use. -/
def Alive (l : List Nod) (m i : Nat) : Prop := ∀ j, j < m → ¬ Beats l j i
instance (l : List Nod) (m i : Nat) : Decidable (Alive l m i) := by unfold Alive; infer_instance
/-- The places ahead of k that are left so far, of those that have seen q. -/
def leftK (l : List Nod) (k : Nat) (q : Sta) : List Nat := (List.range k).filter (fun i => decide (sawS (nodAt l i).s = q ∧ Alive l k i))
def ni (L : List Nat) : List Int := L.map (fun (i : Nat) => (i : Int))
theorem ni_len (L : List Nat) : (ni L).length = L.length := by simp [ni]
theorem mem_leftK {l : List Nod} {k i : Nat} {q : Sta} : i ∈ leftK l k q ↔ i < k ∧ sawS (nodAt l i).s = q ∧ Alive l k i := by
  unfold leftK; simp
theorem leftK_len (l : List Nod) (k : Nat) (q : Sta) : (leftK l k q).length ≤ k := by
  unfold leftK
  refine Nat.le_trans (List.length_filter_le _ _) ?_
  simp
theorem leftK_rises (l : List Nod) (k : Nat) (q : Sta) : (leftK l k q).Pairwise (fun a b => a < b) := List.Pairwise.filter _ List.pairwise_lt_range
theorem alive_succ {l : List Nod} {k i : Nat} : Alive l (k + 1) i ↔ Alive l k i ∧ ¬ Beats l k i := by
  constructor
  · exact fun h => ⟨fun j hj => h j (by omega), h k (by omega)⟩
  · rintro ⟨h1, h2⟩ j hj
    by_cases e : j = k
    · subst e; exact h2
    · exact h1 j (by omega)
/-- Of those that have seen other things nothing changes. -/
theorem leftK_other {l : List Nod} {k : Nat} {q : Sta} (hq : sawS (nodAt l k).s ≠ q) : leftK l (k + 1) q = leftK l k q := by
  unfold leftK
  rw [List.range_succ, List.filter_append]
  have h1 : [k].filter (fun i => decide (sawS (nodAt l i).s = q ∧ Alive l (k + 1) i)) = [] := by simp [hq]
  rw [h1, List.append_nil]
  refine List.filter_congr (fun i hi => ?_)
  rw [Bool.eq_iff_iff, decide_eq_true_eq, decide_eq_true_eq, alive_succ]
  constructor
  · rintro ⟨h1, h2, _⟩; exact ⟨h1, h2⟩
  · rintro ⟨h1, h2⟩
    exact ⟨h1, h2, fun hb => hq (by rw [← h1]; exact than_saw hb.2.1)⟩
/-- One that is left so far leaves node k without use: nothing changes. -/
theorem leftK_beaten {l : List Nod} (hl : ∀ x ∈ l, Fits64 x.s) {k : Nat} (hk : k < l.length) {i : Nat} (hi : i ∈ leftK l k (sawS (nodAt l k).s)) (ht : Than (nodAt l i) (nodAt l k)) :
    leftK l (k + 1) (sawS (nodAt l k).s) = leftK l k (sawS (nodAt l k).s) := by
  obtain ⟨hik, _, hia⟩ := mem_leftK.1 hi
  have fk := hl _ (nodAt_mem hk)
  have fi := hl _ (nodAt_mem (l := l) (i := i) (by omega))
  have hbk : Beats l i k := ⟨by omega, ht, .inl hik⟩
  unfold leftK
  rw [List.range_succ, List.filter_append]
  have h1 : [k].filter (fun i => decide (sawS (nodAt l i).s = sawS (nodAt l k).s ∧ Alive l (k + 1) i)) = [] := by
    rw [List.filter_eq_nil_iff]
    intro x hx
    obtain rfl := List.mem_singleton.1 hx
    simp only [decide_eq_true_eq]
    rintro ⟨_, h⟩
    exact h i (by omega) hbk
  rw [h1, List.append_nil]
  refine List.filter_congr (fun j hj => ?_)
  have hjk := List.mem_range.1 hj
  have fj := hl _ (nodAt_mem (l := l) (i := j) (by omega))
  rw [Bool.eq_iff_iff, decide_eq_true_eq, decide_eq_true_eq, alive_succ]
  constructor
  · rintro ⟨h1, h2, _⟩; exact ⟨h1, h2⟩
  · rintro ⟨h1, h2⟩
    refine ⟨h1, h2, fun hb => ?_⟩
    obtain ⟨_, b1, b2⟩ := hb
    have b3 : ¬ Than (nodAt l j) (nodAt l k) := b2.elim (fun h => absurd h (by omega)) id
    have hij := than_trans fi fk fj ht b1
    by_cases e : i = j
    · subst e; exact b3 ht
    · have hn := h2 i hik
      have h3 : ¬ (i < j ∨ ¬ Than (nodAt l j) (nodAt l i)) := fun h => hn ⟨e, hij, h⟩
      have h4 : Than (nodAt l j) (nodAt l i) := Decidable.byContradiction (fun h => h3 (.inr h))
      exact b3 (than_trans fj fi fk h4 ht)
theorem nodAt_take {l : List Nod} {k i : Nat} (h : i < k) : nodAt (l.take k) i = nodAt l i := by
  unfold nodAt; rw [List.getD_eq_getElem?_getD, List.getD_eq_getElem?_getD, List.getElem?_take_of_lt h]
/-- Who is left out ahead of k is so by one that is left so far. -/
theorem alive_some {l : List Nod} (hl : ∀ x ∈ l, Fits64 x.s) {k j : Nat} (hk : k ≤ l.length) (hj : j < k) : ∃ i, i < k ∧ Alive l k i ∧ Than (nodAt l i) (nodAt l j) := by
  have hlen : (l.take k).length = k := by rw [List.length_take]; omega
  obtain ⟨f, hf, ht⟩ := front_all (l := l.take k) (fun x hx => hl x (List.mem_of_mem_take hx)) (k := j) (by omega)
  obtain ⟨i, hi, hs, rfl⟩ := mem_front.1 hf
  rw [hlen] at hi
  rw [nodAt_take hi, nodAt_take hj] at ht
  refine ⟨i, hi, fun m hm hb => hs m (by omega) ?_, ht⟩
  unfold Beats
  rw [nodAt_take hi, nodAt_take hm]
  exact hb
/-- None that is left so far leaves node k without use: it is left, and those are not that it leaves without use. -/
theorem leftK_new {l : List Nod} (hl : ∀ x ∈ l, Fits64 x.s) {k : Nat} (hk : k < l.length) (hn : ∀ i ∈ leftK l k (sawS (nodAt l k).s), ¬ Than (nodAt l i) (nodAt l k)) :
    leftK l (k + 1) (sawS (nodAt l k).s) = (leftK l k (sawS (nodAt l k).s)).filter (fun i => !decide (Than (nodAt l k) (nodAt l i))) ++ [k] := by
  have fk := hl _ (nodAt_mem hk)
  have hak : Alive l (k + 1) k := by
    intro j hj hb
    have hjk : j < k := by have := hb.1; omega
    obtain ⟨i, hik, hia, hit⟩ := alive_some hl (Nat.le_of_lt hk) hjk
    have ht := than_trans (hl _ (nodAt_mem (l := l) (i := i) (by omega))) (hl _ (nodAt_mem (l := l) (i := j) (by omega))) fk hit hb.2.1
    exact hn i (mem_leftK.2 ⟨hik, than_saw ht, hia⟩) ht
  unfold leftK
  rw [List.range_succ, List.filter_append]
  have h1 : [k].filter (fun i => decide (sawS (nodAt l i).s = sawS (nodAt l k).s ∧ Alive l (k + 1) i)) = [k] := by simp [hak]
  rw [h1, List.filter_filter]
  congr 1
  refine List.filter_congr (fun j hj => ?_)
  have hjk := List.mem_range.1 hj
  rw [Bool.eq_iff_iff, decide_eq_true_eq, Bool.and_eq_true, Bool.not_eq_true', decide_eq_false_iff_not, decide_eq_true_eq, alive_succ]
  constructor
  · rintro ⟨h1, h2, h3⟩
    refine ⟨fun ht => h3 ⟨by omega, ht, .inr ?_⟩, h1, h2⟩
    exact hn j (mem_leftK.2 ⟨hjk, h1, h2⟩)
  · rintro ⟨h3, h1, h2⟩
    exact ⟨h1, h2, fun hb => h3 hb.2.1⟩
/-- At the end: who is there stays. -/
theorem leftK_end {l : List Nod} {k : Nat} (hk : k < l.length) : k ∈ leftK l l.length (sawS (nodAt l k).s) ↔ Stays l k := by
  rw [mem_leftK]
  exact ⟨fun h => h.2.2, fun h => ⟨hk, rfl, h⟩⟩
end Go.Proofs.YtgplajofemencaaGreat
