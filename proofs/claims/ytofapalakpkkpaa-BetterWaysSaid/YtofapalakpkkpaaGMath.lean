/- Nodes that leave others without use: plain mathematics. -/
import Derived.Test.YtofapalakpkkpaaBMath
namespace Go.Proofs.Ytofapalakpkkpaa

structure Nod where
  s : Sta
  cost : Int
  path : List Int
deriving DecidableEq
def Than (a b : Nod) : Prop := a.s.must = b.s.must ∧ a.s.may = b.s.may ∧ a.s.on = b.s.on ∧ Covers a.s b.s ∧ a.cost ≤ b.cost
instance (a b : Nod) : Decidable (Than a b) := by unfold Than; infer_instance
theorem than_refl {a : Nod} (h : Fits64 a.s) : Than a a := ⟨rfl, rfl, rfl, covers_refl h, Int.le_refl _⟩
theorem than_trans {a b c : Nod} (ha : Fits64 a.s) (hb : Fits64 b.s) (hc : Fits64 c.s) (h : Than a b) (k : Than b c) : Than a c :=
  ⟨h.1.trans k.1, h.2.1.trans k.2.1, h.2.2.1.trans k.2.2.1, covers_trans ha hb hc h.2.2.2.1 k.2.2.2.1, Int.le_trans h.2.2.2.2 k.2.2.2.2⟩
/-- BetterOrder. -/
theorem than_both {a b : Nod} (ha : Fits64 a.s) (hb : Fits64 b.s) : (Than a b ∧ Than b a) ↔ (a.s = b.s ∧ a.cost = b.cost) := by
  constructor
  · rintro ⟨h, k⟩
    exact ⟨covers_anti ha hb h.2.2.2.1 k.2.2.2.1, Int.le_antisymm h.2.2.2.2 k.2.2.2.2⟩
  · rintro ⟨h, k⟩
    unfold Than
    rw [h, k]
    exact ⟨⟨rfl, rfl, rfl, covers_refl hb, Int.le_refl _⟩, ⟨rfl, rfl, rfl, covers_refl hb, Int.le_refl _⟩⟩
def nod0 : Nod := ⟨noughtS, 0, []⟩
def nodAt (l : List Nod) (i : Nat) : Nod := l.getD i nod0
theorem nodAt_mem {l : List Nod} {i : Nat} (h : i < l.length) : nodAt l i ∈ l := by
  unfold nodAt; rw [List.getD_eq_getElem?_getD, List.getElem?_eq_getElem h]; exact List.getElem_mem h
/-- Node i leaves node k without use. -/
def Beats (l : List Nod) (i k : Nat) : Prop := i ≠ k ∧ Than (nodAt l i) (nodAt l k) ∧ (i < k ∨ ¬ Than (nodAt l k) (nodAt l i))
instance (l : List Nod) (i k : Nat) : Decidable (Beats l i k) := by unfold Beats; infer_instance
def Stays (l : List Nod) (k : Nat) : Prop := ∀ i, i < l.length → ¬ Beats l i k
instance (l : List Nod) (k : Nat) : Decidable (Stays l k) := by unfold Stays; infer_instance
def frontN (l : List Nod) (n : Nat) : List Nod := ((List.range n).filter (fun k => decide (Stays l k))).map (nodAt l)
def frontL (l : List Nod) : List Nod := frontN l l.length
theorem frontN_succ (l : List Nod) (n : Nat) : frontN l (n + 1) = if Stays l n then frontN l n ++ [nodAt l n] else frontN l n := by
  unfold frontN
  rw [List.range_succ, List.filter_append, List.map_append]
  by_cases h : Stays l n
  · rw [if_pos h]; simp [h]
  · rw [if_neg h]; simp [h]
theorem front_len (l : List Nod) (n : Nat) : (frontN l n).length ≤ n := by
  unfold frontN
  rw [List.length_map]
  refine Nat.le_trans (List.length_filter_le _ _) ?_
  simp
theorem mem_front {l : List Nod} {x : Nod} : x ∈ frontL l ↔ ∃ k, k < l.length ∧ Stays l k ∧ nodAt l k = x := by
  unfold frontL frontN
  simp only [List.mem_map, List.mem_filter, List.mem_range, decide_eq_true_eq]
  constructor
  · rintro ⟨k, ⟨h1, h2⟩, h3⟩; exact ⟨k, h1, h2, h3⟩
  · rintro ⟨k, h1, h2, h3⟩; exact ⟨k, ⟨h1, h2⟩, h3⟩
theorem beats_trans {l : List Nod} (hl : ∀ x ∈ l, Fits64 x.s) {i j k : Nat} (hi : i < l.length) (hj : j < l.length) (hk : k < l.length) (h : Beats l i j) (g : Beats l j k) : Beats l i k := by
  have fi := hl _ (nodAt_mem hi)
  have fj := hl _ (nodAt_mem hj)
  have fk := hl _ (nodAt_mem hk)
  obtain ⟨h1, h2, h3⟩ := h
  obtain ⟨g1, g2, g3⟩ := g
  have ht := than_trans fi fj fk h2 g2
  refine ⟨fun e => ?_, ht, ?_⟩
  · subst e
    rcases h3 with h3 | h3
    · rcases g3 with g3 | g3
      · omega
      · exact g3 h2
    · exact h3 g2
  · rcases h3 with h3 | h3
    · rcases g3 with g3 | g3
      · exact .inl (by omega)
      · exact .inr (fun hc => g3 (than_trans fk fi fj hc h2))
    · exact .inr (fun hc => h3 (than_trans fj fk fi g2 hc))
/-- How many leave node k without use. -/
def beaters (l : List Nod) (k : Nat) : List Nat := (List.range l.length).filter (fun i => decide (Beats l i k))
theorem mem_beaters {l : List Nod} {k i : Nat} : i ∈ beaters l k ↔ i < l.length ∧ Beats l i k := by unfold beaters; simp
/-- Of each node one is left that leaves it without use, or is it. -/
theorem front_some {l : List Nod} (hl : ∀ x ∈ l, Fits64 x.s) : ∀ (n k : Nat), k < l.length → (beaters l k).length ≤ n → ∃ f ∈ frontL l, Than f (nodAt l k) := by
  intro n
  induction n with
  | zero =>
    intro k hk hn
    have he : beaters l k = [] := List.eq_nil_of_length_eq_zero (by omega)
    refine ⟨_, mem_front.2 ⟨k, hk, fun i hi hb => ?_, rfl⟩, than_refl (hl _ (nodAt_mem hk))⟩
    have := mem_beaters.2 ⟨hi, hb⟩
    rw [he] at this; cases this
  | succ n ih =>
    intro k hk hn
    by_cases hs : Stays l k
    · exact ⟨_, mem_front.2 ⟨k, hk, hs, rfl⟩, than_refl (hl _ (nodAt_mem hk))⟩
    · obtain ⟨j, hj, hb⟩ : ∃ j, j < l.length ∧ Beats l j k := Decidable.byContradiction (fun hc => hs (fun i hi hb => hc ⟨i, hi, hb⟩))
      have hlt : (beaters l j).length < (beaters l k).length := by
        have hsub : ∀ i ∈ beaters l j, i ∈ (beaters l k).erase j := fun i hi => by
          obtain ⟨h1, h2⟩ := mem_beaters.1 hi
          exact (List.mem_erase_of_ne h2.1).2 (mem_beaters.2 ⟨h1, beats_trans hl h1 hj hk h2 hb⟩)
        have hnd : (beaters l j).Nodup := List.Pairwise.filter _ List.nodup_range
        have hle : (beaters l j).length ≤ ((beaters l k).erase j).length := by
          have := sub_len (R := (beaters l j).map (fun i : Nat => (i : Int))) (D := ((beaters l k).erase j).map (fun i : Nat => (i : Int))) (List.Pairwise.map _ (fun a b h e => h (by omega)) hnd) (fun x hx => by
            obtain ⟨i, hi, rfl⟩ := List.mem_map.1 hx
            exact List.mem_map.2 ⟨i, hsub i hi, rfl⟩)
          simpa using this
        rw [List.length_erase_of_mem (mem_beaters.2 ⟨hj, hb⟩)] at hle
        have := List.length_pos_of_mem (mem_beaters.2 ⟨hj, hb⟩)
        omega
      obtain ⟨f, h1, h2⟩ := ih j hj (by omega)
      obtain ⟨q, hq, _, rfl⟩ := mem_front.1 h1
      exact ⟨_, h1, than_trans (hl _ (nodAt_mem hq)) (hl _ (nodAt_mem hj)) (hl _ (nodAt_mem hk)) h2 hb.2.1⟩
theorem front_all {l : List Nod} (hl : ∀ x ∈ l, Fits64 x.s) {k : Nat} (hk : k < l.length) : ∃ f ∈ frontL l, Than f (nodAt l k) := front_some hl _ k hk (Nat.le_refl _)
/-- Two that stay do not leave each other without use. -/
theorem stays_apart {l : List Nod} {i k : Nat} (hi : i < l.length) (hk : k < l.length) (hne : i ≠ k) (h1 : Stays l i) (h2 : Stays l k) : ¬ Than (nodAt l i) (nodAt l k) := by
  intro ht
  have h3 : ¬ (i < k ∨ ¬ Than (nodAt l k) (nodAt l i)) := fun h => h2 i hi ⟨hne, ht, h⟩
  have h4 : Than (nodAt l k) (nodAt l i) := Decidable.byContradiction (fun h => h3 (.inr h))
  exact h1 k hk ⟨fun e => hne e.symm, h4, .inl (by omega)⟩
/-- Where no node is Than another one all are left. -/
theorem front_self {l : List Nod} (h : ∀ i, i < l.length → ∀ k, k < l.length → i ≠ k → ¬ Than (nodAt l i) (nodAt l k)) : frontL l = l := by
  unfold frontL frontN
  have e : (List.range l.length).filter (fun k => decide (Stays l k)) = List.range l.length := List.filter_eq_self.2 (fun k hk => decide_eq_true (show Stays l k from fun i hi hb => h i hi k (List.mem_range.1 hk) hb.1 hb.2.1))
  rw [e]
  refine List.ext_getElem (by simp) (fun i h1 h2 => ?_)
  simp [nodAt, List.getD_eq_getElem?_getD, h2]
theorem nodup_ne {L : List Nat} (h : L.Nodup) {i k : Nat} (hi : i < L.length) (hk : k < L.length) (hne : i ≠ k) : L[i] ≠ L[k] := by
  rcases Nat.lt_or_gt_of_ne hne with h1 | h1
  · exact (List.pairwise_iff_getElem.1 h) i k hi hk h1
  · exact fun e => (List.pairwise_iff_getElem.1 h) k i hk hi h1 e.symm
/-- Numbers that rise: places in the list of those that are left. -/
theorem front_at {l : List Nod} {i k : Nat} (hi : i < (frontL l).length) (hk : k < (frontL l).length) (hne : i ≠ k) : ∃ a b, a < l.length ∧ b < l.length ∧ a ≠ b ∧ Stays l a ∧ Stays l b ∧ nodAt (frontL l) i = nodAt l a ∧ nodAt (frontL l) k = nodAt l b := by
  have hnd : ((List.range l.length).filter (fun k => decide (Stays l k))).Nodup := List.Pairwise.filter _ List.nodup_range
  unfold frontL frontN at *
  rw [List.length_map] at hi hk
  have hm := fun q (hq : q < ((List.range l.length).filter (fun k => decide (Stays l k))).length) => List.mem_filter.1 (List.getElem_mem hq)
  refine ⟨_, _, List.mem_range.1 (hm i hi).1, List.mem_range.1 (hm k hk).1, nodup_ne hnd hi hk hne, of_decide_eq_true (hm i hi).2, of_decide_eq_true (hm k hk).2, ?_, ?_⟩
  · show List.getD _ _ _ = _
    rw [List.getD_eq_getElem?_getD, List.getElem?_map, List.getElem?_eq_getElem hi]; rfl
  · show List.getD _ _ _ = _
    rw [List.getD_eq_getElem?_getD, List.getElem?_map, List.getElem?_eq_getElem hk]; rfl
/-- None that is left is Than another one that is. -/
theorem front_apart {l : List Nod} {i k : Nat} (hi : i < (frontL l).length) (hk : k < (frontL l).length) (hne : i ≠ k) : ¬ Than (nodAt (frontL l) i) (nodAt (frontL l) k) := by
  obtain ⟨a, b, ha, hb, hab, sa, sb, ea, eb⟩ := front_at hi hk hne
  rw [ea, eb]
  exact stays_apart ha hb hab sa sb
theorem front_idem (l : List Nod) : frontL (frontL l) = frontL l := front_self (fun _ hi _ hk hne => front_apart hi hk hne)
theorem nodAt_left {l m : List Nod} {i : Nat} (h : i < l.length) : nodAt (l ++ m) i = nodAt l i := by
  unfold nodAt; rw [List.getD_eq_getElem?_getD, List.getD_eq_getElem?_getD, List.getElem?_append_left h]
theorem nodAt_right {l m : List Nod} (i : Nat) : nodAt (l ++ m) (l.length + i) = nodAt m i := by
  unfold nodAt; rw [List.getD_eq_getElem?_getD, List.getD_eq_getElem?_getD, List.getElem?_append_right (by omega), Nat.add_sub_cancel_left]
/-- Told twice they are left once. -/
theorem front_twice {l : List Nod} (hl : ∀ x ∈ l, Fits64 x.s) : frontL (l ++ l) = frontL l := by
  have h1 : ∀ k, k < l.length → (Stays (l ++ l) k ↔ Stays l k) := fun k hk => by
    constructor
    · intro h i hi hb
      refine h i (by rw [List.length_append]; omega) ?_
      unfold Beats at hb ⊢
      rw [nodAt_left hi, nodAt_left hk]; exact hb
    · intro h i hi hb
      rw [List.length_append] at hi
      unfold Beats at hb
      rw [nodAt_left hk] at hb
      by_cases hil : i < l.length
      · rw [nodAt_left hil] at hb; exact h i hil hb
      · obtain ⟨j, rfl⟩ : ∃ j, i = l.length + j := ⟨i - l.length, by omega⟩
        rw [nodAt_right] at hb
        have hj : j < l.length := by omega
        obtain ⟨_, b2, b3⟩ := hb
        rcases b3 with b3 | b3
        · omega
        · by_cases hjk : j = k
          · subst hjk; exact b3 (than_refl (hl _ (nodAt_mem hj)))
          · exact h j hj ⟨hjk, b2, .inr b3⟩
  have h2 : ∀ k, k < l.length → ¬ Stays (l ++ l) (l.length + k) := fun k hk h => by
    refine h k (by rw [List.length_append]; omega) ⟨by omega, ?_, .inl (by omega)⟩
    rw [nodAt_left hk, nodAt_right]
    exact than_refl (hl _ (nodAt_mem hk))
  have key : ∀ n, n ≤ l.length → frontN (l ++ l) n = frontN l n := fun n => by
    induction n with
    | zero => intro _; rfl
    | succ n ih =>
      intro hn
      rw [frontN_succ, frontN_succ, ih (by omega), nodAt_left (by omega)]
      by_cases hs : Stays l n
      · rw [if_pos hs, if_pos ((h1 n (by omega)).2 hs)]
      · rw [if_neg hs, if_neg (fun h => hs ((h1 n (by omega)).1 h))]
  have key2 : ∀ n, n ≤ l.length → frontN (l ++ l) (l.length + n) = frontN l l.length := fun n => by
    induction n with
    | zero => intro _; exact key _ (Nat.le_refl _)
    | succ n ih =>
      intro hn
      rw [show l.length + (n + 1) = (l.length + n) + 1 by omega, frontN_succ, if_neg (h2 n (by omega))]
      exact ih (by omega)
  unfold frontL
  rw [List.length_append]
  exact key2 _ (Nat.le_refl _)
/-- What can be done from a node can be done from one that leaves it without use. -/
theorem than_can {I : Ins} {a b : Nod} (ha : Fits64 a.s) (hb : Fits64 b.s) (h : Than a b) (hn : NumOk a.s) {j : Int} (hc : Can I b.s j) : Can I a.s j := covers_can ha hb h.2.2.2.1 hn hc
end Go.Proofs.Ytofapalakpkkpaa
