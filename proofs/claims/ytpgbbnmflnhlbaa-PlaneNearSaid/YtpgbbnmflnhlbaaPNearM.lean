/- What a matrix of distances and its nearest ones come to: there as back, 0 to itself, no nearer than the nearest one, from some as near. -/
import Derived.Test.YtpgbbnmflnhlbaaPNear
namespace Go.Proofs.Ytpgbbnmflnhlbaa
open Go.ChangeShapes Go.WideShapes Go.ChangeAt Go.RowKit

theorem fold_le : ∀ (r : List Int) (a : Int), r.foldl min a ≤ a ∧ (∀ x ∈ r, r.foldl min a ≤ x) ∧ (r.foldl min a = a ∨ r.foldl min a ∈ r)
  | [], a => ⟨Int.le_refl _, by simp, .inl rfl⟩
  | b :: r, a => by
    obtain ⟨h1, h2, h3⟩ := fold_le r (min a b)
    rw [List.foldl_cons]
    refine ⟨by omega, fun x hx => ?_, ?_⟩
    · rcases List.mem_cons.1 hx with rfl | hx
      · omega
      · exact h2 x hx
    · rcases h3 with h3 | h3
      · rw [h3]
        by_cases c : a ≤ b
        · left; omega
        · right; rw [show min a b = b by omega]; exact List.mem_cons_self ..
      · exact .inr (List.mem_cons_of_mem _ h3)
theorem least_le {l : List Int} {x : Int} (h : x ∈ l) : leastL l ≤ x := by
  match l with
  | a :: r =>
    rcases List.mem_cons.1 h with rfl | h
    · exact (fold_le r _).1
    · exact (fold_le r a).2.1 x h
theorem least_mem {l : List Int} (h : l ≠ []) : leastL l ∈ l := by
  match l with
  | a :: r =>
    rcases (fold_le r a).2.2 with h | h
    · exact List.mem_cons.2 (.inl h)
    · exact List.mem_cons.2 (.inr h)
theorem nearK_at (M : List (List Int)) (k i : Nat) (hi : i < k) : (nearK M k).getD i 0 = leastL ((M.getD i []).eraseIdx i) := by
  unfold nearK
  rw [List.getD_eq_getElem?_getD, List.getElem?_map, List.getElem?_range hi]; rfl
theorem mat_at (l : List Stp) (i k : Nat) (hi : i < l.length) (hk : k < l.length) : ((matF l).getD i []).getD k 0 = farF (nth l i) (nth l k) := by
  rw [matF_at l i hi, rowF_at l _ k hk]
/-- What a matrix and its nearest ones must be. -/
structure Mat (M : List (List Int)) (N : List Int) (n : Nat) : Prop where
  len : M.length = n
  rows : ∀ i, i < n → (M.getD i []).length = n
  near : N.length = n
  self : ∀ i, i < n → (M.getD i []).getD i 0 = 0
  back : ∀ i k, i < n → k < n → (M.getD i []).getD k 0 = (M.getD k []).getD i 0
  less : ∀ i k, i < n → k < n → i ≠ k → N.getD i 0 ≤ (M.getD k []).getD i 0
  some : ∀ i, i < n → n ≠ 1 → ∃ q, q < n ∧ q ≠ i ∧ (M.getD q []).getD i 0 = N.getD i 0
  one : n = 1 → N.getD 0 0 = 0
theorem mat_of (l : List Stp) : Mat (matF l) (nearM (matF l)) l.length := by
  have hb : ∀ i k, i < l.length → k < l.length → ((matF l).getD i []).getD k 0 = ((matF l).getD k []).getD i 0 := fun i k hi hk => by
    rw [mat_at l i k hi hk, mat_at l k i hk hi, farF_comm]
  have hr : ∀ i, i < l.length → ((matF l).getD i []).length = l.length := fun i hi => by rw [matF_at l i hi, rowF_len]
  have hN : ∀ i, i < l.length → (nearM (matF l)).getD i 0 = leastL (((matF l).getD i []).eraseIdx i) := fun i hi => by
    unfold nearM; exact nearK_at _ _ i (by rw [matF_len]; exact hi)
  refine ⟨matF_len l, hr, by unfold nearM; rw [nearK_len, matF_len], fun i hi => by rw [mat_at l i i hi hi, farF_self], hb, fun i k hi hk hn => ?_, fun i hi hn => ?_, fun h1 => ?_⟩
  · rw [hN i hi, ← hb i k hi hk]
    apply least_le
    rw [List.mem_eraseIdx_iff_getElem?]
    refine ⟨k, fun e => hn e.symm, ?_⟩
    rw [List.getD_eq_getElem?_getD (l := (matF l).getD i []), List.getElem?_eq_getElem (by rw [hr i hi]; exact hk)]
    rfl
  · have hne : ((matF l).getD i []).eraseIdx i ≠ [] := fun e => by
      have := congrArg List.length e
      rw [List.length_eraseIdx, hr i hi, if_pos hi] at this
      simp at this
      omega
    have hm := least_mem hne
    rw [← hN i hi, List.mem_eraseIdx_iff_getElem?] at hm
    obtain ⟨q, hq, he⟩ := hm
    have hql : q < l.length := by
      rcases Nat.lt_or_ge q l.length with h | h
      · exact h
      · rw [List.getElem?_eq_none (by rw [hr i hi]; exact h)] at he; simp at he
    refine ⟨q, hql, hq, ?_⟩
    rw [hb q i hql hi, List.getD_eq_getElem?_getD, he]
    rfl
  · rw [hN 0 (by omega)]
    have e : ((matF l).getD 0 []).eraseIdx 0 = [] := List.eq_nil_of_length_eq_zero (by rw [List.length_eraseIdx, hr 0 (by omega), if_pos (by omega)]; omega)
    rw [e]; rfl
/-- Whether from some it is as far as from the nearest one, of those that have been seen. -/
def someB (M : List (List Int)) (N : List Int) (n i j : Nat) : Bool := decide (n = 1 ∨ ∃ q, q < j ∧ q ≠ i ∧ (M.getD q []).getD i 0 = N.getD i 0)
theorem someB_zero (M : List (List Int)) (N : List Int) (n i : Nat) : someB M N n i 0 = decide (n = 1) := by
  unfold someB; apply decide_eq_decide.2; constructor
  · rintro (h | ⟨q, hq, _⟩)
    · exact h
    · omega
  · exact .inl
theorem someB_keep {M : List (List Int)} {N : List Int} {n i j : Nat} (h : someB M N n i j = true) : someB M N n i (j + 1) = true := by
  unfold someB at *
  rw [decide_eq_true_iff] at *
  rcases h with h | ⟨q, h1, h2, h3⟩
  · exact .inl h
  · exact .inr ⟨q, by omega, h2, h3⟩
theorem someB_hit {M : List (List Int)} {N : List Int} {n i j : Nat} (hn : j ≠ i) (h : (M.getD j []).getD i 0 = N.getD i 0) : someB M N n i (j + 1) = true := by
  unfold someB
  rw [decide_eq_true_iff]
  exact .inr ⟨j, by omega, hn, h⟩
theorem someB_miss {M : List (List Int)} {N : List Int} {n i j : Nat} (h : someB M N n i j = false) (hn : j = i ∨ (M.getD j []).getD i 0 ≠ N.getD i 0) : someB M N n i (j + 1) = false := by
  unfold someB at *
  rw [decide_eq_false_iff_not] at *
  rintro (h1 | ⟨q, h1, h2, h3⟩)
  · exact h (.inl h1)
  · by_cases c : q = j
    · subst c
      rcases hn with hn | hn
      · exact h2 hn
      · exact hn h3
    · exact h (.inr ⟨q, by omega, h2, h3⟩)
theorem Mat.all {M : List (List Int)} {N : List Int} {n i : Nat} (h : Mat M N n) (hi : i < n) : someB M N n i n = true := by
  unfold someB
  rw [decide_eq_true_iff]
  by_cases c : n = 1
  · exact .inl c
  · exact .inr (h.some i hi c)
/-- One number of a line. -/
theorem ll_cell {w : World} {b off n cap : Nat} {M : List (List Int)} (h : IsLL w (.slice (some ⟨b, off, none⟩) n cap) M) (i k : Nat) (hi : i < M.length) (hk : k < (M.getD i []).length) :
    ∃ rb ro c, w.cell? ⟨b, off + i, none⟩ = some (.slice (some ⟨rb, ro, none⟩) (M.getD i []).length c) ∧ w.cell? ⟨rb, ro + k, none⟩ = some (.int .i64 ((M.getD i []).getD k 0)) := by
  obtain ⟨ta, oa, a1, n1, c1, he, hta, ca, hn1, hx1, r1⟩ := ll_at h i hi
  simp only [Option.some.injEq, Addr.mk.injEq, and_true] at he
  obtain ⟨rfl, rfl⟩ := he
  subst hn1
  obtain ⟨rb, ro, rfl, hc, _⟩ := row_cell r1 k (by rw [ints_len]; exact hk)
  rw [ints_at _ _ hk] at hc
  exact ⟨rb, ro, c1, ca, hc⟩
end Go.Proofs.Ytpgbbnmflnhlbaa
