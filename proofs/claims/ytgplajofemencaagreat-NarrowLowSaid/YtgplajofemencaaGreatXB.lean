/- What it costs at least to go on: plain mathematics. -/
import Derived.Test.YtgplajofemencaaGreatYG
import Derived.Test.YtgplajofemencaaGreatYH
import Derived.RowKit
namespace Go.Proofs.YtgplajofemencaaGreat

def nearI (I : Ins) : List Int := nearM (matI I)
/-- What is left to be entered, up to stop k. -/
def leftN (I : Ins) (m : Nat) (k : Nat) : Int := sumN (fun i => if has m ((i : Int) + 1) then 0 else (nearI I).getD (i + 1) 0) k
/-- What it costs at least to go on: 0 without pairs. -/
def boundS (I : Ins) (s : Sta) : Int := if (nearI I).length < 2 then 0 else (nearI I).getD 0 0 + leftN I s.may ((nearI I).length - 1)
theorem near_len {I : Ins} : (nearI I).length = if mayB I = true then I.l.length else 0 := by
  unfold nearI matI nearM
  rw [nearK_len]
  split
  · exact matF_len _
  · rfl
theorem near_pos (I : Ins) (j : Nat) : 0 ≤ (nearI I).getD j 0 := by
  by_cases hm : mayB I = true
  · by_cases hj : j < I.l.length
    · unfold nearI matI
      rw [if_pos hm]
      have hM := mat_of I.l
      by_cases h1 : I.l.length = 1
      · obtain rfl : j = 0 := by omega
        rw [hM.one h1]; exact Int.le_refl _
      · obtain ⟨q, hq, _, he⟩ := hM.some j hj h1
        rw [← he, mat_at _ _ _ hq hj]
        exact (farF_bd _ _).1
    · rw [List.getD_eq_getElem?_getD, List.getElem?_eq_none (by rw [near_len, if_pos hm]; omega)]
      exact Int.le_refl _
  · rw [List.getD_eq_getElem?_getD, List.getElem?_eq_none (by rw [near_len, if_neg hm]; exact Nat.zero_le _)]
    exact Int.le_refl _
theorem near_hi (I : Ins) (j : Nat) : (nearI I).getD j 0 ≤ 14143 := by
  by_cases hm : mayB I = true
  · by_cases hj : j < I.l.length
    · unfold nearI matI
      rw [if_pos hm]
      have hM := mat_of I.l
      by_cases h1 : I.l.length = 1
      · obtain rfl : j = 0 := by omega
        rw [hM.one h1]; omega
      · obtain ⟨q, hq, _, he⟩ := hM.some j hj h1
        rw [← he, mat_at _ _ _ hq hj]
        exact (farF_bd _ _).2
    · rw [List.getD_eq_getElem?_getD, List.getElem?_eq_none (by rw [near_len, if_pos hm]; omega)]
      simp
  · rw [List.getD_eq_getElem?_getD, List.getElem?_eq_none (by rw [near_len, if_neg hm]; exact Nat.zero_le _)]
    simp
theorem left_term (I : Ins) (m : Nat) (i : Nat) : 0 ≤ (if has m ((i : Int) + 1) then 0 else (nearI I).getD (i + 1) 0 : Int) := by
  split
  · exact Int.le_refl _
  · exact near_pos I _
theorem left_pos (I : Ins) (m k : Nat) : 0 ≤ leftN I m k := sumN_nonneg (fun i _ => left_term I m i)
theorem bound_pos (I : Ins) (s : Sta) : 0 ≤ boundS I s := by
  unfold boundS
  split
  · exact Int.le_refl _
  · have := near_pos I 0
    have := left_pos I s.may ((nearI I).length - 1)
    omega
theorem left_hi (I : Ins) (m : Nat) : ∀ k, leftN I m k ≤ 14143 * (k : Int)
  | 0 => by simp [leftN, sumN]
  | k + 1 => by
    have ih := left_hi I m k
    have h := near_hi I (k + 1)
    unfold leftN at *
    rw [sumN]
    split <;> omega
theorem bound_hi (I : Ins) (s : Sta) : boundS I s ≤ 466719 := by
  unfold boundS
  split
  · omega
  · have h1 := near_hi I 0
    have h2 := left_hi I s.may ((nearI I).length - 1)
    have h3 : (nearI I).length ≤ 33 := by
      rw [near_len]
      split
      · next hm => exact (pmay_len hm).2
      · omega
    omega
end Go.Proofs.YtgplajofemencaaGreat
/- Looking at each way alone: plain mathematics. -/
namespace Go.Proofs.YtgplajofemencaaGreat

theorem mem_moves {I : Ins} {s : Sta} {j : Int} : j ∈ movesS I s ↔ Can I s j := by
  unfold movesS movesN
  simp only [List.mem_filter, List.mem_map, List.mem_range, decide_eq_true_eq]
  constructor
  · rintro ⟨_, h⟩; exact h
  · intro h
    have := can_rng h
    exact ⟨⟨j.toNat, by omega, by omega⟩, h⟩
theorem far_bd1 (I : Ins) (s : Sta) (j : Int) : 0 ≤ farS1 I s j ∧ farS1 I s j ≤ 14143 := farF_bd _ _
theorem endC_bd (I : Ins) (s : Sta) : 0 ≤ endC I s ∧ endC I s ≤ 14143 := by
  unfold endC
  split
  · exact far_bd1 I s 0
  · omega
end Go.Proofs.YtgplajofemencaaGreat
/- Nodes that leave others without use: plain mathematics. -/
namespace Go.Proofs.YtgplajofemencaaGreat

structure Nod where
  s : Sta
  cost : Int
  path : List Int
deriving DecidableEq
def Than (a b : Nod) : Prop := a.s.must = b.s.must ∧ a.s.may = b.s.may ∧ a.s.on = b.s.on ∧ Covers a.s b.s ∧ a.cost ≤ b.cost
instance (a b : Nod) : Decidable (Than a b) := by unfold Than; infer_instance
def nod0 : Nod := ⟨noughtS, 0, []⟩
def nodAt (l : List Nod) (i : Nat) : Nod := l.getD i nod0
theorem nodAt_mem {l : List Nod} {i : Nat} (h : i < l.length) : nodAt l i ∈ l := by
  unfold nodAt; rw [List.getD_eq_getElem?_getD, List.getElem?_eq_getElem h]; exact List.getElem_mem h
/-- Node i leaves node k without use. -/
def Beats (l : List Nod) (i k : Nat) : Prop := i ≠ k ∧ Than (nodAt l i) (nodAt l k) ∧ (i < k ∨ ¬ Than (nodAt l k) (nodAt l i))
instance (l : List Nod) (i k : Nat) : Decidable (Beats l i k) := by unfold Beats; infer_instance
def Stays (l : List Nod) (k : Nat) : Prop := ∀ i, i < l.length → ¬ Beats l i k
instance (l : List Nod) (k : Nat) : Decidable (Stays l k) := by unfold Stays; infer_instance
theorem nodAt_left {l m : List Nod} {i : Nat} (h : i < l.length) : nodAt (l ++ m) i = nodAt l i := by
  unfold nodAt; rw [List.getD_eq_getElem?_getD, List.getD_eq_getElem?_getD, List.getElem?_append_left h]
theorem nodAt_right {l m : List Nod} (i : Nat) : nodAt (l ++ m) (l.length + i) = nodAt m i := by
  unfold nodAt; rw [List.getD_eq_getElem?_getD, List.getD_eq_getElem?_getD, List.getElem?_append_right (by omega), Nat.add_sub_cancel_left]
end Go.Proofs.YtgplajofemencaaGreat
/- Costs together: plain mathematics. -/
namespace Go.Proofs.YtgplajofemencaaGreat

/-- One cost as it counts, and costs together as long as there is no end to them. -/
def clamp (c : Int) : Int := min (max c 0) 1152921504606846976
def total : List Int → Int
  | [] => 0
  | c :: l => clamp c + total l
def sumOf (l : List Int) : Int := min (total l) 1152921504606846976
theorem clamp_bd (c : Int) : 0 ≤ clamp c ∧ clamp c ≤ 1152921504606846976 := by unfold clamp; omega
theorem total_nn (l : List Int) : 0 ≤ total l := by
  induction l with
  | nil => exact Int.le_refl _
  | cons c l ih => have := clamp_bd c; unfold total; omega
theorem total_app (l r : List Int) : total (l ++ r) = total l + total r := by
  induction l with
  | nil => simp [total]
  | cons c l ih => simp only [List.cons_append, total, ih]; omega
theorem sumOf_bd (l : List Int) : 0 ≤ sumOf l ∧ sumOf l ≤ 1152921504606846976 := by have := total_nn l; unfold sumOf; omega
theorem sumOf_snoc (l : List Int) (c : Int) : sumOf (l ++ [c]) = min (sumOf l + clamp c) 1152921504606846976 := by
  have := clamp_bd c
  have := total_nn l
  unfold sumOf
  rw [total_app]
  simp only [total]
  omega
theorem sum_two (a b : Int) : sumOf [a, b] = min (clamp a + clamp b) 1152921504606846976 := by unfold sumOf; simp [total]
theorem sum_add {a b : Int} (ha : 0 ≤ a) (hb : 0 ≤ b) (h : a + b ≤ 1152921504606846976) : sumOf [a, b] = a + b := by rw [sum_two]; unfold clamp; omega
theorem sum_le {a b : Int} (ha : 0 ≤ a) (hb : 0 ≤ b) : sumOf [a, b] ≤ a + b := by rw [sum_two]; unfold clamp; omega
end Go.Proofs.YtgplajofemencaaGreat
/- Levels: nodes once of each state, sorted, and all moves of some nodes: plain mathematics. -/
namespace Go.Proofs.YtgplajofemencaaGreat

/-- What a node costs at least in the end. -/
def ofB (I : Ins) (n : Nod) : Int := sumOf [n.cost, boundS I n.s]

/-! ### Once of each state -/
def putOnce (x : Nod) : List Nod → List Nod
  | [] => [x]
  | y :: out => if y.s = x.s then (if x.cost < y.cost then x else y) :: out else y :: putOnce x out
def onceL (l : List Nod) : List Nod := l.foldl (fun out x => putOnce x out) []
theorem onceL_snoc (l : List Nod) (x : Nod) : onceL (l ++ [x]) = putOnce x (onceL l) := by unfold onceL; rw [List.foldl_append]; rfl
theorem snoc_indN {P : List Nod → Prop} (h0 : P []) (h1 : ∀ t x, P t → P (t ++ [x])) (t : List Nod) : P t := by
  have : ∀ r : List Nod, P r.reverse := by
    intro r
    induction r with
    | nil => exact h0
    | cons x r ih => rw [List.reverse_cons]; exact h1 _ x ih
  have h := this t.reverse
  rwa [List.reverse_reverse] at h
theorem put_mem {x : Nod} : ∀ {out : List Nod} {y : Nod}, y ∈ putOnce x out → y = x ∨ y ∈ out
  | [], y, h => by simp [putOnce] at h; exact .inl h
  | z :: out, y, h => by
    rw [putOnce] at h
    by_cases hz : z.s = x.s
    · rw [if_pos hz] at h
      rcases List.mem_cons.1 h with h | h
      · by_cases hc : x.cost < z.cost
        · rw [if_pos hc] at h; exact .inl h
        · rw [if_neg hc] at h; exact .inr (by rw [h]; simp)
      · exact .inr (by simp [h])
    · rw [if_neg hz] at h
      rcases List.mem_cons.1 h with h | h
      · exact .inr (by rw [h]; simp)
      · exact (put_mem h).imp id (fun h => by simp [h])
theorem put_apart {x : Nod} : ∀ {out : List Nod}, out.Pairwise (fun a b => a.s ≠ b.s) → (putOnce x out).Pairwise (fun a b => a.s ≠ b.s)
  | [], _ => by simp [putOnce]
  | z :: out, h => by
    have h' := List.pairwise_cons.1 h
    rw [putOnce]
    by_cases hz : z.s = x.s
    · rw [if_pos hz]
      refine List.pairwise_cons.2 ⟨fun b hb => ?_, h'.2⟩
      have e : (if x.cost < z.cost then x else z).s = z.s := by split; exact hz.symm; rfl
      rw [e]; exact h'.1 b hb
    · rw [if_neg hz]
      refine List.pairwise_cons.2 ⟨fun b hb => ?_, put_apart h'.2⟩
      rcases put_mem hb with hb | hb
      · rw [hb]; exact hz
      · exact h'.1 b hb
theorem once_mem {l : List Nod} : ∀ y ∈ onceL l, y ∈ l := by
  refine snoc_indN (P := fun l => ∀ y ∈ onceL l, y ∈ l) (fun y hy => (nomatch hy)) ?_ l
  intro t x ih y hy
  rw [onceL_snoc] at hy
  rcases put_mem hy with hy | hy
  · rw [hy]; simp
  · simp [ih y hy]
theorem once_apart (l : List Nod) : (onceL l).Pairwise (fun a b => a.s ≠ b.s) := by
  refine snoc_indN (P := fun l => (onceL l).Pairwise (fun a b => a.s ≠ b.s)) List.Pairwise.nil ?_ l
  intro t x ih
  rw [onceL_snoc]; exact put_apart ih
theorem once_len (l : List Nod) : (onceL l).length ≤ l.length := by
  refine snoc_indN (P := fun l => (onceL l).length ≤ l.length) (Nat.le_refl _) ?_ l
  intro t x ih
  rw [onceL_snoc, List.length_append]
  have : ∀ out : List Nod, (putOnce x out).length ≤ out.length + 1 := fun out => by
    induction out with
    | nil => simp [putOnce]
    | cons y out ih2 =>
      rw [putOnce]
      split
      · simp
      · simp; exact ih2
  have := this (onceL t)
  simp; omega

/-! ### Sorted -/
section
variable {α : Type} (f : α → Int)
def insG (x : α) : List α → List α
  | [] => [x]
  | y :: l => if f x < f y then x :: y :: l else y :: insG x l
def sortG (l : List α) : List α := l.foldl (fun s x => insG f x s) []
def OrdG (l : List α) : Prop := l.Pairwise (fun a b => f a ≤ f b)
theorem sortG_snoc (l : List α) (x : α) : sortG f (l ++ [x]) = insG f x (sortG f l) := by unfold sortG; rw [List.foldl_append]; rfl
theorem insG_split (x : α) : ∀ {l : List α}, OrdG f l → ∃ a b, l = a ++ b ∧ insG f x l = a ++ x :: b ∧ (∀ y ∈ a, f y ≤ f x) ∧ ∀ y ∈ b, f x < f y
  | [], _ => ⟨[], [], rfl, rfl, fun y hy => (nomatch hy), fun y hy => (nomatch hy)⟩
  | z :: l, h => by
    have h' := List.pairwise_cons.1 h
    rw [insG]
    by_cases hz : f x < f z
    · refine ⟨[], z :: l, rfl, by rw [if_pos hz]; rfl, fun y hy => (nomatch hy), fun y hy => ?_⟩
      rcases List.mem_cons.1 hy with rfl | hy
      · exact hz
      · have := h'.1 y hy; omega
    · obtain ⟨a, b, e1, e2, h1, h2⟩ := insG_split x h'.2
      refine ⟨z :: a, b, by rw [e1]; rfl, by rw [if_neg hz, e2]; rfl, fun y hy => ?_, h2⟩
      rcases List.mem_cons.1 hy with rfl | hy
      · omega
      · exact h1 y hy
theorem ordG_ins {x : α} {l : List α} (h : OrdG f l) : OrdG f (insG f x l) := by
  obtain ⟨a, b, e1, e2, h1, h2⟩ := insG_split f x h
  rw [e2]
  rw [e1] at h
  have hs := List.pairwise_append.1 h
  refine List.pairwise_append.2 ⟨hs.1, List.pairwise_cons.2 ⟨fun y hy => Int.le_of_lt (h2 y hy), hs.2.1⟩, fun y hy z hz => ?_⟩
  rcases List.mem_cons.1 hz with rfl | hz
  · exact h1 y hy
  · exact hs.2.2 y hy z hz
theorem snoc_indG {P : List α → Prop} (h0 : P []) (h1 : ∀ t x, P t → P (t ++ [x])) (t : List α) : P t := by
  have : ∀ r : List α, P r.reverse := by
    intro r
    induction r with
    | nil => exact h0
    | cons x r ih => rw [List.reverse_cons]; exact h1 _ x ih
  have h := this t.reverse
  rwa [List.reverse_reverse] at h
theorem sortG_ord (l : List α) : OrdG f (sortG f l) := by
  refine snoc_indG (P := fun l => OrdG f (sortG f l)) List.Pairwise.nil ?_ l
  intro t x ih
  rw [sortG_snoc]; exact ordG_ins f ih
theorem insG_perm (x : α) : ∀ (l : List α), (insG f x l).Perm (x :: l)
  | [] => List.Perm.refl _
  | y :: l => by
    rw [insG]
    split
    · exact List.Perm.refl _
    · exact (List.Perm.cons y (insG_perm x l)).trans (List.Perm.swap x y l)
theorem sortG_perm (l : List α) : (sortG f l).Perm l := by
  refine snoc_indG (P := fun l => (sortG f l).Perm l) (List.Perm.refl _) ?_ l
  intro t x ih
  rw [sortG_snoc]
  exact (insG_perm f x _).trans ((List.Perm.cons x ih).trans (List.perm_append_singleton x t).symm)
end
def sortedL (I : Ins) (l : List Nod) : List Nod := sortG (ofB I) l
theorem sorted_len (I : Ins) (l : List Nod) : (sortedL I l).length = l.length := (sortG_perm _ l).length_eq

/-! ### All moves of some nodes -/
def childN (I : Ins) (n : Nod) (j : Int) : Nod := ⟨nextS I n.s j, sumOf [n.cost, farS1 I n.s j], n.path ++ [j]⟩
def kidsN (I : Ins) (n : Nod) : List Nod := (movesS I n.s).map (childN I n)
def kidsL (I : Ins) (up : Int) (l : List Nod) : List Nod := (l.flatMap (kidsN I)).filter (fun c => decide (ofB I c < up))
def expandL (I : Ins) (up : Int) (l : List Nod) : List Nod := onceL (kidsL I up l)
def endN (I : Ins) (n : Nod) : Nod := ⟨n.s, sumOf [n.cost, endC I n.s], n.path⟩
def bestStep (I : Ins) (o : Option Nod) (n : Nod) : Option Nod := if EndS I n.s then (match o with | none => some (endN I n) | some b => if (endN I n).cost < b.cost then some (endN I n) else some b) else o
def bestL (I : Ins) (l : List Nod) : Option Nod := l.foldl (bestStep I) none
theorem mem_kids {I : Ins} {up : Int} {l : List Nod} {c : Nod} : c ∈ kidsL I up l ↔ (∃ n ∈ l, ∃ j, Can I n.s j ∧ c = childN I n j) ∧ ofB I c < up := by
  unfold kidsL kidsN
  simp only [List.mem_filter, List.mem_flatMap, List.mem_map, decide_eq_true_eq]
  constructor
  · rintro ⟨⟨n, hn, j, hj, rfl⟩, h⟩; exact ⟨⟨n, hn, j, mem_moves.1 hj, rfl⟩, h⟩
  · rintro ⟨⟨n, hn, j, hj, rfl⟩, h⟩; exact ⟨⟨n, hn, j, mem_moves.2 hj, rfl⟩, h⟩
/-- Each node of the answer is behind one move. -/
theorem expand_mem {I : Ins} {up : Int} {l : List Nod} {c : Nod} (h : c ∈ expandL I up l) : (∃ n ∈ l, ∃ j, Can I n.s j ∧ c = childN I n j) ∧ ofB I c < up := mem_kids.1 (once_mem c h)
theorem cost_nn {I : Ins} (hm : mayB I = true) {t : List Int} {s : Sta} {c : Int} (h : followS I t = some (s, c)) : 0 ≤ c := by
  obtain ⟨⟨ts, hi⟩, _⟩ := follow_inv hm t s c h
  rw [hi.cost]
  have h1 := (farS_bds _ ((firstE_zero I _).2 hi.done)).1
  have h2 := (goE_bds (fine_of hm) _ _ hi.go).2.1.1
  omega
theorem bestL_snoc (I : Ins) (l : List Nod) (n : Nod) : bestL I (l ++ [n]) = bestStep I (bestL I l) n := by unfold bestL; rw [List.foldl_append]; rfl
/-- The best one that can be ended. -/
theorem best_is {I : Ins} (l : List Nod) : (bestL I l = none ↔ ∀ n ∈ l, ¬ EndS I n.s) ∧ ∀ b, bestL I l = some b → (∃ n ∈ l, EndS I n.s ∧ b = endN I n) ∧ ∀ n ∈ l, EndS I n.s → b.cost ≤ (endN I n).cost := by
  refine snoc_indN (P := fun l => (bestL I l = none ↔ ∀ n ∈ l, ¬ EndS I n.s) ∧ ∀ b, bestL I l = some b → (∃ n ∈ l, EndS I n.s ∧ b = endN I n) ∧ ∀ n ∈ l, EndS I n.s → b.cost ≤ (endN I n).cost) ?_ ?_ l
  · exact ⟨⟨fun _ n hn => (nomatch hn), fun _ => rfl⟩, fun b h => (by cases h)⟩
  · intro t x ⟨ih1, ih2⟩
    rw [bestL_snoc]
    unfold bestStep
    by_cases hx : EndS I x.s
    · rw [if_pos hx]
      cases ho : bestL I t with
      | none =>
        have hno := ih1.1 ho
        refine ⟨⟨fun h => (by cases h), fun h => absurd hx (h x (by simp))⟩, fun b hb => ?_⟩
        simp only [Option.some.injEq] at hb
        subst hb
        refine ⟨⟨x, by simp, hx, rfl⟩, fun n hn he => ?_⟩
        rcases List.mem_append.1 hn with hn | hn
        · exact absurd he (hno n hn)
        · rw [List.mem_singleton.1 hn]; exact Int.le_refl _
      | some b0 =>
        obtain ⟨⟨n0, k1, k2, k3⟩, k4⟩ := ih2 b0 ho
        simp only
        by_cases hc : (endN I x).cost < b0.cost
        · rw [if_pos hc]
          refine ⟨⟨fun h => (by cases h), fun h => absurd hx (h x (by simp))⟩, fun b hb => ?_⟩
          simp only [Option.some.injEq] at hb
          subst hb
          refine ⟨⟨x, by simp, hx, rfl⟩, fun n hn he => ?_⟩
          rcases List.mem_append.1 hn with hn | hn
          · have := k4 n hn he; omega
          · rw [List.mem_singleton.1 hn]; exact Int.le_refl _
        · rw [if_neg hc]
          refine ⟨⟨fun h => (by cases h), fun h => absurd hx (h x (by simp))⟩, fun b hb => ?_⟩
          simp only [Option.some.injEq] at hb
          subst hb
          refine ⟨⟨n0, by simp [k1], k2, k3⟩, fun n hn he => ?_⟩
          rcases List.mem_append.1 hn with hn | hn
          · exact k4 n hn he
          · rw [List.mem_singleton.1 hn]; omega
    · rw [if_neg hx]
      refine ⟨ih1.trans ⟨fun h n hn => ?_, fun h n hn => h n (by simp [hn])⟩, fun b hb => ?_⟩
      · rcases List.mem_append.1 hn with hn | hn
        · exact h n hn
        · rw [List.mem_singleton.1 hn]; exact hx
      · obtain ⟨⟨n0, k1, k2, k3⟩, k4⟩ := ih2 b hb
        refine ⟨⟨n0, by simp [k1], k2, k3⟩, fun n hn he => ?_⟩
        rcases List.mem_append.1 hn with hn | hn
        · exact k4 n hn he
        · rw [List.mem_singleton.1 hn] at he; exact absurd he hx
end Go.Proofs.YtgplajofemencaaGreat
