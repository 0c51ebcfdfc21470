/- Looking at each way alone: plain mathematics. -/
import Derived.Test.YtofapalakpkkpaaBMath
namespace Go.Proofs.Ytofapalakpkkpaa

theorem mem_moves {I : Ins} {s : Sta} {j : Int} : j ∈ movesS I s ↔ Can I s j := by
  unfold movesS movesN
  simp only [List.mem_filter, List.mem_map, List.mem_range, decide_eq_true_eq]
  constructor
  · rintro ⟨_, h⟩; exact h
  · intro h
    have := can_rng h
    exact ⟨⟨j.toNat, by omega, by omega⟩, h⟩
theorem far_bd1 (I : Ins) (s : Sta) (j : Int) : 0 ≤ farS1 I s j ∧ farS1 I s j ≤ 14143 := farF_bd _ _
theorem endC_bd (I : Ins) (s : Sta) : 0 ≤ endC I s ∧ endC I s ≤ 14143 := by
  unfold endC
  split
  · exact far_bd1 I s 0
  · omega
def infN : Int := 1152921504606846976
def everyF (I : Ins) : Nat → Sta → Int
  | 0, s => if EndS I s then endC I s else infN
  | d + 1, s => (movesS I s).foldl (fun least j => if everyF I d (nextS I s j) < infN ∧ farS1 I s j + everyF I d (nextS I s j) < least then farS1 I s j + everyF I d (nextS I s j) else least) (if EndS I s then endC I s else infN)
theorem fold_least {P : Int → Prop} [DecidablePred P] {v : Int → Int} : ∀ (L : List Int) (a : Int),
    L.foldl (fun least j => if P j ∧ v j < least then v j else least) a ≤ a ∧ (∀ j ∈ L, P j → L.foldl (fun least j => if P j ∧ v j < least then v j else least) a ≤ v j) ∧
    (L.foldl (fun least j => if P j ∧ v j < least then v j else least) a = a ∨ ∃ j ∈ L, P j ∧ L.foldl (fun least j => if P j ∧ v j < least then v j else least) a = v j)
  | [], a => ⟨Int.le_refl _, fun j hj => (nomatch hj), .inl rfl⟩
  | i :: L, a => by
    rw [List.foldl_cons]
    obtain ⟨h1, h2, h3⟩ := fold_least (P := P) (v := v) L (if P i ∧ v i < a then v i else a)
    have hle : (if P i ∧ v i < a then v i else a) ≤ a := by split; rename_i h; exact Int.le_of_lt h.2; exact Int.le_refl _
    refine ⟨Int.le_trans h1 hle, fun j hj hp => ?_, ?_⟩
    · rcases List.mem_cons.1 hj with rfl | hj
      · refine Int.le_trans h1 ?_
        split
        · exact Int.le_refl _
        · next h => exact Int.not_lt.1 (fun hc => h ⟨hp, hc⟩)
      · exact h2 j hj hp
    · rcases h3 with h3 | ⟨j, hj, hp, h3⟩
      · by_cases hc : P i ∧ v i < a
        · right
          refine ⟨i, by simp, hc.1, ?_⟩
          rw [h3, if_pos hc]
        · left; rw [h3, if_neg hc]
      · exact .inr ⟨j, by simp [hj], hp, h3⟩
theorem every_bd (I : Ins) : ∀ (d : Nat) (s : Sta), 0 ≤ everyF I d s ∧ everyF I d s ≤ infN := by
  have h0 : ∀ s, 0 ≤ (if EndS I s then endC I s else infN) ∧ (if EndS I s then endC I s else infN) ≤ infN := fun s => by
    have := endC_bd I s
    unfold infN
    split <;> omega
  intro d
  induction d with
  | zero => exact h0
  | succ d ih =>
    intro s
    rw [everyF]
    obtain ⟨h1, _, h3⟩ := fold_least (P := fun j => everyF I d (nextS I s j) < infN) (v := fun j => farS1 I s j + everyF I d (nextS I s j)) (movesS I s) (if EndS I s then endC I s else infN)
    refine ⟨?_, Int.le_trans h1 (h0 s).2⟩
    rcases h3 with h3 | ⟨j, _, _, h3⟩
    · rw [h3]; exact (h0 s).1
    · rw [h3]
      have := (ih (nextS I s j)).1
      have := (far_bd1 I s j).1
      omega
/-- No way ends for less than the bound. -/
theorem bound_every {I : Ins} : ∀ (d : Nat) (s : Sta), (s.pos = 0 ∨ has s.must s.pos = true) → boundS I s ≤ everyF I d s := by
  have h0 : ∀ s, boundS I s ≤ (if EndS I s then endC I s else infN) := fun s => by
    have := bound_hi I s
    split
    · next he => exact bound_end he
    · unfold infN; omega
  intro d
  induction d with
  | zero => exact fun s _ => h0 s
  | succ d ih =>
    intro s hp
    rw [everyF]
    obtain ⟨_, _, h3⟩ := fold_least (P := fun j => everyF I d (nextS I s j) < infN) (v := fun j => farS1 I s j + everyF I d (nextS I s j)) (movesS I s) (if EndS I s then endC I s else infN)
    rcases h3 with h3 | ⟨j, hj, hl, h3⟩
    · rw [h3]; exact h0 s
    · rw [h3]
      have hc := mem_moves.1 hj
      have h4 := bound_step hc hp
      have := ih _ (next_at hc)
      omega
end Go.Proofs.Ytofapalakpkkpaa
