/- What scan.Lines answers. -/
import Derived.Test.YtofapalakpkkpaaXRead
import Derived.WalkMore
import Derived.ScopeJumps
import Derived.WalkLawsBesides
namespace Go.Proofs.Ytofapalakpkkpaa
open Go.ChangeShapes Go.WideShapes Go.ChangeAt Go.RowKit

/-- By a goto to a label: what holds there; else as Q. -/
def Exit.jumps (J : Nat → Act → World → Prop) (Q : Exit → Act → World → Prop) : Exit → Act → World → Prop
  | .goto l, a, w => J l a w
  | e, a, w => Q e a w
/-- A scope with many labels: what holds at each, and a number that every pass lowers. -/
theorem wp_scope_all {P : Program} {c : Code} {a : Act} {w : World} {Q : Exit → Act → World → Prop} (J : Nat → Nat → Act → World → Prop)
    (first : c.wp P (Exit.jumps (fun l a w => ∃ n, J n l a w) Q) a w)
    (pass : ∀ n l a w, J n l a w → ∃ rest, findLabel c l = some rest ∧ rest.wp P (Exit.jumps (fun l' a' w' => ∃ n', n' < n ∧ J n' l' a' w') Q) a w) : (Code.scope c).wp P Q a w := by
  intro b k cs
  have key : ∀ n l a w, J n l a w → ∃ rest, findLabel c l = some rest ∧ ∃ e a' w', Q e a' w' ∧ Arrives P (lone (b.at a (.code rest :: .inScope c :: k)) cs w) b k cs e a' w' := by
    intro n
    induction n using Nat.strongRecOn with
    | _ n ih =>
      intro l a w hJ
      obtain ⟨rest, hf, hp⟩ := pass n l a w hJ
      refine ⟨rest, hf, ?_⟩
      obtain ⟨e, a₁, w₁, hq, harr⟩ := hp b (.inScope c :: k) cs
      cases e with
      | normal => exact ⟨.normal, a₁, w₁, hq, Steps.trans harr (.one step_inScope)⟩
      | exit id => exact ⟨.exit id, a₁, w₁, hq, fun k' hk => harr k' (by simp [exitTo, hk])⟩
      | goto l' =>
        obtain ⟨n', hlt, hJ'⟩ := hq
        obtain ⟨rest', hf', e₂, a₂, w₂, hq₂, harr₂⟩ := ih n' hlt l' a₁ w₁ hJ'
        exact ⟨e₂, a₂, w₂, hq₂, .of_steps (harr _ (by simp [gotoIn, hf'])) harr₂⟩
      | ret => exact ⟨_, a₁, w₁, hq, harr⟩
      | panic ch => exact ⟨_, a₁, w₁, hq, harr⟩
      | outgrown => exact ⟨_, a₁, w₁, hq, harr⟩
  obtain ⟨e, a₁, w₁, hq, harr⟩ := first b (.inScope c :: k) cs
  cases e with
  | normal => exact ⟨.normal, a₁, w₁, hq, .head step_scope (Steps.trans harr (.one step_inScope))⟩
  | exit id => exact ⟨.exit id, a₁, w₁, hq, fun k' hk => .head step_scope (harr k' (by simp [exitTo, hk]))⟩
  | goto l' =>
    obtain ⟨n', hJ'⟩ := hq
    obtain ⟨rest', hf', e₂, a₂, w₂, hq₂, harr₂⟩ := key n' l' a₁ w₁ hJ'
    exact ⟨e₂, a₂, w₂, hq₂, .of_steps (.head step_scope (harr _ (by simp [gotoIn, hf']))) harr₂⟩
  | ret => exact ⟨_, a₁, w₁, hq, .of_steps (.one step_scope) harr⟩
  | panic ch => exact ⟨_, a₁, w₁, hq, .of_steps (.one step_scope) harr⟩
  | outgrown => exact ⟨_, a₁, w₁, hq, .of_steps (.one step_scope) harr⟩

/-- The scope of scan.Lines: five labels, one behind the other. -/
theorem wp_scope_five {P : Program} {X R3 R4 G S1 S2 N1 N2 N3 T1 T2 U : Code} {a : Act} {w : World} {Q : Exit → Act → World → Prop} (J : Nat → Nat → Act → World → Prop)
    (hX : ∀ l, findLabel X l = none) (hR3 : ∀ l, findLabel R3 l = none) (hR4 : ∀ l, findLabel R4 l = none) (hG : ∀ l, findLabel G l = none) (hS1 : ∀ l, findLabel S1 l = none) (hS2 : ∀ l, findLabel S2 l = none)
    (hN1 : ∀ l, findLabel N1 l = none) (hN2 : ∀ l, findLabel N2 l = none) (hN3 : ∀ l, findLabel N3 l = none) (hT1 : ∀ l, findLabel T1 l = none) (hT2 : ∀ l, findLabel T2 l = none)
    (hl : ∀ n l a w, J n l a w → l = 0 ∨ l = 1 ∨ l = 2 ∨ l = 3 ∨ l = 4)
    (x : ∀ Z Q', (∀ e a w, Q e a w → (∀ l, e ≠ .goto l) → Q' e a w) → (∀ n a w, J n 0 a w → Code.wp P Z Q' a w) → Code.wp P (X.seq (R3.seq (R4.seq Z))) Q' a w)
    (g : ∀ N n a w Z, n ≤ N → J n 0 a w → Code.wp P (G.seq ((Code.goto 3).seq Z)) (Exit.jumps (fun l a w => ∃ n', n' < N ∧ J n' l a w) Q) a w)
    (s : ∀ N n a w Z, n ≤ N → J n 1 a w → (∀ n a w, n ≤ N → J n 2 a w → Code.wp P Z (Exit.jumps (fun l a w => ∃ n', n' < N ∧ J n' l a w) Q) a w) → Code.wp P (S1.seq (S2.seq Z)) (Exit.jumps (fun l a w => ∃ n', n' < N ∧ J n' l a w) Q) a w)
    (m : ∀ N n a w Z, n ≤ N → J n 2 a w → (∀ n a w, n ≤ N → J n 3 a w → Code.wp P Z (Exit.jumps (fun l a w => ∃ n', n' < N ∧ J n' l a w) Q) a w) → Code.wp P (N1.seq (N2.seq (N3.seq Z))) (Exit.jumps (fun l a w => ∃ n', n' < N ∧ J n' l a w) Q) a w)
    (t : ∀ N n a w Z, n ≤ N → J n 3 a w → Code.wp P (T1.seq (T2.seq Z)) (Exit.jumps (fun l a w => ∃ n', n' < N ∧ J n' l a w) Q) a w)
    (u : ∀ N n a w, n ≤ N → J n 4 a w → Code.wp P (U.seq (Code.goto 4)) (Exit.jumps (fun l a w => ∃ n', n' < N ∧ J n' l a w) Q) a w) :
    (Code.scope (X.seq (R3.seq (R4.seq ((Code.label 0).seq (G.seq ((Code.goto 3).seq ((Code.label 1).seq (S1.seq (S2.seq ((Code.label 2).seq (N1.seq (N2.seq (N3.seq ((Code.label 3).seq (T1.seq (T2.seq ((Code.label 4).seq (U.seq (Code.goto 4)))))))))))))))))))).wp P Q a w := by
  refine wp_scope_all J ?_ ?_
  · refine x _ _ ?_ ?_
    · intro e a w h hne
      cases e <;> first | exact h | exact (hne _ rfl).elim
    · intro n a w h
      refine wp_seq (wp_label ?_)
      exact Code.wp_mono (fun e a w h => by cases e <;> first | exact h | (obtain ⟨n', _, hj⟩ := h; exact ⟨n', hj⟩)) (g n n a w _ (Nat.le_refl _) h)
  · intro n l a w h
    rcases hl n l a w h with rfl | rfl | rfl | rfl | rfl
    · refine ⟨Code.skip.seq (G.seq _), by simp [findLabel, hX, hR3, hR4]; rfl, wp_seq (wp_skip (g n n a w _ (Nat.le_refl _) h))⟩
    · refine ⟨Code.skip.seq (S1.seq (S2.seq _)), by simp [findLabel, hX, hR3, hR4, hG]; rfl, wp_seq (wp_skip (s n n a w _ (Nat.le_refl _) h ?_))⟩
      intro n2 a2 w2 h2 k2
      refine wp_seq (wp_label (m n n2 a2 w2 _ h2 k2 ?_))
      intro n3 a3 w3 h3 k3
      exact wp_seq (wp_label (t n n3 a3 w3 _ h3 k3))
    · refine ⟨Code.skip.seq (N1.seq (N2.seq (N3.seq _))), by simp [findLabel, hX, hR3, hR4, hG, hS1, hS2]; rfl, wp_seq (wp_skip (m n n a w _ (Nat.le_refl _) h ?_))⟩
      intro n3 a3 w3 h3 k3
      exact wp_seq (wp_label (t n n3 a3 w3 _ h3 k3))
    · exact ⟨Code.skip.seq (T1.seq (T2.seq _)), by simp [findLabel, hX, hR3, hR4, hG, hS1, hS2, hN1, hN2, hN3]; rfl, wp_seq (wp_skip (t n n a w _ (Nat.le_refl _) h))⟩
    · exact ⟨Code.skip.seq (U.seq (Code.goto 4)), by simp [findLabel, hX, hR3, hR4, hG, hS1, hS2, hN1, hN2, hN3, hT1, hT2], wp_seq (wp_skip (u n n a w (Nat.le_refl _) h))⟩

def SlotsAt (tv : Value) (b : Nat) (k : Int) (a : Act) : Prop :=
  ∃ (u6 u7 u8 u9 u10 u11 u12 u13 u14 u15 u16 u17 u18 u19 u20 u21 u22 u23 u24 u25 u26 u27 u28 u29 u30 u31 u32 u33 u34 u35 u36 u37 u38 u39 u40 u41 u42 u43 u44 u45 u46 u47 : Value), a = { tmps := #[tv, undef, .slice none 0 0, .int .i64 0, .pointer (some ⟨b, 0, none⟩), .int .i64 k, u6, u7, u8, u9, u10, u11, u12, u13, u14, u15, u16, u17, u18, u19, u20, u21, u22, u23, u24, u25, u26, u27, u28, u29, u30, u31, u32, u33, u34, u35, u36, u37, u38, u39, u40, u41, u42, u43, u44, u45, u46, u47], defers := [] }
theorem slots_mk {tv : Value} {b : Nat} {k : Int} {u6 u7 u8 u9 u10 u11 u12 u13 u14 u15 u16 u17 u18 u19 u20 u21 u22 u23 u24 u25 u26 u27 u28 u29 u30 u31 u32 u33 u34 u35 u36 u37 u38 u39 u40 u41 u42 u43 u44 u45 u46 u47 : Value} : SlotsAt tv b k { tmps := #[tv, undef, .slice none 0 0, .int .i64 0, .pointer (some ⟨b, 0, none⟩), .int .i64 k, u6, u7, u8, u9, u10, u11, u12, u13, u14, u15, u16, u17, u18, u19, u20, u21, u22, u23, u24, u25, u26, u27, u28, u29, u30, u31, u32, u33, u34, u35, u36, u37, u38, u39, u40, u41, u42, u43, u44, u45, u46, u47], defers := [] } := ⟨u6, u7, u8, u9, u10, u11, u12, u13, u14, u15, u16, u17, u18, u19, u20, u21, u22, u23, u24, u25, u26, u27, u28, u29, u30, u31, u32, u33, u34, u35, u36, u37, u38, u39, u40, u41, u42, u43, u44, u45, u46, u47, rfl⟩
theorem drop_at (bs : List Int) (p : Nat) (h : p < bs.length) (c : Int) (hc : bs.getD p 0 = c) : bs.drop p = c :: bs.drop (p + 1) := by
  rw [List.drop_eq_getElem_cons h]
  congr 1
  rw [← hc, List.getD_eq_getElem?_getD, List.getElem?_eq_getElem h]; rfl
theorem kd_k (c : Int) : kd c = 1 ∨ kd c = 2 ∨ kd c = 4 ∨ kd c = 5 ∨ (48 ≤ c ∧ c ≤ 57 ∧ kd c = 3) ∨ kd c = 0 := by have := kd_cases c; omega
section
variable {w0 : World} {b : Nat} {tv : Value} {bs : List Int} {n : Nat} {a : Act} {w : World}
variable {k : Int} {p : Nat} {L : List (List Int)} {ln : List Int} {sz dg : Nat} {neg : Bool} {N : Nat}
end
theorem addL_len (L : List (List Int)) (ln : List Int) : (addL L ln).length + ([] : List Int).length ≤ L.length + ln.length := by
  unfold addL
  split
  · simp
  · have := List.length_pos_iff.2 (by assumption : ln ≠ [])
    simp; omega
theorem drop_end (bs : List Int) (p : Nat) (h : p = bs.length) : bs.drop p = [] := by rw [h]; simp
theorem err_none {bs : List Int} (hl : ¬ 4096 < bs.length) (h : parse bs = none) : errOf bs = 2 ∧ resOf bs = [] := by simp [errOf, resOf, hl, h]
theorem err_some {bs : List Int} {L : List (List Int)} (hl : ¬ 4096 < bs.length) (h : parse bs = some L) : errOf bs = 0 ∧ resOf bs = L := by simp [errOf, resOf, hl, h]
theorem pow12 {sz dg : Nat} (h : sz < 10 ^ dg) (hd : dg ≤ 12) : sz ≤ 1000000000000 := by
  have : 10 ^ dg ≤ 10 ^ 12 := Nat.pow_le_pow_right (by decide) hd
  omega
theorem pow_more {sz dg : Nat} {c : Int} (h : sz < 10 ^ dg) (h1 : c ≤ 57) : 10 * sz + dv c < 10 ^ (dg + 1) := by
  rw [Nat.pow_succ]; unfold dv; omega

end Go.Proofs.Ytofapalakpkkpaa
