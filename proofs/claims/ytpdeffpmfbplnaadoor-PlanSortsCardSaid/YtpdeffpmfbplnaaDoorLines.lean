/- What scan.Lines answers. -/
import Derived.Test.YtpdeffpmfbplnaaDoorXRead
import Derived.WalkMore
import Derived.ScopeJumps
import Derived.WalkLawsBesides
namespace Go.Proofs.YtpdeffpmfbplnaaDoor
open Go.ChangeShapes Go.WideShapes Go.ChangeAt Go.RowKit

/-- By a goto to a label: what holds there; else as Q. -/
def Exit.jumps (J : Nat → Act → World → Prop) (Q : Exit → Act → World → Prop) : Exit → Act → World → Prop
  | .goto l, a, w => J l a w
  | e, a, w => Q e a w
/-- A scope with many labels: what holds at each, and a number that every pass lowers. -/
theorem wp_scope_all {P : Program} {c : Code} {a : Act} {w : World} {Q : Exit → Act → World → Prop} (J : Nat → Nat → Act → World → Prop)
    (first : c.wp P (Exit.jumps (fun l a w => ∃ n, J n l a w) Q) a w)
    (pass : ∀ n l a w, J n l a w → ∃ rest, findLabel c l = some rest ∧ rest.wp P (Exit.jumps (fun l' a' w' => ∃ n', n' < n ∧ J n' l' a' w') Q) a w) : (Code.scope c).wp P Q a w := by
  intro b k cs
  have key : ∀ n l a w, J n l a w → ∃ rest, findLabel c l = some rest ∧ ∃ e a' w', Q e a' w' ∧ Arrives P (lone (b.at a (.code rest :: .inScope c :: k)) cs w) b k cs e a' w' := by
    intro n
    induction n using Nat.strongRecOn with
    | _ n ih =>
      intro l a w hJ
      obtain ⟨rest, hf, hp⟩ := pass n l a w hJ
      refine ⟨rest, hf, ?_⟩
      obtain ⟨e, a₁, w₁, hq, harr⟩ := hp b (.inScope c :: k) cs
      cases e with
      | normal => exact ⟨.normal, a₁, w₁, hq, Steps.trans harr (.one step_inScope)⟩
      | exit id => exact ⟨.exit id, a₁, w₁, hq, fun k' hk => harr k' (by simp [exitTo, hk])⟩
      | goto l' =>
        obtain ⟨n', hlt, hJ'⟩ := hq
        obtain ⟨rest', hf', e₂, a₂, w₂, hq₂, harr₂⟩ := ih n' hlt l' a₁ w₁ hJ'
        exact ⟨e₂, a₂, w₂, hq₂, .of_steps (harr _ (by simp [gotoIn, hf'])) harr₂⟩
      | ret => exact ⟨_, a₁, w₁, hq, harr⟩
      | panic ch => exact ⟨_, a₁, w₁, hq, harr⟩
      | outgrown => exact ⟨_, a₁, w₁, hq, harr⟩
  obtain ⟨e, a₁, w₁, hq, harr⟩ := first b (.inScope c :: k) cs
  cases e with
  | normal => exact ⟨.normal, a₁, w₁, hq, .head step_scope (Steps.trans harr (.one step_inScope))⟩
  | exit id => exact ⟨.exit id, a₁, w₁, hq, fun k' hk => .head step_scope (harr k' (by simp [exitTo, hk]))⟩
  | goto l' =>
    obtain ⟨n', hJ'⟩ := hq
    obtain ⟨rest', hf', e₂, a₂, w₂, hq₂, harr₂⟩ := key n' l' a₁ w₁ hJ'
    exact ⟨e₂, a₂, w₂, hq₂, .of_steps (.head step_scope (harr _ (by simp [gotoIn, hf']))) harr₂⟩
  | ret => exact ⟨_, a₁, w₁, hq, .of_steps (.one step_scope) harr⟩
  | panic ch => exact ⟨_, a₁, w₁, hq, .of_steps (.one step_scope) harr⟩
  | outgrown => exact ⟨_, a₁, w₁, hq, .of_steps (.one step_scope) harr⟩

/-- The scope of scan.Lines: five labels, one behind the other. -/
theorem wp_scope_five {P : Program} {X R3 R4 G S1 S2 N1 N2 N3 T1 T2 U : Code} {a : Act} {w : World} {Q : Exit → Act → World → Prop} (J : Nat → Nat → Act → World → Prop)
    (hX : ∀ l, findLabel X l = none) (hR3 : ∀ l, findLabel R3 l = none) (hR4 : ∀ l, findLabel R4 l = none) (hG : ∀ l, findLabel G l = none) (hS1 : ∀ l, findLabel S1 l = none) (hS2 : ∀ l, findLabel S2 l = none)
    (hN1 : ∀ l, findLabel N1 l = none) (hN2 : ∀ l, findLabel N2 l = none) (hN3 : ∀ l, findLabel N3 l = none) (hT1 : ∀ l, findLabel T1 l = none) (hT2 : ∀ l, findLabel T2 l = none)
    (hl : ∀ n l a w, J n l a w → l = 0 ∨ l = 1 ∨ l = 2 ∨ l = 3 ∨ l = 4)
    (x : ∀ Z Q', (∀ e a w, Q e a w → (∀ l, e ≠ .goto l) → Q' e a w) → (∀ n a w, J n 0 a w → Code.wp P Z Q' a w) → Code.wp P (X.seq (R3.seq (R4.seq Z))) Q' a w)
    (g : ∀ N n a w Z, n ≤ N → J n 0 a w → Code.wp P (G.seq ((Code.goto 3).seq Z)) (Exit.jumps (fun l a w => ∃ n', n' < N ∧ J n' l a w) Q) a w)
    (s : ∀ N n a w Z, n ≤ N → J n 1 a w → (∀ n a w, n ≤ N → J n 2 a w → Code.wp P Z (Exit.jumps (fun l a w => ∃ n', n' < N ∧ J n' l a w) Q) a w) → Code.wp P (S1.seq (S2.seq Z)) (Exit.jumps (fun l a w => ∃ n', n' < N ∧ J n' l a w) Q) a w)
    (m : ∀ N n a w Z, n ≤ N → J n 2 a w → (∀ n a w, n ≤ N → J n 3 a w → Code.wp P Z (Exit.jumps (fun l a w => ∃ n', n' < N ∧ J n' l a w) Q) a w) → Code.wp P (N1.seq (N2.seq (N3.seq Z))) (Exit.jumps (fun l a w => ∃ n', n' < N ∧ J n' l a w) Q) a w)
    (t : ∀ N n a w Z, n ≤ N → J n 3 a w → Code.wp P (T1.seq (T2.seq Z)) (Exit.jumps (fun l a w => ∃ n', n' < N ∧ J n' l a w) Q) a w)
    (u : ∀ N n a w, n ≤ N → J n 4 a w → Code.wp P (U.seq (Code.goto 4)) (Exit.jumps (fun l a w => ∃ n', n' < N ∧ J n' l a w) Q) a w) :
    (Code.scope (X.seq (R3.seq (R4.seq ((Code.label 0).seq (G.seq ((Code.goto 3).seq ((Code.label 1).seq (S1.seq (S2.seq ((Code.label 2).seq (N1.seq (N2.seq (N3.seq ((Code.label 3).seq (T1.seq (T2.seq ((Code.label 4).seq (U.seq (Code.goto 4)))))))))))))))))))).wp P Q a w := by
  refine wp_scope_all J ?_ ?_
  · refine x _ _ ?_ ?_
    · intro e a w h hne
      cases e <;> first | exact h | exact (hne _ rfl).elim
    · intro n a w h
      refine wp_seq (wp_label ?_)
      exact Code.wp_mono (fun e a w h => by cases e <;> first | exact h | (obtain ⟨n', _, hj⟩ := h; exact ⟨n', hj⟩)) (g n n a w _ (Nat.le_refl _) h)
  · intro n l a w h
    rcases hl n l a w h with rfl | rfl | rfl | rfl | rfl
    · refine ⟨Code.skip.seq (G.seq _), by simp [findLabel, hX, hR3, hR4]; rfl, wp_seq (wp_skip (g n n a w _ (Nat.le_refl _) h))⟩
    · refine ⟨Code.skip.seq (S1.seq (S2.seq _)), by simp [findLabel, hX, hR3, hR4, hG]; rfl, wp_seq (wp_skip (s n n a w _ (Nat.le_refl _) h ?_))⟩
      intro n2 a2 w2 h2 k2
      refine wp_seq (wp_label (m n n2 a2 w2 _ h2 k2 ?_))
      intro n3 a3 w3 h3 k3
      exact wp_seq (wp_label (t n n3 a3 w3 _ h3 k3))
    · refine ⟨Code.skip.seq (N1.seq (N2.seq (N3.seq _))), by simp [findLabel, hX, hR3, hR4, hG, hS1, hS2]; rfl, wp_seq (wp_skip (m n n a w _ (Nat.le_refl _) h ?_))⟩
      intro n3 a3 w3 h3 k3
      exact wp_seq (wp_label (t n n3 a3 w3 _ h3 k3))
    · exact ⟨Code.skip.seq (T1.seq (T2.seq _)), by simp [findLabel, hX, hR3, hR4, hG, hS1, hS2, hN1, hN2, hN3]; rfl, wp_seq (wp_skip (t n n a w _ (Nat.le_refl _) h))⟩
    · exact ⟨Code.skip.seq (U.seq (Code.goto 4)), by simp [findLabel, hX, hR3, hR4, hG, hS1, hS2, hN1, hN2, hN3, hT1, hT2], wp_seq (wp_skip (u n n a w (Nat.le_refl _) h))⟩

def SlotsAt (tv : Value) (b : Nat) (k : Int) (a : Act) : Prop :=
  ∃ (u6 u7 u8 u9 u10 u11 u12 u13 u14 u15 u16 u17 u18 u19 u20 u21 u22 u23 u24 u25 u26 u27 u28 u29 u30 u31 u32 u33 u34 u35 u36 u37 u38 u39 u40 u41 u42 u43 u44 u45 u46 u47 : Value), a = { tmps := #[tv, undef, .slice none 0 0, .int .i64 0, .pointer (some ⟨b, 0, none⟩), .int .i64 k, u6, u7, u8, u9, u10, u11, u12, u13, u14, u15, u16, u17, u18, u19, u20, u21, u22, u23, u24, u25, u26, u27, u28, u29, u30, u31, u32, u33, u34, u35, u36, u37, u38, u39, u40, u41, u42, u43, u44, u45, u46, u47], defers := [] }
theorem slots_mk {tv : Value} {b : Nat} {k : Int} {u6 u7 u8 u9 u10 u11 u12 u13 u14 u15 u16 u17 u18 u19 u20 u21 u22 u23 u24 u25 u26 u27 u28 u29 u30 u31 u32 u33 u34 u35 u36 u37 u38 u39 u40 u41 u42 u43 u44 u45 u46 u47 : Value} : SlotsAt tv b k { tmps := #[tv, undef, .slice none 0 0, .int .i64 0, .pointer (some ⟨b, 0, none⟩), .int .i64 k, u6, u7, u8, u9, u10, u11, u12, u13, u14, u15, u16, u17, u18, u19, u20, u21, u22, u23, u24, u25, u26, u27, u28, u29, u30, u31, u32, u33, u34, u35, u36, u37, u38, u39, u40, u41, u42, u43, u44, u45, u46, u47], defers := [] } := ⟨u6, u7, u8, u9, u10, u11, u12, u13, u14, u15, u16, u17, u18, u19, u20, u21, u22, u23, u24, u25, u26, u27, u28, u29, u30, u31, u32, u33, u34, u35, u36, u37, u38, u39, u40, u41, u42, u43, u44, u45, u46, u47, rfl⟩
/-- What holds at each label: w0 the world at the call, bs the bytes. -/
structure St (w0 : World) (b : Nat) (tv : Value) (bs : List Int) (k : Int) (p : Nat) (L : List (List Int)) (ln : List Int) (sz dg : Nat) (neg : Bool) (a : Act) (w : World) : Prop where
  slots : SlotsAt tv b k a
  rd : RD w w0.heap.size b tv p L ln sz dg neg
  bel : Below w0.heap.size w0 w
  le : p ≤ bs.length
  len : L.length + ln.length ≤ p
def JAt (w0 : World) (b : Nat) (tv : Value) (bs : List Int) (n l : Nat) (a : Act) (w : World) : Prop :=
  (l = 0 ∧ ∃ k p L ln, St w0 b tv bs k p L ln 0 0 false a w ∧ run (gapM L ln) (bs.drop p) = parse bs ∧ n = 2 * (bs.length - p) + 1) ∨
  (l = 1 ∧ ∃ k p L ln, St w0 b tv bs k p L ln 0 0 false a w ∧ run ⟨L, ln, 0, 0, true, 1⟩ (bs.drop p) = parse bs ∧ n = 2 * (bs.length - p) + 1) ∨
  (l = 2 ∧ ∃ k p L ln sz dg neg c, St w0 b tv bs k (p + 1) L ln sz dg neg a w ∧ (take ⟨L, ln, sz, dg, neg, 0⟩ c).bind (fun m => run m (bs.drop (p + 1))) = parse bs ∧ n = 2 * (bs.length - (p + 1)) + 1 ∧
    bs.getD p 0 = c ∧ 48 ≤ c ∧ c ≤ 57 ∧ sz < 10 ^ dg ∧ dg ≤ 12 ∧ L.length + ln.length ≤ p) ∨
  (l = 3 ∧ ∃ k p L ln, St w0 b tv bs k p L ln 0 0 false a w ∧ restOf L ln k (bs.drop p) = parse bs ∧ n = (if k = 4 ∨ k = 5 then 2 * (bs.length - p) + 2 else 0)) ∨
  (l = 4 ∧ ∃ k p L ln, St w0 b tv bs k p L ln 0 0 false a w ∧ run (noteM L ln) (bs.drop p) = parse bs ∧ n = 2 * (bs.length - p) + 1)
theorem drop_at (bs : List Int) (p : Nat) (h : p < bs.length) (c : Int) (hc : bs.getD p 0 = c) : bs.drop p = c :: bs.drop (p + 1) := by
  rw [List.drop_eq_getElem_cons h]
  congr 1
  rw [← hc, List.getD_eq_getElem?_getD, List.getElem?_eq_getElem h]; rfl
theorem kd_k (c : Int) : kd c = 1 ∨ kd c = 2 ∨ kd c = 4 ∨ kd c = 5 ∨ (48 ≤ c ∧ c ≤ 57 ∧ kd c = 3) ∨ kd c = 0 := by have := kd_cases c; omega
section
variable {w0 : World} {b : Nat} {tv : Value} {bs : List Int} {n : Nat} {a : Act} {w : World}
theorem j0 (h : JAt w0 b tv bs n 0 a w) : ∃ k p L ln, St w0 b tv bs k p L ln 0 0 false a w ∧ run (gapM L ln) (bs.drop p) = parse bs ∧ n = 2 * (bs.length - p) + 1 := by
  rcases h with ⟨_, h⟩ | ⟨h, _⟩ | ⟨h, _⟩ | ⟨h, _⟩ | ⟨h, _⟩ <;> first | exact h | omega
theorem j1 (h : JAt w0 b tv bs n 1 a w) : ∃ k p L ln, St w0 b tv bs k p L ln 0 0 false a w ∧ run ⟨L, ln, 0, 0, true, 1⟩ (bs.drop p) = parse bs ∧ n = 2 * (bs.length - p) + 1 := by
  rcases h with ⟨h, _⟩ | ⟨_, h⟩ | ⟨h, _⟩ | ⟨h, _⟩ | ⟨h, _⟩ <;> first | exact h | omega
theorem j2 (h : JAt w0 b tv bs n 2 a w) : ∃ k p L ln sz dg neg c, St w0 b tv bs k (p + 1) L ln sz dg neg a w ∧ (take ⟨L, ln, sz, dg, neg, 0⟩ c).bind (fun m => run m (bs.drop (p + 1))) = parse bs ∧ n = 2 * (bs.length - (p + 1)) + 1 ∧
    bs.getD p 0 = c ∧ 48 ≤ c ∧ c ≤ 57 ∧ sz < 10 ^ dg ∧ dg ≤ 12 ∧ L.length + ln.length ≤ p := by
  rcases h with ⟨h, _⟩ | ⟨h, _⟩ | ⟨_, h⟩ | ⟨h, _⟩ | ⟨h, _⟩ <;> first | exact h | omega
theorem j3 (h : JAt w0 b tv bs n 3 a w) : ∃ k p L ln, St w0 b tv bs k p L ln 0 0 false a w ∧ restOf L ln k (bs.drop p) = parse bs ∧ n = (if k = 4 ∨ k = 5 then 2 * (bs.length - p) + 2 else 0) := by
  rcases h with ⟨h, _⟩ | ⟨h, _⟩ | ⟨h, _⟩ | ⟨_, h⟩ | ⟨h, _⟩ <;> first | exact h | omega
theorem j4 (h : JAt w0 b tv bs n 4 a w) : ∃ k p L ln, St w0 b tv bs k p L ln 0 0 false a w ∧ run (noteM L ln) (bs.drop p) = parse bs ∧ n = 2 * (bs.length - p) + 1 := by
  rcases h with ⟨h, _⟩ | ⟨h, _⟩ | ⟨h, _⟩ | ⟨h, _⟩ | ⟨_, h⟩ <;> first | exact h | omega
variable {k : Int} {p : Nat} {L : List (List Int)} {ln : List Int} {sz dg : Nat} {neg : Bool} {N : Nat}
theorem j0_mk (h : St w0 b tv bs k p L ln 0 0 false a w) (hr : run (gapM L ln) (bs.drop p) = parse bs) (hn : 2 * (bs.length - p) + 1 < N) : ∃ n', n' < N ∧ JAt w0 b tv bs n' 0 a w :=
  ⟨_, hn, .inl ⟨rfl, _, _, _, _, h, hr, rfl⟩⟩
theorem j1_mk (h : St w0 b tv bs k p L ln 0 0 false a w) (hr : run ⟨L, ln, 0, 0, true, 1⟩ (bs.drop p) = parse bs) (hn : 2 * (bs.length - p) + 1 < N) : ∃ n', n' < N ∧ JAt w0 b tv bs n' 1 a w :=
  ⟨_, hn, .inr (.inl ⟨rfl, _, _, _, _, h, hr, rfl⟩)⟩
theorem j2_mk {c : Int} (h : St w0 b tv bs k (p + 1) L ln sz dg neg a w) (hr : (take ⟨L, ln, sz, dg, neg, 0⟩ c).bind (fun m => run m (bs.drop (p + 1))) = parse bs)
    (hc : bs.getD p 0 = c ∧ 48 ≤ c ∧ c ≤ 57 ∧ sz < 10 ^ dg ∧ dg ≤ 12 ∧ L.length + ln.length ≤ p) (hn : 2 * (bs.length - (p + 1)) + 1 < N) : ∃ n', n' < N ∧ JAt w0 b tv bs n' 2 a w :=
  ⟨_, hn, .inr (.inr (.inl ⟨rfl, _, _, _, _, _, _, _, _, h, hr, rfl, hc⟩))⟩
theorem j3_mk (h : St w0 b tv bs k p L ln 0 0 false a w) (hr : restOf L ln k (bs.drop p) = parse bs) (hn : (if k = 4 ∨ k = 5 then 2 * (bs.length - p) + 2 else 0) < N) : ∃ n', n' < N ∧ JAt w0 b tv bs n' 3 a w :=
  ⟨_, hn, .inr (.inr (.inr (.inl ⟨rfl, _, _, _, _, h, hr, rfl⟩)))⟩
theorem j4_mk (h : St w0 b tv bs k p L ln 0 0 false a w) (hr : run (noteM L ln) (bs.drop p) = parse bs) (hn : 2 * (bs.length - p) + 1 < N) : ∃ n', n' < N ∧ JAt w0 b tv bs n' 4 a w :=
  ⟨_, hn, .inr (.inr (.inr (.inr ⟨rfl, _, _, _, _, h, hr, rfl⟩)))⟩
end
theorem addL_len (L : List (List Int)) (ln : List Int) : (addL L ln).length + ([] : List Int).length ≤ L.length + ln.length := by
  unfold addL
  split
  · simp
  · have := List.length_pos_iff.2 (by assumption : ln ≠ [])
    simp; omega
theorem drop_end (bs : List Int) (p : Nat) (h : p = bs.length) : bs.drop p = [] := by rw [h]; simp
theorem err_none {bs : List Int} (hl : ¬ 4096 < bs.length) (h : parse bs = none) : errOf bs = 2 ∧ resOf bs = [] := by simp [errOf, resOf, hl, h]
theorem err_some {bs : List Int} {L : List (List Int)} (hl : ¬ 4096 < bs.length) (h : parse bs = some L) : errOf bs = 0 ∧ resOf bs = L := by simp [errOf, resOf, hl, h]
theorem pow12 {sz dg : Nat} (h : sz < 10 ^ dg) (hd : dg ≤ 12) : sz ≤ 1000000000000 := by
  have : 10 ^ dg ≤ 10 ^ 12 := Nat.pow_le_pow_right (by decide) hd
  omega
theorem pow_more {sz dg : Nat} {c : Int} (h : sz < 10 ^ dg) (h1 : c ≤ 57) : 10 * sz + dv c < 10 ^ (dg + 1) := by
  rw [Nat.pow_succ]; unfold dv; omega

set_option maxRecDepth 1000000 in
set_option maxHeartbeats 4000000 in
theorem lines_any {w : World} {tv : Value} {bs : List Int} (h : Row w tv (byts bs)) :
    Calls Tryd.prog 36 #[tv] w fun e w' => ∃ v, e = .returned (.tuple #[v, .int .i64 (errOf bs)]) ∧ OwnLL w' w.heap.size v (resOf bs) ∧ Below w.heap.size w w' := by
  have H := Lib.hid h
  obtain ⟨hm, a, cap, rfl, _, _, h3⟩ := h
  rw [byts_len] at *
  clear h3
  by_cases hl : 4096 < bs.length
  · have hd : decide ((4096 : Int) < (bs.length : Int)) = true := decide_eq_true (by omega)
    have HE := Lib.hid (show errOf bs = 6 ∧ resOf bs = [] by simp [errOf, resOf, hl])
    go_enter Tryd.func36, Tryd.ntmps36
    go_wp2_with fail
    refine wp_scope_straight ?_
    go_wp2
    simp only [Exit.noGoto]
    refine bodyPost_ret (v := .tuple #[.slice none 0 0, .int .i64 6]) ?_ rfl ?_
    · simp [results, Tryd.results36, go_sem]
    rw [HE.out.1, HE.out.2]
    exact ⟨_, rfl, ownLL_nil _ _, Below.refl _ _⟩
  · have hd : decide ((4096 : Int) < (bs.length : Int)) = false := decide_eq_false (by omega)
    have HT := Lib.hid (fun w' (hb : Below w.heap.size w w') => H.out.below hb)
    obtain ⟨b, hb⟩ : ∃ b, w.heap.size = b := ⟨_, rfl⟩
    have HBB := Lib.hid hb
    clear hb
    go_enter Tryd.func36, Tryd.ntmps36
    go_wp2_with fail
    refine wp_scope_five (JAt w b (.slice a bs.length cap) bs) (fun _ => rfl) (fun _ => rfl) (fun _ => rfl) (fun _ => rfl) (fun _ => rfl) (fun _ => rfl) (fun _ => rfl) (fun _ => rfl) (fun _ => rfl) (fun _ => rfl) (fun _ => rfl)
      (by rintro n l a w (⟨h, _⟩ | ⟨h, _⟩ | ⟨h, _⟩ | ⟨h, _⟩ | ⟨h, _⟩) <;> simp [h]) ?px ?pg ?ps ?pm ?pt ?pu
    case px =>
      intro Z Q' hQ hZ
      have HZ := Lib.hid hZ
      clear hZ hQ
      go_wp2_with fail
      have hnew := heap_alloc_new w (.cells #[.slice a bs.length cap, .int .i64 0, .slice none 0 0, .slice none 0 0, .int .i64 0, .int .i64 0, .bool false] 87)
      have hRA : RAt (w.alloc (.cells #[.slice a bs.length cap, .int .i64 0, .slice none 0 0, .slice none 0 0, .int .i64 0, .int .i64 0, .bool false] 87)) w.heap.size w.heap.size (.slice a bs.length cap) 0 [] [] 0 0 false (.slice none 0 0) (.slice none 0 0) [] :=
        ⟨Nat.le_refl _, hnew, World.ownsRow_nil _ _ _ _, trivial, World.ownsRow_nil _ _ _ _, fun _ h => by simp at h⟩
      obtain rfl := HBB.out
      refine HZ.out (2 * (bs.length - 0) + 1) _ _ (.inl ⟨rfl, _, _, _, _, ⟨slots_mk, ⟨_, _, _, hRA⟩, (Below.refl _ _).alloc (Nat.le_refl _) _, Nat.zero_le _, Nat.le_refl _⟩, rfl, rfl⟩)
    case pg =>
      intro N n a1 w1 Z hn hJ
      obtain ⟨k, p, L, ln, hS, hrun, hnn⟩ := j0 hJ
      have HS := Lib.hid hS
      have hle := hS.le
      obtain ⟨u6, u7, u8, u9, u10, u11, u12, u13, u14, u15, u16, u17, u18, u19, u20, u21, u22, u23, u24, u25, u26, u27, u28, u29, u30, u31, u32, u33, u34, u35, u36, u37, u38, u39, u40, u41, u42, u43, u44, u45, u46, u47, rfl⟩ := hS.slots
      have HR := Lib.hid hrun
      clear hS hJ hrun
      by_cases hpe : p = bs.length
      · go_wp2_with fail
        refine (next_end HS.out.rd (HT.out _ HS.out.bel) hpe).mono ?_
        rintro e w2 ⟨rfl, h2, b2⟩
        have HD := Lib.hid (And.intro h2 (HS.out.bel.trans b2))
        clear h2 b2
        go_wp2
        go_step3
        exact j3_mk (N := N) ⟨slots_mk, HD.out.1, HD.out.2, hle, HS.out.len⟩ (by rw [← HR.out, drop_end _ _ hpe, gap_end]) (by simp; omega)
      · have hlt : p < bs.length := by omega
        obtain ⟨c, hc⟩ : ∃ c, bs.getD p 0 = c := ⟨_, rfl⟩
        have HDR := Lib.hid (drop_at bs p hlt c hc)
        have HC := Lib.hid hc
        have HLn := Lib.hid (show L.length + ln.length ≤ p + 1 from Nat.le_succ_of_le HS.out.len)
        clear hc hpe
        rcases kd_k c with hk | hk | hk | hk | ⟨hd1, hd2, hk⟩ | hk
        all_goals
          have HK := Lib.hid hk
          clear hk
          go_wp2_with fail
          refine (next_more HS.out.rd (HT.out _ HS.out.bel) hlt c HC.out (fun w' hb => HT.out _ (HS.out.bel.trans hb))).mono ?_
          rw [HK.out]
          rintro e w2 ⟨rfl, h2, b2⟩
          have HD := Lib.hid (And.intro h2 (HS.out.bel.trans b2))
          clear h2 b2
          go_wp2
        · go_step3
          exact j0_mk (N := N) ⟨slots_mk, HD.out.1, HD.out.2, hlt, HLn.out⟩ (by rw [← HR.out, HDR.out, gap_space _ _ _ _ HK.out]) (by omega)
        · go_step3
          exact j1_mk (N := N) ⟨slots_mk, HD.out.1, HD.out.2, hlt, HLn.out⟩ (by rw [← HR.out, HDR.out, gap_minus _ _ _ _ HK.out]) (by omega)
        · go_step3
          exact j3_mk (N := N) ⟨slots_mk, HD.out.1, HD.out.2, hlt, HLn.out⟩ (by rw [← HR.out, HDR.out, gap_rest _ _ _ _ (by rw [HK.out]; decide) (by rw [HK.out]; decide) (by rw [HK.out]; decide), HK.out]) (by simp; omega)
        · go_step3
          exact j3_mk (N := N) ⟨slots_mk, HD.out.1, HD.out.2, hlt, HLn.out⟩ (by rw [← HR.out, HDR.out, gap_rest _ _ _ _ (by rw [HK.out]; decide) (by rw [HK.out]; decide) (by rw [HK.out]; decide), HK.out]) (by simp; omega)
        · go_step3
          exact j2_mk (N := N) ⟨slots_mk, HD.out.1, HD.out.2, hlt, HLn.out⟩ (by rw [← HR.out, HDR.out, gap_digit _ _ _ _ HK.out]) ⟨HC.out, hd1, hd2, by simp, by simp, HS.out.len⟩ (by omega)
        · go_step3
          exact j3_mk (N := N) ⟨slots_mk, HD.out.1, HD.out.2, hlt, HLn.out⟩ (by rw [← HR.out, HDR.out, gap_rest _ _ _ _ (by rw [HK.out]; decide) (by rw [HK.out]; decide) (by rw [HK.out]; decide), HK.out]) (by simp; omega)
    case ps =>
      intro N n a1 w1 Z hn hJ hZ
      obtain ⟨k, p, L, ln, hS, hrun, hnn⟩ := j1 hJ
      have HS := Lib.hid hS
      have hle := hS.le
      obtain ⟨u6, u7, u8, u9, u10, u11, u12, u13, u14, u15, u16, u17, u18, u19, u20, u21, u22, u23, u24, u25, u26, u27, u28, u29, u30, u31, u32, u33, u34, u35, u36, u37, u38, u39, u40, u41, u42, u43, u44, u45, u46, u47, rfl⟩ := hS.slots
      have HR := Lib.hid hrun
      have HZ := Lib.hid hZ
      obtain ⟨lv, v, vs, hRA⟩ := hS.rd
      have c6 := hRA.cell 6
      have f6 := hRA.free 6
      have hbl := hRA.lt
      simp only [List.getElem?_cons_zero, List.getElem?_cons_succ] at c6
      obtain ⟨r2, b2⟩ := hRA.setNeg true
      have HD := Lib.hid (show RD (w1.setCell ⟨b, 6, none⟩ (.bool true)) w.heap.size b (.slice a bs.length cap) p L ln 0 0 true ∧ Below w.heap.size w (w1.setCell ⟨b, 6, none⟩ (.bool true)) from ⟨⟨_, _, _, r2⟩, hS.bel.trans b2⟩)
      clear hS hJ hrun hZ r2 b2 hRA
      by_cases hpe : p = bs.length
      · have HN := Lib.hid (err_none hl (by rw [← HR.out, drop_end _ _ hpe, sign_end]))
        go_wp2_with fail
        generalize w1.setCell ⟨b, 6, none⟩ (.bool true) = w2 at *
        refine (next_end HD.out.1 (HT.out _ HD.out.2) hpe).mono ?_
        rintro e w3 ⟨rfl, h2, b2⟩
        have HD3 := Lib.hid (HD.out.2.trans b2)
        clear h2 b2
        go_wp2
        simp only [Exit.jumps]
        refine bodyPost_ret (v := .tuple #[.slice none 0 0, .int .i64 2]) ?_ rfl ?_
        · simp [results, Tryd.results36, go_sem]
        rw [HN.out.1, HN.out.2]
        exact ⟨_, rfl, ownLL_nil _ _, HD3.out⟩
      · have hlt : p < bs.length := by omega
        obtain ⟨c, hc⟩ : ∃ c, bs.getD p 0 = c := ⟨_, rfl⟩
        have HDR := Lib.hid (drop_at bs p hlt c hc)
        have HC := Lib.hid hc
        clear hc hpe
        by_cases hk : kd c = 3
        · have HK := Lib.hid hk
          have HCC := Lib.hid (show 48 ≤ c ∧ c ≤ 57 by have := kd_cases c; omega)
          clear hk
          go_wp2_with fail
          generalize w1.setCell ⟨b, 6, none⟩ (.bool true) = w2 at *
          refine (next_more HD.out.1 (HT.out _ HD.out.2) hlt c HC.out (fun w' hb => HT.out _ (HD.out.2.trans hb))).mono ?_
          rw [HK.out]
          rintro e w3 ⟨rfl, h2, b2⟩
          have HD3 := Lib.hid (And.intro h2 (HD.out.2.trans b2))
          clear h2 b2
          go_wp2
          obtain ⟨n', hlt', hj⟩ := j2_mk (N := N + 1) ⟨slots_mk, HD3.out.1, HD3.out.2, hlt, Nat.le_succ_of_le HS.out.len⟩ (by rw [← HR.out, HDR.out, sign_digit _ _ _ _ HK.out]) ⟨HC.out, HCC.out.1, HCC.out.2, by simp, by simp, HS.out.len⟩ (by omega)
          exact HZ.out n' _ _ (by omega) hj
        · have HN := Lib.hid (err_none hl (by rw [← HR.out, HDR.out, sign_bad _ _ _ _ hk]))
          obtain ⟨kk, hkk⟩ : ∃ kk, kd c = kk := ⟨_, rfl⟩
          have HKK := Lib.hid hkk
          have hk3 : (kk != 3) = true := by rw [← hkk]; simpa using hk
          clear hk hkk
          go_wp2_with fail
          generalize w1.setCell ⟨b, 6, none⟩ (.bool true) = w2 at *
          refine (next_more HD.out.1 (HT.out _ HD.out.2) hlt c HC.out (fun w' hb => HT.out _ (HD.out.2.trans hb))).mono ?_
          rw [HKK.out]
          rintro e w3 ⟨rfl, h2, b2⟩
          have HD3 := Lib.hid (HD.out.2.trans b2)
          clear h2 b2
          go_wp2
          simp only [Exit.jumps]
          refine bodyPost_ret (v := .tuple #[.slice none 0 0, .int .i64 2]) ?_ rfl ?_
          · simp [results, Tryd.results36, go_sem]
          rw [HN.out.1, HN.out.2]
          exact ⟨_, rfl, ownLL_nil _ _, HD3.out⟩
    case pt =>
      intro N n a1 w1 Z hn hJ
      obtain ⟨k, p, L, ln, hS, hrun, hnn⟩ := j3 hJ
      have HS := Lib.hid hS
      have hle := hS.le
      obtain ⟨u6, u7, u8, u9, u10, u11, u12, u13, u14, u15, u16, u17, u18, u19, u20, u21, u22, u23, u24, u25, u26, u27, u28, u29, u30, u31, u32, u33, u34, u35, u36, u37, u38, u39, u40, u41, u42, u43, u44, u45, u46, u47, rfl⟩ := hS.slots
      have HR := Lib.hid hrun
      have HSz := Lib.hid (show w.heap.size ≤ w1.heap.size from hS.bel.size)
      have HLL := Lib.hid (show L.length ≤ 10000 by have := hS.len; omega)
      clear hS hJ hrun
      by_cases h4 : k = 4
      · subst h4
        go_wp2_with fail
        go_step3
        exact j4_mk (N := N) ⟨slots_mk, HS.out.rd, HS.out.bel, hle, HS.out.len⟩ (by rw [← HR.out]; rfl) (by simp at hnn; omega)
      · by_cases h5 : k = 5
        · subst h5
          go_wp2_with fail
          refine (endLine_any HS.out.rd HSz.out HLL.out).mono ?_
          rintro e w2 ⟨rfl, h2, b2⟩
          have HD := Lib.hid (And.intro h2 (HS.out.bel.trans b2))
          clear h2 b2
          go_wp2
          go_step3
          exact j0_mk (N := N) ⟨slots_mk, HD.out.1, HD.out.2, hle, Nat.le_trans (addL_len L ln) HS.out.len⟩ (by rw [← HR.out]; rfl) (by simp at hnn; omega)
        · by_cases h6 : k = 6
          · subst h6
            have HE := Lib.hid (err_some hl (show parse bs = some (addL L ln) by rw [← HR.out]; rfl))
            go_wp2_with fail
            refine (endLine_any HS.out.rd HSz.out HLL.out).mono ?_
            rintro e w2 ⟨rfl, ⟨lv, v, vs, h2⟩, b2⟩
            have HD := Lib.hid (And.intro h2 (HS.out.bel.trans b2))
            have c2 := h2.cell 2
            simp only [List.getElem?_cons_zero, List.getElem?_cons_succ] at c2
            clear h2 b2
            go_wp2
            simp only [Exit.jumps]
            refine bodyPost_ret (v := .tuple #[lv, .int .i64 0]) ?_ rfl ?_
            · simp [results, Tryd.results36, go_sem]
            rw [HE.out.1, HE.out.2]
            exact ⟨_, rfl, ⟨_, HD.out.1.all, HD.out.1.each⟩, HD.out.2⟩
          · have HN := Lib.hid (err_none hl (by rw [← HR.out]; unfold restOf; rw [if_neg h4, if_neg h5, if_neg h6]))
            have k4 : (k == 4) = false := by simpa using h4
            have k5 : (k == 5) = false := by simpa using h5
            have k6 : (k == 6) = false := by simpa using h6
            clear h4 h5 h6 hnn
            go_wp2
            simp only [Exit.jumps]
            refine bodyPost_ret (v := .tuple #[.slice none 0 0, .int .i64 2]) ?_ rfl ?_
            · simp [results, Tryd.results36, go_sem]
            rw [HN.out.1, HN.out.2]
            exact ⟨_, rfl, ownLL_nil _ _, HS.out.bel⟩
    case pu =>
      intro N n a1 w1 hn hJ
      obtain ⟨k, p, L, ln, hS, hrun, hnn⟩ := j4 hJ
      have HS := Lib.hid hS
      have hle := hS.le
      obtain ⟨u6, u7, u8, u9, u10, u11, u12, u13, u14, u15, u16, u17, u18, u19, u20, u21, u22, u23, u24, u25, u26, u27, u28, u29, u30, u31, u32, u33, u34, u35, u36, u37, u38, u39, u40, u41, u42, u43, u44, u45, u46, u47, rfl⟩ := hS.slots
      have HR := Lib.hid hrun
      clear hS hJ hrun
      by_cases hpe : p = bs.length
      · go_wp2_with fail
        refine (next_end HS.out.rd (HT.out _ HS.out.bel) hpe).mono ?_
        rintro e w2 ⟨rfl, h2, b2⟩
        have HD := Lib.hid (And.intro h2 (HS.out.bel.trans b2))
        clear h2 b2
        go_wp2
        go_step3
        exact j3_mk (N := N) ⟨slots_mk, HD.out.1, HD.out.2, hle, HS.out.len⟩ (by rw [← HR.out, drop_end _ _ hpe, note_end]) (by simp; omega)
      · have hlt : p < bs.length := by omega
        obtain ⟨c, hc⟩ : ∃ c, bs.getD p 0 = c := ⟨_, rfl⟩
        have HDR := Lib.hid (drop_at bs p hlt c hc)
        have HC := Lib.hid hc
        have HLn := Lib.hid (show L.length + ln.length ≤ p + 1 from Nat.le_succ_of_le HS.out.len)
        clear hc hpe
        by_cases hk : kd c = 5
        · have HK := Lib.hid hk
          clear hk
          go_wp2_with fail
          refine (next_more HS.out.rd (HT.out _ HS.out.bel) hlt c HC.out (fun w' hb => HT.out _ (HS.out.bel.trans hb))).mono ?_
          rw [HK.out]
          rintro e w2 ⟨rfl, h2, b2⟩
          have HD := Lib.hid (And.intro h2 (HS.out.bel.trans b2))
          clear h2 b2
          go_wp2
          go_step3
          exact j3_mk (N := N) ⟨slots_mk, HD.out.1, HD.out.2, hlt, HLn.out⟩ (by rw [← HR.out, HDR.out, note_feed _ _ _ _ HK.out]) (by simp; omega)
        · obtain ⟨kk, hkk⟩ : ∃ kk, kd c = kk := ⟨_, rfl⟩
          have HKK := Lib.hid hkk
          have HK := Lib.hid hk
          have k5 : (kk == 5) = false := by rw [← hkk]; simpa using hk
          have k6 : (kk == 6) = false := by rw [← hkk]; have := kd_k c; simp; omega
          clear hk hkk
          go_wp2_with fail
          refine (next_more HS.out.rd (HT.out _ HS.out.bel) hlt c HC.out (fun w' hb => HT.out _ (HS.out.bel.trans hb))).mono ?_
          rw [HKK.out]
          rintro e w2 ⟨rfl, h2, b2⟩
          have HD := Lib.hid (And.intro h2 (HS.out.bel.trans b2))
          clear h2 b2
          go_wp2
          go_step3
          exact j4_mk (N := N) ⟨slots_mk, HD.out.1, HD.out.2, hlt, HLn.out⟩ (by rw [← HR.out, HDR.out, note_on _ _ _ _ HK.out]) (by omega)
    case pm =>
      intro N n a1 w1 Z hn hJ hZ
      obtain ⟨k, p, L, ln, sz, dg, neg, c, hS, hrun, hnn, hc, hc1, hc2, hsz, hdg, hlen⟩ := j2 hJ
      have HS := Lib.hid hS
      have hle := hS.le
      obtain ⟨u6, u7, u8, u9, u10, u11, u12, u13, u14, u15, u16, u17, u18, u19, u20, u21, u22, u23, u24, u25, u26, u27, u28, u29, u30, u31, u32, u33, u34, u35, u36, u37, u38, u39, u40, u41, u42, u43, u44, u45, u46, u47, rfl⟩ := hS.slots
      have HR := Lib.hid hrun
      have HZ := Lib.hid hZ
      have HC := Lib.hid hc
      have HLn := Lib.hid hlen
      clear hS hJ hrun hZ hc hlen
      by_cases h12 : dg = 12
      · subst h12
        have HN := Lib.hid (err_none hl (show parse bs = none by rw [← HR.out]; simp [take]))
        go_wp2_with fail
        refine (take_full HS.out.rd).mono ?_
        rintro e w2 ⟨rfl, h2, b2⟩
        have HD := Lib.hid (HS.out.bel.trans b2)
        clear h2 b2
        go_wp2
        simp only [Exit.jumps]
        refine bodyPost_ret (v := .tuple #[.slice none 0 0, .int .i64 2]) ?_ rfl ?_
        · simp [results, Tryd.results36, go_sem]
        rw [HN.out.1, HN.out.2]
        exact ⟨_, rfl, ownLL_nil _ _, HD.out⟩
      · have hd12 : dg < 12 := by omega
        have HR2 := Lib.hid (show run ⟨L, ln, 10 * sz + dv c, dg + 1, neg, 2⟩ (bs.drop (p + 1)) = parse bs by rw [← HR.out]; simp [take, h12])
        have HPW := Lib.hid (pow_more (c := c) hsz hc2)
        have HP12 := Lib.hid (pow12 HPW.out hd12)
        have HP0 := Lib.hid (pow12 hsz hdg)
        have HLL := Lib.hid (show ln.length ≤ 10000 by have := HLn.out; omega)
        clear h12 HR
        go_wp2_with fail
        refine (take_more HS.out.rd (HT.out _ HS.out.bel) (by omega) (fun w' hb => HT.out _ (HS.out.bel.trans hb)) hd12 HP0.out c HC.out hc1 hc2).mono ?_
        rintro e w2 ⟨rfl, h2, b2⟩
        have HD := Lib.hid (And.intro h2 (HS.out.bel.trans b2))
        have HSz := Lib.hid (show w.heap.size ≤ w2.heap.size from HD.out.2.size)
        clear h2 b2 hc1 hc2 hsz hdg HC
        generalize 10 * sz + dv c = sz2 at *
        by_cases hpe : p + 1 = bs.length
        · go_wp2_with fail
          refine (next_end HD.out.1 (HT.out _ HD.out.2) hpe).mono ?_
          rintro e w3 ⟨rfl, h3, b3⟩
          have HD3 := Lib.hid (And.intro h3 (HD.out.2.trans b3))
          clear h3 b3
          go_wp2_with fail
          refine (endNumber_any HD3.out.1 HD3.out.2.size HP12.out HLL.out).mono ?_
          rintro e w4 ⟨rfl, h4, b4⟩
          have HD4 := Lib.hid (And.intro h4 (HD3.out.2.trans b4))
          clear h4 b4
          go_wp2
          obtain ⟨n', hlt', hj⟩ := j3_mk (N := N + 1) ⟨slots_mk, HD4.out.1, HD4.out.2, hle, by have := HLn.out; simp; omega⟩ (by rw [← HR2.out, drop_end _ _ hpe, num_end]) (by simp)
          exact HZ.out n' _ _ (by omega) hj
        · have hlt : p + 1 < bs.length := by omega
          obtain ⟨d, hd⟩ : ∃ d, bs.getD (p + 1) 0 = d := ⟨_, rfl⟩
          have HDR := Lib.hid (drop_at bs (p + 1) hlt d hd)
          have HC := Lib.hid hd
          clear hd hpe
          rcases kd_k d with hk | hk | hk | hk | ⟨hd1, hd2, hk⟩ | hk
          all_goals
            have HK := Lib.hid hk
            clear hk
            go_wp2_with fail
            refine (next_more HD.out.1 (HT.out _ HD.out.2) hlt d HC.out (fun w' hb => HT.out _ (HD.out.2.trans hb))).mono ?_
            rw [HK.out]
            rintro e w3 ⟨rfl, h3, b3⟩
            have HD3 := Lib.hid (And.intro h3 (HD.out.2.trans b3))
            clear h3 b3
            go_wp2_with fail
          · refine (endNumber_any HD3.out.1 HD3.out.2.size HP12.out HLL.out).mono ?_
            rintro e w4 ⟨rfl, h4, b4⟩
            have HD4 := Lib.hid (And.intro h4 (HD3.out.2.trans b4))
            clear h4 b4
            go_wp2
            go_step3
            exact j0_mk (N := N) ⟨slots_mk, HD4.out.1, HD4.out.2, hlt, by have := HLn.out; simp; omega⟩ (by rw [← HR2.out, HDR.out, num_space _ _ _ _ _ _ _ HK.out]) (by omega)
          · refine (endNumber_any HD3.out.1 HD3.out.2.size HP12.out HLL.out).mono ?_
            rintro e w4 ⟨rfl, h4, b4⟩
            have HD4 := Lib.hid (And.intro h4 (HD3.out.2.trans b4))
            clear h4 b4
            go_wp2
            obtain ⟨n', hlt', hj⟩ := j3_mk (N := N + 1) ⟨slots_mk, HD4.out.1, HD4.out.2, hlt, by have := HLn.out; simp; omega⟩ (by rw [← HR2.out, HDR.out, num_rest _ _ _ _ _ _ _ (by rw [HK.out]; decide) (by rw [HK.out]; decide), HK.out]) (by simp; try omega)
            exact HZ.out n' _ _ (by omega) hj
          · refine (endNumber_any HD3.out.1 HD3.out.2.size HP12.out HLL.out).mono ?_
            rintro e w4 ⟨rfl, h4, b4⟩
            have HD4 := Lib.hid (And.intro h4 (HD3.out.2.trans b4))
            clear h4 b4
            go_wp2
            obtain ⟨n', hlt', hj⟩ := j3_mk (N := N + 1) ⟨slots_mk, HD4.out.1, HD4.out.2, hlt, by have := HLn.out; simp; omega⟩ (by rw [← HR2.out, HDR.out, num_rest _ _ _ _ _ _ _ (by rw [HK.out]; decide) (by rw [HK.out]; decide), HK.out]) (by simp; try omega)
            exact HZ.out n' _ _ (by omega) hj
          · refine (endNumber_any HD3.out.1 HD3.out.2.size HP12.out HLL.out).mono ?_
            rintro e w4 ⟨rfl, h4, b4⟩
            have HD4 := Lib.hid (And.intro h4 (HD3.out.2.trans b4))
            clear h4 b4
            go_wp2
            obtain ⟨n', hlt', hj⟩ := j3_mk (N := N + 1) ⟨slots_mk, HD4.out.1, HD4.out.2, hlt, by have := HLn.out; simp; omega⟩ (by rw [← HR2.out, HDR.out, num_rest _ _ _ _ _ _ _ (by rw [HK.out]; decide) (by rw [HK.out]; decide), HK.out]) (by simp; try omega)
            exact HZ.out n' _ _ (by omega) hj
          · go_step3
            exact j2_mk (N := N) ⟨slots_mk, HD3.out.1, HD3.out.2, hlt, by have := HLn.out; omega⟩ (by rw [← HR2.out, HDR.out, num_digit _ _ _ _ _ _ _ HK.out]) ⟨HC.out, hd1, hd2, HPW.out, hd12, by have := HLn.out; omega⟩ (by omega)
          · refine (endNumber_any HD3.out.1 HD3.out.2.size HP12.out HLL.out).mono ?_
            rintro e w4 ⟨rfl, h4, b4⟩
            have HD4 := Lib.hid (And.intro h4 (HD3.out.2.trans b4))
            clear h4 b4
            go_wp2
            obtain ⟨n', hlt', hj⟩ := j3_mk (N := N + 1) ⟨slots_mk, HD4.out.1, HD4.out.2, hlt, by have := HLn.out; simp; omega⟩ (by rw [← HR2.out, HDR.out, num_rest _ _ _ _ _ _ _ (by rw [HK.out]; decide) (by rw [HK.out]; decide), HK.out]) (by simp; try omega)
            exact HZ.out n' _ _ (by omega) hj
end Go.Proofs.YtpdeffpmfbplnaaDoor
