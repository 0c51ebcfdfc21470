/- What scan.Lines answers. -/
import Derived.Test.YtgplajofemencaaGreatXRead
import Derived.WalkMore
import Derived.ScopeJumps
import Derived.WalkLawsBesides
import Derived.Lib.SlBytesConst
import Derived.Laws.AppendOwnNone
import Derived.Deep.Slices
import Derived.ChangeSame
import Derived.ShutString
import Derived.ChangeOld
import Derived.Test.YtgplajofemencaaGreatXMath
import Derived.LaidMore
import Derived.Lib.LaidTab
import Derived.Stop.Joined
import Derived.MakeChecks
import Derived.Laws.BytesArg
import Derived.Deep.RegionHeld3
namespace Go.Proofs.YtgplajofemencaaGreat
open Go.ChangeShapes Go.WideShapes Go.ChangeAt Go.RowKit

/-- By a goto to a label: what holds there; else as Q. -/
def Exit.jumps (J : Nat → Act → World → Prop) (Q : Exit → Act → World → Prop) : Exit → Act → World → Prop
  | .goto l, a, w => J l a w
  | e, a, w => Q e a w
/-- A scope with many labels: what holds at each, and a number that every pass lowers. -/
theorem wp_scope_all {P : Program} {c : Code} {a : Act} {w : World} {Q : Exit → Act → World → Prop} (J : Nat → Nat → Act → World → Prop)
    (first : c.wp P (Exit.jumps (fun l a w => ∃ n, J n l a w) Q) a w)
    (pass : ∀ n l a w, J n l a w → ∃ rest, findLabel c l = some rest ∧ rest.wp P (Exit.jumps (fun l' a' w' => ∃ n', n' < n ∧ J n' l' a' w') Q) a w) : (Code.scope c).wp P Q a w := by
  intro b k cs
  have key : ∀ n l a w, J n l a w → ∃ rest, findLabel c l = some rest ∧ ∃ e a' w', Q e a' w' ∧ Arrives P (lone (b.at a (.code rest :: .inScope c :: k)) cs w) b k cs e a' w' := by
    intro n
    induction n using Nat.strongRecOn with
    | _ n ih =>
      intro l a w hJ
      obtain ⟨rest, hf, hp⟩ := pass n l a w hJ
      refine ⟨rest, hf, ?_⟩
      obtain ⟨e, a₁, w₁, hq, harr⟩ := hp b (.inScope c :: k) cs
      cases e with
      | normal => exact ⟨.normal, a₁, w₁, hq, Steps.trans harr (.one step_inScope)⟩
      | exit id => exact ⟨.exit id, a₁, w₁, hq, fun k' hk => harr k' (by simp [exitTo, hk])⟩
      | goto l' =>
        obtain ⟨n', hlt, hJ'⟩ := hq
        obtain ⟨rest', hf', e₂, a₂, w₂, hq₂, harr₂⟩ := ih n' hlt l' a₁ w₁ hJ'
        exact ⟨e₂, a₂, w₂, hq₂, .of_steps (harr _ (by simp [gotoIn, hf'])) harr₂⟩
      | ret => exact ⟨_, a₁, w₁, hq, harr⟩
      | panic ch => exact ⟨_, a₁, w₁, hq, harr⟩
      | outgrown => exact ⟨_, a₁, w₁, hq, harr⟩
  obtain ⟨e, a₁, w₁, hq, harr⟩ := first b (.inScope c :: k) cs
  cases e with
  | normal => exact ⟨.normal, a₁, w₁, hq, .head step_scope (Steps.trans harr (.one step_inScope))⟩
  | exit id => exact ⟨.exit id, a₁, w₁, hq, fun k' hk => .head step_scope (harr k' (by simp [exitTo, hk]))⟩
  | goto l' =>
    obtain ⟨n', hJ'⟩ := hq
    obtain ⟨rest', hf', e₂, a₂, w₂, hq₂, harr₂⟩ := key n' l' a₁ w₁ hJ'
    exact ⟨e₂, a₂, w₂, hq₂, .of_steps (.head step_scope (harr _ (by simp [gotoIn, hf']))) harr₂⟩
  | ret => exact ⟨_, a₁, w₁, hq, .of_steps (.one step_scope) harr⟩
  | panic ch => exact ⟨_, a₁, w₁, hq, .of_steps (.one step_scope) harr⟩
  | outgrown => exact ⟨_, a₁, w₁, hq, .of_steps (.one step_scope) harr⟩

/-- The scope of scan.Lines: five labels, one behind the other. -/
theorem wp_scope_five {P : Program} {X R3 R4 G S1 S2 N1 N2 N3 T1 T2 U : Code} {a : Act} {w : World} {Q : Exit → Act → World → Prop} (J : Nat → Nat → Act → World → Prop)
    (hX : ∀ l, findLabel X l = none) (hR3 : ∀ l, findLabel R3 l = none) (hR4 : ∀ l, findLabel R4 l = none) (hG : ∀ l, findLabel G l = none) (hS1 : ∀ l, findLabel S1 l = none) (hS2 : ∀ l, findLabel S2 l = none)
    (hN1 : ∀ l, findLabel N1 l = none) (hN2 : ∀ l, findLabel N2 l = none) (hN3 : ∀ l, findLabel N3 l = none) (hT1 : ∀ l, findLabel T1 l = none) (hT2 : ∀ l, findLabel T2 l = none)
    (hl : ∀ n l a w, J n l a w → l = 0 ∨ l = 1 ∨ l = 2 ∨ l = 3 ∨ l = 4)
    (x : ∀ Z Q', (∀ e a w, Q e a w → (∀ l, e ≠ .goto l) → Q' e a w) → (∀ n a w, J n 0 a w → Code.wp P Z Q' a w) → Code.wp P (X.seq (R3.seq (R4.seq Z))) Q' a w)
    (g : ∀ N n a w Z, n ≤ N → J n 0 a w → Code.wp P (G.seq ((Code.goto 3).seq Z)) (Exit.jumps (fun l a w => ∃ n', n' < N ∧ J n' l a w) Q) a w)
    (s : ∀ N n a w Z, n ≤ N → J n 1 a w → (∀ n a w, n ≤ N → J n 2 a w → Code.wp P Z (Exit.jumps (fun l a w => ∃ n', n' < N ∧ J n' l a w) Q) a w) → Code.wp P (S1.seq (S2.seq Z)) (Exit.jumps (fun l a w => ∃ n', n' < N ∧ J n' l a w) Q) a w)
    (m : ∀ N n a w Z, n ≤ N → J n 2 a w → (∀ n a w, n ≤ N → J n 3 a w → Code.wp P Z (Exit.jumps (fun l a w => ∃ n', n' < N ∧ J n' l a w) Q) a w) → Code.wp P (N1.seq (N2.seq (N3.seq Z))) (Exit.jumps (fun l a w => ∃ n', n' < N ∧ J n' l a w) Q) a w)
    (t : ∀ N n a w Z, n ≤ N → J n 3 a w → Code.wp P (T1.seq (T2.seq Z)) (Exit.jumps (fun l a w => ∃ n', n' < N ∧ J n' l a w) Q) a w)
    (u : ∀ N n a w, n ≤ N → J n 4 a w → Code.wp P (U.seq (Code.goto 4)) (Exit.jumps (fun l a w => ∃ n', n' < N ∧ J n' l a w) Q) a w) :
    (Code.scope (X.seq (R3.seq (R4.seq ((Code.label 0).seq (G.seq ((Code.goto 3).seq ((Code.label 1).seq (S1.seq (S2.seq ((Code.label 2).seq (N1.seq (N2.seq (N3.seq ((Code.label 3).seq (T1.seq (T2.seq ((Code.label 4).seq (U.seq (Code.goto 4)))))))))))))))))))).wp P Q a w := by
  refine wp_scope_all J ?_ ?_
  · refine x _ _ ?_ ?_
    · intro e a w h hne
      cases e <;> first | exact h | exact (hne _ rfl).elim
    · intro n a w h
      refine wp_seq (wp_label ?_)
      exact Code.wp_mono (fun e a w h => by cases e <;> first | exact h | (obtain ⟨n', _, hj⟩ := h; exact ⟨n', hj⟩)) (g n n a w _ (Nat.le_refl _) h)
  · intro n l a w h
    rcases hl n l a w h with rfl | rfl | rfl | rfl | rfl
    · refine ⟨Code.skip.seq (G.seq _), by simp [findLabel, hX, hR3, hR4]; rfl, wp_seq (wp_skip (g n n a w _ (Nat.le_refl _) h))⟩
    · refine ⟨Code.skip.seq (S1.seq (S2.seq _)), by simp [findLabel, hX, hR3, hR4, hG]; rfl, wp_seq (wp_skip (s n n a w _ (Nat.le_refl _) h ?_))⟩
      intro n2 a2 w2 h2 k2
      refine wp_seq (wp_label (m n n2 a2 w2 _ h2 k2 ?_))
      intro n3 a3 w3 h3 k3
      exact wp_seq (wp_label (t n n3 a3 w3 _ h3 k3))
    · refine ⟨Code.skip.seq (N1.seq (N2.seq (N3.seq _))), by simp [findLabel, hX, hR3, hR4, hG, hS1, hS2]; rfl, wp_seq (wp_skip (m n n a w _ (Nat.le_refl _) h ?_))⟩
      intro n3 a3 w3 h3 k3
      exact wp_seq (wp_label (t n n3 a3 w3 _ h3 k3))
    · exact ⟨Code.skip.seq (T1.seq (T2.seq _)), by simp [findLabel, hX, hR3, hR4, hG, hS1, hS2, hN1, hN2, hN3]; rfl, wp_seq (wp_skip (t n n a w _ (Nat.le_refl _) h))⟩
    · exact ⟨Code.skip.seq (U.seq (Code.goto 4)), by simp [findLabel, hX, hR3, hR4, hG, hS1, hS2, hN1, hN2, hN3, hT1, hT2], wp_seq (wp_skip (u n n a w (Nat.le_refl _) h))⟩

def SlotsAt (tv : Value) (b : Nat) (k : Int) (a : Act) : Prop :=
  ∃ (u6 u7 u8 u9 u10 u11 u12 u13 u14 u15 u16 u17 u18 u19 u20 u21 u22 u23 u24 u25 u26 u27 u28 u29 u30 u31 u32 u33 u34 u35 u36 u37 u38 u39 u40 u41 u42 u43 u44 u45 u46 u47 : Value), a = { tmps := #[tv, undef, .slice none 0 0, .int .i64 0, .pointer (some ⟨b, 0, none⟩), .int .i64 k, u6, u7, u8, u9, u10, u11, u12, u13, u14, u15, u16, u17, u18, u19, u20, u21, u22, u23, u24, u25, u26, u27, u28, u29, u30, u31, u32, u33, u34, u35, u36, u37, u38, u39, u40, u41, u42, u43, u44, u45, u46, u47], defers := [] }
theorem slots_mk {tv : Value} {b : Nat} {k : Int} {u6 u7 u8 u9 u10 u11 u12 u13 u14 u15 u16 u17 u18 u19 u20 u21 u22 u23 u24 u25 u26 u27 u28 u29 u30 u31 u32 u33 u34 u35 u36 u37 u38 u39 u40 u41 u42 u43 u44 u45 u46 u47 : Value} : SlotsAt tv b k { tmps := #[tv, undef, .slice none 0 0, .int .i64 0, .pointer (some ⟨b, 0, none⟩), .int .i64 k, u6, u7, u8, u9, u10, u11, u12, u13, u14, u15, u16, u17, u18, u19, u20, u21, u22, u23, u24, u25, u26, u27, u28, u29, u30, u31, u32, u33, u34, u35, u36, u37, u38, u39, u40, u41, u42, u43, u44, u45, u46, u47], defers := [] } := ⟨u6, u7, u8, u9, u10, u11, u12, u13, u14, u15, u16, u17, u18, u19, u20, u21, u22, u23, u24, u25, u26, u27, u28, u29, u30, u31, u32, u33, u34, u35, u36, u37, u38, u39, u40, u41, u42, u43, u44, u45, u46, u47, rfl⟩
/-- What holds at each label: w0 the world at the call, bs the bytes. -/
structure St (w0 : World) (b : Nat) (tv : Value) (bs : List Int) (k : Int) (p : Nat) (L : List (List Int)) (ln : List Int) (sz dg : Nat) (neg : Bool) (a : Act) (w : World) : Prop where
  slots : SlotsAt tv b k a
  rd : RD w w0.heap.size b tv p L ln sz dg neg
  bel : Below w0.heap.size w0 w
  le : p ≤ bs.length
  len : L.length + ln.length ≤ p
def JAt (w0 : World) (b : Nat) (tv : Value) (bs : List Int) (n l : Nat) (a : Act) (w : World) : Prop :=
  (l = 0 ∧ ∃ k p L ln, St w0 b tv bs k p L ln 0 0 false a w ∧ run (gapM L ln) (bs.drop p) = parse bs ∧ n = 2 * (bs.length - p) + 1) ∨
  (l = 1 ∧ ∃ k p L ln, St w0 b tv bs k p L ln 0 0 false a w ∧ run ⟨L, ln, 0, 0, true, 1⟩ (bs.drop p) = parse bs ∧ n = 2 * (bs.length - p) + 1) ∨
  (l = 2 ∧ ∃ k p L ln sz dg neg c, St w0 b tv bs k (p + 1) L ln sz dg neg a w ∧ (take ⟨L, ln, sz, dg, neg, 0⟩ c).bind (fun m => run m (bs.drop (p + 1))) = parse bs ∧ n = 2 * (bs.length - (p + 1)) + 1 ∧
    bs.getD p 0 = c ∧ 48 ≤ c ∧ c ≤ 57 ∧ sz < 10 ^ dg ∧ dg ≤ 12 ∧ L.length + ln.length ≤ p) ∨
  (l = 3 ∧ ∃ k p L ln, St w0 b tv bs k p L ln 0 0 false a w ∧ restOf L ln k (bs.drop p) = parse bs ∧ n = (if k = 4 ∨ k = 5 then 2 * (bs.length - p) + 2 else 0)) ∨
  (l = 4 ∧ ∃ k p L ln, St w0 b tv bs k p L ln 0 0 false a w ∧ run (noteM L ln) (bs.drop p) = parse bs ∧ n = 2 * (bs.length - p) + 1)
theorem drop_at (bs : List Int) (p : Nat) (h : p < bs.length) (c : Int) (hc : bs.getD p 0 = c) : bs.drop p = c :: bs.drop (p + 1) := by
  rw [List.drop_eq_getElem_cons h]
  congr 1
  rw [← hc, List.getD_eq_getElem?_getD, List.getElem?_eq_getElem h]; rfl
theorem kd_k (c : Int) : kd c = 1 ∨ kd c = 2 ∨ kd c = 4 ∨ kd c = 5 ∨ (48 ≤ c ∧ c ≤ 57 ∧ kd c = 3) ∨ kd c = 0 := by have := kd_cases c; omega
section
variable {w0 : World} {b : Nat} {tv : Value} {bs : List Int} {n : Nat} {a : Act} {w : World}
theorem j0 (h : JAt w0 b tv bs n 0 a w) : ∃ k p L ln, St w0 b tv bs k p L ln 0 0 false a w ∧ run (gapM L ln) (bs.drop p) = parse bs ∧ n = 2 * (bs.length - p) + 1 := by
  rcases h with ⟨_, h⟩ | ⟨h, _⟩ | ⟨h, _⟩ | ⟨h, _⟩ | ⟨h, _⟩ <;> first | exact h | omega
theorem j1 (h : JAt w0 b tv bs n 1 a w) : ∃ k p L ln, St w0 b tv bs k p L ln 0 0 false a w ∧ run ⟨L, ln, 0, 0, true, 1⟩ (bs.drop p) = parse bs ∧ n = 2 * (bs.length - p) + 1 := by
  rcases h with ⟨h, _⟩ | ⟨_, h⟩ | ⟨h, _⟩ | ⟨h, _⟩ | ⟨h, _⟩ <;> first | exact h | omega
theorem j2 (h : JAt w0 b tv bs n 2 a w) : ∃ k p L ln sz dg neg c, St w0 b tv bs k (p + 1) L ln sz dg neg a w ∧ (take ⟨L, ln, sz, dg, neg, 0⟩ c).bind (fun m => run m (bs.drop (p + 1))) = parse bs ∧ n = 2 * (bs.length - (p + 1)) + 1 ∧
    bs.getD p 0 = c ∧ 48 ≤ c ∧ c ≤ 57 ∧ sz < 10 ^ dg ∧ dg ≤ 12 ∧ L.length + ln.length ≤ p := by
  rcases h with ⟨h, _⟩ | ⟨h, _⟩ | ⟨_, h⟩ | ⟨h, _⟩ | ⟨h, _⟩ <;> first | exact h | omega
theorem j3 (h : JAt w0 b tv bs n 3 a w) : ∃ k p L ln, St w0 b tv bs k p L ln 0 0 false a w ∧ restOf L ln k (bs.drop p) = parse bs ∧ n = (if k = 4 ∨ k = 5 then 2 * (bs.length - p) + 2 else 0) := by
  rcases h with ⟨h, _⟩ | ⟨h, _⟩ | ⟨h, _⟩ | ⟨_, h⟩ | ⟨h, _⟩ <;> first | exact h | omega
theorem j4 (h : JAt w0 b tv bs n 4 a w) : ∃ k p L ln, St w0 b tv bs k p L ln 0 0 false a w ∧ run (noteM L ln) (bs.drop p) = parse bs ∧ n = 2 * (bs.length - p) + 1 := by
  rcases h with ⟨h, _⟩ | ⟨h, _⟩ | ⟨h, _⟩ | ⟨h, _⟩ | ⟨_, h⟩ <;> first | exact h | omega
variable {k : Int} {p : Nat} {L : List (List Int)} {ln : List Int} {sz dg : Nat} {neg : Bool} {N : Nat}
theorem j0_mk (h : St w0 b tv bs k p L ln 0 0 false a w) (hr : run (gapM L ln) (bs.drop p) = parse bs) (hn : 2 * (bs.length - p) + 1 < N) : ∃ n', n' < N ∧ JAt w0 b tv bs n' 0 a w :=
  ⟨_, hn, .inl ⟨rfl, _, _, _, _, h, hr, rfl⟩⟩
theorem j1_mk (h : St w0 b tv bs k p L ln 0 0 false a w) (hr : run ⟨L, ln, 0, 0, true, 1⟩ (bs.drop p) = parse bs) (hn : 2 * (bs.length - p) + 1 < N) : ∃ n', n' < N ∧ JAt w0 b tv bs n' 1 a w :=
  ⟨_, hn, .inr (.inl ⟨rfl, _, _, _, _, h, hr, rfl⟩)⟩
theorem j2_mk {c : Int} (h : St w0 b tv bs k (p + 1) L ln sz dg neg a w) (hr : (take ⟨L, ln, sz, dg, neg, 0⟩ c).bind (fun m => run m (bs.drop (p + 1))) = parse bs)
    (hc : bs.getD p 0 = c ∧ 48 ≤ c ∧ c ≤ 57 ∧ sz < 10 ^ dg ∧ dg ≤ 12 ∧ L.length + ln.length ≤ p) (hn : 2 * (bs.length - (p + 1)) + 1 < N) : ∃ n', n' < N ∧ JAt w0 b tv bs n' 2 a w :=
  ⟨_, hn, .inr (.inr (.inl ⟨rfl, _, _, _, _, _, _, _, _, h, hr, rfl, hc⟩))⟩
theorem j3_mk (h : St w0 b tv bs k p L ln 0 0 false a w) (hr : restOf L ln k (bs.drop p) = parse bs) (hn : (if k = 4 ∨ k = 5 then 2 * (bs.length - p) + 2 else 0) < N) : ∃ n', n' < N ∧ JAt w0 b tv bs n' 3 a w :=
  ⟨_, hn, .inr (.inr (.inr (.inl ⟨rfl, _, _, _, _, h, hr, rfl⟩)))⟩
theorem j4_mk (h : St w0 b tv bs k p L ln 0 0 false a w) (hr : run (noteM L ln) (bs.drop p) = parse bs) (hn : 2 * (bs.length - p) + 1 < N) : ∃ n', n' < N ∧ JAt w0 b tv bs n' 4 a w :=
  ⟨_, hn, .inr (.inr (.inr (.inr ⟨rfl, _, _, _, _, h, hr, rfl⟩)))⟩
end
theorem addL_len (L : List (List Int)) (ln : List Int) : (addL L ln).length + ([] : List Int).length ≤ L.length + ln.length := by
  unfold addL
  split
  · simp
  · have := List.length_pos_iff.2 (by assumption : ln ≠ [])
    simp; omega
theorem drop_end (bs : List Int) (p : Nat) (h : p = bs.length) : bs.drop p = [] := by rw [h]; simp
theorem err_none {bs : List Int} (hl : ¬ 4096 < bs.length) (h : parse bs = none) : errOf bs = 2 ∧ resOf bs = [] := by simp [errOf, resOf, hl, h]
theorem err_some {bs : List Int} {L : List (List Int)} (hl : ¬ 4096 < bs.length) (h : parse bs = some L) : errOf bs = 0 ∧ resOf bs = L := by simp [errOf, resOf, hl, h]
theorem pow12 {sz dg : Nat} (h : sz < 10 ^ dg) (hd : dg ≤ 12) : sz ≤ 1000000000000 := by
  have : 10 ^ dg ≤ 10 ^ 12 := Nat.pow_le_pow_right (by decide) hd
  omega
theorem pow_more {sz dg : Nat} {c : Int} (h : sz < 10 ^ dg) (h1 : c ≤ 57) : 10 * sz + dv c < 10 ^ (dg + 1) := by
  rw [Nat.pow_succ]; unfold dv; omega

set_option maxRecDepth 1000000 in
set_option maxHeartbeats 4000000 in
theorem lines_any {w : World} {tv : Value} {bs : List Int} (h : Row w tv (byts bs)) :
    Calls Tryz.prog 36 #[tv] w fun e w' => ∃ v, e = .returned (.tuple #[v, .int .i64 (errOf bs)]) ∧ OwnLL w' w.heap.size v (resOf bs) ∧ Below w.heap.size w w' := by
  have H := Lib.hid h
  obtain ⟨hm, a, cap, rfl, _, _, h3⟩ := h
  rw [byts_len] at *
  clear h3
  by_cases hl : 4096 < bs.length
  · have hd : decide ((4096 : Int) < (bs.length : Int)) = true := decide_eq_true (by omega)
    have HE := Lib.hid (show errOf bs = 6 ∧ resOf bs = [] by simp [errOf, resOf, hl])
    go_enter Tryz.func36, Tryz.ntmps36
    go_wp2_with fail
    refine wp_scope_straight ?_
    go_wp2
    simp only [Exit.noGoto]
    refine bodyPost_ret (v := .tuple #[.slice none 0 0, .int .i64 6]) ?_ rfl ?_
    · simp [results, Tryz.results36, go_sem]
    rw [HE.out.1, HE.out.2]
    exact ⟨_, rfl, ownLL_nil _ _, Below.refl _ _⟩
  · have hd : decide ((4096 : Int) < (bs.length : Int)) = false := decide_eq_false (by omega)
    have HT := Lib.hid (fun w' (hb : Below w.heap.size w w') => H.out.below hb)
    obtain ⟨b, hb⟩ : ∃ b, w.heap.size = b := ⟨_, rfl⟩
    have HBB := Lib.hid hb
    clear hb
    go_enter Tryz.func36, Tryz.ntmps36
    go_wp2_with fail
    refine wp_scope_five (JAt w b (.slice a bs.length cap) bs) (fun _ => rfl) (fun _ => rfl) (fun _ => rfl) (fun _ => rfl) (fun _ => rfl) (fun _ => rfl) (fun _ => rfl) (fun _ => rfl) (fun _ => rfl) (fun _ => rfl) (fun _ => rfl)
      (by rintro n l a w (⟨h, _⟩ | ⟨h, _⟩ | ⟨h, _⟩ | ⟨h, _⟩ | ⟨h, _⟩) <;> simp [h]) ?px ?pg ?ps ?pm ?pt ?pu
    case px =>
      intro Z Q' hQ hZ
      have HZ := Lib.hid hZ
      clear hZ hQ
      go_wp2_with fail
      have hnew := heap_alloc_new w (.cells #[.slice a bs.length cap, .int .i64 0, .slice none 0 0, .slice none 0 0, .int .i64 0, .int .i64 0, .bool false] 100)
      have hRA : RAt (w.alloc (.cells #[.slice a bs.length cap, .int .i64 0, .slice none 0 0, .slice none 0 0, .int .i64 0, .int .i64 0, .bool false] 100)) w.heap.size w.heap.size (.slice a bs.length cap) 0 [] [] 0 0 false (.slice none 0 0) (.slice none 0 0) [] :=
        ⟨Nat.le_refl _, hnew, World.ownsRow_nil _ _ _ _, trivial, World.ownsRow_nil _ _ _ _, fun _ h => by simp at h⟩
      obtain rfl := HBB.out
      refine HZ.out (2 * (bs.length - 0) + 1) _ _ (.inl ⟨rfl, _, _, _, _, ⟨slots_mk, ⟨_, _, _, hRA⟩, (Below.refl _ _).alloc (Nat.le_refl _) _, Nat.zero_le _, Nat.le_refl _⟩, rfl, rfl⟩)
    case pg =>
      intro N n a1 w1 Z hn hJ
      obtain ⟨k, p, L, ln, hS, hrun, hnn⟩ := j0 hJ
      have HS := Lib.hid hS
      have hle := hS.le
      obtain ⟨u6, u7, u8, u9, u10, u11, u12, u13, u14, u15, u16, u17, u18, u19, u20, u21, u22, u23, u24, u25, u26, u27, u28, u29, u30, u31, u32, u33, u34, u35, u36, u37, u38, u39, u40, u41, u42, u43, u44, u45, u46, u47, rfl⟩ := hS.slots
      have HR := Lib.hid hrun
      clear hS hJ hrun
      by_cases hpe : p = bs.length
      · go_wp2_with fail
        refine (next_end HS.out.rd (HT.out _ HS.out.bel) hpe).mono ?_
        rintro e w2 ⟨rfl, h2, b2⟩
        have HD := Lib.hid (And.intro h2 (HS.out.bel.trans b2))
        clear h2 b2
        go_wp2
        go_step3
        exact j3_mk (N := N) ⟨slots_mk, HD.out.1, HD.out.2, hle, HS.out.len⟩ (by rw [← HR.out, drop_end _ _ hpe, gap_end]) (by simp; omega)
      · have hlt : p < bs.length := by omega
        obtain ⟨c, hc⟩ : ∃ c, bs.getD p 0 = c := ⟨_, rfl⟩
        have HDR := Lib.hid (drop_at bs p hlt c hc)
        have HC := Lib.hid hc
        have HLn := Lib.hid (show L.length + ln.length ≤ p + 1 from Nat.le_succ_of_le HS.out.len)
        clear hc hpe
        rcases kd_k c with hk | hk | hk | hk | ⟨hd1, hd2, hk⟩ | hk
        all_goals
          have HK := Lib.hid hk
          clear hk
          go_wp2_with fail
          refine (next_more HS.out.rd (HT.out _ HS.out.bel) hlt c HC.out (fun w' hb => HT.out _ (HS.out.bel.trans hb))).mono ?_
          rw [HK.out]
          rintro e w2 ⟨rfl, h2, b2⟩
          have HD := Lib.hid (And.intro h2 (HS.out.bel.trans b2))
          clear h2 b2
          go_wp2
        · go_step3
          exact j0_mk (N := N) ⟨slots_mk, HD.out.1, HD.out.2, hlt, HLn.out⟩ (by rw [← HR.out, HDR.out, gap_space _ _ _ _ HK.out]) (by omega)
        · go_step3
          exact j1_mk (N := N) ⟨slots_mk, HD.out.1, HD.out.2, hlt, HLn.out⟩ (by rw [← HR.out, HDR.out, gap_minus _ _ _ _ HK.out]) (by omega)
        · go_step3
          exact j3_mk (N := N) ⟨slots_mk, HD.out.1, HD.out.2, hlt, HLn.out⟩ (by rw [← HR.out, HDR.out, gap_rest _ _ _ _ (by rw [HK.out]; decide) (by rw [HK.out]; decide) (by rw [HK.out]; decide), HK.out]) (by simp; omega)
        · go_step3
          exact j3_mk (N := N) ⟨slots_mk, HD.out.1, HD.out.2, hlt, HLn.out⟩ (by rw [← HR.out, HDR.out, gap_rest _ _ _ _ (by rw [HK.out]; decide) (by rw [HK.out]; decide) (by rw [HK.out]; decide), HK.out]) (by simp; omega)
        · go_step3
          exact j2_mk (N := N) ⟨slots_mk, HD.out.1, HD.out.2, hlt, HLn.out⟩ (by rw [← HR.out, HDR.out, gap_digit _ _ _ _ HK.out]) ⟨HC.out, hd1, hd2, by simp, by simp, HS.out.len⟩ (by omega)
        · go_step3
          exact j3_mk (N := N) ⟨slots_mk, HD.out.1, HD.out.2, hlt, HLn.out⟩ (by rw [← HR.out, HDR.out, gap_rest _ _ _ _ (by rw [HK.out]; decide) (by rw [HK.out]; decide) (by rw [HK.out]; decide), HK.out]) (by simp; omega)
    case ps =>
      intro N n a1 w1 Z hn hJ hZ
      obtain ⟨k, p, L, ln, hS, hrun, hnn⟩ := j1 hJ
      have HS := Lib.hid hS
      have hle := hS.le
      obtain ⟨u6, u7, u8, u9, u10, u11, u12, u13, u14, u15, u16, u17, u18, u19, u20, u21, u22, u23, u24, u25, u26, u27, u28, u29, u30, u31, u32, u33, u34, u35, u36, u37, u38, u39, u40, u41, u42, u43, u44, u45, u46, u47, rfl⟩ := hS.slots
      have HR := Lib.hid hrun
      have HZ := Lib.hid hZ
      obtain ⟨lv, v, vs, hRA⟩ := hS.rd
      have c6 := hRA.cell 6
      have f6 := hRA.free 6
      have hbl := hRA.lt
      simp only [List.getElem?_cons_zero, List.getElem?_cons_succ] at c6
      obtain ⟨r2, b2⟩ := hRA.setNeg true
      have HD := Lib.hid (show RD (w1.setCell ⟨b, 6, none⟩ (.bool true)) w.heap.size b (.slice a bs.length cap) p L ln 0 0 true ∧ Below w.heap.size w (w1.setCell ⟨b, 6, none⟩ (.bool true)) from ⟨⟨_, _, _, r2⟩, hS.bel.trans b2⟩)
      clear hS hJ hrun hZ r2 b2 hRA
      by_cases hpe : p = bs.length
      · have HN := Lib.hid (err_none hl (by rw [← HR.out, drop_end _ _ hpe, sign_end]))
        go_wp2_with fail
        generalize w1.setCell ⟨b, 6, none⟩ (.bool true) = w2 at *
        refine (next_end HD.out.1 (HT.out _ HD.out.2) hpe).mono ?_
        rintro e w3 ⟨rfl, h2, b2⟩
        have HD3 := Lib.hid (HD.out.2.trans b2)
        clear h2 b2
        go_wp2
        simp only [Exit.jumps]
        refine bodyPost_ret (v := .tuple #[.slice none 0 0, .int .i64 2]) ?_ rfl ?_
        · simp [results, Tryz.results36, go_sem]
        rw [HN.out.1, HN.out.2]
        exact ⟨_, rfl, ownLL_nil _ _, HD3.out⟩
      · have hlt : p < bs.length := by omega
        obtain ⟨c, hc⟩ : ∃ c, bs.getD p 0 = c := ⟨_, rfl⟩
        have HDR := Lib.hid (drop_at bs p hlt c hc)
        have HC := Lib.hid hc
        clear hc hpe
        by_cases hk : kd c = 3
        · have HK := Lib.hid hk
          have HCC := Lib.hid (show 48 ≤ c ∧ c ≤ 57 by have := kd_cases c; omega)
          clear hk
          go_wp2_with fail
          generalize w1.setCell ⟨b, 6, none⟩ (.bool true) = w2 at *
          refine (next_more HD.out.1 (HT.out _ HD.out.2) hlt c HC.out (fun w' hb => HT.out _ (HD.out.2.trans hb))).mono ?_
          rw [HK.out]
          rintro e w3 ⟨rfl, h2, b2⟩
          have HD3 := Lib.hid (And.intro h2 (HD.out.2.trans b2))
          clear h2 b2
          go_wp2
          obtain ⟨n', hlt', hj⟩ := j2_mk (N := N + 1) ⟨slots_mk, HD3.out.1, HD3.out.2, hlt, Nat.le_succ_of_le HS.out.len⟩ (by rw [← HR.out, HDR.out, sign_digit _ _ _ _ HK.out]) ⟨HC.out, HCC.out.1, HCC.out.2, by simp, by simp, HS.out.len⟩ (by omega)
          exact HZ.out n' _ _ (by omega) hj
        · have HN := Lib.hid (err_none hl (by rw [← HR.out, HDR.out, sign_bad _ _ _ _ hk]))
          obtain ⟨kk, hkk⟩ : ∃ kk, kd c = kk := ⟨_, rfl⟩
          have HKK := Lib.hid hkk
          have hk3 : (kk != 3) = true := by rw [← hkk]; simpa using hk
          clear hk hkk
          go_wp2_with fail
          generalize w1.setCell ⟨b, 6, none⟩ (.bool true) = w2 at *
          refine (next_more HD.out.1 (HT.out _ HD.out.2) hlt c HC.out (fun w' hb => HT.out _ (HD.out.2.trans hb))).mono ?_
          rw [HKK.out]
          rintro e w3 ⟨rfl, h2, b2⟩
          have HD3 := Lib.hid (HD.out.2.trans b2)
          clear h2 b2
          go_wp2
          simp only [Exit.jumps]
          refine bodyPost_ret (v := .tuple #[.slice none 0 0, .int .i64 2]) ?_ rfl ?_
          · simp [results, Tryz.results36, go_sem]
          rw [HN.out.1, HN.out.2]
          exact ⟨_, rfl, ownLL_nil _ _, HD3.out⟩
    case pt =>
      intro N n a1 w1 Z hn hJ
      obtain ⟨k, p, L, ln, hS, hrun, hnn⟩ := j3 hJ
      have HS := Lib.hid hS
      have hle := hS.le
      obtain ⟨u6, u7, u8, u9, u10, u11, u12, u13, u14, u15, u16, u17, u18, u19, u20, u21, u22, u23, u24, u25, u26, u27, u28, u29, u30, u31, u32, u33, u34, u35, u36, u37, u38, u39, u40, u41, u42, u43, u44, u45, u46, u47, rfl⟩ := hS.slots
      have HR := Lib.hid hrun
      have HSz := Lib.hid (show w.heap.size ≤ w1.heap.size from hS.bel.size)
      have HLL := Lib.hid (show L.length ≤ 10000 by have := hS.len; omega)
      clear hS hJ hrun
      by_cases h4 : k = 4
      · subst h4
        go_wp2_with fail
        go_step3
        exact j4_mk (N := N) ⟨slots_mk, HS.out.rd, HS.out.bel, hle, HS.out.len⟩ (by rw [← HR.out]; rfl) (by simp at hnn; omega)
      · by_cases h5 : k = 5
        · subst h5
          go_wp2_with fail
          refine (endLine_any HS.out.rd HSz.out HLL.out).mono ?_
          rintro e w2 ⟨rfl, h2, b2⟩
          have HD := Lib.hid (And.intro h2 (HS.out.bel.trans b2))
          clear h2 b2
          go_wp2
          go_step3
          exact j0_mk (N := N) ⟨slots_mk, HD.out.1, HD.out.2, hle, Nat.le_trans (addL_len L ln) HS.out.len⟩ (by rw [← HR.out]; rfl) (by simp at hnn; omega)
        · by_cases h6 : k = 6
          · subst h6
            have HE := Lib.hid (err_some hl (show parse bs = some (addL L ln) by rw [← HR.out]; rfl))
            go_wp2_with fail
            refine (endLine_any HS.out.rd HSz.out HLL.out).mono ?_
            rintro e w2 ⟨rfl, ⟨lv, v, vs, h2⟩, b2⟩
            have HD := Lib.hid (And.intro h2 (HS.out.bel.trans b2))
            have c2 := h2.cell 2
            simp only [List.getElem?_cons_zero, List.getElem?_cons_succ] at c2
            clear h2 b2
            go_wp2
            simp only [Exit.jumps]
            refine bodyPost_ret (v := .tuple #[lv, .int .i64 0]) ?_ rfl ?_
            · simp [results, Tryz.results36, go_sem]
            rw [HE.out.1, HE.out.2]
            exact ⟨_, rfl, ⟨_, HD.out.1.all, HD.out.1.each⟩, HD.out.2⟩
          · have HN := Lib.hid (err_none hl (by rw [← HR.out]; unfold restOf; rw [if_neg h4, if_neg h5, if_neg h6]))
            have k4 : (k == 4) = false := by simpa using h4
            have k5 : (k == 5) = false := by simpa using h5
            have k6 : (k == 6) = false := by simpa using h6
            clear h4 h5 h6 hnn
            go_wp2
            simp only [Exit.jumps]
            refine bodyPost_ret (v := .tuple #[.slice none 0 0, .int .i64 2]) ?_ rfl ?_
            · simp [results, Tryz.results36, go_sem]
            rw [HN.out.1, HN.out.2]
            exact ⟨_, rfl, ownLL_nil _ _, HS.out.bel⟩
    case pu =>
      intro N n a1 w1 hn hJ
      obtain ⟨k, p, L, ln, hS, hrun, hnn⟩ := j4 hJ
      have HS := Lib.hid hS
      have hle := hS.le
      obtain ⟨u6, u7, u8, u9, u10, u11, u12, u13, u14, u15, u16, u17, u18, u19, u20, u21, u22, u23, u24, u25, u26, u27, u28, u29, u30, u31, u32, u33, u34, u35, u36, u37, u38, u39, u40, u41, u42, u43, u44, u45, u46, u47, rfl⟩ := hS.slots
      have HR := Lib.hid hrun
      clear hS hJ hrun
      by_cases hpe : p = bs.length
      · go_wp2_with fail
        refine (next_end HS.out.rd (HT.out _ HS.out.bel) hpe).mono ?_
        rintro e w2 ⟨rfl, h2, b2⟩
        have HD := Lib.hid (And.intro h2 (HS.out.bel.trans b2))
        clear h2 b2
        go_wp2
        go_step3
        exact j3_mk (N := N) ⟨slots_mk, HD.out.1, HD.out.2, hle, HS.out.len⟩ (by rw [← HR.out, drop_end _ _ hpe, note_end]) (by simp; omega)
      · have hlt : p < bs.length := by omega
        obtain ⟨c, hc⟩ : ∃ c, bs.getD p 0 = c := ⟨_, rfl⟩
        have HDR := Lib.hid (drop_at bs p hlt c hc)
        have HC := Lib.hid hc
        have HLn := Lib.hid (show L.length + ln.length ≤ p + 1 from Nat.le_succ_of_le HS.out.len)
        clear hc hpe
        by_cases hk : kd c = 5
        · have HK := Lib.hid hk
          clear hk
          go_wp2_with fail
          refine (next_more HS.out.rd (HT.out _ HS.out.bel) hlt c HC.out (fun w' hb => HT.out _ (HS.out.bel.trans hb))).mono ?_
          rw [HK.out]
          rintro e w2 ⟨rfl, h2, b2⟩
          have HD := Lib.hid (And.intro h2 (HS.out.bel.trans b2))
          clear h2 b2
          go_wp2
          go_step3
          exact j3_mk (N := N) ⟨slots_mk, HD.out.1, HD.out.2, hlt, HLn.out⟩ (by rw [← HR.out, HDR.out, note_feed _ _ _ _ HK.out]) (by simp; omega)
        · obtain ⟨kk, hkk⟩ : ∃ kk, kd c = kk := ⟨_, rfl⟩
          have HKK := Lib.hid hkk
          have HK := Lib.hid hk
          have k5 : (kk == 5) = false := by rw [← hkk]; simpa using hk
          have k6 : (kk == 6) = false := by rw [← hkk]; have := kd_k c; simp; omega
          clear hk hkk
          go_wp2_with fail
          refine (next_more HS.out.rd (HT.out _ HS.out.bel) hlt c HC.out (fun w' hb => HT.out _ (HS.out.bel.trans hb))).mono ?_
          rw [HKK.out]
          rintro e w2 ⟨rfl, h2, b2⟩
          have HD := Lib.hid (And.intro h2 (HS.out.bel.trans b2))
          clear h2 b2
          go_wp2
          go_step3
          exact j4_mk (N := N) ⟨slots_mk, HD.out.1, HD.out.2, hlt, HLn.out⟩ (by rw [← HR.out, HDR.out, note_on _ _ _ _ HK.out]) (by omega)
    case pm =>
      intro N n a1 w1 Z hn hJ hZ
      obtain ⟨k, p, L, ln, sz, dg, neg, c, hS, hrun, hnn, hc, hc1, hc2, hsz, hdg, hlen⟩ := j2 hJ
      have HS := Lib.hid hS
      have hle := hS.le
      obtain ⟨u6, u7, u8, u9, u10, u11, u12, u13, u14, u15, u16, u17, u18, u19, u20, u21, u22, u23, u24, u25, u26, u27, u28, u29, u30, u31, u32, u33, u34, u35, u36, u37, u38, u39, u40, u41, u42, u43, u44, u45, u46, u47, rfl⟩ := hS.slots
      have HR := Lib.hid hrun
      have HZ := Lib.hid hZ
      have HC := Lib.hid hc
      have HLn := Lib.hid hlen
      clear hS hJ hrun hZ hc hlen
      by_cases h12 : dg = 12
      · subst h12
        have HN := Lib.hid (err_none hl (show parse bs = none by rw [← HR.out]; simp [take]))
        go_wp2_with fail
        refine (take_full HS.out.rd).mono ?_
        rintro e w2 ⟨rfl, h2, b2⟩
        have HD := Lib.hid (HS.out.bel.trans b2)
        clear h2 b2
        go_wp2
        simp only [Exit.jumps]
        refine bodyPost_ret (v := .tuple #[.slice none 0 0, .int .i64 2]) ?_ rfl ?_
        · simp [results, Tryz.results36, go_sem]
        rw [HN.out.1, HN.out.2]
        exact ⟨_, rfl, ownLL_nil _ _, HD.out⟩
      · have hd12 : dg < 12 := by omega
        have HR2 := Lib.hid (show run ⟨L, ln, 10 * sz + dv c, dg + 1, neg, 2⟩ (bs.drop (p + 1)) = parse bs by rw [← HR.out]; simp [take, h12])
        have HPW := Lib.hid (pow_more (c := c) hsz hc2)
        have HP12 := Lib.hid (pow12 HPW.out hd12)
        have HP0 := Lib.hid (pow12 hsz hdg)
        have HLL := Lib.hid (show ln.length ≤ 10000 by have := HLn.out; omega)
        clear h12 HR
        go_wp2_with fail
        refine (take_more HS.out.rd (HT.out _ HS.out.bel) (by omega) (fun w' hb => HT.out _ (HS.out.bel.trans hb)) hd12 HP0.out c HC.out hc1 hc2).mono ?_
        rintro e w2 ⟨rfl, h2, b2⟩
        have HD := Lib.hid (And.intro h2 (HS.out.bel.trans b2))
        have HSz := Lib.hid (show w.heap.size ≤ w2.heap.size from HD.out.2.size)
        clear h2 b2 hc1 hc2 hsz hdg HC
        generalize 10 * sz + dv c = sz2 at *
        by_cases hpe : p + 1 = bs.length
        · go_wp2_with fail
          refine (next_end HD.out.1 (HT.out _ HD.out.2) hpe).mono ?_
          rintro e w3 ⟨rfl, h3, b3⟩
          have HD3 := Lib.hid (And.intro h3 (HD.out.2.trans b3))
          clear h3 b3
          go_wp2_with fail
          refine (endNumber_any HD3.out.1 HD3.out.2.size HP12.out HLL.out).mono ?_
          rintro e w4 ⟨rfl, h4, b4⟩
          have HD4 := Lib.hid (And.intro h4 (HD3.out.2.trans b4))
          clear h4 b4
          go_wp2
          obtain ⟨n', hlt', hj⟩ := j3_mk (N := N + 1) ⟨slots_mk, HD4.out.1, HD4.out.2, hle, by have := HLn.out; simp; omega⟩ (by rw [← HR2.out, drop_end _ _ hpe, num_end]) (by simp)
          exact HZ.out n' _ _ (by omega) hj
        · have hlt : p + 1 < bs.length := by omega
          obtain ⟨d, hd⟩ : ∃ d, bs.getD (p + 1) 0 = d := ⟨_, rfl⟩
          have HDR := Lib.hid (drop_at bs (p + 1) hlt d hd)
          have HC := Lib.hid hd
          clear hd hpe
          rcases kd_k d with hk | hk | hk | hk | ⟨hd1, hd2, hk⟩ | hk
          all_goals
            have HK := Lib.hid hk
            clear hk
            go_wp2_with fail
            refine (next_more HD.out.1 (HT.out _ HD.out.2) hlt d HC.out (fun w' hb => HT.out _ (HD.out.2.trans hb))).mono ?_
            rw [HK.out]
            rintro e w3 ⟨rfl, h3, b3⟩
            have HD3 := Lib.hid (And.intro h3 (HD.out.2.trans b3))
            clear h3 b3
            go_wp2_with fail
          · refine (endNumber_any HD3.out.1 HD3.out.2.size HP12.out HLL.out).mono ?_
            rintro e w4 ⟨rfl, h4, b4⟩
            have HD4 := Lib.hid (And.intro h4 (HD3.out.2.trans b4))
            clear h4 b4
            go_wp2
            go_step3
            exact j0_mk (N := N) ⟨slots_mk, HD4.out.1, HD4.out.2, hlt, by have := HLn.out; simp; omega⟩ (by rw [← HR2.out, HDR.out, num_space _ _ _ _ _ _ _ HK.out]) (by omega)
          · refine (endNumber_any HD3.out.1 HD3.out.2.size HP12.out HLL.out).mono ?_
            rintro e w4 ⟨rfl, h4, b4⟩
            have HD4 := Lib.hid (And.intro h4 (HD3.out.2.trans b4))
            clear h4 b4
            go_wp2
            obtain ⟨n', hlt', hj⟩ := j3_mk (N := N + 1) ⟨slots_mk, HD4.out.1, HD4.out.2, hlt, by have := HLn.out; simp; omega⟩ (by rw [← HR2.out, HDR.out, num_rest _ _ _ _ _ _ _ (by rw [HK.out]; decide) (by rw [HK.out]; decide), HK.out]) (by simp; try omega)
            exact HZ.out n' _ _ (by omega) hj
          · refine (endNumber_any HD3.out.1 HD3.out.2.size HP12.out HLL.out).mono ?_
            rintro e w4 ⟨rfl, h4, b4⟩
            have HD4 := Lib.hid (And.intro h4 (HD3.out.2.trans b4))
            clear h4 b4
            go_wp2
            obtain ⟨n', hlt', hj⟩ := j3_mk (N := N + 1) ⟨slots_mk, HD4.out.1, HD4.out.2, hlt, by have := HLn.out; simp; omega⟩ (by rw [← HR2.out, HDR.out, num_rest _ _ _ _ _ _ _ (by rw [HK.out]; decide) (by rw [HK.out]; decide), HK.out]) (by simp; try omega)
            exact HZ.out n' _ _ (by omega) hj
          · refine (endNumber_any HD3.out.1 HD3.out.2.size HP12.out HLL.out).mono ?_
            rintro e w4 ⟨rfl, h4, b4⟩
            have HD4 := Lib.hid (And.intro h4 (HD3.out.2.trans b4))
            clear h4 b4
            go_wp2
            obtain ⟨n', hlt', hj⟩ := j3_mk (N := N + 1) ⟨slots_mk, HD4.out.1, HD4.out.2, hlt, by have := HLn.out; simp; omega⟩ (by rw [← HR2.out, HDR.out, num_rest _ _ _ _ _ _ _ (by rw [HK.out]; decide) (by rw [HK.out]; decide), HK.out]) (by simp; try omega)
            exact HZ.out n' _ _ (by omega) hj
          · go_step3
            exact j2_mk (N := N) ⟨slots_mk, HD3.out.1, HD3.out.2, hlt, by have := HLn.out; omega⟩ (by rw [← HR2.out, HDR.out, num_digit _ _ _ _ _ _ _ HK.out]) ⟨HC.out, hd1, hd2, HPW.out, hd12, by have := HLn.out; omega⟩ (by omega)
          · refine (endNumber_any HD3.out.1 HD3.out.2.size HP12.out HLL.out).mono ?_
            rintro e w4 ⟨rfl, h4, b4⟩
            have HD4 := Lib.hid (And.intro h4 (HD3.out.2.trans b4))
            clear h4 b4
            go_wp2
            obtain ⟨n', hlt', hj⟩ := j3_mk (N := N + 1) ⟨slots_mk, HD4.out.1, HD4.out.2, hlt, by have := HLn.out; simp; omega⟩ (by rw [← HR2.out, HDR.out, num_rest _ _ _ _ _ _ _ (by rw [HK.out]; decide) (by rw [HK.out]; decide), HK.out]) (by simp; try omega)
            exact HZ.out n' _ _ (by omega) hj
end Go.Proofs.YtgplajofemencaaGreat
/- Whether two lists of lines are the same; the chapter's example. -/
namespace Go.Proofs.YtgplajofemencaaGreat
open Go.ChangeShapes Go.WideShapes Go.ChangeAt Go.RowKit

theorem row_cell {w : World} {a : Option Addr} {n cap : Nat} {xs : List Value} (h : Row w (.slice a n cap) xs) (p : Nat) (hp : p < xs.length) : ∃ tb off, a = some ⟨tb, off, none⟩ ∧ w.cell? ⟨tb, off + p, none⟩ = xs[p]? ∧ tb < w.heap.size := by
  obtain ⟨tb, off, cap', he, hc, _, hlt⟩ := row_at h hp
  simp at he
  exact ⟨tb, off, he.1, hc, hlt⟩
theorem Row.form {w : World} {v : Value} {xs : List Value} (h : Row w v xs) : ∃ a cap, v = .slice a xs.length cap ∧ xs.length ≤ maxLen := by
  obtain ⟨hm, a, cap, rfl, _⟩ := h
  exact ⟨a, cap, rfl, hm⟩
theorem IsLL.form {w : World} {v : Value} {L : List (List Int)} (h : IsLL w v L) : ∃ a cap, v = .slice a L.length cap ∧ L.length ≤ maxLen := by
  obtain ⟨vs, h1, h2⟩ := h
  obtain ⟨a, cap, rfl, hm⟩ := h1.form
  rw [h2.len] at *
  exact ⟨a, cap, rfl, hm⟩
theorem ll_at {w : World} {a : Option Addr} {n cap : Nat} {L : List (List Int)} (h : IsLL w (.slice a n cap) L) (j : Nat) (hj : j < L.length) :
    ∃ tb off a1 n1 c1, a = some ⟨tb, off, none⟩ ∧ tb < w.heap.size ∧ w.cell? ⟨tb, off + j, none⟩ = some (.slice a1 n1 c1) ∧ n1 = (L.getD j []).length ∧ n1 ≤ maxLen ∧ Row w (.slice a1 n1 c1) (ints (L.getD j [])) := by
  obtain ⟨vs, h1, h2⟩ := h
  obtain ⟨u, hu, hr⟩ := h2.at j hj
  obtain ⟨tb, off, ha, hc, hlt⟩ := row_cell h1 j (by rw [h2.len]; exact hj)
  obtain ⟨a1, c1, rfl, hm⟩ := hr.form
  rw [ints_len] at *
  exact ⟨tb, off, a1, _, c1, ha, hlt, by rw [hc, hu], rfl, hm, hr⟩
end Go.Proofs.YtgplajofemencaaGreat
/- Texts that a law is handed, and texts that it puts together. -/
namespace Go.Proofs.YtgplajofemencaaGreat
open Go.ChangeShapes Go.WideShapes Go.ChangeAt Go.RowKit

theorem own : ownKnob Tryz.prog.godebug = none := by kernel_rfl
theorem laidOut : laidOutB Tryz.prog = true := by kernel_rfl
theorem add_off (b off k : Nat) : (⟨b, off, none⟩ : Addr).add k = ⟨b, off + k, none⟩ := by rw [Go.WideShapes.add_plain]

section
variable {H : Type} {enc : TypeId × Value → H} {w : World} {base : Nat} {spare : Nat → Bool} {held : Bool}
end

theorem row_here {w : World} {tb off n cap : Nat} {xs : List Value} (h : Row w (.slice (some ⟨tb, off, none⟩) n cap) xs) (p : Nat) (hp : p < xs.length) : w.cell? ⟨tb, off + p, none⟩ = xs[p]? := by
  obtain ⟨tb', off', he, hc, _⟩ := row_cell h p hp
  simp only [Option.some.injEq, Addr.mk.injEq, and_true] at he
  obtain ⟨rfl, rfl⟩ := he
  exact hc
/-- A text that the law has made. -/
def OwnB (w : World) (B : Nat) (v : Value) (ys : List Int) : Prop := w.ownsRow B 5 1 v ys.length (byts ys)
theorem OwnB.alloc {w : World} {B : Nat} {v : Value} {ys : List Int} (h : OwnB w B v ys) (O : Obj) : OwnB (w.alloc O) B v ys := World.ownsRow.alloc h O
theorem OwnB.row {w : World} {B : Nat} {v : Value} {ys : List Int} (h : OwnB w B v ys) : Row w v (byts ys) := own_row h
theorem OwnB.below {w w' : World} {B : Nat} {v : Value} {ys : List Int} (h : OwnB w B v ys) (hb : Below w.heap.size w w') : OwnB w' B v ys := own_below h hb
/-- Two of them: what grows at one leaves the other. -/
theorem OwnB.kept {w w' : World} {B : Nat} {v : Value} {ys : List Int} {row : Option Nat} (h : OwnB w B v ys) (hg : w.grownBy w' row) (hne : v.ownBlock = none ∨ v.ownBlock ≠ row) : OwnB w' B v ys := World.ownsRow.kept h hg hne
theorem OwnLL.alloc {w : World} {B : Nat} {v : Value} {L : List (List Int)} (h : OwnLL w B v L) (O : Obj) : OwnLL (w.alloc O) B v L := h.below ((Below.refl _ _).alloc (Nat.le_refl _) O)
/-- What was made later stays. -/
theorem OwnLL.later {w w' : World} {B : Nat} {v : Value} {L : List (List Int)} {row : Option Nat} (h : OwnLL w B v L) (hg : w.grownBy w' row) (hr : ∀ g, row = some g → g < B) : OwnLL w' B v L := by
  obtain ⟨vs, h1, h2⟩ := h
  refine ⟨vs, h1.kept hg ?_, h2.kept hg (fun u hu => ?_)⟩
  · cases hv : v.ownBlock with
    | none => exact .inl rfl
    | some g =>
      right
      intro e
      have := (h1.lt g hv).1
      have := hr g e.symm
      omega
  · cases hv : u.ownBlock with
    | none => exact .inl rfl
    | some g =>
      right
      intro e
      have := (h2.lt u hu g hv).1
      have := hr g e.symm
      omega
theorem OwnLL.ge {w : World} {B : Nat} {v : Value} {L : List (List Int)} (h : OwnLL w B v L) : ∀ g, v.ownBlock = some g → B ≤ g := by
  obtain ⟨vs, h1, h2⟩ := h
  exact fun g hg => (h1.lt g hg).1
theorem OwnLL.lt {w : World} {B : Nat} {v : Value} {L : List (List Int)} (h : OwnLL w B v L) : ∀ g, v.ownBlock = some g → g < w.heap.size := by
  obtain ⟨vs, h1, h2⟩ := h
  exact fun g hg => (h1.lt g hg).2
end Go.Proofs.YtgplajofemencaaGreat
/- What the document's word, line and Lines answer. -/
namespace Go.Proofs.YtgplajofemencaaGreat
open Go.ChangeShapes Go.WideShapes Go.ChangeAt Go.RowKit

end Go.Proofs.YtgplajofemencaaGreat
/- What the document's line and Lines answer. -/
namespace Go.Proofs.YtgplajofemencaaGreat
open Go.ChangeShapes Go.WideShapes Go.ChangeAt Go.RowKit

/-- Numbers that a call has made. -/
def OwnI (w : World) (B : Nat) (v : Value) (ys : List Int) : Prop := w.ownsRow B 3 1 v ys.length (ints ys)
theorem OwnI.alloc {w : World} {B : Nat} {v : Value} {ys : List Int} (h : OwnI w B v ys) (O : Obj) : OwnI (w.alloc O) B v ys := World.ownsRow.alloc h O
theorem OwnI.row {w : World} {B : Nat} {v : Value} {ys : List Int} (h : OwnI w B v ys) : Row w v (ints ys) := own_row h
theorem OwnI.below {w w' : World} {B : Nat} {v : Value} {ys : List Int} (h : OwnI w B v ys) (hb : Below w.heap.size w w') : OwnI w' B v ys := own_below h hb
theorem ownI_nil (w : World) (B : Nat) : OwnI w B (.slice none 0 0) [] := World.ownsRow_nil _ _ _ _
/-- Two of them: what grows at one leaves the other. -/
theorem OwnI.kept {w w' : World} {B : Nat} {v : Value} {ys : List Int} {row : Option Nat} (h : OwnI w B v ys) (hg : w.grownBy w' row) (hne : v.ownBlock = none ∨ v.ownBlock ≠ row) : OwnI w' B v ys := World.ownsRow.kept h hg hne
/-- Numbers put behind numbers that a call has made. -/
theorem app_ints {w : World} {ops : Array Oper} {rest : List Oper} {o : Oper} {a : Act} {Q : Exit → Act → World → Prop} (hgd : o.guard = none) (s x : Operand)
    (ho : o.op = .call { callee := .builtin .append, args := #[s, x], argTypes := #[28, 28] }) (B : Nat) (v : Value) (ys : List Int) (hs : a.eval s = v) (hown : OwnI w B v ys)
    (u : Value) (xs : List Int) (hx : a.eval x = u) (hr : Row w u (ints xs)) (hlen : ys.length + xs.length ≤ 10000000) (hB : B ≤ w.heap.size)
    (h : ∀ v' w', OwnI w' B v' (ys ++ xs) → w.grownBy w' v.ownBlock → (v'.ownBlock = v.ownBlock ∨ v'.ownBlock = some w.heap.size) → wpList Tryz.prog ops Q rest (a.put o.dst v') w') : wpList Tryz.prog ops Q (o :: rest) a w := by
  obtain ⟨i0, hi, hz0, hz1, hz2⟩ := info_parts infoInt
  obtain ⟨hm, ad, cap, rfl, hc, ⟨hc2, hn⟩, hcell⟩ := hr
  rw [ints_len] at *
  cases ad with
  | none =>
    have hc0 : cap = 0 := hn rfl
    subst hc0
    have hxs : xs = [] := List.eq_nil_of_length_eq_zero (by omega)
    subst hxs
    refine wpList_append_own_none hgd s x 28 ho B 3 i0 1 Tryz.underlying28 hi v ys.length (ints ys) hs hown hx (h v w ?_ ⟨rfl, rfl, rfl, Nat.le_refl _, fun _ _ _ => rfl⟩ (.inl rfl))
    rw [List.append_nil]; exact hown
  | some ad =>
    refine wpList_append_own_at w hgd s x 28 ho B 3 i0 _ 1 8 Tryz.underlying28 hi hz0 hz1 hz2 rfl (by decide) v ys.length (ints ys) hs hown ad xs.length cap (ints xs) hx (by rw [ints_len]; omega) ?_ ?_ (by unfold maxLen; omega) (by omega) hB ?_
    · intro j w0 hj
      rcases hcell with h0 | ⟨b, off, he, hcc⟩
      · rw [h0] at hj; simp at hj
      · simp at he
        subst he
        have hjl : j < xs.length := by
          rcases Nat.lt_or_ge j xs.length with h | h
          · exact h
          · rw [List.getElem?_eq_none (by rw [ints_len]; exact h)] at hj; simp at hj
        rw [add_off, hcc j hjl, hj]
    · intro u hu
      simp only [ints, List.mem_map] at hu
      obtain ⟨n, _, rfl⟩ := hu
      rfl
    · intro v' w' h1 h2 _ h4
      refine h v' w' ?_ h2 h4
      unfold OwnI
      rw [List.length_append, show ints (ys ++ xs) = ints ys ++ ints xs by simp [ints]]
      exact h1
theorem row_newi (w : World) (c : Int) : Row (w.alloc (.cells #[.int .i64 c] 3)) (.slice (some ⟨w.heap.size, 0, none⟩) 1 1) (ints [c]) := by
  refine ⟨by simp [ints, maxLen], _, _, rfl, by simp [ints], ⟨by simp [maxLen], by simp⟩, .inr ⟨_, _, rfl, fun i hi => ?_⟩⟩
  have : i = 0 := by simp [ints] at hi; omega
  subst this
  rw [cell_of_row _ _ _ _ _ _ (heap_alloc_new w _)]
  rfl

/-- One line put behind lines. -/
theorem app_line {w : World} {ops : Array Oper} {rest : List Oper} {o : Oper} {a : Act} {Q : Exit → Act → World → Prop} (hgd : o.guard = none) (s x : Operand)
    (ho : o.op = .call { callee := .builtin .append, args := #[s, x], argTypes := #[39, 39] }) (B : Nat) (v : Value) (A : List (List Int)) (hs : a.eval s = v) (W : World) (lv : Value) (hW : w = W.alloc (.cells #[lv] 28)) (hown : OwnLL W B v A)
    (l : List Int) (hx : a.eval x = .slice (some ⟨W.heap.size, 0, none⟩) 1 1) (hl : OwnI W B lv l) (hlen : A.length ≤ 1000000) (hB : B ≤ W.heap.size)
    (h : ∀ v' w', OwnLL w' B v' (A ++ [l]) → W.grownBy w' v.ownBlock → wpList Tryz.prog ops Q rest (a.put o.dst v') w') : wpList Tryz.prog ops Q (o :: rest) a w := by
  subst hW
  obtain ⟨i0, hi, hz0, hz1, hz2⟩ := info_parts infoInts
  obtain ⟨vs, h1, h2⟩ := hown
  have hvl := h2.in.len
  have one : lv.oneCell' = true := by
    obtain ⟨a', cap', rfl⟩ := own_shape (show W.ownsRow B 3 1 lv l.length (ints l) from hl)
    rfl
  refine wpList_append_own_at _ hgd s x 39 ho B 28 i0 _ 1 24 Tryz.underlying39 hi hz0 hz1 hz2 rfl (by decide) v vs.length vs hs (h1.alloc _) ⟨W.heap.size, 0, none⟩ 1 1 [lv] hx rfl (cell_one_new _ _ _) (by simpa using one) (by unfold maxLen; omega) (by omega) (by simp; omega) ?_
  intro v' w' q1 q2 _ _
  have hg := grown_alloc q2
  refine h v' w' ⟨vs ++ [lv], by rw [List.length_append]; exact q1, ?_⟩ hg
  have hall : OwnIn W B (vs ++ [lv]) (A ++ [l]) := h2.append ⟨hl, trivial⟩
  refine hall.kept hg (fun z hz => ?_)
  rcases h1.2 with ⟨rfl, _⟩ | ⟨g, cap, cur, rfl, _, hgg, _⟩
  · cases z.ownBlock <;> simp [Value.ownBlock]
  · exact .inr (hall.ne hgg (by decide) z hz)
theorem OwnI.shape {w : World} {B : Nat} {v : Value} {xs : List Int} (h : OwnI w B v xs) : ∃ a cap, v = .slice a xs.length cap := own_shape (show w.ownsRow B 3 1 v xs.length (ints xs) from h)
theorem OwnB.shape {w : World} {B : Nat} {v : Value} {xs : List Int} (h : OwnB w B v xs) : ∃ a cap, v = .slice a xs.length cap := own_shape (show w.ownsRow B 5 1 v xs.length (byts xs) from h)

theorem OwnI.less {w : World} {B B' : Nat} {v : Value} {xs : List Int} (h : OwnI w B v xs) (hB : B' ≤ B) : OwnI w B' v xs := own_less (show w.ownsRow B 3 1 v xs.length (ints xs) from h) hB
theorem madeL {w0 w w' : World} {v : Value} {A : List (List Int)} (h : Below w0.heap.size w0 w) (ho : OwnLL w w0.heap.size v A) (hg : w.grownBy w' v.ownBlock) : Below w0.heap.size w0 w' :=
  h.trans (grown_below hg h.size ho.ge)

end Go.Proofs.YtgplajofemencaaGreat
/- What scan.Print answers. -/
namespace Go.Proofs.YtgplajofemencaaGreat
open Go.ChangeShapes Go.WideShapes Go.ChangeAt Go.RowKit

/-- At most 100 lines, of at most 100 numbers each. -/
def Few (L : List (List Int)) : Prop := L.length ≤ 100 ∧ ∀ l ∈ L, l.length ≤ 100
instance (L : List (List Int)) : Decidable (Few L) := by unfold Few; infer_instance
end Go.Proofs.YtgplajofemencaaGreat
/- What the row's condition gives the walks: the library's table of powers of ten; and that the program's own start lays it so. Lines that a law is handed. -/
namespace Go.Proofs.YtgplajofemencaaGreat
open Go.ChangeShapes Go.WideShapes Go.ChangeAt Go.RowKit

/-- What is known of the world may grow while a region goes on. -/
theorem wpAnyH_strong {P : Program} {md : Region.Mode} {ops : Array Oper} {Q : Exit → Act → World → Prop} {S S' : World → Prop} (hSS : ∀ w, S' w → S w) : ∀ (fuel : Nat) (listed : Array Bool) (a : Act) (w : World), wpAnyH P md ops Q S' fuel listed a w → wpAnyH P md ops Q S fuel listed a w
  | 0, _, _, _, h => h
  | fuel + 1, _, _, _, h => ⟨h.1, fun i hi => wpOp_mono (fun a' w' h' => ⟨hSS w' h'.1, wpAnyH_strong hSS fuel _ a' w' h'.2⟩) (h.2 i hi)⟩
theorem list_of {α : Type} (d : α) (P : Nat → α → Prop) : ∀ n, (∀ i, i < n → ∃ e, P i e) → ∃ l : List α, l.length = n ∧ ∀ i, i < n → P i (l.getD i d)
  | 0, _ => ⟨[], rfl, fun i h => by omega⟩
  | n + 1, h => by
    obtain ⟨l, hl, hp⟩ := list_of d P n (fun i hi => h i (by omega))
    obtain ⟨e, he⟩ := h n (by omega)
    refine ⟨l ++ [e], by simp [hl], fun i hi => ?_⟩
    by_cases c : i < n
    · rw [List.getD_eq_getElem?_getD, List.getElem?_append_left (by omega), ← List.getD_eq_getElem?_getD]; exact hp i c
    · obtain rfl : i = n := by omega
      rw [List.getD_eq_getElem?_getD, List.getElem?_append_right (by omega), hl]
      simpa using he
section
variable {H : Type} {enc : TypeId × Value → H} {w : World} {base : Nat} {spare : Nat → Bool} {held : Bool}
theorem wf_fits {n : Int} (h : (Lit.int .i64 n).wf = true) : -9223372036854775808 ≤ n ∧ n ≤ 9223372036854775807 := by
  have := bounds_i64 h
  omega
end
end Go.Proofs.YtgplajofemencaaGreat
