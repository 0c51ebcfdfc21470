/- How times lie in memory. -/
import Derived.Test.YtolaiccgbngomaaTKeep
import Derived.Test.YtolaiccgbngomaaTArgs
namespace Go.Proofs.Ytolaiccgbngomaa
open Go.ChangeShapes Go.WideShapes Go.ChangeAt Go.RowKit

def rowT (t : Tm) : List Value := [.int .i64 t.come, .int .i64 t.begn, .int .i64 t.leave]
def timeV (t : Tm) : Value := .agg #[.int .i64 t.come, .int .i64 t.begn, .int .i64 t.leave]
def flatT : List Tm → List Value
  | [] => []
  | t :: l => rowT t ++ flatT l
def nthT (l : List Tm) (i : Nat) : Tm := l.getD i ⟨0, 0, 0⟩
theorem flatT_append : ∀ (a b : List Tm), flatT (a ++ b) = flatT a ++ flatT b
  | [], _ => rfl
  | t :: a, b => by rw [List.cons_append, flatT, flatT, flatT_append a b, List.append_assoc]
theorem flatT_len : ∀ (l : List Tm), (flatT l).length = l.length * 3
  | [] => rfl
  | t :: l => by rw [flatT, List.length_append, flatT_len l]; simp [rowT]; omega
theorem flatT_at : ∀ (l : List Tm) (i k : Nat), i < l.length → k < 3 → (flatT l)[i * 3 + k]? = (rowT (nthT l i))[k]?
  | [], i, k, h, _ => by simp at h
  | t :: l, 0, k, _, hk => by rw [flatT, Nat.zero_mul, Nat.zero_add, List.getElem?_append_left (by simp [rowT]; omega)]; rfl
  | t :: l, i + 1, k, h, hk => by
    rw [flatT, List.getElem?_append_right (by simp [rowT]; omega), show (i + 1) * 3 + k - (rowT t).length = i * 3 + k by simp [rowT]; omega, flatT_at l i k (by simpa using h) hk]
    rfl
theorem flatT_one : ∀ (l : List Tm), ∀ u ∈ flatT l, u.oneCell' = true
  | [], u, hu => by simp [flatT] at hu
  | t :: l, u, hu => by
    rw [flatT, List.mem_append] at hu
    rcases hu with hu | hu
    · simp [rowT] at hu
      rcases hu with rfl | rfl | rfl <;> rfl
    · exact flatT_one l u hu
/-- The three cells of a time. -/
def TAt (w : World) (b o : Nat) (t : Tm) : Prop := w.cell? ⟨b, o, none⟩ = some (.int .i64 t.come) ∧ w.cell? ⟨b, o + 1, none⟩ = some (.int .i64 t.begn) ∧ w.cell? ⟨b, o + 2, none⟩ = some (.int .i64 t.leave)
theorem TAt.lt {w : World} {b o : Nat} {t : Tm} (h : TAt w b o t) : b < w.heap.size := World.block_lt_of_cell? w _ h.1
theorem TAt.below {w w' : World} {b o M : Nat} {t : Tm} (h : TAt w b o t) (hb : b < M) (hw : Below M w w') : TAt w' b o t :=
  ⟨(hw.cell (p := ⟨b, o, none⟩) hb).trans h.1, (hw.cell (p := ⟨b, o + 1, none⟩) hb).trans h.2.1, (hw.cell (p := ⟨b, o + 2, none⟩) hb).trans h.2.2⟩
theorem tat_of {w : World} {b o : Nat} {t : Tm} (h : ∀ k, k < 3 → w.cell? ⟨b, o + k, none⟩ = (rowT t)[k]?) : TAt w b o t := ⟨h 0 (by omega), h 1 (by omega), h 2 (by omega)⟩
theorem TAt.of {w : World} {b o : Nat} {t : Tm} (h : TAt w b o t) (k : Nat) (hk : k < 3) : w.cell? ⟨b, o + k, none⟩ = (rowT t)[k]? := by
  obtain ⟨h0, h1, h2⟩ := h
  match k, hk with
  | 0, _ => exact h0
  | 1, _ => exact h1
  | 2, _ => exact h2
/-- Times that may be read. -/
def TRow (w : World) (v : Value) (l : List Tm) : Prop :=
  l.length ≤ maxLen ∧ ∃ a cap, v = .slice a l.length cap ∧ l.length ≤ cap ∧ (cap ≤ maxLen ∧ (a = none → cap = 0)) ∧ (l = [] ∨ ∃ b off, a = some ⟨b, off, none⟩ ∧ ∀ i, i < l.length → TAt w b (off + i * 3) (nthT l i))
theorem TRow.below {w w' : World} {v : Value} {l : List Tm} (h : TRow w v l) (hb : Below w.heap.size w w') : TRow w' v l := by
  obtain ⟨hm, a, cap, hv, hc, hc2, h⟩ := h
  refine ⟨hm, a, cap, hv, hc, hc2, ?_⟩
  rcases h with h | ⟨b, off, ha, hc⟩
  · exact .inl h
  · exact .inr ⟨b, off, ha, fun i hi => (hc i hi).below (hc i hi).lt hb⟩
theorem trow_nil (w : World) : TRow w (.slice none 0 0) [] := ⟨by simp, none, 0, rfl, by simp, ⟨by simp, fun _ => rfl⟩, .inl rfl⟩
theorem TRow.form {w : World} {v : Value} {l : List Tm} (h : TRow w v l) : ∃ a cap, v = .slice a l.length cap ∧ l.length ≤ maxLen ∧ l.length ≤ cap ∧ cap ≤ maxLen := by
  obtain ⟨hm, a, cap, rfl, hc, hc2, _⟩ := h
  exact ⟨a, cap, rfl, hm, hc, hc2.1⟩
theorem trow_at {w : World} {a : Option Addr} {n cap : Nat} {l : List Tm} (h : TRow w (.slice a n cap) l) (i : Nat) (hi : i < l.length) : ∃ b off, a = some ⟨b, off, none⟩ ∧ TAt w b (off + i * 3) (nthT l i) ∧ b < w.heap.size := by
  obtain ⟨_, a', cap', hv, _, _, h⟩ := h
  simp at hv
  rcases h with h | ⟨b, off, ha, hc⟩
  · subst h; simp at hi
  · exact ⟨b, off, by rw [hv.1, ha], hc i hi, (hc i hi).lt⟩
theorem trow_here {w : World} {b off n cap : Nat} {l : List Tm} (h : TRow w (.slice (some ⟨b, off, none⟩) n cap) l) (i : Nat) (hi : i < l.length) : TAt w b (off + i * 3) (nthT l i) := by
  obtain ⟨b', off', he, hc, _⟩ := trow_at h i hi
  simp only [Option.some.injEq, Addr.mk.injEq, and_true] at he
  obtain ⟨rfl, rfl⟩ := he
  exact hc
/-- Times that a call has made. -/
def OwnT (w : World) (B : Nat) (v : Value) (l : List Tm) : Prop := w.ownsRow B 40 3 v l.length (flatT l)
theorem OwnT.row {w : World} {B : Nat} {v : Value} {l : List Tm} (h : OwnT w B v l) : TRow w v l := by
  have h' : w.ownsRow B 40 3 v l.length (flatT l) := h
  rcases h'.2 with ⟨rfl, hn⟩ | ⟨g, cap, cur, rfl, hb, hg, hc, hm, hs, ht⟩
  · have : l = [] := List.eq_nil_of_length_eq_zero hn
    subst this
    exact trow_nil _
  · refine ⟨by omega, _, _, rfl, hc, ⟨hm, fun h => by simp at h⟩, .inr ⟨g, 0, rfl, fun i hi => ?_⟩⟩
    refine tat_of (fun k hk => ?_)
    rw [Nat.zero_add, h'.cellAt _ (by omega), flatT_at l i k hi hk]
theorem OwnT.below {w w' : World} {B : Nat} {v : Value} {l : List Tm} (h : OwnT w B v l) (hb : Below w.heap.size w w') : OwnT w' B v l := own_below h hb
theorem OwnT.alloc {w : World} {B : Nat} {v : Value} {l : List Tm} (h : OwnT w B v l) (O : Obj) : OwnT (w.alloc O) B v l := World.ownsRow.alloc h O
theorem ownT_nil (w : World) (B : Nat) : OwnT w B (.slice none 0 0) [] := World.ownsRow_nil _ _ _ _
theorem OwnT.less {w : World} {B B' : Nat} {v : Value} {l : List Tm} (h : OwnT w B v l) (hB : B' ≤ B) : OwnT w B' v l := own_less (show w.ownsRow B 40 3 v l.length (flatT l) from h) hB
theorem OwnT.kept {w w' : World} {B : Nat} {v : Value} {l : List Tm} {row : Option Nat} (h : OwnT w B v l) (hg : w.grownBy w' row) (hne : v.ownBlock = none ∨ v.ownBlock ≠ row) : OwnT w' B v l := World.ownsRow.kept h hg hne
theorem OwnT.shape {w : World} {B : Nat} {v : Value} {l : List Tm} (h : OwnT w B v l) : ∃ a cap, v = .slice a l.length cap := own_shape (show w.ownsRow B 40 3 v l.length (flatT l) from h)
theorem infoTime : (Try.prog.info? 40).map (fun i => (i.zero, i.size, i.bytes)) = some (some (.agg #[.int .i64 0, .int .i64 0, .int .i64 0]), 3, 24) := by kernel_rfl
theorem trow_cells {w : World} {b off n cap : Nat} {l : List Tm} (h : TRow w (.slice (some ⟨b, off, none⟩) n cap) l) : ∀ j u, (flatT l)[j]? = some u → w.cell? ((⟨b, off, none⟩ : Addr).add j) = some u := by
  intro j u hj
  have hjl : j < (flatT l).length := (List.getElem?_eq_some_iff.1 hj).1
  rw [flatT_len] at hjl
  have hc := (trow_here h (j / 3) (by omega)).of (j % 3) (by omega)
  rw [← flatT_at l (j / 3) (j % 3) (by omega) (by omega), show j / 3 * 3 + j % 3 = j by omega, hj] at hc
  rw [add_off, ← hc]
  congr 2
  omega
/-- Times put behind times that the call has made. -/
theorem app_times {w : World} {ops : Array Oper} {rest : List Oper} {o : Oper} {a : Act} {Q : Exit → Act → World → Prop} (hgd : o.guard = none) (s x : Operand)
    (ho : o.op = .call { callee := .builtin .append, args := #[s, x], argTypes := #[27, 27] }) (B : Nat) (v : Value) (l : List Tm) (hs : a.eval s = v) (hown : OwnT w B v l)
    (u : Value) (m : List Tm) (hx : a.eval x = u) (hr : TRow w u m) (hlen : l.length + m.length ≤ 1000000) (hB : B ≤ w.heap.size)
    (h : ∀ v' w', OwnT w' B v' (l ++ m) → w.grownBy w' v.ownBlock → (v'.ownBlock = v.ownBlock ∨ v'.ownBlock = some w.heap.size) → wpList Try.prog ops Q rest (a.put o.dst v') w') : wpList Try.prog ops Q (o :: rest) a w := by
  obtain ⟨i0, hi, hz0, hz1, hz2⟩ := info_parts infoTime
  have hr' := hr
  obtain ⟨hm, ad, cap, rfl, hc, ⟨hc2, hn⟩, hcell⟩ := hr
  cases ad with
  | none =>
    have hc0 : cap = 0 := hn rfl
    subst hc0
    have hms : m = [] := List.eq_nil_of_length_eq_zero (by omega)
    subst hms
    refine wpList_append_own_none hgd s x 27 ho B 40 i0 3 Try.underlying27 hi v l.length (flatT l) hs hown hx (h v w ?_ ⟨rfl, rfl, rfl, Nat.le_refl _, fun _ _ _ => rfl⟩ (.inl rfl))
    rw [List.append_nil]; exact hown
  | some ad =>
    refine wpList_append_own_at w hgd s x 27 ho B 40 i0 _ 3 24 Try.underlying27 hi hz0 hz1 hz2 rfl (by decide) v l.length (flatT l) hs hown ad m.length cap (flatT m) hx (flatT_len m) ?_ (flatT_one m) (by unfold maxLen; omega) (by omega) hB ?_
    · intro j u hj
      rcases hcell with h0 | ⟨b, off, he, hcc⟩
      · rw [h0] at hj; simp [flatT] at hj
      · simp at he
        subst he
        exact trow_cells hr' j u hj
    · intro v' w' h1 h2 _ h4
      refine h v' w' ?_ h2 h4
      unfold OwnT
      rw [List.length_append, flatT_append]
      exact h1
/-- A list of one time, new. -/
theorem trow_new (w : World) (t : Tm) : TRow (w.alloc (.cells #[.int .i64 t.come, .int .i64 t.begn, .int .i64 t.leave] 40)) (.slice (some ⟨w.heap.size, 0, none⟩) 1 1) [t] := by
  refine ⟨by simp [maxLen], _, _, rfl, by simp, ⟨by simp [maxLen], by simp⟩, .inr ⟨_, _, rfl, fun i hi => ?_⟩⟩
  have : i = 0 := by simp at hi; omega
  subst this
  refine tat_of (fun k hk => ?_)
  rw [cell_of_row _ _ _ _ _ _ (heap_alloc_new w _)]
  simp only [Nat.zero_mul, Nat.zero_add]
  match k, hk with
  | 0, _ => rfl
  | 1, _ => rfl
  | 2, _ => rfl
/-! ### Two times held against each other -/
theorem Tm.eq_iff (a b : Tm) : (a.come = b.come ∧ a.begn = b.begn ∧ a.leave = b.leave) ↔ a = b := by cases a; cases b; simp
theorem guardTime : Try.prog.eqGuardType Try.prog.depth 40 = false := by kernel_rfl
theorem equalTime (a b : Tm) (w : World) : (Op.equalIn 10000 40 (.agg #[.int .i64 a.come, .int .i64 a.begn, .int .i64 a.leave]) (.agg #[.int .i64 b.come, .int .i64 b.begn, .int .i64 b.leave])).run Try.prog w = .ok (decide (a = b)) w := by
  have u3 := Try.underlying3
  have hS : Try.prog.underlying 40 = some (.struct (Try.prog.fieldsOf 40)) := by kernel_rfl
  rw [show (10000 : Nat) = 9999 + 1 from rfl, run_equalIn_agg w 9999 40 _ _ hS (by kernel_rfl)]
  simp only [Program.fieldsOf, Try.underlying40]
  have e : decide (a = b) = decide (a.come = b.come ∧ a.begn = b.begn ∧ a.leave = b.leave) := decide_eq_decide.2 (Tm.eq_iff a b).symm
  rw [e]
  go_simp
  by_cases h1 : a.come = b.come <;> by_cases h2 : a.begn = b.begn <;> by_cases h3 : a.leave = b.leave <;> simp [h1, h2, h3]
end Go.Proofs.Ytolaiccgbngomaa
