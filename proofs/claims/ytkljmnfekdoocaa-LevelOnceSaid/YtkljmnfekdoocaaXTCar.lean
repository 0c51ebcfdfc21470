/- Rows of numbers that a law is handed. -/
import Derived.Test.YtkljmnfekdoocaaXPCore
import Derived.Test.YtkljmnfekdoocaaXMath
import Derived.Test.YtkljmnfekdoocaaXPMat
import Derived.Deep.MidRow
namespace Go.Proofs.Ytkljmnfekdoocaa
open Go.ChangeShapes Go.WideShapes Go.ChangeAt Go.RowKit

section
variable {H : Type} {enc : TypeId × Value → H} {w : World} {base : Nat} {spare : Nat → Bool} {held : Bool}
theorem open_row {a : Option Addr} {len cap : Nat} {d : DataW H} {p : List MemPlace} (h : DataW.Trod enc Try.prog w base spare held 25 (.slice a len cap) d p) :
    ∃ l : List Int, Row w (.slice a len cap) (ints l) ∧ ∀ n ∈ l, Fit n := by
  obtain ⟨fuel, hf⟩ := h
  obtain ⟨v, l, hcs, hr, hfit⟩ := open_nums hf
  simp [Value.cells] at hcs
  subst hcs
  exact ⟨l, hr, hfit⟩
end
end Go.Proofs.Ytkljmnfekdoocaa
/- How times lie in memory. -/
namespace Go.Proofs.Ytkljmnfekdoocaa
open Go.ChangeShapes Go.WideShapes Go.ChangeAt Go.RowKit

def rowT (t : Tm) : List Value := [.int .i64 t.come, .int .i64 t.begn, .int .i64 t.leave]
def timeV (t : Tm) : Value := .agg #[.int .i64 t.come, .int .i64 t.begn, .int .i64 t.leave]
def flatT : List Tm → List Value
  | [] => []
  | t :: l => rowT t ++ flatT l
def nthT (l : List Tm) (i : Nat) : Tm := l.getD i ⟨0, 0, 0⟩
theorem flatT_append : ∀ (a b : List Tm), flatT (a ++ b) = flatT a ++ flatT b
  | [], _ => rfl
  | t :: a, b => by rw [List.cons_append, flatT, flatT, flatT_append a b, List.append_assoc]
theorem flatT_len : ∀ (l : List Tm), (flatT l).length = l.length * 3
  | [] => rfl
  | t :: l => by rw [flatT, List.length_append, flatT_len l]; simp [rowT]; omega
theorem flatT_at : ∀ (l : List Tm) (i k : Nat), i < l.length → k < 3 → (flatT l)[i * 3 + k]? = (rowT (nthT l i))[k]?
  | [], i, k, h, _ => by simp at h
  | t :: l, 0, k, _, hk => by rw [flatT, Nat.zero_mul, Nat.zero_add, List.getElem?_append_left (by simp [rowT]; omega)]; rfl
  | t :: l, i + 1, k, h, hk => by
    rw [flatT, List.getElem?_append_right (by simp [rowT]; omega), show (i + 1) * 3 + k - (rowT t).length = i * 3 + k by simp [rowT]; omega, flatT_at l i k (by simpa using h) hk]
    rfl
theorem flatT_one : ∀ (l : List Tm), ∀ u ∈ flatT l, u.oneCell' = true
  | [], u, hu => by simp [flatT] at hu
  | t :: l, u, hu => by
    rw [flatT, List.mem_append] at hu
    rcases hu with hu | hu
    · simp [rowT] at hu
      rcases hu with rfl | rfl | rfl <;> rfl
    · exact flatT_one l u hu
/-- The three cells of a time. -/
def TAt (w : World) (b o : Nat) (t : Tm) : Prop := w.cell? ⟨b, o, none⟩ = some (.int .i64 t.come) ∧ w.cell? ⟨b, o + 1, none⟩ = some (.int .i64 t.begn) ∧ w.cell? ⟨b, o + 2, none⟩ = some (.int .i64 t.leave)
theorem TAt.lt {w : World} {b o : Nat} {t : Tm} (h : TAt w b o t) : b < w.heap.size := World.block_lt_of_cell? w _ h.1
theorem TAt.below {w w' : World} {b o M : Nat} {t : Tm} (h : TAt w b o t) (hb : b < M) (hw : Below M w w') : TAt w' b o t :=
  ⟨(hw.cell (p := ⟨b, o, none⟩) hb).trans h.1, (hw.cell (p := ⟨b, o + 1, none⟩) hb).trans h.2.1, (hw.cell (p := ⟨b, o + 2, none⟩) hb).trans h.2.2⟩
theorem tat_of {w : World} {b o : Nat} {t : Tm} (h : ∀ k, k < 3 → w.cell? ⟨b, o + k, none⟩ = (rowT t)[k]?) : TAt w b o t := ⟨h 0 (by omega), h 1 (by omega), h 2 (by omega)⟩
theorem TAt.of {w : World} {b o : Nat} {t : Tm} (h : TAt w b o t) (k : Nat) (hk : k < 3) : w.cell? ⟨b, o + k, none⟩ = (rowT t)[k]? := by
  obtain ⟨h0, h1, h2⟩ := h
  match k, hk with
  | 0, _ => exact h0
  | 1, _ => exact h1
  | 2, _ => exact h2
/-- Times that may be read. -/
def TRow (w : World) (v : Value) (l : List Tm) : Prop :=
  l.length ≤ maxLen ∧ ∃ a cap, v = .slice a l.length cap ∧ l.length ≤ cap ∧ (cap ≤ maxLen ∧ (a = none → cap = 0)) ∧ (l = [] ∨ ∃ b off, a = some ⟨b, off, none⟩ ∧ ∀ i, i < l.length → TAt w b (off + i * 3) (nthT l i))
theorem TRow.below {w w' : World} {v : Value} {l : List Tm} (h : TRow w v l) (hb : Below w.heap.size w w') : TRow w' v l := by
  obtain ⟨hm, a, cap, hv, hc, hc2, h⟩ := h
  refine ⟨hm, a, cap, hv, hc, hc2, ?_⟩
  rcases h with h | ⟨b, off, ha, hc⟩
  · exact .inl h
  · exact .inr ⟨b, off, ha, fun i hi => (hc i hi).below (hc i hi).lt hb⟩
theorem trow_nil (w : World) : TRow w (.slice none 0 0) [] := ⟨by simp, none, 0, rfl, by simp, ⟨by simp, fun _ => rfl⟩, .inl rfl⟩
theorem TRow.form {w : World} {v : Value} {l : List Tm} (h : TRow w v l) : ∃ a cap, v = .slice a l.length cap ∧ l.length ≤ maxLen ∧ l.length ≤ cap ∧ cap ≤ maxLen := by
  obtain ⟨hm, a, cap, rfl, hc, hc2, _⟩ := h
  exact ⟨a, cap, rfl, hm, hc, hc2.1⟩
theorem trow_at {w : World} {a : Option Addr} {n cap : Nat} {l : List Tm} (h : TRow w (.slice a n cap) l) (i : Nat) (hi : i < l.length) : ∃ b off, a = some ⟨b, off, none⟩ ∧ TAt w b (off + i * 3) (nthT l i) ∧ b < w.heap.size := by
  obtain ⟨_, a', cap', hv, _, _, h⟩ := h
  simp at hv
  rcases h with h | ⟨b, off, ha, hc⟩
  · subst h; simp at hi
  · exact ⟨b, off, by rw [hv.1, ha], hc i hi, (hc i hi).lt⟩
theorem trow_here {w : World} {b off n cap : Nat} {l : List Tm} (h : TRow w (.slice (some ⟨b, off, none⟩) n cap) l) (i : Nat) (hi : i < l.length) : TAt w b (off + i * 3) (nthT l i) := by
  obtain ⟨b', off', he, hc, _⟩ := trow_at h i hi
  simp only [Option.some.injEq, Addr.mk.injEq, and_true] at he
  obtain ⟨rfl, rfl⟩ := he
  exact hc
theorem trow_cells {w : World} {b off n cap : Nat} {l : List Tm} (h : TRow w (.slice (some ⟨b, off, none⟩) n cap) l) : ∀ j u, (flatT l)[j]? = some u → w.cell? ((⟨b, off, none⟩ : Addr).add j) = some u := by
  intro j u hj
  have hjl : j < (flatT l).length := (List.getElem?_eq_some_iff.1 hj).1
  rw [flatT_len] at hjl
  have hc := (trow_here h (j / 3) (by omega)).of (j % 3) (by omega)
  rw [← flatT_at l (j / 3) (j % 3) (by omega) (by omega), show j / 3 * 3 + j % 3 = j by omega, hj] at hc
  rw [add_off, ← hc]
  congr 2
  omega
/-! ### Two times held against each other -/
theorem Tm.eq_iff (a b : Tm) : (a.come = b.come ∧ a.begn = b.begn ∧ a.leave = b.leave) ↔ a = b := by cases a; cases b; simp
end Go.Proofs.Ytkljmnfekdoocaa
/- How a car lies in memory. -/
namespace Go.Proofs.Ytkljmnfekdoocaa
open Go.ChangeShapes Go.WideShapes Go.ChangeAt Go.RowKit

def seenB (l : List Int) : List Bool := (List.range 33).map (fun i => decide (((i : Nat) : Int) ∈ l))
theorem seenB_len (l : List Int) : (seenB l).length = 33 := by simp [seenB]
theorem seenB_at (l : List Int) (i : Nat) (h : i < 33) : (seenB l).getD i false = decide ((i : Int) ∈ l) := by
  unfold seenB; rw [List.getD_eq_getElem?_getD, List.getElem?_map, List.getElem?_range h]; rfl
theorem seenB_snoc (l : List Int) (i : Nat) : (seenB l).set i true = seenB (l ++ [(i : Int)]) := by
  apply List.ext_getElem (by simp [seenB])
  intro j h1 h2
  have hj : j < 33 := by simpa [seenB] using h1
  rw [List.getElem_set]
  unfold seenB
  simp only [List.getElem_map, List.getElem_range, List.mem_append, List.mem_singleton]
  by_cases e : i = j
  · subst e; simp
  · rw [if_neg e, decide_eq_decide]
    exact ⟨.inl, fun h => h.elim id (fun h => by omega)⟩
theorem seenB_nil : seenB [] = List.replicate 33 false := by decide
def atS (l : List Int) : Int := l.getLastD 0
theorem atS_snoc (l : List Int) (i : Int) : atS (l ++ [i]) = i := by simp [atS]
def loadsL (I : Ins) (l : List Int) : List Int := (List.range l.length).map (fun k => heldL I (l.take (k + 1)))
theorem loadsL_snoc (I : Ins) (l : List Int) (i : Int) : loadsL I (l ++ [i]) = loadsL I l ++ [heldL I (l ++ [i])] := by
  unfold loadsL
  rw [List.length_append, List.length_singleton, List.range_succ, List.map_append]
  congr 1
  · apply List.map_congr_left
    intro k hk
    rw [List.mem_range] at hk
    rw [List.take_append_of_le_length (by omega)]
  · rw [List.map_singleton, List.take_of_length_le (by simp)]
theorem loadsL_len (I : Ins) (l : List Int) : (loadsL I l).length = l.length := by simp [loadsL]
/-- A car's cells. -/
def carC (I : Ins) (sv : Value) (a n g h : Int) (S : List Bool) (tv lv : Value) : List Value :=
  [.int .i64 I.p, .int .i64 I.c, .int .i64 I.r, sv, .int .i64 a, .int .i64 n, .int .i64 g, .int .i64 h] ++ (S.map Value.bool ++ [tv, lv])
section
variable {w w' : World} {b : Nat} {I : Ins} {sv : Value} {a n g h : Int} {S : List Bool} {tv lv : Value}
end
theorem carC_len {I : Ins} {sv : Value} {a n g h : Int} {S : List Bool} {tv lv : Value} (hS : S.length = 33) : (carC I sv a n g h S tv lv).length = 43 := by simp [carC, hS]
end Go.Proofs.Ytkljmnfekdoocaa
/- What a car's farTo and timeAt answer. -/
namespace Go.Proofs.Ytkljmnfekdoocaa
open Go.ChangeShapes Go.WideShapes Go.ChangeAt Go.RowKit

/-- The stop's cells, and the car's. -/
def cellsC (b : Nat) (I : Ins) (sv : Value) (a n g h : Int) : List (Addr × Value) := [(⟨b, 0, none⟩, .int .i64 I.p), (⟨b, 1, none⟩, .int .i64 I.c), (⟨b, 2, none⟩, .int .i64 I.r), (⟨b, 3, none⟩, sv), (⟨b, 4, none⟩, .int .i64 a), (⟨b, 5, none⟩, .int .i64 n), (⟨b, 6, none⟩, .int .i64 g), (⟨b, 7, none⟩, .int .i64 h)]
theorem lows_C {M b : Nat} {I : Ins} {sv : Value} {a n g h : Int} (hb : b < M) : Lows M (cellsC b I sv a n g h) := ⟨hb, hb, hb, hb, hb, hb, hb, hb, trivial⟩
theorem wrap64_fits {n : Int} (h : -9223372036854775808 ≤ n ∧ n ≤ 9223372036854775807) : wrap64 n = n := IntWalk.wrap64_in n h
def tmN (n : Int) (s t : Stp) : Tm := ⟨n + farF s t, max (n + farF s t) t.r, max (n + farF s t) t.r + t.s⟩
theorem tmAt_eq (s : TS) (t : Stp) : tmAt s t = tmN s.now s.last t := rfl
end Go.Proofs.Ytkljmnfekdoocaa
/- What a car's wrongAt and wrongBack answer. -/
namespace Go.Proofs.Ytkljmnfekdoocaa
open Go.ChangeShapes Go.WideShapes Go.ChangeAt Go.RowKit

/-- What is wrong with a stop as the next one. -/
def nextE (I : Ins) (L : List Int) (n : Int) (s : Stp) (i : Int) : Int := if wrongE I L i ≠ 0 then wrongE I L i else if (stp I i).u < (tmN n s (stp I i)).begn then 7 else 0
section
variable {I : Ins} {L : List Int} {n : Int} {s : Stp} {i : Int}
theorem nextE_arg (h : i < 1 ∨ 2 * I.p < i) : nextE I L n s i = 1 := by
  have : wrongE I L i = 1 := by unfold wrongE; rw [if_pos h]
  unfold nextE; rw [this, if_pos (by decide)]
theorem nextE_twice (h1 : 1 ≤ i ∧ i ≤ 2 * I.p) (h2 : i ∈ L) : nextE I L n s i = 5 := by
  have : wrongE I L i = 5 := by unfold wrongE; rw [if_neg (by omega), if_pos h2]
  unfold nextE; rw [this, if_pos (by decide)]
theorem nextE_order (h1 : 1 ≤ i ∧ i ≤ 2 * I.p) (h2 : i ∉ L) (h3 : I.p < i) (h4 : i - I.p ∉ L) : nextE I L n s i = 8 := by
  have : wrongE I L i = 8 := by unfold wrongE; rw [if_neg (by omega), if_neg h2, if_pos ⟨h3, h4⟩]
  unfold nextE; rw [this, if_pos (by decide)]
theorem nextE_full (h1 : 1 ≤ i ∧ i ≤ 2 * I.p) (h2 : i ∉ L) (h3 : ¬ (I.p < i ∧ i - I.p ∉ L)) (h4 : I.r < heldL I L + (stp I i).d) : nextE I L n s i = 6 := by
  have : wrongE I L i = 6 := by unfold wrongE; rw [if_neg (by omega), if_neg h2, if_neg h3, if_pos h4]
  unfold nextE; rw [this, if_pos (by decide)]
theorem nextE_rest (h1 : 1 ≤ i ∧ i ≤ 2 * I.p) (h2 : i ∉ L) (h3 : ¬ (I.p < i ∧ i - I.p ∉ L)) (h4 : ¬ I.r < heldL I L + (stp I i).d) : nextE I L n s i = if (stp I i).u < (tmN n s (stp I i)).begn then 7 else 0 := by
  have : wrongE I L i = 0 := by unfold wrongE; rw [if_neg (by omega), if_neg h2, if_neg h3, if_neg h4]
  unfold nextE; rw [this, if_neg (by decide)]
end
/-- What is wrong with the yard as the next one. -/
def backE (h : Int) (I : Ins) (n : Int) (s : Stp) : Int := if 0 < h then 8 else if (nth I.l 0).u < n + farF s (nth I.l 0) then 7 else 0
end Go.Proofs.Ytkljmnfekdoocaa
/- A drawn region in which some cells are held until one of its operations (its first store) comes up: what waits not for it is taken while they are held. -/
namespace Go.Proofs.Ytkljmnfekdoocaa

section
variable {P : Program} {ops : Array Oper} {Q : Exit → Act → World → Prop} {md : Region.Mode} {S : World → Prop} {m : Nat}
/-- Whatever order is picked from here on; S holds behind each operation till number m comes up. -/
def AnyU (P : Program) (md : Region.Mode) (ops : Array Oper) (Q : Exit → Act → World → Prop) (S : World → Prop) (m : Nat) : Nat → Array Bool → Act → World → Prop
  | 0, l, a, w => Region.ready md ops l = [] ∧ Q .normal a w
  | n + 1, l, a, w => (Region.ready md ops l = [] → Q .normal a w) ∧
    ∀ i ∈ Region.ready md ops l, wpOp P ops Q i (fun a' w' => (i ≠ m → l.getD m true = false → S w') ∧ AnyU P md ops Q S m n (l.setIfInBounds i true) a' w') a w
theorem any_of_until : ∀ (n : Nat) (l : Array Bool) (a : Act) (w : World), AnyU P md ops Q S m n l a w → wpAny P md ops Q n l a w
  | 0, _, _, _, h => h
  | n + 1, _, _, _, h => ⟨h.1, fun i hi => wpOp_mono (fun _ _ k => any_of_until n _ _ _ k.2) (h.2 i hi)⟩
/-- Number m waits for number i. -/
def waitsFor (md : Region.Mode) (ops : Array Oper) (m i : Nat) : Bool := (ops[m]?).any (fun o => o.after.any (fun e => Region.binds md e && e.on == i))
theorem not_ready {i : Nat} {l : Array Bool} (hw : waitsFor md ops m i = true) (hi : l.getD i true = false) : m ∉ Region.ready md ops l := by
  intro hr
  obtain ⟨_, o, ho, hall⟩ := mem_ready.1 hr
  unfold waitsFor at hw
  rw [ho] at hw
  obtain ⟨e, he, hb⟩ := Array.any_eq_true'.1 (show o.after.any _ = true from hw)
  simp only [Bool.and_eq_true, beq_iff_eq] at hb
  have h1 := hall e he hb.1
  rw [hb.2] at h1
  rcases Nat.lt_or_ge i l.size with c | c
  · simp [c] at h1 hi; rw [hi] at h1; cases h1
  · simp [Array.getElem?_eq_none c] at h1
/-- What number m waits for may be taken first, if it yields its value in every world that meets S. -/
theorem until_first {i : Nat} {oi : Oper} {v : Value} (hi : ops[i]? = some oi) (hsel : Region.noSelect ops = true) (hQ : ∀ c a w, Q (.panic c) (a.put oi.dst v) w → Q (.panic c) a w) (hw : waitsFor md ops m i = true) :
    ∀ (n : Nat) (l : Array Bool) (a : Act) (w : World), (∀ j oj, ops[j]? = some oj → j ≠ i → l.getD j true = false → (∀ e ∈ oj.after, Region.binds md e = true → e.on ≠ i) → oi.apart ops oj = true) →
      i ∈ Region.ready md ops l → l.getD m true = false → YieldsIf P ops S oi v a → S w → AnyU P md ops Q S m n (l.setIfInBounds i true) (a.put oi.dst v) w → AnyU P md ops Q S m (n + 1) l a w := by
  intro n
  have hse := Region.noSelect_spec hsel
  induction n with
  | zero =>
    intro l a w _ hr hm hy hS k
    refine ⟨fun h0 => absurd hr (by rw [h0]; exact List.not_mem_nil), fun j hj => ?_⟩
    by_cases e : j = i
    · subst e; exact hy.wpOp hi hS ⟨fun _ _ => hS, k⟩
    · exact absurd (ready_mono hj e) (by rw [k.1]; exact List.not_mem_nil)
  | succ n ih =>
    intro l a w hf hr hm hy hS k
    have hil := (mem_ready.1 hr).1
    refine ⟨fun h0 => absurd hr (by rw [h0]; exact List.not_mem_nil), fun j hj => ?_⟩
    by_cases e : j = i
    · subst e; exact hy.wpOp hi hS ⟨fun _ _ => hS, k⟩
    · have ejm : j ≠ m := fun e2 => not_ready hw hil (e2 ▸ hj)
      have k1 := k.2 j (ready_mono hj e)
      obtain ⟨hju, oj, ho, hall⟩ := mem_ready.1 hj
      have hno : ∀ x ∈ oj.after, Region.binds md x = true → x.on ≠ i := fun x hx hb he => by
        have c1 := hall x hx hb
        rw [he] at c1
        rcases Nat.lt_or_ge i l.size with c | c
        · simp [c] at c1 hil; rw [hil] at c1; cases c1
        · simp [Array.getElem?_eq_none c] at c1
      have k2 := wpOp_putIf ho (hf j oj ho e hju hno) (fun cs b => hse i oi cs b hi) (fun cs b => hse j oj cs b ho) hQ hy k1
      have hmi : m ≠ i → (l.setIfInBounds i true).getD m true = false := fun h => by rw [getD_set_ne true (Ne.symm h)]; exact hm
      have hmj : (l.setIfInBounds j true).getD m true = false := by rw [getD_set_ne true ejm]; exact hm
      have hmne : m ≠ i := fun h => not_ready hw hil (by rw [h]; exact hr)
      refine wpOp_mono (fun a' w' k3 => ?_) k2
      have hS' := k3.2.1 ejm (hmi hmne)
      refine ⟨fun _ _ => hS', ih (l.setIfInBounds j true) a' w' (fun x ox hx hxi hxu hxo => hf x ox hx hxi ?_ hxo) (ready_mono hr (Ne.symm e)) hmj k3.1 hS' ?_⟩
      · by_cases c : j = x
        · subst c; exact hju
        · rw [getD_set_ne true c] at hxu; exact hxu
      · rw [Array.setIfInBounds_comm _ _ e]
        exact k3.2.2
theorem until_take {i : Nat} {oi : Oper} {v : Value} {n : Nat} {l : Array Bool} {a : Act} {w : World} (hi : ops[i]? = some oi) (hs : Region.noSelect ops = true) (hf : Region.free md ops l i = true)
    (hr : (Region.ready md ops l).contains i = true) (hw : waitsFor md ops m i = true) (hm : l.getD m true = false) (hQ : ∀ c a w, Q (.panic c) (a.put oi.dst v) w → Q (.panic c) a w) (hy : YieldsIf P ops S oi v a) (hS : S w)
    (h : AnyU P md ops Q S m n (l.setIfInBounds i true) (a.put oi.dst v) w) : AnyU P md ops Q S m (n + 1) l a w :=
  until_first hi hs hQ hw n l a w (Region.free_spec hi hf) (by simpa using hr) hm hy hS h
/-- What yields its value in whatever world may be taken first at any time. -/
theorem anyhow_first {i : Nat} {oi : Oper} {v : Value} (hi : ops[i]? = some oi) (hsel : Region.noSelect ops = true) (hQ : ∀ c a w, Q (.panic c) (a.put oi.dst v) w → Q (.panic c) a w) (him : i ≠ m) :
    ∀ (n : Nat) (l : Array Bool) (a : Act) (w : World), (∀ j oj, ops[j]? = some oj → j ≠ i → l.getD j true = false → (∀ e ∈ oj.after, Region.binds md e = true → e.on ≠ i) → oi.apart ops oj = true) →
      i ∈ Region.ready md ops l → YieldsIf P ops (fun _ => True) oi v a → (l.getD m true = false → S w) → AnyU P md ops Q S m n (l.setIfInBounds i true) (a.put oi.dst v) w → AnyU P md ops Q S m (n + 1) l a w := by
  intro n
  have hse := Region.noSelect_spec hsel
  induction n with
  | zero =>
    intro l a w _ hr hy hS k
    refine ⟨fun h0 => absurd hr (by rw [h0]; exact List.not_mem_nil), fun j hj => ?_⟩
    by_cases e : j = i
    · subst e; exact hy.wpOp hi trivial ⟨fun _ hm => hS hm, k⟩
    · exact absurd (ready_mono hj e) (by rw [k.1]; exact List.not_mem_nil)
  | succ n ih =>
    intro l a w hf hr hy hS k
    have hil := (mem_ready.1 hr).1
    refine ⟨fun h0 => absurd hr (by rw [h0]; exact List.not_mem_nil), fun j hj => ?_⟩
    by_cases e : j = i
    · subst e; exact hy.wpOp hi trivial ⟨fun _ hm => hS hm, k⟩
    · have k1 := k.2 j (ready_mono hj e)
      obtain ⟨hju, oj, ho, hall⟩ := mem_ready.1 hj
      have hno : ∀ x ∈ oj.after, Region.binds md x = true → x.on ≠ i := fun x hx hb he => by
        have c1 := hall x hx hb
        rw [he] at c1
        rcases Nat.lt_or_ge i l.size with c | c
        · simp [c] at c1 hil; rw [hil] at c1; cases c1
        · simp [Array.getElem?_eq_none c] at c1
      have k2 := wpOp_putIf ho (hf j oj ho e hju hno) (fun cs b => hse i oi cs b hi) (fun cs b => hse j oj cs b ho) hQ hy k1
      refine wpOp_mono (fun a' w' k3 => ?_) k2
      have hgi : (l.setIfInBounds i true).getD m true = l.getD m true := getD_set_ne true him
      have hS' : j ≠ m → l.getD m true = false → S w' := fun h1 h2 => k3.2.1 h1 (hgi.trans h2)
      refine ⟨hS', ih (l.setIfInBounds j true) a' w' (fun x ox hx hxi hxu hxo => hf x ox hx hxi ?_ hxo) (ready_mono hr (Ne.symm e)) k3.1 (fun h1 => ?_) ?_⟩
      · by_cases c : j = x
        · subst c; exact hju
        · rw [getD_set_ne true c] at hxu; exact hxu
      · by_cases c : j = m
        · subst c
          have : j < l.size := by
            rcases Nat.lt_or_ge j l.size with c2 | c2
            · exact c2
            · simp [Array.getElem?_eq_none c2] at hju
          simp [this] at h1
        · rw [getD_set_ne true c] at h1; exact hS' c h1
      · rw [Array.setIfInBounds_comm _ _ e]
        exact k3.2.2
theorem anyhow_take {i : Nat} {oi : Oper} {v : Value} {n : Nat} {l : Array Bool} {a : Act} {w : World} (hi : ops[i]? = some oi) (hs : Region.noSelect ops = true) (hf : Region.free md ops l i = true)
    (hr : (Region.ready md ops l).contains i = true) (him : i ≠ m) (hQ : ∀ c a w, Q (.panic c) (a.put oi.dst v) w → Q (.panic c) a w) (hy : YieldsIf P ops (fun _ => True) oi v a) (hS : l.getD m true = true ∨ S w)
    (h : AnyU P md ops Q S m n (l.setIfInBounds i true) (a.put oi.dst v) w) : AnyU P md ops Q S m (n + 1) l a w :=
  anyhow_first hi hs hQ him n l a w (Region.free_spec hi hf) (by simpa using hr) hy (fun hm => hS.elim (fun h1 => by rw [h1] at hm; cases hm) id) h
/-- Each of these comes up next. -/
def NextU (P : Program) (md : Region.Mode) (ops : Array Oper) (Q : Exit → Act → World → Prop) (S : World → Prop) (m n : Nat) (l : Array Bool) (a : Act) (w : World) (rs : List Nat) : Prop :=
  ∀ i ∈ rs, wpOp P ops Q i (fun a' w' => (i ≠ m → l.getD m true = false → S w') ∧ AnyU P md ops Q S m n (l.setIfInBounds i true) a' w') a w
theorem NextU.nil {n : Nat} {l : Array Bool} {a : Act} {w : World} : NextU P md ops Q S m n l a w [] := fun _ h => by cases h
/-- One more, ahead of number m: S is shown anew behind it. -/
theorem NextU.cons {n : Nat} {l : Array Bool} {a : Act} {w : World} {i : Nat} {o : Oper} {rs : List Nat} (ho : ops[i]? = some o)
    (h : ∀ K' : Act → World → Prop, Shut (∀ a w, S w → (S w → AnyU P md ops Q S m n (l.setIfInBounds i true) a w) → K' a w) → if Region.wanted o (yielded ops a.tmps) = true then Oper.wp P o a w K' Q else K' (a.put o.dst undef) w)
    (hs : NextU P md ops Q S m n l a w rs) : NextU P md ops Q S m n l a w (i :: rs) := fun j hj => by
  rcases List.mem_cons.1 hj with rfl | hj
  · exact wpOp_step ho (fun K' hK => h K' (fun a w hS hW => hK a w ⟨fun _ _ => hS, hW hS⟩))
  · exact hs j hj
/-- One more, number m itself or behind it: nothing is asked any more. -/
theorem NextU.late {n : Nat} {l : Array Bool} {a : Act} {w : World} {i : Nat} {o : Oper} {rs : List Nat} (ho : ops[i]? = some o) (hm : i = m ∨ l.getD m true = true)
    (h : ∀ K' : Act → World → Prop, Shut (∀ a w, AnyU P md ops Q S m n (l.setIfInBounds i true) a w → K' a w) → if Region.wanted o (yielded ops a.tmps) = true then Oper.wp P o a w K' Q else K' (a.put o.dst undef) w)
    (hs : NextU P md ops Q S m n l a w rs) : NextU P md ops Q S m n l a w (i :: rs) := fun j hj => by
  rcases List.mem_cons.1 hj with rfl | hj
  · exact wpOp_step ho (fun K' hK => h K' (fun a w hW => hK a w ⟨fun h1 h2 => hm.elim (fun e => absurd e h1) (fun e => by rw [e] at h2; cases h2), hW⟩))
  · exact hs j hj
theorem until_ready {rs : List Nat} {n : Nat} {l : Array Bool} {a : Act} {w : World} (hr : Region.ready md ops l = rs) (hne : rs ≠ []) (h : NextU P md ops Q S m n l a w rs) : AnyU P md ops Q S m (n + 1) l a w :=
  ⟨fun h0 => absurd (hr ▸ h0) hne, hr ▸ h⟩
theorem until_done {l : Array Bool} {a : Act} {w : World} (hr : Region.ready md ops l = []) (h : Q .normal a w) : ∀ n, AnyU P md ops Q S m n l a w
  | 0 => ⟨hr, h⟩
  | _ + 1 => ⟨fun _ => h, by rw [hr]; simp⟩
theorem wp_until {id : Nat} {a : Act} {w : World} (hm : P.follows .mixedOrders = true) (h : AnyU P .any ops Q S m ops.size (Array.replicate ops.size false) a w.drew) : (Code.region id ops true).wp P Q a w :=
  wp_region_any hm (any_of_until _ _ _ _ h)
end
end Go.Proofs.Ytkljmnfekdoocaa
