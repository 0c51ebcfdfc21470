/- How stops and instances lie in memory. -/
import Derived.Test.YtolaiccgbngomaaIMath
import Derived.Test.YtolaiccgbngomaaRefl
import Derived.Test.YtolaiccgbngomaaLaid
import Derived.Laws.StructEq
import Derived.ChangeKeysEq
import Derived.Deep.RegionHeld3
namespace Go.Proofs.Ytolaiccgbngomaa
open Go.ChangeShapes Go.WideShapes Go.ChangeAt Go.RowKit

def rowV (t : Stp) : List Value := [.int .i64 t.x, .int .i64 t.y, .int .i64 t.d, .int .i64 t.r, .int .i64 t.u, .int .i64 t.s]
def stopV (t : Stp) : Value := .agg #[.int .i64 t.x, .int .i64 t.y, .int .i64 t.d, .int .i64 t.r, .int .i64 t.u, .int .i64 t.s]
def insV (I : Ins) (v : Value) : Value := .agg #[.int .i64 I.p, .int .i64 I.c, .int .i64 I.r, v]
def flat : List Stp → List Value
  | [] => []
  | t :: l => rowV t ++ flat l
theorem flat_append : ∀ (a b : List Stp), flat (a ++ b) = flat a ++ flat b
  | [], _ => rfl
  | t :: a, b => by rw [List.cons_append, flat, flat, flat_append a b, List.append_assoc]
theorem flat_len : ∀ (l : List Stp), (flat l).length = l.length * 6
  | [] => rfl
  | t :: l => by rw [flat, List.length_append, flat_len l]; simp [rowV]; omega
theorem flat_at : ∀ (l : List Stp) (i k : Nat), i < l.length → k < 6 → (flat l)[i * 6 + k]? = (rowV (nth l i))[k]?
  | [], i, k, h, _ => by simp at h
  | t :: l, 0, k, _, hk => by rw [flat, Nat.zero_mul, Nat.zero_add, List.getElem?_append_left (by simp [rowV]; omega)]; rfl
  | t :: l, i + 1, k, h, hk => by
    rw [flat, List.getElem?_append_right (by simp [rowV]; omega), show (i + 1) * 6 + k - (rowV t).length = i * 6 + k by simp [rowV]; omega, flat_at l i k (by simpa using h) hk]
    rfl
theorem flat_one : ∀ (l : List Stp), ∀ u ∈ flat l, u.oneCell' = true
  | [], u, hu => by simp [flat] at hu
  | t :: l, u, hu => by
    rw [flat, List.mem_append] at hu
    rcases hu with hu | hu
    · simp [rowV] at hu
      rcases hu with rfl | rfl | rfl | rfl | rfl | rfl <;> rfl
    · exact flat_one l u hu

/-- A stop's six cells. -/
def At (w : World) (b o : Nat) (t : Stp) : Prop :=
  w.cell? ⟨b, o, none⟩ = some (.int .i64 t.x) ∧ w.cell? ⟨b, o + 1, none⟩ = some (.int .i64 t.y) ∧ w.cell? ⟨b, o + 2, none⟩ = some (.int .i64 t.d) ∧ w.cell? ⟨b, o + 3, none⟩ = some (.int .i64 t.r) ∧ w.cell? ⟨b, o + 4, none⟩ = some (.int .i64 t.u) ∧ w.cell? ⟨b, o + 5, none⟩ = some (.int .i64 t.s)
theorem At.lt {w : World} {b o : Nat} {t : Stp} (h : At w b o t) : b < w.heap.size := World.block_lt_of_cell? w _ h.1
theorem At.below {w w' : World} {b o : Nat} {t : Stp} (h : At w b o t) {B : Nat} (hlt : b < B) (hb : Below B w w') : At w' b o t := by
  obtain ⟨h0, h1, h2, h3, h4, h5⟩ := h
  exact ⟨(hb.cell (p := ⟨b, o, none⟩) hlt).trans h0, (hb.cell (p := ⟨b, o + 1, none⟩) hlt).trans h1, (hb.cell (p := ⟨b, o + 2, none⟩) hlt).trans h2, (hb.cell (p := ⟨b, o + 3, none⟩) hlt).trans h3, (hb.cell (p := ⟨b, o + 4, none⟩) hlt).trans h4, (hb.cell (p := ⟨b, o + 5, none⟩) hlt).trans h5⟩
theorem at_of {w : World} {b o : Nat} {t : Stp} (h : ∀ k, k < 6 → w.cell? ⟨b, o + k, none⟩ = (rowV t)[k]?) : At w b o t :=
  ⟨h 0 (by omega), h 1 (by omega), h 2 (by omega), h 3 (by omega), h 4 (by omega), h 5 (by omega)⟩
theorem At.of {w : World} {b o : Nat} {t : Stp} (h : At w b o t) (k : Nat) (hk : k < 6) : w.cell? ⟨b, o + k, none⟩ = (rowV t)[k]? := by
  obtain ⟨h0, h1, h2, h3, h4, h5⟩ := h
  match k, hk with
  | 0, _ => exact h0
  | 1, _ => exact h1
  | 2, _ => exact h2
  | 3, _ => exact h3
  | 4, _ => exact h4
  | 5, _ => exact h5
/-- Stops that may be read. -/
def SRow (w : World) (v : Value) (l : List Stp) : Prop :=
  l.length ≤ maxLen ∧ ∃ a cap, v = .slice a l.length cap ∧ l.length ≤ cap ∧ (cap ≤ maxLen ∧ (a = none → cap = 0)) ∧ (l = [] ∨ ∃ b off, a = some ⟨b, off, none⟩ ∧ ∀ i, i < l.length → At w b (off + i * 6) (nth l i))
theorem SRow.below {w w' : World} {v : Value} {l : List Stp} (h : SRow w v l) (hb : Below w.heap.size w w') : SRow w' v l := by
  obtain ⟨hm, a, cap, hv, hc, hc2, h⟩ := h
  refine ⟨hm, a, cap, hv, hc, hc2, ?_⟩
  rcases h with h | ⟨b, off, ha, hc⟩
  · exact .inl h
  · exact .inr ⟨b, off, ha, fun i hi => (hc i hi).below (hc i hi).lt hb⟩
theorem srow_nil (w : World) : SRow w (.slice none 0 0) [] := ⟨by simp, none, 0, rfl, by simp, ⟨by simp, fun _ => rfl⟩, .inl rfl⟩
theorem SRow.form {w : World} {v : Value} {l : List Stp} (h : SRow w v l) : ∃ a cap, v = .slice a l.length cap ∧ l.length ≤ maxLen ∧ l.length ≤ cap ∧ cap ≤ maxLen := by
  obtain ⟨hm, a, cap, rfl, hc, hc2, _⟩ := h
  exact ⟨a, cap, rfl, hm, hc, hc2.1⟩
theorem srow_at {w : World} {a : Option Addr} {n cap : Nat} {l : List Stp} (h : SRow w (.slice a n cap) l) (i : Nat) (hi : i < l.length) : ∃ b off, a = some ⟨b, off, none⟩ ∧ At w b (off + i * 6) (nth l i) ∧ b < w.heap.size := by
  obtain ⟨_, a', cap', hv, _, _, h⟩ := h
  simp at hv
  rcases h with h | ⟨b, off, ha, hc⟩
  · subst h; simp at hi
  · exact ⟨b, off, by rw [hv.1, ha], hc i hi, (hc i hi).lt⟩
theorem srow_here {w : World} {b off n cap : Nat} {l : List Stp} (h : SRow w (.slice (some ⟨b, off, none⟩) n cap) l) (i : Nat) (hi : i < l.length) : At w b (off + i * 6) (nth l i) := by
  obtain ⟨b', off', he, hc, _⟩ := srow_at h i hi
  simp only [Option.some.injEq, Addr.mk.injEq, and_true] at he
  obtain ⟨rfl, rfl⟩ := he
  exact hc
/-- Stops that a call has made. -/
def OwnS (w : World) (B : Nat) (v : Value) (l : List Stp) : Prop := w.ownsRow B 38 6 v l.length (flat l)
theorem OwnS.row {w : World} {B : Nat} {v : Value} {l : List Stp} (h : OwnS w B v l) : SRow w v l := by
  have h' : w.ownsRow B 38 6 v l.length (flat l) := h
  rcases h'.2 with ⟨rfl, hn⟩ | ⟨g, cap, cur, rfl, hb, hg, hc, hm, hs, ht⟩
  · have : l = [] := List.eq_nil_of_length_eq_zero hn
    subst this
    exact srow_nil _
  · refine ⟨by omega, _, _, rfl, hc, ⟨hm, fun h => by simp at h⟩, .inr ⟨g, 0, rfl, fun i hi => ?_⟩⟩
    refine at_of (fun k hk => ?_)
    rw [Nat.zero_add, h'.cellAt _ (by omega), flat_at l i k hi hk]
theorem OwnS.below {w w' : World} {B : Nat} {v : Value} {l : List Stp} (h : OwnS w B v l) (hb : Below w.heap.size w w') : OwnS w' B v l := own_below h hb
theorem OwnS.alloc {w : World} {B : Nat} {v : Value} {l : List Stp} (h : OwnS w B v l) (O : Obj) : OwnS (w.alloc O) B v l := World.ownsRow.alloc h O
theorem ownS_nil (w : World) (B : Nat) : OwnS w B (.slice none 0 0) [] := World.ownsRow_nil _ _ _ _
theorem OwnS.less {w : World} {B B' : Nat} {v : Value} {l : List Stp} (h : OwnS w B v l) (hB : B' ≤ B) : OwnS w B' v l := own_less (show w.ownsRow B 38 6 v l.length (flat l) from h) hB
theorem OwnS.kept {w w' : World} {B : Nat} {v : Value} {l : List Stp} {row : Option Nat} (h : OwnS w B v l) (hg : w.grownBy w' row) (hne : v.ownBlock = none ∨ v.ownBlock ≠ row) : OwnS w' B v l := World.ownsRow.kept h hg hne
theorem OwnS.shape {w : World} {B : Nat} {v : Value} {l : List Stp} (h : OwnS w B v l) : ∃ a cap, v = .slice a l.length cap := own_shape (show w.ownsRow B 38 6 v l.length (flat l) from h)
theorem infoStop : (Try.prog.info? 38).map (fun i => (i.zero, i.size, i.bytes)) = some (some (.agg #[.int .i64 0, .int .i64 0, .int .i64 0, .int .i64 0, .int .i64 0, .int .i64 0]), 6, 48) := by kernel_rfl
theorem srow_cells {w : World} {b off n cap : Nat} {l : List Stp} (h : SRow w (.slice (some ⟨b, off, none⟩) n cap) l) : ∀ j u, (flat l)[j]? = some u → w.cell? ((⟨b, off, none⟩ : Addr).add j) = some u := by
  intro j u hj
  have hjl : j < (flat l).length := (List.getElem?_eq_some_iff.1 hj).1
  rw [flat_len] at hjl
  have hc := (srow_here h (j / 6) (by omega)).of (j % 6) (by omega)
  rw [← flat_at l (j / 6) (j % 6) (by omega) (by omega), show j / 6 * 6 + j % 6 = j by omega, hj] at hc
  rw [add_off, ← hc]
  congr 2
  omega
/-- Stops put behind stops that the call has made. -/
theorem app_stops {w : World} {ops : Array Oper} {rest : List Oper} {o : Oper} {a : Act} {Q : Exit → Act → World → Prop} (hgd : o.guard = none) (s x : Operand)
    (ho : o.op = .call { callee := .builtin .append, args := #[s, x], argTypes := #[22, 22] }) (B : Nat) (v : Value) (l : List Stp) (hs : a.eval s = v) (hown : OwnS w B v l)
    (u : Value) (m : List Stp) (hx : a.eval x = u) (hr : SRow w u m) (hlen : l.length + m.length ≤ 1000000) (hB : B ≤ w.heap.size)
    (h : ∀ v' w', OwnS w' B v' (l ++ m) → w.grownBy w' v.ownBlock → (v'.ownBlock = v.ownBlock ∨ v'.ownBlock = some w.heap.size) → wpList Try.prog ops Q rest (a.put o.dst v') w') : wpList Try.prog ops Q (o :: rest) a w := by
  obtain ⟨i0, hi, hz0, hz1, hz2⟩ := info_parts infoStop
  have hr' := hr
  obtain ⟨hm, ad, cap, rfl, hc, ⟨hc2, hn⟩, hcell⟩ := hr
  cases ad with
  | none =>
    have hc0 : cap = 0 := hn rfl
    subst hc0
    have hms : m = [] := List.eq_nil_of_length_eq_zero (by omega)
    subst hms
    refine wpList_append_own_none hgd s x 22 ho B 38 i0 6 Try.underlying22 hi v l.length (flat l) hs hown hx (h v w ?_ ⟨rfl, rfl, rfl, Nat.le_refl _, fun _ _ _ => rfl⟩ (.inl rfl))
    rw [List.append_nil]; exact hown
  | some ad =>
    refine wpList_append_own_at w hgd s x 22 ho B 38 i0 _ 6 48 Try.underlying22 hi hz0 hz1 hz2 rfl (by decide) v l.length (flat l) hs hown ad m.length cap (flat m) hx (flat_len m) ?_ (flat_one m) (by unfold maxLen; omega) (by omega) hB ?_
    · intro j u hj
      rcases hcell with h0 | ⟨b, off, he, hcc⟩
      · rw [h0] at hj; simp [flat] at hj
      · simp at he
        subst he
        exact srow_cells hr' j u hj
    · intro v' w' h1 h2 _ h4
      refine h v' w' ?_ h2 h4
      unfold OwnS
      rw [List.length_append, flat_append]
      exact h1
/-- A list of one stop, new. -/
theorem srow_new (w : World) (t : Stp) : SRow (w.alloc (.cells #[.int .i64 t.x, .int .i64 t.y, .int .i64 t.d, .int .i64 t.r, .int .i64 t.u, .int .i64 t.s] 38)) (.slice (some ⟨w.heap.size, 0, none⟩) 1 1) [t] := by
  refine ⟨by simp [maxLen], _, _, rfl, by simp, ⟨by simp [maxLen], by simp⟩, .inr ⟨_, _, rfl, fun i hi => ?_⟩⟩
  have : i = 0 := by simp at hi; omega
  subst this
  refine at_of (fun k hk => ?_)
  rw [cell_of_row _ _ _ _ _ _ (heap_alloc_new w _)]
  simp only [Nat.zero_mul, Nat.zero_add]
  match k, hk with
  | 0, _ => rfl
  | 1, _ => rfl
  | 2, _ => rfl
  | 3, _ => rfl
  | 4, _ => rfl
  | 5, _ => rfl
/-! ### Parts of a list -/
/-- The part from k on, up to h. -/
theorem SRow.part {w : World} {b off n cap : Nat} {l : List Stp} (hs : SRow w (.slice (some ⟨b, off, none⟩) n cap) l) (k h : Nat) (hk : k ≤ h) (hh : h ≤ l.length) (a : Option Addr) (ha : a = (if cap = k then some ⟨b, off, none⟩ else some ⟨b, off + k * 6, none⟩)) :
    SRow w (.slice a (h - k) (cap - k)) ((l.drop k).take (h - k)) := by
  obtain ⟨hm, a', cap', hv, hc, ⟨hc2, _⟩, hcell⟩ := hs
  simp at hv
  obtain ⟨rfl, rfl, rfl⟩ := hv
  have hl : ((l.drop k).take (h - k)).length = h - k := by simp; omega
  refine ⟨by omega, a, cap - k, by rw [hl], by omega, ⟨by omega, fun h0 => by rw [h0] at ha; split at ha <;> simp at ha⟩, ?_⟩
  by_cases h0 : h = k
  · left
    subst h0
    simp
  · right
    rw [if_neg (by omega)] at ha
    refine ⟨b, off + k * 6, ha, fun i hi => ?_⟩
    rw [hl] at hi
    rcases hcell with hn | ⟨b', off', he, hcc⟩
    · subst hn; simp at hh; omega
    · simp at he
      obtain ⟨rfl, rfl⟩ := he
      rw [nth_take _ _ _ hi, nth_drop]
      have := hcc (k + i) (by omega)
      rw [show off + (k + i) * 6 = off + k * 6 + i * 6 by omega] at this
      exact this
/-! ### Two values held against each other -/
theorem guardStop : Try.prog.eqGuardType Try.prog.depth 38 = false := by kernel_rfl
theorem equalStop (a b : Stp) (w : World) : (Op.equalIn 10000 38 (.agg #[.int .i64 a.x, .int .i64 a.y, .int .i64 a.d, .int .i64 a.r, .int .i64 a.u, .int .i64 a.s]) (.agg #[.int .i64 b.x, .int .i64 b.y, .int .i64 b.d, .int .i64 b.r, .int .i64 b.u, .int .i64 b.s])).run Try.prog w = .ok (decide (a = b)) w := by
  have u3 := Try.underlying3
  have hS : Try.prog.underlying 38 = some (.struct (Try.prog.fieldsOf 38)) := by kernel_rfl
  rw [show (10000 : Nat) = 9999 + 1 from rfl, run_equalIn_agg w 9999 38 _ _ hS (by kernel_rfl)]
  simp only [Program.fieldsOf, Try.underlying38]
  have e : decide (a = b) = decide (a.x = b.x ∧ a.y = b.y ∧ a.d = b.d ∧ a.r = b.r ∧ a.u = b.u ∧ a.s = b.s) := decide_eq_decide.2 (Stp.eq_iff a b).symm
  rw [e]
  go_simp
  by_cases h1 : a.x = b.x <;> by_cases h2 : a.y = b.y <;> by_cases h3 : a.d = b.d <;> by_cases h4 : a.r = b.r <;> by_cases h5 : a.u = b.u <;> by_cases h6 : a.s = b.s <;> simp [h1, h2, h3, h4, h5, h6]
theorem cells_int : Try.prog.cellsOf 3 = 1 := by kernel_rfl
theorem guardHead : Try.prog.eqGuardType Try.prog.depth 84 = false := by kernel_rfl
theorem equalHead (p c r p' c' r' : Int) (w : World) : (Op.equalIn 10000 84 (.agg #[.int .i64 p, .int .i64 c, .int .i64 r]) (.agg #[.int .i64 p', .int .i64 c', .int .i64 r'])).run Try.prog w = .ok (decide (p = p' ∧ c = c' ∧ r = r')) w := by
  have u3 := Try.underlying3
  obtain ⟨i0, hi, hz0, hz1, hz2⟩ := info_parts infoInt
  rw [show (10000 : Nat) = 9999 + 1 from rfl, run_equalIn_array w 9999 _ _ Try.underlying84 hi]
  simp only [show List.range 3 = [0, 1, 2] from rfl, Op.eqItems, cells_int]
  go_simp
  by_cases h1 : p = p' <;> by_cases h2 : c = c' <;> by_cases h3 : r = r' <;> simp [h1, h2, h3]
/-! ### A drawn region in which some cells are held -/
/-- These cells read so. -/
def Holds : List (Addr × Value) → World → Prop
  | [], _ => True
  | x :: cs, w => w.cell? x.1 = some x.2 ∧ Holds cs w
/-- They lie below M. -/
def Lows (M : Nat) : List (Addr × Value) → Prop
  | [] => True
  | x :: cs => x.1.block < M ∧ Lows M cs
theorem Holds.below {w w' : World} {M : Nat} (hb : Below M w w') : ∀ {cs : List (Addr × Value)}, Holds cs w → Lows M cs → Holds cs w'
  | [], _, _ => trivial
  | x :: _, h, k => ⟨(hb.cell (p := x.1) k.1).trans h.1, Holds.below hb h.2 k.2⟩
theorem held_more {cs : List (Addr × Value)} {X K : Act → World → Prop} {a : Act} {W w' : World} {M : Nat} (hK : Shut (∀ a w, Holds cs w → (Holds cs w → X a w) → K a w)) (h0 : Holds cs W) (hlt : Hid (Lows M cs)) (hb : Below M W w')
    (h : Hid (Below M W w') → Holds cs w' → X a w') : K a w' := hK.out a w' (Holds.below hb h0 hlt.out) (fun hs => h (Lib.hid hb) hs)
end Go.Proofs.Ytolaiccgbngomaa
