/- How stops and instances lie in memory. -/
import Derived.Test.YtbhgpiohniplbaaXMath
import Derived.Test.YtbhgpiohniplbaaXRef
import Derived.Test.YtbhgpiohniplbaaXPrint
import Derived.Laws.StructEq
import Derived.ChangeKeysEq
import Derived.Deep.RegionHeld3
import Derived.StillTailTactics
namespace Go.Proofs.Ytbhgpiohniplbaa
open Go.ChangeShapes Go.WideShapes Go.ChangeAt Go.RowKit

def rowV (t : Stp) : List Value := [.int .i64 t.x, .int .i64 t.y, .int .i64 t.d, .int .i64 t.r, .int .i64 t.u, .int .i64 t.s]
def stopV (t : Stp) : Value := .agg #[.int .i64 t.x, .int .i64 t.y, .int .i64 t.d, .int .i64 t.r, .int .i64 t.u, .int .i64 t.s]
def insV (I : Ins) (v : Value) : Value := .agg #[.int .i64 I.p, .int .i64 I.c, .int .i64 I.r, v]
def flat : List Stp → List Value
  | [] => []
  | t :: l => rowV t ++ flat l
theorem flat_append : ∀ (a b : List Stp), flat (a ++ b) = flat a ++ flat b
  | [], _ => rfl
  | t :: a, b => by rw [List.cons_append, flat, flat, flat_append a b, List.append_assoc]
theorem flat_len : ∀ (l : List Stp), (flat l).length = l.length * 6
  | [] => rfl
  | t :: l => by rw [flat, List.length_append, flat_len l]; simp [rowV]; omega
theorem flat_at : ∀ (l : List Stp) (i k : Nat), i < l.length → k < 6 → (flat l)[i * 6 + k]? = (rowV (nth l i))[k]?
  | [], i, k, h, _ => by simp at h
  | t :: l, 0, k, _, hk => by rw [flat, Nat.zero_mul, Nat.zero_add, List.getElem?_append_left (by simp [rowV]; omega)]; rfl
  | t :: l, i + 1, k, h, hk => by
    rw [flat, List.getElem?_append_right (by simp [rowV]; omega), show (i + 1) * 6 + k - (rowV t).length = i * 6 + k by simp [rowV]; omega, flat_at l i k (by simpa using h) hk]
    rfl
theorem flat_one : ∀ (l : List Stp), ∀ u ∈ flat l, u.oneCell' = true
  | [], u, hu => by simp [flat] at hu
  | t :: l, u, hu => by
    rw [flat, List.mem_append] at hu
    rcases hu with hu | hu
    · simp [rowV] at hu
      rcases hu with rfl | rfl | rfl | rfl | rfl | rfl <;> rfl
    · exact flat_one l u hu

/-- A stop's six cells. -/
def At (w : World) (b o : Nat) (t : Stp) : Prop :=
  w.cell? ⟨b, o, none⟩ = some (.int .i64 t.x) ∧ w.cell? ⟨b, o + 1, none⟩ = some (.int .i64 t.y) ∧ w.cell? ⟨b, o + 2, none⟩ = some (.int .i64 t.d) ∧ w.cell? ⟨b, o + 3, none⟩ = some (.int .i64 t.r) ∧ w.cell? ⟨b, o + 4, none⟩ = some (.int .i64 t.u) ∧ w.cell? ⟨b, o + 5, none⟩ = some (.int .i64 t.s)
theorem At.lt {w : World} {b o : Nat} {t : Stp} (h : At w b o t) : b < w.heap.size := World.block_lt_of_cell? w _ h.1
theorem At.below {w w' : World} {b o : Nat} {t : Stp} (h : At w b o t) {B : Nat} (hlt : b < B) (hb : Below B w w') : At w' b o t := by
  obtain ⟨h0, h1, h2, h3, h4, h5⟩ := h
  exact ⟨(hb.cell (p := ⟨b, o, none⟩) hlt).trans h0, (hb.cell (p := ⟨b, o + 1, none⟩) hlt).trans h1, (hb.cell (p := ⟨b, o + 2, none⟩) hlt).trans h2, (hb.cell (p := ⟨b, o + 3, none⟩) hlt).trans h3, (hb.cell (p := ⟨b, o + 4, none⟩) hlt).trans h4, (hb.cell (p := ⟨b, o + 5, none⟩) hlt).trans h5⟩
theorem at_of {w : World} {b o : Nat} {t : Stp} (h : ∀ k, k < 6 → w.cell? ⟨b, o + k, none⟩ = (rowV t)[k]?) : At w b o t :=
  ⟨h 0 (by omega), h 1 (by omega), h 2 (by omega), h 3 (by omega), h 4 (by omega), h 5 (by omega)⟩
theorem At.of {w : World} {b o : Nat} {t : Stp} (h : At w b o t) (k : Nat) (hk : k < 6) : w.cell? ⟨b, o + k, none⟩ = (rowV t)[k]? := by
  obtain ⟨h0, h1, h2, h3, h4, h5⟩ := h
  match k, hk with
  | 0, _ => exact h0
  | 1, _ => exact h1
  | 2, _ => exact h2
  | 3, _ => exact h3
  | 4, _ => exact h4
  | 5, _ => exact h5
/-- Stops that may be read. -/
def SRow (w : World) (v : Value) (l : List Stp) : Prop :=
  l.length ≤ maxLen ∧ ∃ a cap, v = .slice a l.length cap ∧ l.length ≤ cap ∧ (cap ≤ maxLen ∧ (a = none → cap = 0)) ∧ (l = [] ∨ ∃ b off, a = some ⟨b, off, none⟩ ∧ ∀ i, i < l.length → At w b (off + i * 6) (nth l i))
theorem SRow.below {w w' : World} {v : Value} {l : List Stp} (h : SRow w v l) (hb : Below w.heap.size w w') : SRow w' v l := by
  obtain ⟨hm, a, cap, hv, hc, hc2, h⟩ := h
  refine ⟨hm, a, cap, hv, hc, hc2, ?_⟩
  rcases h with h | ⟨b, off, ha, hc⟩
  · exact .inl h
  · exact .inr ⟨b, off, ha, fun i hi => (hc i hi).below (hc i hi).lt hb⟩
theorem srow_nil (w : World) : SRow w (.slice none 0 0) [] := ⟨by simp, none, 0, rfl, by simp, ⟨by simp, fun _ => rfl⟩, .inl rfl⟩
theorem SRow.form {w : World} {v : Value} {l : List Stp} (h : SRow w v l) : ∃ a cap, v = .slice a l.length cap ∧ l.length ≤ maxLen ∧ l.length ≤ cap ∧ cap ≤ maxLen := by
  obtain ⟨hm, a, cap, rfl, hc, hc2, _⟩ := h
  exact ⟨a, cap, rfl, hm, hc, hc2.1⟩
theorem srow_at {w : World} {a : Option Addr} {n cap : Nat} {l : List Stp} (h : SRow w (.slice a n cap) l) (i : Nat) (hi : i < l.length) : ∃ b off, a = some ⟨b, off, none⟩ ∧ At w b (off + i * 6) (nth l i) ∧ b < w.heap.size := by
  obtain ⟨_, a', cap', hv, _, _, h⟩ := h
  simp at hv
  rcases h with h | ⟨b, off, ha, hc⟩
  · subst h; simp at hi
  · exact ⟨b, off, by rw [hv.1, ha], hc i hi, (hc i hi).lt⟩
theorem srow_here {w : World} {b off n cap : Nat} {l : List Stp} (h : SRow w (.slice (some ⟨b, off, none⟩) n cap) l) (i : Nat) (hi : i < l.length) : At w b (off + i * 6) (nth l i) := by
  obtain ⟨b', off', he, hc, _⟩ := srow_at h i hi
  simp only [Option.some.injEq, Addr.mk.injEq, and_true] at he
  obtain ⟨rfl, rfl⟩ := he
  exact hc
theorem srow_cells {w : World} {b off n cap : Nat} {l : List Stp} (h : SRow w (.slice (some ⟨b, off, none⟩) n cap) l) : ∀ j u, (flat l)[j]? = some u → w.cell? ((⟨b, off, none⟩ : Addr).add j) = some u := by
  intro j u hj
  have hjl : j < (flat l).length := (List.getElem?_eq_some_iff.1 hj).1
  rw [flat_len] at hjl
  have hc := (srow_here h (j / 6) (by omega)).of (j % 6) (by omega)
  rw [← flat_at l (j / 6) (j % 6) (by omega) (by omega), show j / 6 * 6 + j % 6 = j by omega, hj] at hc
  rw [add_off, ← hc]
  congr 2
  omega
/-! ### Parts of a list -/
/-- The part from k on, up to h. -/
theorem SRow.part {w : World} {b off n cap : Nat} {l : List Stp} (hs : SRow w (.slice (some ⟨b, off, none⟩) n cap) l) (k h : Nat) (hk : k ≤ h) (hh : h ≤ l.length) (a : Option Addr) (ha : a = (if cap = k then some ⟨b, off, none⟩ else some ⟨b, off + k * 6, none⟩)) :
    SRow w (.slice a (h - k) (cap - k)) ((l.drop k).take (h - k)) := by
  obtain ⟨hm, a', cap', hv, hc, ⟨hc2, _⟩, hcell⟩ := hs
  simp at hv
  obtain ⟨rfl, rfl, rfl⟩ := hv
  have hl : ((l.drop k).take (h - k)).length = h - k := by simp; omega
  refine ⟨by omega, a, cap - k, by rw [hl], by omega, ⟨by omega, fun h0 => by rw [h0] at ha; split at ha <;> simp at ha⟩, ?_⟩
  by_cases h0 : h = k
  · left
    subst h0
    simp
  · right
    rw [if_neg (by omega)] at ha
    refine ⟨b, off + k * 6, ha, fun i hi => ?_⟩
    rw [hl] at hi
    rcases hcell with hn | ⟨b', off', he, hcc⟩
    · subst hn; simp at hh; omega
    · simp at he
      obtain ⟨rfl, rfl⟩ := he
      rw [nth_take _ _ _ hi, nth_drop]
      have := hcc (k + i) (by omega)
      rw [show off + (k + i) * 6 = off + k * 6 + i * 6 by omega] at this
      exact this
/-! ### Two values held against each other -/
theorem cells_int : Try.prog.cellsOf 3 = 1 := by kernel_rfl
/-! ### A drawn region in which some cells are held -/
/-- These cells read so. -/
def Holds : List (Addr × Value) → World → Prop
  | [], _ => True
  | x :: cs, w => w.cell? x.1 = some x.2 ∧ Holds cs w
/-- They lie below M. -/
def Lows (M : Nat) : List (Addr × Value) → Prop
  | [] => True
  | x :: cs => x.1.block < M ∧ Lows M cs
theorem Holds.below {w w' : World} {M : Nat} (hb : Below M w w') : ∀ {cs : List (Addr × Value)}, Holds cs w → Lows M cs → Holds cs w'
  | [], _, _ => trivial
  | x :: _, h, k => ⟨(hb.cell (p := x.1) k.1).trans h.1, Holds.below hb h.2 k.2⟩
theorem held_more {cs : List (Addr × Value)} {X K : Act → World → Prop} {a : Act} {W w' : World} {M : Nat} (hK : Shut (∀ a w, Holds cs w → (Holds cs w → X a w) → K a w)) (h0 : Holds cs W) (hlt : Hid (Lows M cs)) (hb : Below M W w')
    (h : Hid (Below M W w') → Holds cs w' → X a w') : K a w' := hK.out a w' (Holds.below hb h0 hlt.out) (fun hs => h (Lib.hid hb) hs)
end Go.Proofs.Ytbhgpiohniplbaa
/- What the small functions answer: within, yardMay, stopsMay, demandsMay; the document's in and stop. -/
namespace Go.Proofs.Ytbhgpiohniplbaa
open Go.ChangeShapes Go.WideShapes Go.ChangeAt Go.RowKit

def inAll (a b : Int) (l : List Int) : Bool := decide (∀ n ∈ l, inb a b n = true)
theorem inAll_take {a b : Int} {l : List Int} {k : Nat} (hk : k < l.length) (h : inAll a b (l.take k) = true) (hx : inb a b (l.getD k 0) = true) : inAll a b (l.take (k + 1)) = true := by
  unfold inAll at *
  rw [decide_eq_true_iff] at *
  intro n hn
  rw [List.take_add_one, List.getElem?_eq_getElem hk] at hn
  simp only [List.mem_append, Option.toList_some, List.mem_singleton] at hn
  rcases hn with hn | rfl
  · exact h n hn
  · rw [List.getD_eq_getElem?_getD, List.getElem?_eq_getElem hk] at hx; exact hx
theorem inAll_not {a b : Int} {l : List Int} {k : Nat} (hk : k < l.length) (hx : inb a b (l.getD k 0) = false) : inAll a b l = false := by
  unfold inAll
  rw [decide_eq_false_iff_not]
  intro h
  have := h (l.getD k 0) (by rw [List.getD_eq_getElem?_getD, List.getElem?_eq_getElem hk]; simp)
  rw [hx] at this; simp at this
theorem inAll_one (a b n : Int) : inAll a b [n] = inb a b n := by unfold inAll; simp
theorem inAll_two (a b n m : Int) : inAll a b [n, m] = (inb a b n && inb a b m) := by
  unfold inAll
  by_cases h1 : inb a b n = true <;> by_cases h2 : inb a b m = true <;> simp [h1, h2]
end Go.Proofs.Ytbhgpiohniplbaa
/- What stopsMay and demandsMay answer. -/
namespace Go.Proofs.Ytbhgpiohniplbaa
open Go.ChangeShapes Go.WideShapes Go.ChangeAt Go.RowKit

theorem stops_take {l : List Stp} {k : Nat} (hk : k < l.length) (h : stopsOk (l.take k) = true) (hx : stopOk (nth l k) = true) : stopsOk (l.take (k + 1)) = true := by
  rw [stops_iff] at *
  intro i hi
  have hi' : i < k + 1 := by simp at hi; omega
  rw [nth_take _ _ _ hi']
  by_cases c : i < k
  · have := h i (by simp; omega)
    rw [nth_take _ _ _ c] at this
    exact this
  · obtain rfl : i = k := by omega
    exact hx
theorem stops_not {l : List Stp} {k : Nat} (hk : k < l.length) (hx : stopOk (nth l k) = false) : stopsOk l = false := by
  cases h : stopsOk l with
  | false => rfl
  | true => rw [(stops_iff l).1 h k hk] at hx; simp at hx
theorem dem_take {T B : List Stp} {k : Nat} (h : ∀ i, i < k → demAt T B i) (hx : demAt T B k) : ∀ i, i < k + 1 → demAt T B i := by
  intro i hi
  by_cases c : i < k
  · exact h i c
  · obtain rfl : i = k := by omega
    exact hx
theorem dem_not {T B : List Stp} {k : Nat} (hk : k < T.length) (hx : ¬ demAt T B k) : demOk T B = false := decide_eq_false (fun h => hx (h k hk))
end Go.Proofs.Ytbhgpiohniplbaa
