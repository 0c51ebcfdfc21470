/- How bytes, numbers and lines lie in memory, and how a reader does. -/
import Derived.Test.YtgplajofemencaaGreatRows
import Derived.Test.YtgplajofemencaaGreatXMath
import Derived.WalkKit
import Derived.ProofKit
import Derived.OpenShut
import Derived.IntWalk
import Derived.Below
import Derived.Lib.Hide
import Derived.Deep.QuietTactic
import Derived.BigQuiet
import Derived.Deep.AppendLies
import Derived.Laws.OwnMore
import Derived.Maps.AppendAt
import Derived.Deep.RegionLaw
import Derived.OwnWalk
import Derived.BigRegion
namespace Go.Proofs.YtgplajofemencaaGreat
open Go.ChangeShapes Go.WideShapes Go.ChangeAt Go.RowKit

theorem ret_int {k : IntKind} {a b : Int} (h : a = b) : Ending.returned (.int k a) = .returned (.int k b) := by rw [h]
theorem ret_bool {a b : Bool} (h : a = b) : Ending.returned (.bool a) = .returned (.bool b) := by rw [h]

def ints (l : List Int) : List Value := l.map (Value.int .i64)
def byts (l : List Int) : List Value := l.map (Value.int .u8)
theorem ints_len (l : List Int) : (ints l).length = l.length := by simp [ints]
theorem byts_len (l : List Int) : (byts l).length = l.length := by simp [byts]
theorem ints_at (l : List Int) (i : Nat) (h : i < l.length) : (ints l)[i]? = some (.int .i64 (l.getD i 0)) := by
  simp [ints, List.getD_eq_getElem?_getD, h]
theorem byts_at (l : List Int) (i : Nat) (h : i < l.length) : (byts l)[i]? = some (.int .u8 (l.getD i 0)) := by
  simp [byts, List.getD_eq_getElem?_getD, h]

/-- A slice whose cells read so. -/
def Row (w : World) (v : Value) (xs : List Value) : Prop :=
  xs.length ≤ maxLen ∧ ∃ a cap, v = .slice a xs.length cap ∧ xs.length ≤ cap ∧ (cap ≤ maxLen ∧ (a = none → cap = 0)) ∧ (xs = [] ∨ ∃ b off, a = some ⟨b, off, none⟩ ∧ ∀ i, i < xs.length → w.cell? ⟨b, off + i, none⟩ = xs[i]?)
theorem Row.below {w w' : World} {v : Value} {xs : List Value} (h : Row w v xs) (hb : Below w.heap.size w w') : Row w' v xs := by
  obtain ⟨hm, a, cap, hv, hc, hc2, h⟩ := h
  refine ⟨hm, a, cap, hv, hc, hc2, ?_⟩
  rcases h with h | ⟨b, off, ha, hc⟩
  · exact .inl h
  · refine .inr ⟨b, off, ha, fun i hi => ?_⟩
    have h1 := hc i hi
    rw [List.getElem?_eq_getElem hi] at h1
    have hlt : b < w.heap.size := World.block_lt_of_cell? w _ h1
    rw [hb.cell (p := ⟨b, off + i, none⟩) hlt]
    exact hc i hi
theorem own_row {w : World} {B : Nat} {e : TypeId} {v : Value} {n : Nat} {xs : List Value} (h : w.ownsRow B e 1 v n xs) : Row w v xs := by
  have hl : xs.length = n := by simpa using h.1
  subst hl
  rcases h.2 with ⟨rfl, hn⟩ | ⟨g, cap, cur, rfl, hb, hg, hc, hm, hs, ht⟩
  · have : xs = [] := List.eq_nil_of_length_eq_zero hn
    subst this
    exact ⟨by simp, none, 0, rfl, by simp, ⟨by simp, fun _ => rfl⟩, .inl rfl⟩
  · refine ⟨by omega, _, _, rfl, hc, ⟨hm, fun h => by simp at h⟩, .inr ⟨g, 0, rfl, fun i hi => ?_⟩⟩
    rw [Nat.zero_add, h.cellAt _ (by omega)]
theorem own_less {w : World} {B B' : Nat} {e : TypeId} {s : Nat} {v : Value} {n : Nat} {xs : List Value} (h : w.ownsRow B e s v n xs) (hB : B' ≤ B) : w.ownsRow B' e s v n xs := by
  refine ⟨h.1, ?_⟩
  rcases h.2 with h0 | ⟨g, cap, cur, hv, hb, r⟩
  · exact .inl h0
  · exact .inr ⟨g, cap, cur, hv, by omega, r⟩
theorem own_ne {w : World} {B b : Nat} {e e' : TypeId} {s : Nat} {v : Value} {n : Nat} {xs : List Value} {c : Array Value} {fr : Nat × Nat} (h : w.ownsRow B e s v n xs) (hb : w.heap[b]? = some (.cells c e' fr)) (he : e ≠ e') : v.ownBlock ≠ some b := by
  rcases h.2 with ⟨rfl, _⟩ | ⟨g, cap, cur, rfl, _, hg, _⟩
  · simp [Value.ownBlock]
  · simp only [Value.ownBlock, ne_eq, Option.some.injEq]
    rintro rfl
    rw [hg] at hb
    simp at hb
    exact he hb.2.1
theorem own_below {w w' : World} {B : Nat} {e : TypeId} {s : Nat} {v : Value} {n : Nat} {xs : List Value} (h : w.ownsRow B e s v n xs) (hb : Below w.heap.size w w') : w'.ownsRow B e s v n xs :=
  h.kept (row := none) ⟨hb.os, hb.tape, hb.output, hb.size, fun k hk _ => hb.block k hk⟩ (by cases v.ownBlock <;> simp)

/-! ### Lines -/
/-- Each line lies where its slice says. -/
def In (w : World) : List Value → List (List Int) → Prop
  | [], [] => True
  | v :: vs, l :: L => Row w v (ints l) ∧ In w vs L
  | _, _ => False
def OwnIn (w : World) (B : Nat) : List Value → List (List Int) → Prop
  | [], [] => True
  | v :: vs, l :: L => w.ownsRow B 3 1 v l.length (ints l) ∧ OwnIn w B vs L
  | _, _ => False
theorem In.len {w : World} : ∀ {vs : List Value} {L : List (List Int)}, In w vs L → vs.length = L.length
  | [], [], _ => rfl
  | _ :: _, _ :: _, h => by simp [In.len h.2]
  | [], _ :: _, h => h.elim
  | _ :: _, [], h => h.elim
theorem In.at {w : World} : ∀ {vs : List Value} {L : List (List Int)}, In w vs L → ∀ i, i < L.length → ∃ v, vs[i]? = some v ∧ Row w v (ints (L.getD i []))
  | [], [], _, i, h => by simp at h
  | v :: _, l :: _, h, 0, _ => ⟨v, rfl, h.1⟩
  | _ :: vs, _ :: L, h, i + 1, hi => by
    obtain ⟨v, h1, h2⟩ := In.at h.2 i (by simpa using hi)
    exact ⟨v, by simpa using h1, by simpa using h2⟩
  | [], _ :: _, h, _, _ => h.elim
  | _ :: _, [], h, _, _ => h.elim
theorem In.below {w w' : World} (hb : Below w.heap.size w w') : ∀ {vs : List Value} {L : List (List Int)}, In w vs L → In w' vs L
  | [], [], _ => trivial
  | _ :: _, _ :: _, h => ⟨h.1.below hb, In.below hb h.2⟩
  | [], _ :: _, h => h.elim
  | _ :: _, [], h => h.elim
theorem In.append {w : World} : ∀ {vs : List Value} {L : List (List Int)} {us : List Value} {K : List (List Int)}, In w vs L → In w us K → In w (vs ++ us) (L ++ K)
  | [], [], _, _, _, k => k
  | _ :: _, _ :: _, _, _, h, k => ⟨h.1, In.append h.2 k⟩
  | [], _ :: _, _, _, h, _ => h.elim
  | _ :: _, [], _, _, h, _ => h.elim
theorem OwnIn.in {w : World} {B : Nat} : ∀ {vs : List Value} {L : List (List Int)}, OwnIn w B vs L → In w vs L
  | [], [], _ => trivial
  | _ :: _, _ :: _, h => ⟨own_row h.1, OwnIn.in h.2⟩
  | [], _ :: _, h => h.elim
  | _ :: _, [], h => h.elim
theorem OwnIn.less {w : World} {B B' : Nat} (hB : B' ≤ B) : ∀ {vs : List Value} {L : List (List Int)}, OwnIn w B vs L → OwnIn w B' vs L
  | [], [], _ => trivial
  | _ :: _, _ :: _, h => ⟨own_less h.1 hB, OwnIn.less hB h.2⟩
  | [], _ :: _, h => h.elim
  | _ :: _, [], h => h.elim
theorem OwnIn.append {w : World} {B : Nat} : ∀ {vs : List Value} {L : List (List Int)} {us : List Value} {K : List (List Int)}, OwnIn w B vs L → OwnIn w B us K → OwnIn w B (vs ++ us) (L ++ K)
  | [], [], _, _, _, k => k
  | _ :: _, _ :: _, _, _, h, k => ⟨h.1, OwnIn.append h.2 k⟩
  | [], _ :: _, _, _, h, _ => h.elim
  | _ :: _, [], _, _, h, _ => h.elim
/-- What grows elsewhere leaves them. -/
theorem OwnIn.kept {w w' : World} {B : Nat} {row : Option Nat} (hg : w.grownBy w' row) : ∀ {vs : List Value} {L : List (List Int)}, OwnIn w B vs L → (∀ u ∈ vs, u.ownBlock = none ∨ u.ownBlock ≠ row) → OwnIn w' B vs L
  | [], [], _, _ => trivial
  | v :: _, _ :: _, h, k => ⟨h.1.kept hg (k v (by simp)), OwnIn.kept hg h.2 (fun u hu => k u (by simp [hu]))⟩
  | [], _ :: _, h, _ => h.elim
  | _ :: _, [], h, _ => h.elim
theorem OwnIn.ne {w : World} {B b : Nat} {e : TypeId} {c : Array Value} {fr : Nat × Nat} (hb : w.heap[b]? = some (.cells c e fr)) (he : (3 : TypeId) ≠ e) : ∀ {vs : List Value} {L : List (List Int)}, OwnIn w B vs L → ∀ u ∈ vs, u.ownBlock ≠ some b
  | [], [], _, u, hu => by simp at hu
  | v :: _, _ :: _, h, u, hu => by
    simp only [List.mem_cons] at hu
    rcases hu with rfl | hu
    · exact own_ne h.1 hb he
    · exact OwnIn.ne hb he h.2 u hu
  | [], _ :: _, h, _, _ => h.elim
  | _ :: _, [], h, _, _ => h.elim
theorem OwnIn.one {w : World} {B : Nat} : ∀ {vs : List Value} {L : List (List Int)}, OwnIn w B vs L → ∀ u ∈ vs, u.oneCell' = true
  | [], [], _, u, hu => by simp at hu
  | v :: _, _ :: _, h, u, hu => by
    simp only [List.mem_cons] at hu
    rcases hu with rfl | hu
    · rcases h.1.2 with ⟨rfl, _⟩ | ⟨g, cap, cur, rfl, _⟩ <;> rfl
    · exact OwnIn.one h.2 u hu
  | [], _ :: _, h, _, _ => h.elim
  | _ :: _, [], h, _, _ => h.elim
/-- Lines that may be read. -/
def IsLL (w : World) (v : Value) (L : List (List Int)) : Prop := ∃ vs, Row w v vs ∧ In w vs L
theorem IsLL.below {w w' : World} {v : Value} {L : List (List Int)} (h : IsLL w v L) (hb : Below w.heap.size w w') : IsLL w' v L := by
  obtain ⟨vs, h1, h2⟩ := h
  exact ⟨vs, h1.below hb, h2.below hb⟩
/-- Lines that a call has made. -/
def OwnLL (w : World) (B : Nat) (v : Value) (L : List (List Int)) : Prop := ∃ vs, w.ownsRow B 28 1 v vs.length vs ∧ OwnIn w B vs L
theorem OwnLL.is {w : World} {B : Nat} {v : Value} {L : List (List Int)} (h : OwnLL w B v L) : IsLL w v L := by
  obtain ⟨vs, h1, h2⟩ := h
  exact ⟨vs, own_row h1, h2.in⟩
theorem OwnLL.less {w : World} {B B' : Nat} {v : Value} {L : List (List Int)} (h : OwnLL w B v L) (hB : B' ≤ B) : OwnLL w B' v L := by
  obtain ⟨vs, h1, h2⟩ := h
  exact ⟨vs, own_less h1 hB, h2.less hB⟩
theorem OwnLL.below {w w' : World} {B : Nat} {v : Value} {L : List (List Int)} (h : OwnLL w B v L) (hb : Below w.heap.size w w') : OwnLL w' B v L := by
  obtain ⟨vs, h1, h2⟩ := h
  exact ⟨vs, own_below h1 hb, h2.kept (row := none) ⟨hb.os, hb.tape, hb.output, hb.size, fun k hk _ => hb.block k hk⟩ (fun u _ => by cases u.ownBlock <;> simp)⟩
theorem ownLL_nil (w : World) (B : Nat) : OwnLL w B (.slice none 0 0) [] := ⟨[], World.ownsRow_nil _ _ _ _, trivial⟩

/-! ### The reader -/
structure RAt (w : World) (B b : Nat) (tv : Value) (p : Nat) (L : List (List Int)) (l : List Int) (sz dg : Nat) (neg : Bool) (lv v : Value) (vs : List Value) : Prop where
  base : B ≤ b
  blk : w.heap[b]? = some (.cells #[tv, .int .i64 p, lv, v, .int .i64 sz, .int .i64 dg, .bool neg] 100 (0, 0))
  all : w.ownsRow B 28 1 lv vs.length vs
  each : OwnIn w B vs L
  own : w.ownsRow B 3 1 v l.length (ints l)
  apart : ∀ u ∈ vs, ∀ g, u.ownBlock = some g → v.ownBlock ≠ some g
section
variable {w : World} {B b : Nat} {tv : Value} {p : Nat} {L : List (List Int)} {l : List Int} {sz dg : Nat} {neg : Bool} {lv v : Value} {vs : List Value}
theorem RAt.lt (h : RAt w B b tv p L l sz dg neg lv v vs) : b < w.heap.size := (Array.getElem?_eq_some_iff.1 h.blk).1
theorem RAt.cell (h : RAt w B b tv p L l sz dg neg lv v vs) (i : Nat) : w.cell? ⟨b, i, none⟩ = [tv, .int .i64 p, lv, v, .int .i64 sz, .int .i64 dg, .bool neg][i]? := by
  rw [cell_of_row w b i _ _ _ h.blk]; simp
theorem RAt.free (h : RAt w B b tv p L l sz dg neg lv v vs) (i : Nat) : w.frozen? ⟨b, i, none⟩ = false := frozen_of_row w b i _ _ h.blk
/-- A cell of its struct is stored. -/
theorem RAt.keep (h : RAt w B b tv p L l sz dg neg lv v vs) (i : Nat) (u : Value) :
    (w.setCell ⟨b, i, none⟩ u).heap[b]? = some (.cells (#[tv, .int .i64 p, lv, v, .int .i64 sz, .int .i64 dg, .bool neg].setIfInBounds i u) 100 (0, 0)) ∧
    (w.setCell ⟨b, i, none⟩ u).ownsRow B 28 1 lv vs.length vs ∧ OwnIn (w.setCell ⟨b, i, none⟩ u) B vs L ∧ (w.setCell ⟨b, i, none⟩ u).ownsRow B 3 1 v l.length (ints l) ∧
    Below B w (w.setCell ⟨b, i, none⟩ u) := by
  have hg : w.grownBy (w.setCell ⟨b, i, none⟩ u) (some b) := ⟨rfl, rfl, rfl, by simp [World.setCell], fun k _ hk => heap_setCell_other w ⟨b, i, none⟩ k _ (fun e => hk (by rw [e]))⟩
  refine ⟨by rw [heap_setCell_same w b i _ _ _ h.blk], h.all.kept hg (.inr (own_ne h.all h.blk (by decide))), h.each.kept hg (fun u hu => .inr (h.each.ne h.blk (by decide) u hu)), h.own.kept hg (.inr (own_ne h.own h.blk (by decide))), ?_⟩
  exact ⟨rfl, rfl, rfl, by simp [World.setCell], fun k hk => heap_setCell_other w ⟨b, i, none⟩ k _ (fun e => by have := h.base; simp at e; omega)⟩
theorem RAt.setAt (h : RAt w B b tv p L l sz dg neg lv v vs) (q : Nat) : RAt (w.setCell ⟨b, 1, none⟩ (.int .i64 q)) B b tv q L l sz dg neg lv v vs ∧ Below B w (w.setCell ⟨b, 1, none⟩ (.int .i64 q)) := by
  obtain ⟨h1, h2, h3, h4, h5⟩ := h.keep 1 (.int .i64 q)
  exact ⟨⟨h.base, h1, h2, h3, h4, h.apart⟩, h5⟩
theorem RAt.setDg (h : RAt w B b tv p L l sz dg neg lv v vs) (q : Nat) : RAt (w.setCell ⟨b, 5, none⟩ (.int .i64 q)) B b tv p L l sz q neg lv v vs ∧ Below B w (w.setCell ⟨b, 5, none⟩ (.int .i64 q)) := by
  obtain ⟨h1, h2, h3, h4, h5⟩ := h.keep 5 (.int .i64 q)
  exact ⟨⟨h.base, h1, h2, h3, h4, h.apart⟩, h5⟩
theorem RAt.setSz (h : RAt w B b tv p L l sz dg neg lv v vs) (q : Nat) : RAt (w.setCell ⟨b, 4, none⟩ (.int .i64 q)) B b tv p L l q dg neg lv v vs ∧ Below B w (w.setCell ⟨b, 4, none⟩ (.int .i64 q)) := by
  obtain ⟨h1, h2, h3, h4, h5⟩ := h.keep 4 (.int .i64 q)
  exact ⟨⟨h.base, h1, h2, h3, h4, h.apart⟩, h5⟩
theorem RAt.setNeg (h : RAt w B b tv p L l sz dg neg lv v vs) (q : Bool) : RAt (w.setCell ⟨b, 6, none⟩ (.bool q)) B b tv p L l sz dg q lv v vs ∧ Below B w (w.setCell ⟨b, 6, none⟩ (.bool q)) := by
  obtain ⟨h1, h2, h3, h4, h5⟩ := h.keep 6 (.bool q)
  exact ⟨⟨h.base, h1, h2, h3, h4, h.apart⟩, h5⟩
/-- The line is let go. -/
theorem RAt.setNil (h : RAt w B b tv p L l sz dg neg lv v vs) : RAt (w.setCell ⟨b, 3, none⟩ (.slice none 0 0)) B b tv p L [] sz dg neg lv (.slice none 0 0) vs ∧ Below B w (w.setCell ⟨b, 3, none⟩ (.slice none 0 0)) := by
  obtain ⟨h1, h2, h3, h4, h5⟩ := h.keep 3 (.slice none 0 0)
  exact ⟨⟨h.base, h1, h2, h3, World.ownsRow_nil _ _ _ _, fun _ _ _ _ => by simp [Value.ownBlock]⟩, h5⟩
end
/-- A reader, wherever its rows lie. -/
def RD (w : World) (B b : Nat) (tv : Value) (p : Nat) (L : List (List Int)) (l : List Int) (sz dg : Nat) (neg : Bool) : Prop := ∃ lv v vs, RAt w B b tv p L l sz dg neg lv v vs
end Go.Proofs.YtgplajofemencaaGreat
/- What a reader's steps do: a byte's kind, the next byte, a digit taken, a number ended, a line ended. -/
namespace Go.Proofs.YtgplajofemencaaGreat
open Go.ChangeShapes Go.WideShapes Go.ChangeAt Go.RowKit

set_option maxRecDepth 100000 in
theorem kind_any (c : Int) (w : World) : Calls Tryz.prog 91 #[.int .u8 c] w fun e w' => e = .returned (.int .i64 (kd c)) ∧ w' = w := by
  rcases kd_cases c with ⟨rfl, hk⟩ | ⟨rfl, hk⟩ | ⟨rfl, hk⟩ | ⟨rfl, hk⟩ | ⟨h1, h2, hk⟩ | ⟨a1, a2, a3, a4, h, hk⟩
  iterate 4
    · rw [hk]
      go_enter Tryz.func91, Tryz.ntmps91
      go_wp2
      go_ret
      exact ⟨rfl, rfl⟩
  · rw [hk]
    have b1 : (c == 32) = false := by simp; omega
    have b2 : (c == 45) = false := by simp; omega
    have b3 : (c == 35) = false := by simp; omega
    have b4 : (c == 10) = false := by simp; omega
    have d1 : decide (48 ≤ c) = true := by simpa using h1
    have d2 : decide (c ≤ 57) = true := by simpa using h2
    clear hk
    go_enter Tryz.func91, Tryz.ntmps91
    go_wp2
    go_ret
    exact ⟨rfl, rfl⟩
  · rw [hk]
    have b1 : (c == 32) = false := by simpa using a1
    have b2 : (c == 45) = false := by simpa using a2
    have b3 : (c == 35) = false := by simpa using a3
    have b4 : (c == 10) = false := by simpa using a4
    clear hk a1 a2 a3 a4
    by_cases h1 : 48 ≤ c
    · have d1 : decide (48 ≤ c) = true := by simpa using h1
      have d2 : decide (c ≤ 57) = false := decide_eq_false (fun h2 => h ⟨h1, h2⟩)
      clear h h1
      go_enter Tryz.func91, Tryz.ntmps91
      go_wp2
      go_ret
      exact ⟨rfl, rfl⟩
    · have d1 : decide (48 ≤ c) = false := by simpa using h1
      clear h h1
      go_enter Tryz.func91, Tryz.ntmps91
      go_wp2
      go_ret
      exact ⟨rfl, rfl⟩

theorem own_each {w : World} {B : Nat} (n : Nat) : ∀ {vs : List Value} {L : List (List Int)}, OwnIn w B vs L → OwnIn (w.drewN n) B vs L
  | [], [], _ => trivial
  | _ :: _, _ :: _, h => ⟨h.1, own_each n h.2⟩
  | [], _ :: _, h => h.elim
  | _ :: _, [], h => h.elim
section
variable {w : World} {B b : Nat} {tv : Value} {p : Nat} {L : List (List Int)} {l : List Int} {sz dg : Nat} {neg : Bool} {bs : List Int}
theorem below_drewN {B : Nat} {a w : World} (h : Below B a w) (n : Nat) : Below B a (w.drewN n) := ⟨h.os, h.tape, h.output, h.size, h.block⟩
theorem RAt.drewN {lv v : Value} {vs : List Value} (h : RAt w B b tv p L l sz dg neg lv v vs) (n : Nat) : RAt (w.drewN n) B b tv p L l sz dg neg lv v vs := ⟨h.base, h.blk, h.all, own_each n h.each, h.own, h.apart⟩
set_option maxRecDepth 100000 in
theorem next_end (h : RD w B b tv p L l sz dg neg) (ht : Row w tv (byts bs)) (hp : p = bs.length) :
    Calls Tryz.prog 57 #[.pointer (some ⟨b, 0, none⟩)] w fun e w' => e = .returned (.int .i64 6) ∧ RD w' B b tv p L l sz dg neg ∧ Below B w w' := by
  obtain ⟨lv, v, vs, h⟩ := h
  obtain ⟨hm, a, cap, rfl, _, _, _⟩ := ht
  have H := Lib.hid h
  have c0 : w.cell? ⟨b, 0, none⟩ = _ := h.cell 0
  have c1 : w.cell? ⟨b, 1, none⟩ = _ := h.cell 1
  rw [byts_len] at c0 hm
  subst hp
  simp only [List.getElem?_cons_zero, List.getElem?_cons_succ] at c0 c1
  clear h
  go_enter Tryz.func57, Tryz.ntmps57
  go_wp2
  go_quiet (fail)
  go_wp2
  go_ret
  exact ⟨rfl, ⟨_, _, _, H.out.drewN _⟩, below_drewN (Below.refl _ _) _⟩
theorem row_at {xs : List Value} (ht : Row w tv xs) (hp : p < xs.length) : ∃ tb off cap, tv = .slice (some ⟨tb, off, none⟩) xs.length cap ∧ w.cell? ⟨tb, off + p, none⟩ = xs[p]? ∧ xs.length ≤ maxLen ∧ tb < w.heap.size := by
  obtain ⟨hm, a, cap, rfl, _, _, h | ⟨tb, off, rfl, hc⟩⟩ := ht
  · rw [h] at hp; simp at hp
  · have h1 := hc p hp
    have h2 := h1
    rw [List.getElem?_eq_getElem hp] at h2
    exact ⟨tb, off, cap, rfl, h1, hm, World.block_lt_of_cell? w _ h2⟩
set_option maxRecDepth 100000 in
theorem next_more (h : RD w B b tv p L l sz dg neg) (ht : Row w tv (byts bs)) (hp : p < bs.length) (c : Int) (hcc : bs.getD p 0 = c) (hB : ∀ w', Below B w w' → Row w' tv (byts bs)) :
    Calls Tryz.prog 57 #[.pointer (some ⟨b, 0, none⟩)] w fun e w' => e = .returned (.int .i64 (kd c)) ∧ RD w' B b tv (p + 1) L l sz dg neg ∧ Below B w w' := by
  obtain ⟨lv, v, vs, h⟩ := h
  obtain ⟨tb, off, cap, rfl, _, hm, _⟩ := row_at (p := p) ht (by rw [byts_len]; exact hp)
  rw [byts_len] at hm h hB ⊢
  have hbd : bs.length ≤ 9223372036854775807 := by unfold maxLen at hm; omega
  have H := Lib.hid h
  have HB := Lib.hid hB
  have c0 := h.cell 0
  have c1 := h.cell 1
  simp only [List.getElem?_cons_zero, List.getElem?_cons_succ] at c0 c1
  have hp1 : ((p : Int) == (bs.length : Int)) = false := by simp; omega
  clear h hB ht hm
  go_enter Tryz.func57, Tryz.ntmps57
  go_wp2
  go_quiet (fail)
  have H0 := Lib.hid (H.out.drewN nq)
  have HB0 := Lib.hid (below_drewN (Below.refl B w) nq)
  generalize w.drewN nq = w0 at *
  clear c0 c1
  have c0 := H0.out.cell 0
  have c1 := H0.out.cell 1
  have f1 := H0.out.free 1
  simp only [List.getElem?_cons_zero, List.getElem?_cons_succ] at c0 c1
  go_wp2
  obtain ⟨hs, hb⟩ := H0.out.setAt (p + 1)
  obtain ⟨tb', off', cap', he, hc, _, _⟩ := row_at (p := p) (HB.out _ (HB0.out.trans hb)) (by rw [byts_len]; exact hp)
  obtain ⟨⟨rfl, rfl⟩, rfl⟩ : (tb = tb' ∧ off = off') ∧ cap = cap' := by simpa [byts_len] using he
  rw [byts_at _ _ hp, hcc] at hc
  clear hcc
  have HS := Lib.hid hs
  have HS2 := Lib.hid (HB0.out.trans hb)
  rw [Int.natCast_add, Int.cast_ofNat_Int] at hc HS HS2
  have s0 := HS.out.cell 0
  have s1 := HS.out.cell 1
  simp only [List.getElem?_cons_zero, List.getElem?_cons_succ] at s0 s1
  have e2 : IntKind.i64.wrap (p : Int) = (p : Int) := IntWalk.i64_in _ (by omega)
  clear he hs hb c0 c1 f1
  generalize w0.setCell ⟨b, 1, none⟩ (.int .i64 ((p : Int) + 1)) = w1 at *
  go_quiet ((go_at_call 91; exact Calls.quiet_of_same (kind_any _ _)))
  go_wp2
  go_ret
  exact ⟨rfl, ⟨_, _, _, HS.out.drewN _⟩, below_drewN HS2.out _⟩
end
end Go.Proofs.YtgplajofemencaaGreat
/- What a reader does with a digit, at a number's end, and at a line's end. -/
namespace Go.Proofs.YtgplajofemencaaGreat
open Go.ChangeShapes Go.WideShapes Go.ChangeAt Go.RowKit

theorem infoInt : (Tryz.prog.info? 3).map (fun i => (i.zero, i.size, i.bytes)) = some (some (.int .i64 0), 1, 8) := by kernel_rfl
theorem infoInts : (Tryz.prog.info? 28).map (fun i => (i.zero, i.size, i.bytes)) = some (some (.slice none 0 0), 1, 24) := by kernel_rfl
theorem own_diff {w : World} {B C : Nat} {e e' : TypeId} {s s' : Nat} {v u : Value} {n m : Nat} {xs ys : List Value} (h : w.ownsRow B e s v n xs) (k : w.ownsRow C e' s' u m ys) (he : e ≠ e') : v.ownBlock = none ∨ v.ownBlock ≠ u.ownBlock := by
  rcases k.2 with ⟨rfl, _⟩ | ⟨g, cap, cur, rfl, _, hg, _⟩
  · cases v.ownBlock <;> simp [Value.ownBlock]
  · exact .inr (own_ne h hg he)
theorem OwnIn.lt {w : World} {B : Nat} : ∀ {vs : List Value} {L : List (List Int)}, OwnIn w B vs L → ∀ u ∈ vs, ∀ g, u.ownBlock = some g → B ≤ g ∧ g < w.heap.size
  | [], [], _, u, hu, _, _ => by simp at hu
  | v :: _, _ :: _, h, u, hu, g, hg => by
    simp only [List.mem_cons] at hu
    rcases hu with rfl | hu
    · exact h.1.lt g hg
    · exact OwnIn.lt h.2 u hu g hg
  | [], _ :: _, h, _, _, _, _ => h.elim
  | _ :: _, [], h, _, _, _, _ => h.elim
theorem grown_alloc {w w1 : World} {O : Obj} {row : Option Nat} (h : (w.alloc O).grownBy w1 row) : w.grownBy w1 row := (World.grownBy_alloc w O row).trans h
theorem grown_drew {w w1 : World} {row : Option Nat} (h : w.drew.grownBy w1 row) : w.grownBy w1 row := ⟨h.os, h.tape, h.output, h.size, h.block⟩
theorem grown_below {B : Nat} {w w1 : World} {row : Option Nat} (h : w.grownBy w1 row) (hB : B ≤ w.heap.size) (hr : ∀ k, row = some k → B ≤ k) : Below B w w1 :=
  ⟨h.os, h.tape, h.output, h.size, fun k hk => h.block k (by omega) (fun e => by have := hr k e.symm; omega)⟩
theorem own_shape {w : World} {B : Nat} {e : TypeId} {s : Nat} {v : Value} {n : Nat} {xs : List Value} (h : w.ownsRow B e s v n xs) : ∃ a cap, v = .slice a n cap := by
  rcases h.2 with ⟨rfl, rfl⟩ | ⟨g, cap, cur, rfl, _⟩
  · exact ⟨_, _, rfl⟩
  · exact ⟨_, _, rfl⟩
theorem RAt.drew {w : World} {B b : Nat} {tv : Value} {p : Nat} {L : List (List Int)} {l : List Int} {sz dg : Nat} {neg : Bool} {lv v : Value} {vs : List Value} (h : RAt w B b tv p L l sz dg neg lv v vs) : RAt w.drew B b tv p L l sz dg neg lv v vs := h.drewN 1
theorem ints_snoc (l : List Int) (x : Int) : ints (l ++ [x]) = ints l ++ [.int .i64 x] := by simp [ints]
section
variable {w : World} {B b : Nat} {tv : Value} {p : Nat} {L : List (List Int)} {l : List Int} {sz dg : Nat} {neg : Bool} {lv v : Value} {vs : List Value} {bs : List Int}
/-- What the struct's block is behind something that grew elsewhere. -/
theorem RAt.blk_grown {w1 : World} {row : Option Nat} (h : RAt w B b tv p L l sz dg neg lv v vs) (hg : w.grownBy w1 row) (hr : row ≠ some b) :
    w1.heap[b]? = some (.cells #[tv, .int .i64 p, lv, v, .int .i64 sz, .int .i64 dg, .bool neg] 100 (0, 0)) := by
  rw [hg.block b h.lt (Ne.symm hr)]; exact h.blk
/-- The line has grown by one number. -/
theorem RAt.more {w1 : World} {v' : Value} {x : Int} (h : RAt w B b tv p L l sz dg neg lv v vs) (hB : B ≤ w.heap.size) (hown : w1.ownsRow B 3 1 v' (l.length + 1) (ints l ++ [.int .i64 x])) (hg : w.grownBy w1 v.ownBlock)
    (hat : v'.ownBlock = v.ownBlock ∨ ∃ k, v'.ownBlock = some k ∧ w.heap.size ≤ k) :
    RAt (w1.setCell ⟨b, 3, none⟩ v') B b tv p L (l ++ [x]) sz dg neg lv v' vs ∧ Below B w (w1.setCell ⟨b, 3, none⟩ v') := by
  have hvb := own_ne h.own h.blk (by decide)
  have hb1 := h.blk_grown hg hvb
  have k1 : RAt w1 B b tv p L l sz dg neg lv (.slice none 0 0) vs → True := fun _ => trivial
  have a1 : w1.ownsRow B 28 1 lv vs.length vs := h.all.kept hg (own_diff h.all h.own (by decide))
  have e1 : OwnIn w1 B vs L := h.each.kept hg (fun u hu => by
    cases hu' : u.ownBlock with
    | none => exact .inl rfl
    | some g => exact .inr (Ne.symm (h.apart u hu g hu')))
  have hg2 : w1.grownBy (w1.setCell ⟨b, 3, none⟩ v') (some b) := ⟨rfl, rfl, rfl, by simp [World.setCell], fun k _ hk => heap_setCell_other w1 ⟨b, 3, none⟩ k _ (fun e => hk (by rw [e]))⟩
  refine ⟨⟨h.base, ?_, a1.kept hg2 (.inr (own_ne a1 hb1 (by decide))), e1.kept hg2 (fun u hu => .inr (e1.ne hb1 (by decide) u hu)), ?_, ?_⟩, ?_⟩
  · rw [heap_setCell_same w1 b 3 _ _ _ hb1]; rfl
  · have := hown.kept hg2 (.inr (own_ne hown hb1 (by decide)))
    rw [ints_snoc, show (l ++ [x]).length = l.length + 1 by simp]
    exact this
  · intro u hu g hgu
    have hlt := h.each.lt u hu g hgu
    rcases hat with hat | ⟨k, hat, hk⟩
    · rw [hat]; exact h.apart u hu g hgu
    · rw [hat]; simp; omega
  · exact (grown_below hg hB (fun k hk => (h.own.lt k hk).1)).trans (grown_below hg2 (by have := hg.size; omega) (fun k hk => by have := h.base; simp at hk; omega))
/-- The lines have grown by the line. -/
theorem RAt.put {w1 : World} {lv' : Value} (h : RAt w B b tv p L l sz dg neg lv v vs) (hB : B ≤ w.heap.size) (hown : w1.ownsRow B 28 1 lv' (vs.length + 1) (vs ++ [v])) (hg : w.grownBy w1 lv.ownBlock) :
    ∀ w2, w2 = (w1.setCell ⟨b, 2, none⟩ lv').setCell ⟨b, 3, none⟩ (.slice none 0 0) → RAt w2 B b tv p (L ++ [l]) [] sz dg neg lv' (.slice none 0 0) (vs ++ [v]) ∧ Below B w w2 := by
  rintro w2 rfl
  have hlb := own_ne h.all h.blk (by decide)
  have hb1 := h.blk_grown hg hlb
  have o1 : w1.ownsRow B 3 1 v l.length (ints l) := h.own.kept hg (own_diff h.own h.all (by decide))
  have e1 : OwnIn w1 B vs L := h.each.kept hg (fun u hu => by
    rcases h.all.2 with ⟨rfl, _⟩ | ⟨g, cap, cur, rfl, _, hgg, _⟩
    · cases u.ownBlock <;> simp [Value.ownBlock]
    · exact .inr (h.each.ne hgg (by decide) u hu))
  have e2 : OwnIn w1 B (vs ++ [v]) (L ++ [l]) := e1.append ⟨o1, trivial⟩
  have hg2 : w1.grownBy (w1.setCell ⟨b, 2, none⟩ lv') (some b) := ⟨rfl, rfl, rfl, by simp [World.setCell], fun k _ hk => heap_setCell_other w1 ⟨b, 2, none⟩ k _ (fun e => hk (by rw [e]))⟩
  have hb2 : (w1.setCell ⟨b, 2, none⟩ lv').heap[b]? = some (.cells #[tv, .int .i64 p, lv', v, .int .i64 sz, .int .i64 dg, .bool neg] 100 (0, 0)) := by rw [heap_setCell_same w1 b 2 _ _ _ hb1]; rfl
  have R2 : RAt (w1.setCell ⟨b, 2, none⟩ lv') B b tv p (L ++ [l]) [] sz dg neg lv' v (vs ++ [v]) → True := fun _ => trivial
  have hg3 : (w1.setCell ⟨b, 2, none⟩ lv').grownBy ((w1.setCell ⟨b, 2, none⟩ lv').setCell ⟨b, 3, none⟩ (.slice none 0 0)) (some b) := ⟨rfl, rfl, rfl, by simp [World.setCell], fun k _ hk => heap_setCell_other _ ⟨b, 3, none⟩ k _ (fun e => hk (by rw [e]))⟩
  have hgg := hg2.trans hg3
  refine ⟨⟨h.base, ?_, ?_, e2.kept hgg (fun u hu => .inr (e2.ne hb1 (by decide) u hu)), World.ownsRow_nil _ _ _ _, fun _ _ _ _ => by simp [Value.ownBlock]⟩, ?_⟩
  · rw [heap_setCell_same _ b 3 _ _ _ hb2]; rfl
  · have := hown.kept hgg (.inr (own_ne hown hb1 (by decide)))
    rw [show (vs ++ [v]).length = vs.length + 1 by simp]
    exact this
  · exact (grown_below hg hB (fun k hk => (h.all.lt k hk).1)).trans (grown_below hgg (by have := hg.size; omega) (fun k hk => by have := h.base; simp at hk; omega))

set_option maxRecDepth 100000 in
theorem take_full (h : RD w B b tv p L l sz 12 neg) : Calls Tryz.prog 58 #[.pointer (some ⟨b, 0, none⟩)] w fun e w' => e = .returned (.bool false) ∧ RD w' B b tv p L l sz 12 neg ∧ Below B w w' := by
  obtain ⟨lv, v, vs, h⟩ := h
  have H := Lib.hid h
  have c5 := h.cell 5
  simp only [List.getElem?_cons_zero, List.getElem?_cons_succ] at c5
  clear h
  go_enter Tryz.func58, Tryz.ntmps58
  go_wp2
  go_ret
  exact ⟨rfl, ⟨_, _, _, H.out⟩, Below.refl _ _⟩

set_option maxRecDepth 1000000 in
set_option maxHeartbeats 1000000 in
theorem take_more (h : RD w B b tv (p + 1) L l sz dg neg) (ht : Row w tv (byts bs)) (hp : p < bs.length) (hB : ∀ w', Below B w w' → Row w' tv (byts bs)) (hd : dg < 12) (hsz : sz ≤ 1000000000000) (c : Int) (hcc : bs.getD p 0 = c) (hc1 : 48 ≤ c) (hc2 : c ≤ 57) :
    Calls Tryz.prog 58 #[.pointer (some ⟨b, 0, none⟩)] w fun e w' => e = .returned (.bool true) ∧ RD w' B b tv (p + 1) L l (10 * sz + dv c) (dg + 1) neg ∧ Below B w w' := by
  obtain ⟨lv, v, vs, h⟩ := h
  obtain ⟨tb, off, cap, rfl, _, hm, _⟩ := row_at (p := p) ht (by rw [byts_len]; exact hp)
  rw [byts_len] at hm h hB ⊢
  have hbd : bs.length ≤ 9223372036854775807 := by unfold maxLen at hm; omega
  have H := Lib.hid h
  have HB := Lib.hid hB
  have c5 := h.cell 5
  have f5 := h.free 5
  have hd1 : ((dg : Int) == 12) = false := by simp; omega
  simp only [List.getElem?_cons_zero, List.getElem?_cons_succ] at c5
  clear h hB ht hm
  go_enter Tryz.func58, Tryz.ntmps58
  go_wp2
  obtain ⟨hs, hb⟩ := H.out.setDg (dg + 1)
  obtain ⟨tb', off', cap', he, hc, _, _⟩ := row_at (p := p) (HB.out _ hb) (by rw [byts_len]; exact hp)
  obtain ⟨⟨rfl, rfl⟩, rfl⟩ : (tb = tb' ∧ off = off') ∧ cap = cap' := by simpa [byts_len] using he
  rw [byts_at _ _ hp, hcc] at hc
  have HS := Lib.hid hs
  have HS2 := Lib.hid hb
  rw [show (((dg + 1 : Nat)) : Int) = (dg : Int) + 1 from rfl] at hc HS HS2
  have s0 := HS.out.cell 0
  have s1 := HS.out.cell 1
  have s4 := HS.out.cell 4
  have f4 := HS.out.free 4
  simp only [List.getElem?_cons_zero, List.getElem?_cons_succ, Int.natCast_add, Int.cast_ofNat_Int] at s0 s1 s4
  have e2 : IntKind.i64.wrap (p : Int) = (p : Int) := IntWalk.i64_in _ (by omega)
  have e3 : IntKind.i64.wrap (10 * (sz : Int)) = 10 * (sz : Int) := IntWalk.i64_in _ (by omega)
  have e4 : IntKind.u8.wrap (c - 48) = c - 48 := by rw [IntKind.wrap_u8]; omega
  have e5 : IntKind.i64.wrap (c - 48) = c - 48 := IntWalk.i64_in _ (by omega)
  have e6 : IntKind.i64.wrap (10 * (sz : Int) + (c - 48)) = 10 * (sz : Int) + (c - 48) := IntWalk.i64_in _ (by omega)
  have HV := Lib.hid (show ((10 * sz + dv c : Nat) : Int) = 10 * (sz : Int) + (c - 48) by unfold dv; omega)
  clear he hs hb c5 f5 hcc
  generalize w.setCell ⟨b, 5, none⟩ (.int .i64 ((dg : Int) + 1)) = w1 at *
  go_region
  obtain ⟨hs, hb⟩ := HS.out.setSz (10 * sz + dv c)
  rw [HV.out] at hs hb
  have HD := Lib.hid (show RD (w1.setCell ⟨b, 4, none⟩ (.int .i64 (10 * (sz : Int) + (c - 48)))).drew B b (.slice (some ⟨tb, off, none⟩) bs.length cap) (p + 1) L l (10 * sz + dv c) (dg + 1) neg from ⟨_, _, _, hs.drew⟩)
  have HD2 := Lib.hid ((HS2.out.trans hb).drew)
  clear hs hb
  go_wp2
  go_ret
  exact ⟨rfl, HD.out, HD2.out⟩

/-- The number is set back. -/
theorem RAt.zero (h : RAt w B b tv p L l sz dg neg lv v vs) (W : World) (hW : W = ((w.setCell ⟨b, 4, none⟩ (.int .i64 0)).setCell ⟨b, 5, none⟩ (.int .i64 0)).setCell ⟨b, 6, none⟩ (.bool false)) : RAt W B b tv p L l 0 0 false lv v vs ∧ Below B w W := by
  subst hW
  obtain ⟨h1, b1⟩ := h.setSz 0
  obtain ⟨h2, b2⟩ := h1.setDg 0
  obtain ⟨h3, b3⟩ := h2.setNeg false
  exact ⟨h3, (b1.trans b2).trans b3⟩

set_option maxRecDepth 1000000 in
set_option maxHeartbeats 1000000 in
theorem endNumber_any (h : RD w B b tv p L l sz dg neg) (hB : B ≤ w.heap.size) (hsz : sz ≤ 1000000000000) (hl : l.length ≤ 10000) :
    Calls Tryz.prog 59 #[.pointer (some ⟨b, 0, none⟩)] w fun e w' => e = .returned (.tuple #[]) ∧ RD w' B b tv p L (l ++ [sgn neg sz]) 0 0 false ∧ Below B w w' := by
  obtain ⟨lv, v, vs, h⟩ := h
  have H := Lib.hid h
  obtain ⟨i0, hi, hz0, hz1, hz2⟩ := info_parts infoInt
  have c3 := h.cell 3
  have c4 := h.cell 4
  have c6 := h.cell 6
  simp only [List.getElem?_cons_zero, List.getElem?_cons_succ] at c3 c4 c6
  have hbl := h.lt
  have e0 : IntKind.i64.wrap (-(sz : Int)) = -(sz : Int) := IntWalk.i64_in _ (by omega)
  have HX := Lib.hid (show sgn neg sz = if neg then -(sz : Int) else sz from rfl)
  generalize hxx : sgn neg sz = x at *
  clear h hxx
  cases neg
  all_goals
    simp only [Bool.false_eq_true, if_false, if_true] at HX
    go_enter Tryz.func59, Tryz.ntmps59
    go_wp2_with (first | (at_builtin; refine wpList_append_own_at _ rfl _ _ 28 rfl B 3 i0 _ 1 8 Tryz.underlying28 hi hz0 hz1 hz2 rfl (by decide) _ l.length (ints l) rfl (H.out.own.alloc _) ⟨w.heap.size, 0, none⟩ 1 1 [_] rfl rfl (cell_one_new _ _ _) (by simp [Value.oneCell']) (by unfold maxLen; omega) (by omega) (by simp; omega) ?_))
    intro v' w1 hown hgrow _ hat
    obtain rfl := HX.out
    have hg2 := grown_alloc hgrow
    have hb1 := H.out.blk_grown hg2 (own_ne H.out.own H.out.blk (by decide))
    have f3 : w1.frozen? ⟨b, 3, none⟩ = false := frozen_of_row w1 b 3 _ _ hb1
    have d3 : w1.cell? ⟨b, 3, none⟩ = some v := by rw [cell_of_row _ _ _ _ _ _ hb1]; rfl
    have hbl1 : b < w1.heap.size := (Array.getElem?_eq_some_iff.1 hb1).1
    have HM := Lib.hid (H.out.more hB hown hg2 (hat.imp id (fun h => ⟨_, h, by simp⟩)))
    obtain ⟨a', cap', rfl⟩ := own_shape hown
    have g4 := HM.out.1.cell 4
    have g5 := HM.out.1.cell 5
    have g6 := HM.out.1.cell 6
    have k4 := HM.out.1.free 4
    have k5 := HM.out.1.free 5
    have k6 := HM.out.1.free 6
    simp only [List.getElem?_cons_zero, List.getElem?_cons_succ] at g4 g5 g6
    clear c3 c4 c6 hown hgrow hat hg2 hb1
    go_wp2_with fail
    generalize w1.setCell ⟨b, 3, none⟩ (.slice a' (l.length + 1) cap') = w2 at *
    clear f3 d3 hbl1
    have hbl2 := HM.out.1.lt
    go_wp2_with fail
    obtain ⟨hz, hzb⟩ := HM.out.1.zero _ rfl
    have HZ := Lib.hid (show RD _ B b tv p L _ 0 0 false ∧ Below B w _ from ⟨⟨_, _, _, hz⟩, HM.out.2.trans hzb⟩)
    clear hz hzb
    go_wp2
    go_end0
    exact ⟨rfl, HZ.out.1, HZ.out.2⟩

theorem addL_nil (L : List (List Int)) : addL L [] = L := by simp [addL]
theorem addL_some (L : List (List Int)) (l : List Int) (h : l ≠ []) : addL L l = L ++ [l] := by simp [addL, h]
set_option maxRecDepth 1000000 in
set_option maxHeartbeats 1000000 in
theorem endLine_nil (h : RD w B b tv p L [] sz dg neg) :
    Calls Tryz.prog 60 #[.pointer (some ⟨b, 0, none⟩)] w fun e w' => e = .returned (.tuple #[]) ∧ RD w' B b tv p (addL L []) [] sz dg neg ∧ Below B w w' := by
  rw [addL_nil]
  obtain ⟨lv, v, vs, h⟩ := h
  obtain ⟨a, cap, rfl⟩ := own_shape h.own
  have H := Lib.hid h.setNil
  have c3 := h.cell 3
  have f3 := h.free 3
  have hbl := h.lt
  simp only [List.getElem?_cons_zero, List.getElem?_cons_succ, List.length_nil] at c3
  clear h
  go_enter Tryz.func60, Tryz.ntmps60
  go_wp2
  go_end0
  exact ⟨rfl, ⟨_, _, _, H.out.1⟩, H.out.2⟩
set_option maxRecDepth 1000000 in
set_option maxHeartbeats 1000000 in
theorem endLine_some (h : RD w B b tv p L l sz dg neg) (hB : B ≤ w.heap.size) (hn : l ≠ []) (hL : L.length ≤ 10000) :
    Calls Tryz.prog 60 #[.pointer (some ⟨b, 0, none⟩)] w fun e w' => e = .returned (.tuple #[]) ∧ RD w' B b tv p (addL L l) [] sz dg neg ∧ Below B w w' := by
  rw [addL_some _ _ hn]
  obtain ⟨lv, v, vs, h⟩ := h
  have hvl : vs.length ≤ 10000 := by rw [h.each.in.len]; exact hL
  obtain ⟨a, cap, rfl⟩ := own_shape h.own
  have H := Lib.hid h
  obtain ⟨i0, hi, hz0, hz1, hz2⟩ := info_parts infoInts
  have c2 := h.cell 2
  have c3 := h.cell 3
  have hbl := h.lt
  simp only [List.getElem?_cons_zero, List.getElem?_cons_succ] at c2 c3
  have hd : decide (0 < l.length) = true := decide_eq_true (List.length_pos_iff.2 hn)
  have hd2 : decide ((0 : Int) < (l.length : Int)) = true := decide_eq_true (by have := List.length_pos_iff.2 hn; omega)
  have H63 := Lib.hid (show vs.length + 1 ≤ maxLen by unfold maxLen; omega)
  have HBy := Lib.hid (show (vs.length + 1) * 24 ≤ 140737488355328 by omega)
  have f2 := h.free 2
  clear h hn
  go_enter Tryz.func60, Tryz.ntmps60
  go_wp2_with fail
  go_region_law
    ((refine step_append_lies _ (by rfl) _ _ _ (by rfl) B 28 i0 _ 1 24 Tryz.underlying39 hi hz0 hz1 hz2 rfl (by omega) lv vs.length vs (by rfl) ((H.out.all.alloc _).drew)
        ⟨w.heap.size, 0, none⟩ 1 1 [.slice a l.length cap] (by rfl) (by rfl) (cell_one_new _ _ _) (by simp [Value.oneCell'])
        (by omega) H63.out HBy.out (by simp; omega) (w.heap.size + 1) (by simp) ?_
      intro gg cp w1 hown1 hgrow hat hlt
      have hg2 := grown_alloc (grown_drew hgrow)
      have hb1 := H.out.blk_grown hg2 (own_ne H.out.all H.out.blk (by decide))
      have fr2 : w1.frozen? ⟨b, 2, none⟩ = false := frozen_of_row w1 b 2 _ _ hb1
      have d2 : w1.cell? ⟨b, 2, none⟩ = some lv := by rw [cell_of_row _ _ _ _ _ _ hb1]; rfl
      have hbl1 : b < w1.heap.size := (Array.getElem?_eq_some_iff.1 hb1).1))
  all_goals
    have HP := Lib.hid (H.out.put hB hown1 hg2 _ rfl)
    have hb2 : (w1.setCell ⟨b, 2, none⟩ (.slice (some ⟨gg, 0, none⟩) (vs.length + 1) cp)).heap[b]? = _ := heap_setCell_same w1 b 2 _ _ _ hb1
    have f3 := frozen_of_row _ b 3 _ _ hb2
    have d3 := cell_of_row _ b 3 _ _ _ hb2
    have hbl2 := (Array.getElem?_eq_some_iff.1 hb2).1
    simp at d3
    clear hown1 hgrow hat hlt hg2 hb1 fr2 d2 hbl1 c2 c3 f2 hb2
    generalize w1.setCell ⟨b, 2, none⟩ (.slice (some ⟨gg, 0, none⟩) (vs.length + 1) cp) = w2 at *
    go_wp2
    go_end0
    exact ⟨rfl, ⟨_, _, _, HP.out.1⟩, HP.out.2⟩
theorem endLine_any (h : RD w B b tv p L l sz dg neg) (hB : B ≤ w.heap.size) (hL : L.length ≤ 10000) :
    Calls Tryz.prog 60 #[.pointer (some ⟨b, 0, none⟩)] w fun e w' => e = .returned (.tuple #[]) ∧ RD w' B b tv p (addL L l) [] sz dg neg ∧ Below B w w' := by
  by_cases hn : l = []
  · subst hn; exact endLine_nil h
  · exact endLine_some h hB hn hL
end
end Go.Proofs.YtgplajofemencaaGreat
