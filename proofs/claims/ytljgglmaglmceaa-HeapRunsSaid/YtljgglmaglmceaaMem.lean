/- How a heap lies in memory: its struct, its row of entries, and what an operation leaves as it was. -/
import Derived.Test.YtljgglmaglmceaaCore
import Derived.Deep.AppendLies
import Derived.Laws.OwnMore
namespace Go.Proofs.Ytljgglmaglmceaa
open Go.ChangeShapes Go.WideShapes Go.ChangeAt Go.RowKit

/-! ### Rows of cells -/
def pcell (o : Int) (x : Ent) : List Value := [.int .i64 x.b, .int .i64 x.d, .int .i64 x.n, .int .i64 o]
def rowP (o : Int) : List Ent → List Value
  | [] => []
  | x :: r => pcell o x ++ rowP o r
theorem rowP_len (o : Int) : ∀ l, (rowP o l).length = l.length * 4
  | [] => rfl
  | x :: r => by simp [rowP, pcell, rowP_len o r]; omega
theorem rowP_get (o : Int) (j : Nat) (hj : j < 4) : ∀ (l : List Ent) (i : Nat), i < l.length → (rowP o l)[i * 4 + j]? = (pcell o (nth l i))[j]?
  | [], i, h => by simp at h
  | x :: r, 0, _ => by
    simp only [rowP]
    rw [List.getElem?_append_left (by simp [pcell]; omega), Nat.zero_mul, Nat.zero_add]
    rfl
  | x :: r, i + 1, h => by
    simp only [rowP]
    rw [List.getElem?_append_right (by simp [pcell]; omega)]
    have h1 := rowP_get o j hj r i (by simpa using h)
    rw [show (i + 1) * 4 + j - (pcell o x).length = i * 4 + j by simp [pcell]; omega, h1]
    rfl
theorem rowP_set (o : Int) (y : Ent) : ∀ (l : List Ent) (i : Nat), i < l.length →
    rowP o (l.set i y) = ((((rowP o l).set (i * 4) (.int .i64 y.b)).set (i * 4 + 1) (.int .i64 y.d)).set (i * 4 + 2) (.int .i64 y.n)).set (i * 4 + 3) (.int .i64 o)
  | [], i, h => by simp at h
  | x :: r, 0, _ => by simp [rowP, pcell]
  | x :: r, i + 1, h => by
    have h1 := rowP_set o y r i (by simpa using h)
    simp only [List.set_cons_succ, rowP, h1]
    rw [show (i + 1) * 4 = i * 4 + 4 by omega]
    simp [pcell]
theorem rowP_append (o : Int) (x : Ent) : ∀ l, rowP o (l ++ [x]) = rowP o l ++ pcell o x
  | [] => by simp [rowP]
  | y :: r => by simp [rowP, rowP_append o x r]
theorem rowP_take (o : Int) : ∀ (l : List Ent) (k : Nat), (rowP o l).take (k * 4) = rowP o (l.take k)
  | [], k => by simp [rowP]
  | x :: r, 0 => by simp [rowP]
  | x :: r, k + 1 => by
    simp only [List.take_succ_cons, rowP]
    rw [← rowP_take o r k, show (k + 1) * 4 = (pcell o x).length + k * 4 by simp [pcell]; omega, List.take_length_add_append]

/-! ### What is left as it was -/
structure Turned (F : Nat → Prop) (w w' : World) : Prop where
  os : w'.os = w.os
  tape : w'.tape = w.tape
  output : w'.output = w.output
  size : w.heap.size ≤ w'.heap.size
  block : ∀ k, k < w.heap.size → ¬ F k → w'.heap[k]? = w.heap[k]?
theorem Turned.refl (F : Nat → Prop) (w : World) : Turned F w w := ⟨rfl, rfl, rfl, Nat.le_refl _, fun _ _ _ => rfl⟩
theorem Turned.trans {F G : Nat → Prop} {a b c : World} (h : Turned F a b) (k : Turned G b c) (hG : ∀ i, i < a.heap.size → G i → F i) : Turned F a c :=
  ⟨k.os.trans h.os, k.tape.trans h.tape, k.output.trans h.output, Nat.le_trans h.size k.size, fun i hi hn =>
    (k.block i (Nat.lt_of_lt_of_le hi h.size) (fun hg => hn (hG i hi hg))).trans (h.block i hi hn)⟩
theorem Turned.mono {F G : Nat → Prop} {a b : World} (h : Turned F a b) (hG : ∀ i, i < a.heap.size → F i → G i) : Turned G a b :=
  ⟨h.os, h.tape, h.output, h.size, fun i hi hn => h.block i hi (fun hf => hn (hG i hi hf))⟩
theorem turned_below {B : Nat} {F : Nat → Prop} {a b : World} (h : Turned F a b) (hF : ∀ i, F i → B ≤ i) (hB : B ≤ a.heap.size) : Below B a b :=
  ⟨h.os, h.tape, h.output, h.size, fun i hi => h.block i (by omega) (fun hf => by have := hF i hf; omega)⟩
theorem turned_of_below {F : Nat → Prop} {a b : World} (h : Below a.heap.size a b) : Turned F a b :=
  ⟨h.os, h.tape, h.output, h.size, fun i hi _ => h.block i hi⟩
theorem turned_of_grown {F : Nat → Prop} {row : Option Nat} {a b : World} (h : a.grownBy b row) (hF : ∀ i, row = some i → F i) : Turned F a b :=
  ⟨h.os, h.tape, h.output, h.size, fun i hi hn => h.block i hi (fun e => hn (hF i e.symm))⟩
theorem turned_set {F : Nat → Prop} (w : World) (p : Addr) (u : Value) (hp : F p.block) : Turned F w (w.setCell p u) :=
  ⟨rfl, rfl, rfl, by simp [World.setCell], fun k _ hn => Below.heap_setCell _ _ _ _ (fun e => hn (e ▸ hp))⟩
theorem turned_drewN (F : Nat → Prop) (w : World) (n : Nat) : Turned F w (w.drewN n) := ⟨rfl, rfl, rfl, Nat.le_refl _, fun _ _ _ => rfl⟩

/-! ### The heap -/
structure HeapAt (w : World) (B b : Nat) (o : Int) (v : Value) (l : List Ent) : Prop where
  base : B ≤ b
  blk : w.heap[b]? = some (.cells #[.int .i64 o, v] 48 (0, 0))
  own : w.ownsRow B 51 4 v l.length (rowP o l)
  apart : v.ownBlock ≠ some b
/-- What a heap takes up. -/
def Foot (b : Nat) (v : Value) : Nat → Prop := fun k => k = b ∨ v.ownBlock = some k
theorem HeapAt.lt {w : World} {B b : Nat} {o : Int} {v : Value} {l : List Ent} (h : HeapAt w B b o v l) : ∀ k, Foot b v k → B ≤ k ∧ k < w.heap.size := by
  rintro k (rfl | hk)
  · exact ⟨h.base, (Array.getElem?_eq_some_iff.1 h.blk).1⟩
  · exact h.own.lt k hk
theorem HeapAt.order {w : World} {B b : Nat} {o : Int} {v : Value} {l : List Ent} (h : HeapAt w B b o v l) : w.cell? ⟨b, 0, none⟩ = some (.int .i64 o) := by
  rw [cell_of_row w b 0 _ _ _ h.blk]; rfl
theorem HeapAt.items {w : World} {B b : Nat} {o : Int} {v : Value} {l : List Ent} (h : HeapAt w B b o v l) : w.cell? ⟨b, 1, none⟩ = some v := by
  rw [cell_of_row w b 1 _ _ _ h.blk]; rfl
theorem HeapAt.free {w : World} {B b : Nat} {o : Int} {v : Value} {l : List Ent} (h : HeapAt w B b o v l) (j : Nat) : w.frozen? ⟨b, j, none⟩ = false :=
  frozen_of_row w b j _ _ h.blk
/-- What an operation elsewhere does not touch. -/
theorem HeapAt.kept {w w' : World} {B b : Nat} {o : Int} {v : Value} {l : List Ent} {F : Nat → Prop} (h : HeapAt w B b o v l) (ht : Turned F w w') (hF : ∀ k, Foot b v k → ¬ F k) : HeapAt w' B b o v l := by
  refine ⟨h.base, ?_, ?_, h.apart⟩
  · rw [ht.block b (h.lt b (.inl rfl)).2 (hF b (.inl rfl))]; exact h.blk
  · refine ⟨h.own.1, ?_⟩
    rcases h.own.2 with hn | ⟨g, cap, cur, hv, hb, hg, r⟩
    · exact .inl hn
    · have hfg : Foot b v g := .inr (by rw [hv]; rfl)
      refine .inr ⟨g, cap, cur, hv, hb, ?_, r⟩
      rw [ht.block g (h.lt g hfg).2 (hF g hfg)]; exact hg
/-- Nothing lies in it, or it has a row. -/
theorem HeapAt.form {w : World} {B b : Nat} {o : Int} {v : Value} {l : List Ent} (h : HeapAt w B b o v l) :
    (v = .slice none 0 0 ∧ l = []) ∨ ∃ g cap, v = .slice (some ⟨g, 0, none⟩) l.length cap ∧ B ≤ g ∧ g ≠ b ∧ g < w.heap.size ∧ l.length ≤ cap := by
  rcases h.own.2 with ⟨rfl, hn⟩ | ⟨g, cap, cur, hv, hb, hg, hc, r⟩
  · exact .inl ⟨rfl, List.eq_nil_of_length_eq_zero hn⟩
  · refine .inr ⟨g, cap, hv, hb, fun e => h.apart (by rw [hv, e]; rfl), (Array.getElem?_eq_some_iff.1 hg).1, hc⟩
theorem HeapAt.ent {w : World} {B b g cap : Nat} {o : Int} {l : List Ent} (h : HeapAt w B b o (.slice (some ⟨g, 0, none⟩) l.length cap) l) (i : Nat) (hi : i < l.length) :
    w.cell? ⟨g, i * 4, none⟩ = some (.int .i64 (nth l i).b) ∧ w.cell? ⟨g, i * 4 + 1, none⟩ = some (.int .i64 (nth l i).d) ∧
    w.cell? ⟨g, i * 4 + 2, none⟩ = some (.int .i64 (nth l i).n) ∧ w.cell? ⟨g, i * 4 + 3, none⟩ = some (.int .i64 o) := by
  have h0 := rowP_get o 0 (by omega) l i hi
  have h1 := rowP_get o 1 (by omega) l i hi
  have h2 := rowP_get o 2 (by omega) l i hi
  have h3 := rowP_get o 3 (by omega) l i hi
  rw [Nat.add_zero] at h0
  refine ⟨?_, ?_, ?_, ?_⟩ <;> rw [h.own.cellAt _ (by omega)]
  · rw [h0]; rfl
  · rw [h1]; rfl
  · rw [h2]; rfl
  · rw [h3]; rfl
theorem HeapAt.loose {w : World} {B b g cap : Nat} {o : Int} {l : List Ent} (h : HeapAt w B b o (.slice (some ⟨g, 0, none⟩) l.length cap) l) (j : Nat) : w.frozen? ⟨g, j, none⟩ = false :=
  h.own.frozenAt j
/-- One entry stored. -/
def set4 (w : World) (g i : Nat) (o : Int) (x : Ent) : World :=
  (((w.setCell ⟨g, i * 4, none⟩ (.int .i64 x.b)).setCell ⟨g, i * 4 + 1, none⟩ (.int .i64 x.d)).setCell ⟨g, i * 4 + 2, none⟩ (.int .i64 x.n)).setCell ⟨g, i * 4 + 3, none⟩ (.int .i64 o)
theorem set4_turned (w : World) (g i : Nat) (o : Int) (x : Ent) : Turned (· = g) w (set4 w g i o x) :=
  (((turned_set (F := (· = g)) w ⟨g, i * 4, none⟩ _ rfl).trans (turned_set (F := (· = g)) _ ⟨g, i * 4 + 1, none⟩ _ rfl) (fun _ _ h => h)).trans (turned_set (F := (· = g)) _ ⟨g, i * 4 + 2, none⟩ _ rfl) (fun _ _ h => h)).trans
    (turned_set (F := (· = g)) _ ⟨g, i * 4 + 3, none⟩ _ rfl) (fun _ _ h => h)
theorem HeapAt.set4 {w : World} {B b g cap : Nat} {o : Int} {l : List Ent} (h : HeapAt w B b o (.slice (some ⟨g, 0, none⟩) l.length cap) l) (i : Nat) (hi : i < l.length) (x : Ent) :
    HeapAt (set4 w g i o x) B b o (.slice (some ⟨g, 0, none⟩) (l.set i x).length cap) (l.set i x) := by
  have hne : b ≠ g := fun e => h.apart (by rw [e]; rfl)
  refine ⟨h.base, ?_, ?_, h.apart⟩
  · rw [(set4_turned w g i o x).block b (h.lt b (.inl rfl)).2 hne, h.blk, List.length_set]
  · rw [List.length_set, rowP_set o x l i hi]
    exact ((((h.own.stored _ _).1.stored _ _).1.stored _ _).1.stored _ _).1

end Go.Proofs.Ytljgglmaglmceaa
