/- How the document's heap lies in memory, and what its Put and its Least do. -/
import Derived.Test.YtljgglmaglmceaaTwo
import Derived.Test.YtljgglmaglmceaaRless
import Derived.Maps.AppendAt
namespace Go.Proofs.Ytljgglmaglmceaa
open Go.ChangeShapes Go.WideShapes Go.ChangeAt Go.RowKit

def ecell (x : Ent) : List Value := [.int .i64 x.b, .int .i64 x.d, .int .i64 x.n]
def rowE : List Ent → List Value
  | [] => []
  | x :: r => ecell x ++ rowE r
theorem rowE_len : ∀ l, (rowE l).length = l.length * 3
  | [] => rfl
  | x :: r => by simp [rowE, ecell, rowE_len r]; omega
theorem rowE_get (j : Nat) (hj : j < 3) : ∀ (l : List Ent) (i : Nat), i < l.length → (rowE l)[i * 3 + j]? = (ecell (nth l i))[j]?
  | [], i, h => by simp at h
  | x :: r, 0, _ => by
    simp only [rowE]
    rw [List.getElem?_append_left (by simp [ecell]; omega), Nat.zero_mul, Nat.zero_add]
    rfl
  | x :: r, i + 1, h => by
    simp only [rowE]
    rw [List.getElem?_append_right (by simp [ecell]; omega)]
    have h1 := rowE_get j hj r i (by simpa using h)
    rw [show (i + 1) * 3 + j - (ecell x).length = i * 3 + j by simp [ecell]; omega, h1]
    rfl
theorem rowE_append : ∀ l m, rowE (l ++ m) = rowE l ++ rowE m
  | [], m => rfl
  | x :: r, m => by simp [rowE, rowE_append r m]
theorem rowE_one (x : Ent) : rowE [x] = ecell x := by simp [rowE]
theorem rowE_take : ∀ (l : List Ent) (k : Nat), (rowE l).take (k * 3) = rowE (l.take k)
  | [], k => by simp [rowE]
  | x :: r, 0 => by simp [rowE]
  | x :: r, k + 1 => by
    simp only [List.take_succ_cons, rowE]
    rw [← rowE_take r k, show (k + 1) * 3 = (ecell x).length + k * 3 by simp [ecell]; omega, List.take_length_add_append]
theorem rowE_drop : ∀ (l : List Ent) (k : Nat), (rowE l).drop (k * 3) = rowE (l.drop k)
  | [], k => by simp [rowE]
  | x :: r, 0 => by simp
  | x :: r, k + 1 => by
    simp only [List.drop_succ_cons, rowE]
    rw [← rowE_drop r k, show (k + 1) * 3 = (ecell x).length + k * 3 by simp [ecell]; omega, List.drop_length_add_append]
theorem rowE_one_cell (l : List Ent) : ∀ u ∈ rowE l, u.oneCell' = true := by
  induction l with
  | nil => simp [rowE]
  | cons x r ih =>
    intro u hu
    simp only [rowE, List.mem_append] at hu
    rcases hu with hu | hu
    · simp [ecell] at hu; rcases hu with rfl | rfl | rfl <;> rfl
    · exact ih u hu

structure RefAt (w : World) (B b : Nat) (o : Int) (v : Value) (l : List Ent) : Prop where
  base : B ≤ b
  blk : w.heap[b]? = some (.cells #[.int .i64 o, v] 31 (0, 0))
  own : w.ownsRow B 24 3 v l.length (rowE l)
  apart : v.ownBlock ≠ some b
theorem RefAt.lt {w : World} {B b : Nat} {o : Int} {v : Value} {l : List Ent} (h : RefAt w B b o v l) : ∀ k, Foot b v k → B ≤ k ∧ k < w.heap.size := by
  rintro k (rfl | hk)
  · exact ⟨h.base, (Array.getElem?_eq_some_iff.1 h.blk).1⟩
  · exact h.own.lt k hk
theorem RefAt.order {w : World} {B b : Nat} {o : Int} {v : Value} {l : List Ent} (h : RefAt w B b o v l) : w.cell? ⟨b, 0, none⟩ = some (.int .i64 o) := by
  rw [cell_of_row w b 0 _ _ _ h.blk]; rfl
theorem RefAt.items {w : World} {B b : Nat} {o : Int} {v : Value} {l : List Ent} (h : RefAt w B b o v l) : w.cell? ⟨b, 1, none⟩ = some v := by
  rw [cell_of_row w b 1 _ _ _ h.blk]; rfl
theorem RefAt.free {w : World} {B b : Nat} {o : Int} {v : Value} {l : List Ent} (h : RefAt w B b o v l) (j : Nat) : w.frozen? ⟨b, j, none⟩ = false :=
  frozen_of_row w b j _ _ h.blk
theorem RefAt.kept {w w' : World} {B b : Nat} {o : Int} {v : Value} {l : List Ent} {F : Nat → Prop} (h : RefAt w B b o v l) (ht : Turned F w w') (hF : ∀ k, Foot b v k → ¬ F k) : RefAt w' B b o v l := by
  refine ⟨h.base, ?_, ?_, h.apart⟩
  · rw [ht.block b (h.lt b (.inl rfl)).2 (hF b (.inl rfl))]; exact h.blk
  · refine ⟨h.own.1, ?_⟩
    rcases h.own.2 with hn | ⟨g, cap, cur, hv, hb, hg, r⟩
    · exact .inl hn
    · have hfg : Foot b v g := .inr (by rw [hv]; rfl)
      refine .inr ⟨g, cap, cur, hv, hb, ?_, r⟩
      rw [ht.block g (h.lt g hfg).2 (hF g hfg)]; exact hg
theorem RefAt.below {w w' : World} {B b : Nat} {o : Int} {v : Value} {l : List Ent} (h : RefAt w B b o v l) (hb : Below w.heap.size w w') : RefAt w' B b o v l :=
  h.kept (turned_of_below (F := fun _ => False) hb) (fun _ _ hf => hf)
theorem RefAt.form {w : World} {B b : Nat} {o : Int} {v : Value} {l : List Ent} (h : RefAt w B b o v l) :
    (v = .slice none 0 0 ∧ l = []) ∨ ∃ g cap, v = .slice (some ⟨g, 0, none⟩) l.length cap ∧ B ≤ g ∧ g ≠ b ∧ g < w.heap.size ∧ l.length ≤ cap := by
  rcases h.own.2 with ⟨rfl, hn⟩ | ⟨g, cap, cur, hv, hb, hg, hc, r⟩
  · exact .inl ⟨rfl, List.eq_nil_of_length_eq_zero hn⟩
  · refine .inr ⟨g, cap, hv, hb, fun e => h.apart (by rw [hv, e]; rfl), (Array.getElem?_eq_some_iff.1 hg).1, hc⟩
theorem RefAt.ent {w : World} {B b g cap : Nat} {o : Int} {l : List Ent} (h : RefAt w B b o (.slice (some ⟨g, 0, none⟩) l.length cap) l) (i : Nat) (hi : i < l.length) :
    w.cell? ⟨g, i * 3, none⟩ = some (.int .i64 (nth l i).b) ∧ w.cell? ⟨g, i * 3 + 1, none⟩ = some (.int .i64 (nth l i).d) ∧ w.cell? ⟨g, i * 3 + 2, none⟩ = some (.int .i64 (nth l i).n) := by
  have h0 := rowE_get 0 (by omega) l i hi
  have h1 := rowE_get 1 (by omega) l i hi
  have h2 := rowE_get 2 (by omega) l i hi
  rw [Nat.add_zero] at h0
  refine ⟨?_, ?_, ?_⟩ <;> rw [h.own.cellAt _ (by omega)]
  · rw [h0]; rfl
  · rw [h1]; rfl
  · rw [h2]; rfl
/-- The document's heap in which m is. -/
def RefOf (w : World) (B b : Nat) (o : Int) (v : Value) (m : List Ent) : Prop := ∃ l, RefAt w B b o v l ∧ l.Perm m
theorem ref_solid (B b : Nat) (o : Int) (m : List Ent) : Solid B b (fun w v => RefOf w B b o v m) :=
  ⟨fun _ _ ⟨_, h, _⟩ => h.lt, fun _ _ _ _ ⟨l, h, p⟩ ht hF => ⟨l, h.kept ht hF, p⟩⟩
theorem ref_new (w : World) (B : Nat) (hB : B ≤ w.heap.size) (o : Int) : RefOf (w.alloc (.cells #[.int .i64 o, .slice none 0 0] 31)) B w.heap.size o (.slice none 0 0) [] :=
  ⟨[], ⟨hB, heap_alloc_new w _, World.ownsRow_nil _ _ _ _, by simp [Value.ownBlock]⟩, .refl _⟩

theorem rput_blk {wa w1 : World} {B b : Nat} {o : Int} {v : Value} {l : List Ent} {O : Obj} (h : RefAt wa B b o v l) (hgrow : (wa.alloc O).drew.grownBy w1 v.ownBlock) : w1.heap[b]? = some (.cells #[.int .i64 o, v] 31 (0, 0)) := by
  have hbl := (h.lt b (.inl rfl)).2
  rw [hgrow.block b (by simp; omega) (Ne.symm h.apart)]
  show (wa.alloc O).heap[b]? = _
  rw [Below.heap_alloc wa O b hbl]
  exact h.blk
theorem rput_cell {wa w1 : World} {B b : Nat} {o : Int} {v : Value} {l : List Ent} {O : Obj} (h : RefAt wa B b o v l) (hgrow : (wa.alloc O).drew.grownBy w1 v.ownBlock) : w1.cell? ⟨b, 1, none⟩ = some v ∧ w1.frozen? ⟨b, 1, none⟩ = false :=
  ⟨by rw [cell_of_row _ _ _ _ _ _ (rput_blk h hgrow)]; rfl, frozen_of_row _ _ _ _ _ (rput_blk h hgrow)⟩
theorem rput_done {w wa w1 : World} {B b g cap : Nat} {o : Int} {v : Value} {l m : List Ent} {x : Ent} {O : Obj} (hb : Below w.heap.size w wa) (h : RefAt wa B b o v l) (hp : l.Perm m)
    (hown : w1.ownsRow B 24 3 (.slice (some ⟨g, 0, none⟩) (l.length + 1) cap) (l.length + 1) (rowE l ++ ecell x)) (hgrow : (wa.alloc O).drew.grownBy w1 v.ownBlock) (hat : v.ownBlock = some g ∨ g = wa.heap.size + 1) :
    Post (fun w v => RefOf w B b o v (x :: m)) b w v (w1.setCell ⟨b, 1, none⟩ (.slice (some ⟨g, 0, none⟩) (l.length + 1) cap)) := by
  have hbl := (h.lt b (.inl rfl)).2
  have hgb : g ≠ b := by
    rintro rfl
    rcases hat with hat | hat
    · exact h.apart hat
    · omega
  have hb1 := rput_blk h hgrow
  refine ⟨.slice (some ⟨g, 0, none⟩) (l.length + 1) cap, ⟨l ++ [x], ⟨h.base, ?_, ?_, ?_⟩, (List.perm_append_singleton x l).trans (hp.cons x)⟩, ?_, ?_⟩
  · rw [heap_setCell_same w1 b 1 _ _ _ hb1]; rfl
  · rw [rowE_append, rowE_one, show (l ++ [x]).length = l.length + 1 by simp]
    refine hown.kept (row := some b) ⟨rfl, rfl, rfl, by simp [World.setCell], fun k _ hk => heap_setCell_other w1 ⟨b, 1, none⟩ k _ (fun e => hk (by rw [e]))⟩ (.inr ?_)
    intro e
    exact hgb (by simpa [Value.ownBlock] using e)
  · intro e; exact hgb (by simpa [Value.ownBlock] using e)
  · have t0 : Turned (Foot b v) w wa := turned_of_below hb
    have t1 : Turned (Foot b v) wa w1 := (turned_of_below (F := Foot b v) (((Below.refl _ _).alloc (Nat.le_refl _) O).drew)).trans (turned_of_grown (F := Foot b v) hgrow (fun i hi => .inr hi)) (fun _ _ hf => hf)
    exact (t0.trans t1 (fun _ _ hf => hf)).trans (turned_set (F := Foot b v) w1 ⟨b, 1, none⟩ _ (.inl rfl)) (fun _ _ hf => hf)
  · rintro k (rfl | hk)
    · exact .inl (.inl rfl)
    · have : g = k := by simpa [Value.ownBlock] using hk
      subst this
      rcases hat with hat | hat
      · exact .inl (.inr hat)
      · exact .inr (by have := hb.size; omega)

set_option maxRecDepth 1000000 in
set_option maxHeartbeats 1000000 in
theorem rput_any {w : World} {B b : Nat} {o : Int} {v : Value} {m : List Ent} (h : RefOf w B b o v m) (x : Ent) (hn : m.length ≤ 999) :
    Calls Try.prog 12 #[.pointer (some ⟨b, 0, none⟩), entV x] w fun e w' => e = .returned (.tuple #[]) ∧ Post (fun w v => RefOf w B b o v (x :: m)) b w v w' := by
  unfold entV
  obtain ⟨l, h, hp⟩ := h
  have HP := Lib.hid hp
  have hn : l.length ≤ 999 := by rw [hp.length_eq]; exact hn
  obtain ⟨i0, hi, hz0, hz1, hz2⟩ := info_parts info24
  have HTa := Lib.hid ((Below.refl _ w).alloc (Nat.le_refl _) (.cells #[.int .i64 x.b, .int .i64 x.d, .int .i64 x.n] 24))
  have HA := Lib.hid (h.below HTa.out)
  have hq := HA.out.items
  have hf := HA.out.free 1
  obtain ⟨p0, p1, p2⟩ := block_ent (heap_alloc_new w (.cells #[.int .i64 x.b, .int .i64 x.d, .int .i64 x.n] 24))
  have hbs := HA.out.lt b (.inl rfl)
  have H63 := Lib.hid (show l.length + 1 ≤ maxLen by unfold maxLen; omega)
  have HBy := Lib.hid (show (l.length + 1) * 24 ≤ 140737488355328 by omega)
  obtain ⟨hbs1, hbs2⟩ := hbs
  clear h hp
  go_enter Try.func12, Try.ntmps12
  go_wp2_with fail
  generalize w.alloc (.cells #[.int .i64 x.b, .int .i64 x.d, .int .i64 x.n] 24) = wa at *
  generalize hN : w.heap.size = N at p0 p1 p2 ⊢
  clear hN
  go_region_law
    ((refine step_append_lies _ (by rfl) _ _ _ (by rfl) B 24 i0 _ 3 24 Try.underlying29 hi hz0 hz1 hz2 rfl (by omega) v l.length (rowE l) (by rfl) ((HA.out.own.alloc _).drew)
        ⟨wa.heap.size, 0, none⟩ 1 1 (ecell x) (by rfl) (by rfl) (World.news_of_block (cs := #[.int .i64 x.b, .int .i64 x.d, .int .i64 x.n]) (t := 24) (fr := (0, 0)) (heap_alloc_new wa _)) (by simp [ecell, Value.oneCell'])
        (by omega) H63.out HBy.out (by simp; omega) (wa.heap.size + 1) (by simp) ?_
      intro gg cap w1 hown1 hgrow hat hlt
      obtain ⟨hc1, hf1⟩ := rput_cell HA.out hgrow))
  all_goals
    have HD := Lib.hid (rput_done HTa.out HA.out HP.out hown1 hgrow hat)
    clear hown1 hgrow hat hlt hc1 hf1 p0 p1 p2 hq hf
    go_wp2
    go_end0
    exact ⟨rfl, HD.out⟩
end Go.Proofs.Ytljgglmaglmceaa
