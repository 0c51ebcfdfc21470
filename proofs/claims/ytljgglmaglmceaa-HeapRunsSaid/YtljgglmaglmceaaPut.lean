/- What putting an entry into a queue does. -/
import Derived.Test.YtljgglmaglmceaaSink
import Derived.Deep.RegionLaw
import Derived.Deep.AppendLies
import Derived.OwnWalk
namespace Go.Proofs.Ytljgglmaglmceaa
open Go.ChangeShapes Go.WideShapes Go.ChangeAt Go.RowKit

theorem info51 : (Try.prog.info? 51).map (fun i => (i.zero, i.size, i.bytes)) = some (some (.agg #[.int .i64 0, .int .i64 0, .int .i64 0, .int .i64 0]), 4, 32) := by kernel_rfl
theorem info24 : (Try.prog.info? 24).map (fun i => (i.zero, i.size, i.bytes)) = some (some (.agg #[.int .i64 0, .int .i64 0, .int .i64 0]), 3, 24) := by kernel_rfl

theorem own_drew {w : World} {B : Nat} {e : TypeId} {size : Nat} {v : Value} {n : Nat} {xs : List Value} (h : w.ownsRow B e size v n xs) : w.drew.ownsRow B e size v n xs := h
theorem heapAt_alloc {w : World} {B b : Nat} {o : Int} {v : Value} {l : List Ent} (h : HeapAt w B b o v l) (O : Obj) : HeapAt (w.alloc O) B b o v l :=
  h.kept (turned_of_below (F := fun _ => False) ((Below.refl _ _).alloc (Nat.le_refl _) O)) (fun _ _ hf => hf)
theorem put_blk {wa w1 : World} {B b : Nat} {o : Int} {v : Value} {l : List Ent} {O : Obj} (h : HeapAt wa B b o v l) (hgrow : (wa.alloc O).drew.grownBy w1 v.ownBlock) : w1.heap[b]? = some (.cells #[.int .i64 o, v] 48 (0, 0)) := by
  have hbl := (h.lt b (.inl rfl)).2
  rw [hgrow.block b (by simp; omega) (Ne.symm h.apart)]
  show (wa.alloc O).heap[b]? = _
  rw [Below.heap_alloc wa O b hbl]
  exact h.blk
theorem put_cell {wa w1 : World} {B b : Nat} {o : Int} {v : Value} {l : List Ent} {O : Obj} (h : HeapAt wa B b o v l) (hgrow : (wa.alloc O).drew.grownBy w1 v.ownBlock) : w1.cell? ⟨b, 1, none⟩ = some v ∧ w1.frozen? ⟨b, 1, none⟩ = false :=
  ⟨by rw [cell_of_row _ _ _ _ _ _ (put_blk h hgrow)]; rfl, frozen_of_row _ _ _ _ _ (put_blk h hgrow)⟩
/-- The heap behind the append, its field stored. -/
theorem put_lies {wa w1 : World} {B b g cap : Nat} {o : Int} {v : Value} {l : List Ent} {x : Ent} {O : Obj} (h : HeapAt wa B b o v l)
    (hown : w1.ownsRow B 51 4 (.slice (some ⟨g, 0, none⟩) (l.length + 1) cap) (l.length + 1) (rowP o l ++ pcell o x)) (hgrow : (wa.alloc O).drew.grownBy w1 v.ownBlock) (hat : v.ownBlock = some g ∨ g = wa.heap.size + 1) :
    HeapAt (w1.setCell ⟨b, 1, none⟩ (.slice (some ⟨g, 0, none⟩) (l.length + 1) cap)) B b o (.slice (some ⟨g, 0, none⟩) (l.length + 1) cap) (l ++ [x]) ∧
    Turned (Foot b v) wa (w1.setCell ⟨b, 1, none⟩ (.slice (some ⟨g, 0, none⟩) (l.length + 1) cap)) ∧ (Foot b v g ∨ wa.heap.size ≤ g) := by
  have hbl := (h.lt b (.inl rfl)).2
  have hgb : g ≠ b := by
    rintro rfl
    rcases hat with hat | hat
    · exact h.apart hat
    · omega
  have hb1 := put_blk h hgrow
  refine ⟨⟨h.base, ?_, ?_, ?_⟩, ?_, ?_⟩
  · rw [heap_setCell_same w1 b 1 _ _ _ hb1]; rfl
  · rw [rowP_append, show (l ++ [x]).length = l.length + 1 by simp]
    refine hown.kept (row := some b) ⟨rfl, rfl, rfl, by simp [World.setCell], fun k _ hk => heap_setCell_other w1 ⟨b, 1, none⟩ k _ (fun e => hk (by rw [e]))⟩ (.inr ?_)
    intro e
    exact hgb (by simpa [Value.ownBlock] using e)
  · intro e; exact hgb (by simpa [Value.ownBlock] using e)
  · have t1 : Turned (Foot b v) wa w1 := (turned_of_below (F := Foot b v) (((Below.refl _ _).alloc (Nat.le_refl _) O).drew)).trans (turned_of_grown (F := Foot b v) hgrow (fun i hi => .inr hi)) (fun _ _ hf => hf)
    exact t1.trans (turned_set (F := Foot b v) w1 ⟨b, 1, none⟩ _ (.inl rfl)) (fun _ _ hf => hf)
  · rcases hat with hat | hat
    · exact .inl (.inr hat)
    · exact .inr (by omega)

/-- A heap in which m is, in whatever order. -/
def HeapOf (w : World) (B b : Nat) (o : Int) (v : Value) (m : List Ent) : Prop := ∃ l, HeapAt w B b o v l ∧ HOrd o l ∧ l.Perm m
/-- What an operation at a heap leaves: the heap itself, and all else as it was. -/
def HeapPost (w : World) (B b : Nat) (o : Int) (v : Value) (m : List Ent) (w' : World) : Prop :=
  ∃ v', HeapOf w' B b o v' m ∧ Turned (Foot b v) w w' ∧ ∀ k, Foot b v' k → Foot b v k ∨ w.heap.size ≤ k
theorem put_done {w wa w5 w6 : World} {B b g cap n : Nat} {o : Int} {v : Value} {l m : List Ent} {x : Ent} (hb : Below w.heap.size w wa) (h2 : Turned (Foot b v) wa w5) (hf : Foot b v g ∨ wa.heap.size ≤ g)
    (hp : l.Perm m) (h6 : Risen w5 B b o (.slice (some ⟨g, 0, none⟩) n cap) (l ++ [x]) w6) : HeapPost w B b o v (x :: m) w6 := by
  obtain ⟨l', ha, hr, hpp, ht⟩ := h6
  have hfoot : ∀ k, Foot b (.slice (some ⟨g, 0, none⟩) n cap) k → Foot b v k ∨ w.heap.size ≤ k := by
    rintro k (rfl | hk)
    · exact .inl (.inl rfl)
    · have : g = k := by simpa [Value.ownBlock] using hk
      subst this
      rcases hf with hf | hf
      · exact .inl hf
      · exact .inr (Nat.le_trans hb.size hf)
  refine ⟨_, ⟨l', ha, hr, hpp.trans ((List.perm_append_singleton x l).trans (hp.cons x))⟩, ?_, hfoot⟩
  have t1 := (turned_of_below (F := Foot b v) hb).trans h2 (fun _ _ h => h)
  refine t1.trans ht (fun k hk hfk => ?_)
  rcases hfoot k hfk with h | h
  · exact h
  · omega

set_option maxRecDepth 1000000 in
set_option maxHeartbeats 1000000 in
theorem put_any {w : World} {B b : Nat} {o : Int} {v : Value} {m : List Ent} (h : HeapOf w B b o v m) (x : Ent) (hn : m.length ≤ 999) :
    Calls Try.prog 20 #[.pointer (some ⟨b, 1, none⟩), plcV o x] w fun e w' => e = .returned (.tuple #[]) ∧ HeapPost w B b o v (x :: m) w' := by
  unfold plcV
  obtain ⟨l, h, hr, hp⟩ := h
  have HP := Lib.hid hp
  have hn : l.length ≤ 999 := by rw [hp.length_eq]; exact hn
  clear hp
  obtain ⟨i0, hi, hz0, hz1, hz2⟩ := info_parts info51
  have hbl := (h.lt b (.inl rfl)).2
  have HA := Lib.hid (heapAt_alloc h (.cells #[.int .i64 x.b, .int .i64 x.d, .int .i64 x.n, .int .i64 o] 51))
  have hq := HA.out.items
  have hf := HA.out.free 1
  have hnew := heap_alloc_new w (.cells #[.int .i64 x.b, .int .i64 x.d, .int .i64 x.n, .int .i64 o] 51)
  have p0 : (w.alloc (.cells #[.int .i64 x.b, .int .i64 x.d, .int .i64 x.n, .int .i64 o] 51)).cell? ⟨w.heap.size, 0, none⟩ = some (.int .i64 x.b) := by rw [cell_of_row _ _ _ _ _ _ hnew]; rfl
  have p1 : (w.alloc (.cells #[.int .i64 x.b, .int .i64 x.d, .int .i64 x.n, .int .i64 o] 51)).cell? ⟨w.heap.size, 1, none⟩ = some (.int .i64 x.d) := by rw [cell_of_row _ _ _ _ _ _ hnew]; rfl
  have p2 : (w.alloc (.cells #[.int .i64 x.b, .int .i64 x.d, .int .i64 x.n, .int .i64 o] 51)).cell? ⟨w.heap.size, 2, none⟩ = some (.int .i64 x.n) := by rw [cell_of_row _ _ _ _ _ _ hnew]; rfl
  have p3 : (w.alloc (.cells #[.int .i64 x.b, .int .i64 x.d, .int .i64 x.n, .int .i64 o] 51)).cell? ⟨w.heap.size, 3, none⟩ = some (.int .i64 o) := by rw [cell_of_row _ _ _ _ _ _ hnew]; rfl
  clear hnew
  have hbs := HA.out.lt b (.inl rfl)
  have AP := Lib.hid HA.out.apart
  have HTa := Lib.hid ((Below.refl _ w).alloc (Nat.le_refl _) (.cells #[.int .i64 x.b, .int .i64 x.d, .int .i64 x.n, .int .i64 o] 51))
  have HR := Lib.hid hr
  have H63 := Lib.hid (show l.length + 1 ≤ maxLen by unfold maxLen; omega)
  have HBy := Lib.hid (show (l.length + 1) * 32 ≤ 140737488355328 by omega)
  obtain ⟨hbs1, hbs2⟩ := hbs
  clear h hr
  go_enter Try.func20, Try.ntmps20
  go_wp2_with fail
  generalize w.alloc (.cells #[.int .i64 x.b, .int .i64 x.d, .int .i64 x.n, .int .i64 o] 51) = wa at *
  generalize hN : w.heap.size = N at p0 p1 p2 p3 hbl ⊢
  clear hN
  go_region_law
    ((refine step_append_lies _ (by rfl) _ _ _ (by rfl) B 51 i0 _ 4 32 Try.underlying44 hi hz0 hz1 hz2 rfl (by omega) v l.length (rowP o l) (by rfl) ((HA.out.own.alloc _).drew)
        ⟨wa.heap.size, 0, none⟩ 1 1 (pcell o x) (by rfl) (by rfl) (World.news_of_block (cs := #[.int .i64 x.b, .int .i64 x.d, .int .i64 x.n, .int .i64 o]) (t := 51) (fr := (0, 0)) (heap_alloc_new wa _)) (by simp [pcell, Value.oneCell'])
        (by omega) H63.out HBy.out (by simp; omega) (wa.heap.size + 1) (by simp) ?_
      intro gg cap w1 hown1 hgrow hat hlt
      obtain ⟨hc1, hf1⟩ := put_cell HA.out hgrow))
  all_goals
    obtain ⟨h2, t2, f2⟩ := put_lies HA.out hown1 hgrow hat
    have H2 := Lib.hid h2
    have T2 := Lib.hid t2
    have F2 := Lib.hid f2
    clear h2 t2 f2 hown1 hgrow hat hlt hc1 hf1 p0 p1 p2 p3 hq hf
    generalize w1.setCell ⟨b, 1, none⟩ (.slice (some ⟨gg, 0, none⟩) (l.length + 1) cap) = w5 at *
    have hq5 := H2.out.items
    go_wp2_with fail
  all_goals
    refine (rise_any H2.out l.length (by simp; omega) (rise_start o l x HR.out)).mono ?_
    rintro e w6 ⟨rfl, h6⟩
    have H6 := Lib.hid (put_done HTa.out T2.out F2.out HP.out h6)
    clear h6
    go_wp2
    go_end0
    exact ⟨rfl, H6.out⟩
end Go.Proofs.Ytljgglmaglmceaa
