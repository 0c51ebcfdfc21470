/- Taking all out, one behind the other. -/
import Derived.Test.YtljgglmaglmceaaLaws
namespace Go.Proofs.Ytljgglmaglmceaa
open Go.ChangeShapes Go.WideShapes Go.ChangeAt Go.RowKit

/-- What is left when k have been taken. -/
def rem (o : Int) (l : List Ent) : Nat → List Ent
  | 0 => l
  | k + 1 => left o (rem o l k)
theorem rem_len (o : Int) (l : List Ent) : ∀ k, k ≤ l.length → (rem o l k).length = l.length - k
  | 0, _ => rfl
  | k + 1, h => by
    have h1 := rem_len o l k (by omega)
    have h2 := left_len o (rem o l k) (fun e => by rw [e] at h1; simp at h1; omega)
    show (left o (rem o l k)).length = _
    omega
theorem rem_some (o : Int) (l : List Ent) (k : Nat) (h : k < l.length) : rem o l k ≠ [] := fun e => by
  have h1 := rem_len o l k (by omega)
  rw [e] at h1; simp at h1; omega
theorem rem_none (o : Int) (l : List Ent) : rem o l l.length = [] := List.eq_nil_of_length_eq_zero (by rw [rem_len o l _ (Nat.le_refl _)]; omega)
/-- The one taken last. -/
def lastOf (o : Int) (l : List Ent) : Nat → Ent
  | 0 => ⟨0, 0, 0⟩
  | k + 1 => first o (rem o l k)
theorem rem_order (o : Int) (l : List Ent) (k : Nat) (h0 : 0 < k) (h : k < l.length) : lt o (first o (rem o l k)) (lastOf o l k) = false := by
  obtain ⟨j, rfl⟩ : ∃ j, k = j + 1 := ⟨k - 1, by omega⟩
  have h1 := rem_some o l j (by omega)
  have h2 := rem_some o l (j + 1) h
  refine (first_isMin o (rem o l j) h1).2 _ ?_
  exact (left_perm o (rem o l j) h1).mem_iff.2 (List.mem_cons_of_mem _ (first_isMin o (rem o l (j + 1)) h2).1)
theorem rem_count (o : Int) (l : List Ent) (k : Nat) (h : k < l.length) (x : Ent) : (rem o l k).count x = (rem o l (k + 1)).count x + if first o (rem o l k) = x then 1 else 0 := by
  rw [(left_perm o (rem o l k) (rem_some o l k h)).count_eq x, List.count_cons]
  show _ = (left o (rem o l k)).count x + _
  congr 1
  by_cases e : first o (rem o l k) = x <;> simp [e]
theorem take_count (l : List Ent) (k : Nat) (h : k < l.length) (x : Ent) : (l.take (k + 1)).count x = (l.take k).count x + if nth l k = x then 1 else 0 := by
  rw [take_snoc l k h, List.count_append]
  congr 1
  by_cases e : nth l k = x <;> simp [e]
theorem count_le (l : List Ent) (x : Ent) : l.count x ≤ l.length := List.count_le_length

/-- Two blocks that are none of the heap's. -/
def two (N M : Nat) : Nat → Prop := fun k => k = N ∨ k = M
def boxOf (x : Ent) : Obj := .cells #[.int .i64 x.b, .int .i64 x.d, .int .i64 x.n] 24 (0, 0)
theorem box_cells {w : World} {N : Nat} {x : Ent} (h : w.heap[N]? = some (boxOf x)) : w.cell? ⟨N, 0, none⟩ = some (.int .i64 x.b) ∧ w.cell? ⟨N, 1, none⟩ = some (.int .i64 x.d) ∧ w.cell? ⟨N, 2, none⟩ = some (.int .i64 x.n) := block_ent h
theorem box_free {w : World} {N : Nat} {x : Ent} (h : w.heap[N]? = some (boxOf x)) : ∀ j, w.frozen? ⟨N, j, none⟩ = false := fun j => frozen_of_row _ _ j _ _ h
theorem set3_box {w : World} {N : Nat} {x : Ent} (h : w.heap[N]? = some (boxOf x)) (y : Ent) : (set3 w N 0 y).heap[N]? = some (boxOf y) := by
  have h1 := heap_setCell_same w N 0 _ _ (.int .i64 y.b) h
  have h2 := heap_setCell_same _ N 1 _ _ (.int .i64 y.d) h1
  have h3 := heap_setCell_same _ N 2 _ _ (.int .i64 y.n) h2
  exact h3
theorem live_set {w0 w : World} {b : Nat} {o : Int} {m : List Ent} {A : Nat → Prop} (h : Live w0 w b o m A) (M : Nat) (hM : A M) (hM0 : w0.heap.size ≤ M) (x : Ent) : Live w0 (set3 w M 0 x) b o m A := by
  obtain ⟨v, h1, h2, h3⟩ := h
  have ht := set3_turned w M 0 x
  refine ⟨v, h1.kept ht (fun k hk e => (h3 M hM).2 (e ▸ hk)), h2.trans (turned_below ht (fun i hi => by omega) h2.size), fun k hk => ⟨Nat.lt_of_lt_of_le (h3 k hk).1 ht.size, (h3 k hk).2⟩⟩
theorem live_lt {w0 w : World} {b : Nat} {o : Int} {m : List Ent} {A : Nat → Prop} (h : Live w0 w b o m A) : ∀ k, A k → k < w.heap.size := by
  obtain ⟨v, h1, h2, h3⟩ := h
  exact fun k hk => (h3 k hk).1

/-- What holds between two that are taken. -/
structure Drained (w wr : World) (b : Nat) (o : Int) (l : List Ent) (one : Ent) (N M k : Nat) : Prop where
  live : Live w wr b o (rem o l k) (two N M)
  one : wr.heap[N]? = some (boxOf one)
  last : wr.heap[M]? = some (boxOf (lastOf o l k))
/-- What holds between two that are put in. -/
structure Filled (w wr : World) (b : Nat) (o : Int) (l : List Ent) (one : Ent) (N k : Nat) : Prop where
  live : Live w wr b o (l.take k) (· = N)
  one : wr.heap[N]? = some (boxOf one)
theorem filled_new {w w2 : World} {l : List Ent} {N : Nat} {one : Ent} (hb : Below w.heap.size w w2) (o : Int) (h : w2.heap[N]? = some (boxOf one)) : Filled w (w2.alloc (.cells #[.int .i64 o, .slice none 0 0] 48)) w2.heap.size o l one N 0 := by
  have hlt : N < w2.heap.size := (Array.getElem?_eq_some_iff.1 h).1
  refine ⟨⟨_, new_of w2 _ hb.size o, hb.alloc hb.size _, ?_⟩, ?_⟩
  · rintro k rfl
    refine ⟨by simp; omega, ?_⟩
    rintro (e | e)
    · omega
    · simp [Value.ownBlock] at e
  · rw [Below.heap_alloc _ _ _ hlt]; exact h
theorem filled_put {w wr w' : World} {b : Nat} {o : Int} {l : List Ent} {one : Ent} {N k : Nat} (h : Filled w wr b o l one N k) (hk : k < l.length) (h1 : Live w w' b o (nth l k :: l.take k) (· = N)) (h2 : Same (· = N) wr w') : Filled w w' b o l one N (k + 1) :=
  ⟨live_perm h1 (take_perm l k hk), (h2 N rfl).trans h.one⟩
theorem filled_below {w wr w' : World} {b : Nat} {o : Int} {l : List Ent} {one : Ent} {N k : Nat} (h : Filled w wr b o l one N k) (hb : Below wr.heap.size wr w') : Filled w w' b o l one N k := by
  obtain ⟨h1, h2⟩ := live_below h.live hb
  exact ⟨h1, (h2 N rfl).trans h.one⟩
theorem drained_start {w wr : World} {b : Nat} {o : Int} {l : List Ent} {one : Ent} {N : Nat} (h : Filled w wr b o l one N l.length) : Drained w (wr.alloc (boxOf ⟨0, 0, 0⟩)) b o l one N wr.heap.size 0 := by
  have hl := h.live
  rw [List.take_length] at hl
  refine ⟨live_alloc hl _ _ (fun k hk => by rcases hk with h | h; exact .inl h; exact .inr h), ?_, heap_alloc_new wr _⟩
  rw [Below.heap_alloc _ _ _ (live_lt hl N rfl)]
  exact h.one
/-- One is taken, and lies in a box of its own. -/
structure Took (w wr : World) (b : Nat) (o : Int) (l : List Ent) (one : Ent) (N M E k : Nat) : Prop where
  live : Live w wr b o (rem o l (k + 1)) (two N M)
  one : wr.heap[N]? = some (boxOf one)
  last : wr.heap[M]? = some (boxOf (lastOf o l k))
  this : wr.heap[E]? = some (boxOf (first o (rem o l k)))
theorem drained_take {w wr w' : World} {b : Nat} {o : Int} {l : List Ent} {one : Ent} {N M k : Nat} (h : Drained w wr b o l one N M k) (h1 : Live w w' b o (left o (rem o l k)) (two N M)) (h2 : Same (two N M) wr w') :
    Took w (w'.alloc (boxOf (first o (rem o l k)))) b o l one N M w'.heap.size k := by
  refine ⟨live_alloc h1 _ _ (fun k hk => .inl hk), ?_, ?_, heap_alloc_new w' _⟩
  · rw [Below.heap_alloc _ _ _ (live_lt h1 N (.inl rfl))]; exact (h2 N (.inl rfl)).trans h.one
  · rw [Below.heap_alloc _ _ _ (live_lt h1 M (.inr rfl))]; exact (h2 M (.inr rfl)).trans h.last
theorem drained_next {w wr w' : World} {b : Nat} {o : Int} {l : List Ent} {one : Ent} {N M k : Nat} (h : Drained w wr b o l one N M k) (h1 : Live w w' b o (left o (rem o l k)) (two N M)) (h2 : Same (two N M) wr w') (hNM : N ≠ M) (hM : w.heap.size ≤ M) (O : Obj) :
    Drained w ((set3 w' M 0 (first o (rem o l k))).alloc O) b o l one N M (k + 1) := by
  have h3 := live_set h1 M (.inr rfl) hM (first o (rem o l k))
  refine ⟨live_alloc h3 _ _ (fun k hk => .inl hk), ?_, ?_⟩
  · rw [Below.heap_alloc _ _ _ (live_lt h3 N (.inl rfl))]
    exact ((set3_turned w' M 0 _).block N (live_lt h1 N (.inl rfl)) hNM).trans ((h2 N (.inl rfl)).trans h.one)
  · rw [Below.heap_alloc _ _ _ (live_lt h3 M (.inr rfl))]
    exact set3_box ((h2 M (.inr rfl)).trans h.last) _
theorem took_below {w wr w' : World} {b : Nat} {o : Int} {l : List Ent} {one : Ent} {N M E k : Nat} (h : Took w wr b o l one N M E k) (hb : Below wr.heap.size wr w') : Took w w' b o l one N M E k := by
  obtain ⟨h1, h2⟩ := live_below h.live hb
  exact ⟨h1, (h2 N (.inl rfl)).trans h.one, (h2 M (.inr rfl)).trans h.last, (hb.block E (Array.getElem?_eq_some_iff.1 h.this).1).trans h.this⟩
theorem took_last {w wr : World} {b : Nat} {o : Int} {l : List Ent} {one : Ent} {N M E k : Nat} (h : Took w wr b o l one N M E k) (hNM : N ≠ M) (hM : w.heap.size ≤ M) : Drained w (set3 wr M 0 (first o (rem o l k))) b o l one N M (k + 1) :=
  ⟨live_set h.live M (.inr rfl) hM _, ((set3_turned wr M 0 _).block N (live_lt h.live N (.inl rfl)) hNM).trans h.one, set3_box h.last _⟩
end Go.Proofs.Ytljgglmaglmceaa
