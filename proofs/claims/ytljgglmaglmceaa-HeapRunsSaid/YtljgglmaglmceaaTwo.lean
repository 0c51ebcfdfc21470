/- Two things that live beside each other: none of one's blocks is the other's. -/
import Derived.Test.YtljgglmaglmceaaDrain
namespace Go.Proofs.Ytljgglmaglmceaa
open Go.ChangeShapes Go.WideShapes Go.ChangeAt Go.RowKit

/-- A thing with a struct at b and a row: all its blocks are there, from B on; what happens elsewhere does not touch it. -/
def Solid (B b : Nat) (P : World → Value → Prop) : Prop :=
  (∀ w v, P w v → ∀ k, Foot b v k → B ≤ k ∧ k < w.heap.size) ∧ ∀ (w w' : World) (v : Value) (F : Nat → Prop), P w v → Turned F w w' → (∀ k, Foot b v k → ¬ F k) → P w' v
theorem heap_solid (B b : Nat) (o : Int) (m : List Ent) : Solid B b (fun w v => HeapOf w B b o v m) := ⟨fun _ _ h => h.lt, fun _ _ _ _ h ht hF => h.kept ht hF⟩
/-- What an operation at a thing leaves. -/
def Post (P : World → Value → Prop) (b : Nat) (w : World) (v : Value) (w' : World) : Prop :=
  ∃ v', P w' v' ∧ Turned (Foot b v) w w' ∧ ∀ k, Foot b v' k → Foot b v k ∨ w.heap.size ≤ k

def Two (P Q : World → Value → Prop) (b c : Nat) (w0 w : World) (A : Nat → Prop) : Prop :=
  ∃ v u, P w v ∧ Q w u ∧ (∀ k, Foot b v k → ¬ Foot c u k) ∧ Below w0.heap.size w0 w ∧ ∀ k, A k → k < w.heap.size ∧ ¬ Foot b v k ∧ ¬ Foot c u k
section
variable {P Q P' Q' : World → Value → Prop} {b c : Nat} {w0 w w' : World} {A : Nat → Prop}
theorem two_swap (h : Two P Q b c w0 w A) : Two Q P c b w0 w A := by
  obtain ⟨v, u, h1, h2, h3, h4, h5⟩ := h
  exact ⟨u, v, h2, h1, fun k hk hk' => h3 k hk' hk, h4, fun k hk => ⟨(h5 k hk).1, (h5 k hk).2.2, (h5 k hk).2.1⟩⟩
theorem two_base (h : Two P Q b c w0 w A) : Below w0.heap.size w0 w := by
  obtain ⟨v, u, h1, h2, h3, h4, h5⟩ := h
  exact h4
theorem two_lt (h : Two P Q b c w0 w A) : ∀ k, A k → k < w.heap.size := by
  obtain ⟨v, u, h1, h2, h3, h4, h5⟩ := h
  exact fun k hk => (h5 k hk).1
theorem two_mono (h : Two P Q b c w0 w A) (hP : ∀ v, P w v → P' w v) (hQ : ∀ v, Q w v → Q' w v) : Two P' Q' b c w0 w A := by
  obtain ⟨v, u, h1, h2, h3⟩ := h
  exact ⟨v, u, hP v h1, hQ u h2, h3⟩
theorem two_below (sP : Solid w0.heap.size b P) (sQ : Solid w0.heap.size c Q) (h : Two P Q b c w0 w A) (hb : Below w.heap.size w w') : Two P Q b c w0 w' A ∧ Same A w w' := by
  obtain ⟨v, u, h1, h2, h3, h4, h5⟩ := h
  have ht := turned_of_below (F := fun _ => False) hb
  exact ⟨⟨v, u, sP.2 _ _ _ _ h1 ht (fun _ _ hf => hf), sQ.2 _ _ _ _ h2 ht (fun _ _ hf => hf), h3, h4.trans (hb.mono h4.size), fun k hk => ⟨Nat.lt_of_lt_of_le (h5 k hk).1 hb.size, (h5 k hk).2⟩⟩, fun k hk => hb.block k (h5 k hk).1⟩
theorem two_alloc (sP : Solid w0.heap.size b P) (sQ : Solid w0.heap.size c Q) (h : Two P Q b c w0 w A) (O : Obj) (A' : Nat → Prop) (hA : ∀ k, A' k → A k ∨ k = w.heap.size) : Two P Q b c w0 (w.alloc O) A' := by
  obtain ⟨v, u, h1, h2, h3, h4, h5⟩ := h
  have hb := (Below.refl _ w).alloc (Nat.le_refl _) O
  have ht := turned_of_below (F := fun _ => False) hb
  have hs : (w.alloc O).heap.size = w.heap.size + 1 := by simp
  refine ⟨v, u, sP.2 _ _ _ _ h1 ht (fun _ _ hf => hf), sQ.2 _ _ _ _ h2 ht (fun _ _ hf => hf), h3, h4.alloc h4.size O, fun k hk => ?_⟩
  rcases hA k hk with h | h
  · have := h5 k h; exact ⟨by omega, this.2⟩
  · exact ⟨by omega, fun hf => by have := (sP.1 _ _ h1 k hf).2; omega, fun hf => by have := (sQ.1 _ _ h2 k hf).2; omega⟩
theorem two_less (h : Two P Q b c w0 w A) (A' : Nat → Prop) (hA : ∀ k, A' k → A k) : Two P Q b c w0 w A' := by
  obtain ⟨v, u, h1, h2, h3, h4, h5⟩ := h
  exact ⟨v, u, h1, h2, h3, h4, fun k hk => h5 k (hA k hk)⟩
/-- An operation at the first one. -/
theorem two_post (sP : Solid w0.heap.size b P) (sQ : Solid w0.heap.size c Q) {v u : Value} (h1 : P w v) (h2 : Q w u) (h3 : ∀ k, Foot b v k → ¬ Foot c u k) (h4 : Below w0.heap.size w0 w) (h5 : ∀ k, A k → k < w.heap.size ∧ ¬ Foot b v k ∧ ¬ Foot c u k)
    (hp : Post P' b w v w') : Two P' Q b c w0 w' A ∧ Same A w w' := by
  obtain ⟨v', q1, q2, q3⟩ := hp
  refine ⟨⟨v', u, q1, sQ.2 _ _ _ _ h2 q2 (fun k hk hk' => h3 k hk' hk), fun k hk hk' => ?_, h4.trans (turned_below q2 (fun k hk => (sP.1 _ _ h1 k hk).1) h4.size), fun k hk => ⟨Nat.lt_of_lt_of_le (h5 k hk).1 q2.size, fun hf => ?_, (h5 k hk).2.2⟩⟩, fun k hk => q2.block k (h5 k hk).1 (h5 k hk).2.1⟩
  · rcases q3 k hk with h | h
    · exact h3 k h hk'
    · have := (sQ.1 _ _ h2 k hk').2; omega
  · rcases q3 k hf with h | h
    · exact (h5 k hk).2.1 h
    · have := (h5 k hk).1; omega
end

/-- A heap and something beside it. -/
def HQ (Q : World → Value → Prop) (b c : Nat) (w0 w : World) (o : Int) (m : List Ent) (A : Nat → Prop) : Prop := Two (fun w v => HeapOf w w0.heap.size b o v m) Q b c w0 w A
section
variable {Q : World → Value → Prop} {b c : Nat} {w0 w : World} {o : Int} {m m' : List Ent} {A : Nat → Prop}
theorem hq_perm (h : HQ Q b c w0 w o m A) (p : m.Perm m') : HQ Q b c w0 w o m' A :=
  two_mono h (fun _ ⟨l, h1, h2, h3⟩ => ⟨l, h1, h2, h3.trans p⟩) (fun _ hq => hq)
theorem hq_put (sQ : Solid w0.heap.size c Q) (h : HQ Q b c w0 w o m A) (x : Ent) (hn : m.length ≤ 999) :
    Calls Try.prog 11 #[.pointer (some ⟨b, 0, none⟩), .agg #[.int .i64 x.b, .int .i64 x.d, .int .i64 x.n]] w fun e w' => e = .returned (.tuple #[]) ∧ HQ Q b c w0 w' o (x :: m) A ∧ Same A w w' := by
  obtain ⟨v, u, h1, h2, h3, h4, h5⟩ := h
  exact (hput_any h1 x hn).mono fun e w' ⟨he, hp⟩ => ⟨he, two_post (P := fun w v => HeapOf w w0.heap.size b o v m) (P' := fun w v => HeapOf w w0.heap.size b o v (x :: m)) (heap_solid _ _ _ _) sQ h1 h2 h3 h4 h5 hp⟩
theorem hq_take (sQ : Solid w0.heap.size c Q) (h : HQ Q b c w0 w o m A) (hm : m ≠ []) (hn : m.length ≤ 1000) :
    Calls Try.prog 13 #[.pointer (some ⟨b, 0, none⟩)] w fun e w' => e = .returned (.tuple #[.agg #[.int .i64 (first o m).b, .int .i64 (first o m).d, .int .i64 (first o m).n], .bool true]) ∧ HQ Q b c w0 w' o (left o m) A ∧ Same A w w' := by
  obtain ⟨v, u, h1, h2, h3, h4, h5⟩ := h
  exact (htake_any h1 hm hn).mono fun e w' ⟨he, hp⟩ => ⟨he, two_post (P := fun w v => HeapOf w w0.heap.size b o v m) (P' := fun w v => HeapOf w w0.heap.size b o v (left o m)) (heap_solid _ _ _ _) sQ h1 h2 h3 h4 h5 hp⟩
theorem hq_below (sQ : Solid w0.heap.size c Q) (h : HQ Q b c w0 w o m A) {w' : World} (hb : Below w.heap.size w w') : HQ Q b c w0 w' o m A ∧ Same A w w' := two_below (heap_solid _ _ _ _) sQ h hb
theorem hq_alloc (sQ : Solid w0.heap.size c Q) (h : HQ Q b c w0 w o m A) (O : Obj) (A' : Nat → Prop) (hA : ∀ k, A' k → A k ∨ k = w.heap.size) : HQ Q b c w0 (w.alloc O) o m A' := two_alloc (heap_solid _ _ _ _) sQ h O A' hA
theorem hq_take_none (sQ : Solid w0.heap.size c Q) (h : HQ Q b c w0 w o [] A) :
    Calls Try.prog 13 #[.pointer (some ⟨b, 0, none⟩)] w fun e w' => e = .returned (.tuple #[.agg #[.int .i64 0, .int .i64 0, .int .i64 0], .bool false]) ∧ HQ Q b c w0 w' o [] A ∧ Same A w w' := by
  have h' := h
  obtain ⟨v, u, h1, h2, h3, h4, h5⟩ := h
  exact (htake_none h1).mono fun e w' ⟨he, hp⟩ => ⟨he, hq_below sQ h' hp⟩
theorem hq_len (h : HQ Q b c w0 w o m A) : Calls Try.prog 15 #[.pointer (some ⟨b, 0, none⟩)] w fun e w' => e = .returned (.int .i64 m.length) ∧ w = w' := by
  obtain ⟨v, u, h1, h2, h3, h4, h5⟩ := h
  exact len_any h1
theorem hq_least (sQ : Solid w0.heap.size c Q) (h : HQ Q b c w0 w o m A) (hn : m.length ≤ 1000) :
    Calls Try.prog 16 #[.pointer (some ⟨b, 0, none⟩)] w fun e w' => e = .returned (.int .i64 (minB m)) ∧ HQ Q b c w0 w' o m A ∧ Same A w w' := by
  have h' := h
  obtain ⟨v, u, h1, h2, h3, h4, h5⟩ := h
  exact (least_any h1 hn).mono fun e w' ⟨he, hp⟩ => ⟨he, hq_below sQ h' hp⟩
end

/-- Two heaps of one order. -/
def HH (w0 w : World) (b c : Nat) (o : Int) (m n : List Ent) (A : Nat → Prop) : Prop := HQ (fun w v => HeapOf w w0.heap.size c o v n) b c w0 w o m A
section
variable {b c : Nat} {w0 w : World} {o : Int} {m n m' n' : List Ent} {A : Nat → Prop}
theorem hh_swap (h : HH w0 w b c o m n A) : HH w0 w c b o n m A := by
  unfold HH HQ at *; exact two_swap h
theorem hh_base (h : HH w0 w b c o m n A) : Below w0.heap.size w0 w := by
  unfold HH HQ at h; exact two_base h
theorem hh_perm (h : HH w0 w b c o m n A) (p : m.Perm m') (q : n.Perm n') : HH w0 w b c o m' n' A := hh_swap (hq_perm (hh_swap (hq_perm h p)) q)
theorem hh_new (hb : Below w0.heap.size w0 w) (o : Int) :
    HH w0 ((w.alloc (.cells #[.int .i64 o, .slice none 0 0] 48)).alloc (.cells #[.int .i64 o, .slice none 0 0] 48)) w.heap.size (w.heap.size + 1) o [] [] noBlock := by
  have e : (w.alloc (.cells #[.int .i64 o, .slice none 0 0] 48)).heap.size = w.heap.size + 1 := by simp
  have h1 := new_of w w0.heap.size hb.size o
  have h2 := new_of (w.alloc (.cells #[.int .i64 o, .slice none 0 0] 48)) w0.heap.size (by have := hb.size; omega) o
  rw [e] at h2
  refine ⟨_, _, h1.below ((Below.refl _ _).alloc (Nat.le_refl _) _), h2, ?_, (hb.alloc hb.size _).alloc (by have := hb.size; omega) _, fun _ hk => hk.elim⟩
  rintro k (hk | hk) (hk' | hk')
  · omega
  · simp [Value.ownBlock] at hk'
  · simp [Value.ownBlock] at hk
  · simp [Value.ownBlock] at hk
theorem hh_put (h : HH w0 w b c o m n A) (x : Ent) (hn : m.length ≤ 999) :
    Calls Try.prog 11 #[.pointer (some ⟨b, 0, none⟩), .agg #[.int .i64 x.b, .int .i64 x.d, .int .i64 x.n]] w fun e w' => e = .returned (.tuple #[]) ∧ HH w0 w' b c o (x :: m) n A ∧ Same A w w' := hq_put (heap_solid _ _ _ _) h x hn
theorem hh_put2 (h : HH w0 w b c o m n A) (x : Ent) (hn : n.length ≤ 999) :
    Calls Try.prog 11 #[.pointer (some ⟨c, 0, none⟩), .agg #[.int .i64 x.b, .int .i64 x.d, .int .i64 x.n]] w fun e w' => e = .returned (.tuple #[]) ∧ HH w0 w' b c o m (x :: n) A ∧ Same A w w' :=
  (hh_put (hh_swap h) x hn).mono fun _ _ h => ⟨h.1, hh_swap h.2.1, h.2.2⟩
theorem hh_take (h : HH w0 w b c o m n A) (hm : m ≠ []) (hn : m.length ≤ 1000) :
    Calls Try.prog 13 #[.pointer (some ⟨b, 0, none⟩)] w fun e w' => e = .returned (.tuple #[.agg #[.int .i64 (first o m).b, .int .i64 (first o m).d, .int .i64 (first o m).n], .bool true]) ∧ HH w0 w' b c o (left o m) n A ∧ Same A w w' := hq_take (heap_solid _ _ _ _) h hm hn
theorem hh_take2 (h : HH w0 w b c o m n A) (hm : n ≠ []) (hn : n.length ≤ 1000) :
    Calls Try.prog 13 #[.pointer (some ⟨c, 0, none⟩)] w fun e w' => e = .returned (.tuple #[.agg #[.int .i64 (first o n).b, .int .i64 (first o n).d, .int .i64 (first o n).n], .bool true]) ∧ HH w0 w' b c o m (left o n) A ∧ Same A w w' :=
  (hh_take (hh_swap h) hm hn).mono fun _ _ h => ⟨h.1, hh_swap h.2.1, h.2.2⟩
theorem hh_none (h : HH w0 w b c o [] n A) :
    Calls Try.prog 13 #[.pointer (some ⟨b, 0, none⟩)] w fun e w' => e = .returned (.tuple #[.agg #[.int .i64 0, .int .i64 0, .int .i64 0], .bool false]) ∧ HH w0 w' b c o [] n A ∧ Same A w w' := hq_take_none (heap_solid _ _ _ _) h
theorem hh_none2 (h : HH w0 w b c o m [] A) :
    Calls Try.prog 13 #[.pointer (some ⟨c, 0, none⟩)] w fun e w' => e = .returned (.tuple #[.agg #[.int .i64 0, .int .i64 0, .int .i64 0], .bool false]) ∧ HH w0 w' b c o m [] A ∧ Same A w w' :=
  (hh_none (hh_swap h)).mono fun _ _ h => ⟨h.1, hh_swap h.2.1, h.2.2⟩
theorem hh_alloc (h : HH w0 w b c o m n A) (O : Obj) (A' : Nat → Prop) (hA : ∀ k, A' k → A k ∨ k = w.heap.size) : HH w0 (w.alloc O) b c o m n A' := hq_alloc (heap_solid _ _ _ _) h O A' hA
theorem hh_lt (h : HH w0 w b c o m n A) : ∀ k, A k → k < w.heap.size := by
  unfold HH HQ at h; exact two_lt h
theorem hh_less (h : HH w0 w b c o m n A) (A' : Nat → Prop) (hA : ∀ k, A' k → A k) : HH w0 w b c o m n A' := by
  unfold HH HQ at *; exact two_less h A' hA
end
end Go.Proofs.Ytljgglmaglmceaa
