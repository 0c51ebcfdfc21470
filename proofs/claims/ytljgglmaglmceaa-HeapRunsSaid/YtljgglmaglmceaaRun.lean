/- A heap and the document's heap beside it, and a list of what is done to both. -/
import Derived.Test.YtljgglmaglmceaaRtake
namespace Go.Proofs.Ytljgglmaglmceaa
open Go.ChangeShapes Go.WideShapes Go.ChangeAt Go.RowKit

/-! ### The list of what is done -/
def noOp : Int × Ent := (0, ⟨0, 0, 0⟩)
def opAt (l : List (Int × Ent)) (i : Nat) : Int × Ent := l.getD i noOp
def IsOps (w : World) (a : Option Addr) (l : List (Int × Ent)) : Prop :=
  l.length ≤ maxLen ∧ (l = [] ∨ ∃ b off, a = some ⟨b, off, none⟩ ∧ ∀ i, i < l.length → w.cell? ⟨b, off + i * 4, none⟩ = some (.int .i64 (opAt l i).1) ∧ w.cell? ⟨b, off + i * 4 + 1, none⟩ = some (.int .i64 (opAt l i).2.b) ∧
    w.cell? ⟨b, off + i * 4 + 2, none⟩ = some (.int .i64 (opAt l i).2.d) ∧ w.cell? ⟨b, off + i * 4 + 3, none⟩ = some (.int .i64 (opAt l i).2.n))
theorem open_ops {H : Type} {enc : TypeId × Value → H} {w : World} {base : Nat} {spare : Nat → Bool} {held : Bool} {a : Option Addr} {len cap : Nat} {d : DataW H} {p : List MemPlace} (h : DataW.Trod enc Try.prog w base spare held 22 (.slice a len cap) d p) : ∃ l : List (Int × Ent), l.length = len ∧ IsOps w a l := by
  obtain ⟨fuel, hf⟩ := h
  rcases Go.Deep.open_slice Try.underlying22 hf with ⟨h0, _⟩ | ⟨ad, ln, cp, m, n, D, Pl, hcs, hb, hl, hm, hmm, hx, hi⟩
  · simp [Value.cells] at h0
    obtain ⟨rfl, rfl, rfl⟩ := h0
    exact ⟨[], rfl, by simp, .inl rfl⟩
  · simp [Value.cells] at hcs
    obtain ⟨rfl, rfl, rfl⟩ := hcs
    have hlm : len ≤ m := by rw [hmm]; split <;> omega
    obtain ⟨l, hll, hp⟩ := list_of noOp (fun i q => w.cell? (ad.add (i * 4)) = some (.int .i64 q.1) ∧ w.cell? ((ad.add (i * 4)).add 1) = some (.int .i64 q.2.b) ∧ w.cell? ((ad.add (i * 4)).add 2) = some (.int .i64 q.2.d) ∧ w.cell? ((ad.add (i * 4)).add 3) = some (.int .i64 q.2.n)) len (fun i hil => by
      obtain ⟨cs', hc, ht⟩ := hi i (by omega)
      rw [cells33] at hc
      obtain ⟨q, rfl⟩ := op_cells ht
      obtain ⟨_, _, hat⟩ := World.cells?_some hc
      have h0 := hat 0 (by omega)
      refine ⟨q, ?_, hat 1 (by omega), hat 2 (by omega), hat 3 (by omega)⟩
      have ez : (ad.add (i * 4)).add 0 = ad.add (i * 4) := by unfold Addr.add; split <;> simp_all
      rw [ez] at h0; exact h0)
    refine ⟨l, hll, by omega, ?_⟩
    by_cases e : len = 0
    · exact .inl (List.eq_nil_of_length_eq_zero (by omega))
    · right
      obtain ⟨b, off, spot⟩ := ad
      have hspot : spot = none := by
        have := World.cell?_spot (hp 0 (by omega)).1
        simpa [Addr.add] using this
      subst hspot
      refine ⟨b, off, rfl, fun i hil => ?_⟩
      have := hp i (by omega)
      simp only [add_off] at this
      exact this
theorem ops_later {w w' : World} {a : Option Addr} {l : List (Int × Ent)} (h : IsOps w a l) (hb : Below w.heap.size w w') : IsOps w' a l := by
  refine ⟨h.1, ?_⟩
  rcases h.2 with h | ⟨b, off, ha, hc⟩
  · exact .inl h
  · refine .inr ⟨b, off, ha, fun i hi => ?_⟩
    obtain ⟨c0, c1, c2, c3⟩ := hc i hi
    have hlt : b < w.heap.size := World.block_lt_of_cell? w _ c0
    exact ⟨(hb.cell (p := ⟨b, off + i * 4, none⟩) hlt).trans c0, (hb.cell (p := ⟨b, off + i * 4 + 1, none⟩) hlt).trans c1, (hb.cell (p := ⟨b, off + i * 4 + 2, none⟩) hlt).trans c2, (hb.cell (p := ⟨b, off + i * 4 + 3, none⟩) hlt).trans c3⟩
/-- What is in when k have been done. -/
def st (o : Int) (l : List (Int × Ent)) : Nat → List Ent
  | 0 => []
  | k + 1 => if (opAt l k).1 = 0 then (opAt l k).2 :: st o l k else left o (st o l k)
theorem left_nil (o : Int) : left o [] = [] := rfl
theorem st_len (o : Int) (l : List (Int × Ent)) : ∀ k, (st o l k).length ≤ k
  | 0 => Nat.le_refl _
  | k + 1 => by
    have h := st_len o l k
    unfold st
    split
    · simp; omega
    · by_cases e : st o l k = []
      · rw [e, left_nil]; simp
      · rw [left_len o _ e]; omega

/-! ### Both heaps -/
def HX (w0 w : World) (b c : Nat) (o : Int) (m n : List Ent) (A : Nat → Prop) : Prop := HQ (fun w v => RefOf w w0.heap.size c o v n) b c w0 w o m A
section
variable {b c : Nat} {w0 w w' : World} {o : Int} {m n : List Ent} {A : Nat → Prop}
theorem hx_base (h : HX w0 w b c o m n A) : Below w0.heap.size w0 w := by unfold HX HQ at h; exact two_base h
theorem hx_lt (h : HX w0 w b c o m n A) : ∀ k, A k → k < w.heap.size := by unfold HX HQ at h; exact two_lt h
theorem hx_less (h : HX w0 w b c o m n A) (A' : Nat → Prop) (hA : ∀ k, A' k → A k) : HX w0 w b c o m n A' := by unfold HX HQ at *; exact two_less h A' hA
theorem hx_alloc (h : HX w0 w b c o m n A) (O : Obj) (A' : Nat → Prop) (hA : ∀ k, A' k → A k ∨ k = w.heap.size) : HX w0 (w.alloc O) b c o m n A' := hq_alloc (ref_solid _ _ _ _) h O A' hA
theorem hx_below (h : HX w0 w b c o m n A) (hb : Below w.heap.size w w') : HX w0 w' b c o m n A ∧ Same A w w' := hq_below (ref_solid _ _ _ _) h hb
theorem hx_put (h : HX w0 w b c o m n A) (x : Ent) (hn : m.length ≤ 999) :
    Calls Try.prog 11 #[.pointer (some ⟨b, 0, none⟩), .agg #[.int .i64 x.b, .int .i64 x.d, .int .i64 x.n]] w fun e w' => e = .returned (.tuple #[]) ∧ HX w0 w' b c o (x :: m) n A ∧ Same A w w' := hq_put (ref_solid _ _ _ _) h x hn
theorem hx_take (h : HX w0 w b c o m n A) (hm : m ≠ []) (hn : m.length ≤ 1000) :
    Calls Try.prog 13 #[.pointer (some ⟨b, 0, none⟩)] w fun e w' => e = .returned (.tuple #[.agg #[.int .i64 (first o m).b, .int .i64 (first o m).d, .int .i64 (first o m).n], .bool true]) ∧ HX w0 w' b c o (left o m) n A ∧ Same A w w' := hq_take (ref_solid _ _ _ _) h hm hn
theorem hx_none (h : HX w0 w b c o [] n A) :
    Calls Try.prog 13 #[.pointer (some ⟨b, 0, none⟩)] w fun e w' => e = .returned (.tuple #[.agg #[.int .i64 0, .int .i64 0, .int .i64 0], .bool false]) ∧ HX w0 w' b c o [] n A ∧ Same A w w' := hq_take_none (ref_solid _ _ _ _) h
theorem hx_len (h : HX w0 w b c o m n A) : Calls Try.prog 15 #[.pointer (some ⟨b, 0, none⟩)] w fun e w' => e = .returned (.int .i64 m.length) ∧ w = w' := hq_len h
theorem hx_least (h : HX w0 w b c o m n A) (hn : m.length ≤ 1000) : Calls Try.prog 16 #[.pointer (some ⟨b, 0, none⟩)] w fun e w' => e = .returned (.int .i64 (minB m)) ∧ Below w.heap.size w w' := by
  obtain ⟨v, u, h1, h2, h3, h4, h5⟩ := h
  exact least_any h1 hn
theorem hx_rleast (h : HX w0 w b c o m n A) (hn : n.length ≤ 1000) : Calls Try.prog 17 #[.pointer (some ⟨c, 0, none⟩)] w fun e w' => e = .returned (.int .i64 (minB n)) ∧ w = w' := by
  obtain ⟨v, u, h1, h2, h3, h4, h5⟩ := h
  exact rleast_any h2 hn
theorem hx_items (h : HX w0 w b c o m n A) : ∃ a cap, w.cell? ⟨c, 1, none⟩ = some (.slice a n.length cap) ∧ c < w.heap.size := by
  obtain ⟨v, u, h1, ⟨l, h2, hp⟩, h3, h4, h5⟩ := h
  have hc := (h2.lt c (.inl rfl)).2
  rw [← hp.length_eq]
  rcases h2.form with ⟨e, hl⟩ | ⟨g, cap, e, _⟩
  · exact ⟨none, 0, by rw [h2.items, e, hl]; rfl, hc⟩
  · exact ⟨_, cap, by rw [h2.items, e], hc⟩
theorem hx_rput (h : HX w0 w b c o m n A) (x : Ent) (hn : n.length ≤ 999) :
    Calls Try.prog 12 #[.pointer (some ⟨c, 0, none⟩), .agg #[.int .i64 x.b, .int .i64 x.d, .int .i64 x.n]] w fun e w' => e = .returned (.tuple #[]) ∧ HX w0 w' b c o m (x :: n) A ∧ Same A w w' := by
  obtain ⟨v, u, h1, h2, h3, h4, h5⟩ := h
  refine (rput_any h2 x hn).mono fun e w' ⟨he, hp⟩ => ⟨he, ?_⟩
  obtain ⟨q1, q2⟩ := two_post (P := fun w v => RefOf w w0.heap.size c o v n) (P' := fun w v => RefOf w w0.heap.size c o v (x :: n)) (Q := fun w v => HeapOf w w0.heap.size b o v m) (A := A) (ref_solid _ _ _ _) (heap_solid _ _ _ _) h2 h1 (fun k hk hk' => h3 k hk' hk) h4 (fun k hk => ⟨(h5 k hk).1, (h5 k hk).2.2, (h5 k hk).2.1⟩) hp
  exact ⟨two_swap q1, q2⟩
theorem hx_rtake (h : HX w0 w b c o m n A) (hm : n ≠ []) (hn : n.length ≤ 1000) :
    Calls Try.prog 14 #[.pointer (some ⟨c, 0, none⟩)] w fun e w' => e = .returned (.tuple #[.agg #[.int .i64 (first o n).b, .int .i64 (first o n).d, .int .i64 (first o n).n], .bool true]) ∧ HX w0 w' b c o m (left o n) A ∧ Same A w w' := by
  obtain ⟨v, u, h1, h2, h3, h4, h5⟩ := h
  refine (rtake_any h2 hm hn).mono fun e w' ⟨he, hp⟩ => ⟨he, ?_⟩
  obtain ⟨q1, q2⟩ := two_post (P := fun w v => RefOf w w0.heap.size c o v n) (P' := fun w v => RefOf w w0.heap.size c o v (left o n)) (Q := fun w v => HeapOf w w0.heap.size b o v m) (A := A) (ref_solid _ _ _ _) (heap_solid _ _ _ _) h2 h1 (fun k hk hk' => h3 k hk' hk) h4 (fun k hk => ⟨(h5 k hk).1, (h5 k hk).2.2, (h5 k hk).2.1⟩) hp
  exact ⟨two_swap q1, q2⟩
theorem hx_rnone (h : HX w0 w b c o m [] A) :
    Calls Try.prog 14 #[.pointer (some ⟨c, 0, none⟩)] w fun e w' => e = .returned (.tuple #[.agg #[.int .i64 0, .int .i64 0, .int .i64 0], .bool false]) ∧ HX w0 w' b c o m [] A ∧ Same A w w' := by
  have h' := h
  obtain ⟨v, u, h1, h2, h3, h4, h5⟩ := h
  exact (rtake_none h2).mono fun e w' ⟨he, hp⟩ => ⟨he, hx_below h' hp⟩
theorem hx_new (hb : Below w0.heap.size w0 w) (o : Int) {A : Nat → Prop} (hA : ∀ k, A k → k < w.heap.size) :
    HX w0 ((w.alloc (.cells #[.int .i64 o, .slice none 0 0] 48)).alloc (.cells #[.int .i64 o, .slice none 0 0] 31)) w.heap.size (w.heap.size + 1) o [] [] A := by
  have e : (w.alloc (.cells #[.int .i64 o, .slice none 0 0] 48)).heap.size = w.heap.size + 1 := by simp
  have h1 := new_of w w0.heap.size hb.size o
  have h2 := ref_new (w.alloc (.cells #[.int .i64 o, .slice none 0 0] 48)) w0.heap.size (by have := hb.size; omega) o
  rw [e] at h2
  refine ⟨_, _, h1.below ((Below.refl _ _).alloc (Nat.le_refl _) _), h2, ?_, (hb.alloc hb.size _).alloc (by have := hb.size; omega) _, fun k hk => ⟨by have := hA k hk; simp; omega, ?_, ?_⟩⟩
  · rintro k (hk | hk) (hk' | hk')
    · omega
    · simp [Value.ownBlock] at hk'
    · simp [Value.ownBlock] at hk
    · simp [Value.ownBlock] at hk
  · rintro (h | h)
    · have := hA k hk; omega
    · simp [Value.ownBlock] at h
  · rintro (h | h)
    · have := hA k hk; omega
    · simp [Value.ownBlock] at h
end
/-- What holds between two that are done. -/
structure Running (w wr : World) (b c : Nat) (o : Int) (m : List Ent) (x y : Ent) (N M : Nat) : Prop where
  both : HX w wr b c o m m (two N M)
  one : wr.heap[N]? = some (boxOf x)
  other : wr.heap[M]? = some (boxOf y)
theorem running_same {w wr w' : World} {b c : Nat} {o : Int} {m m' : List Ent} {x y : Ent} {N M : Nat} (h : Running w wr b c o m x y N M) (h1 : HX w w' b c o m' m' (two N M)) (h2 : Same (two N M) wr w') : Running w w' b c o m' x y N M :=
  ⟨h1, (h2 N (.inl rfl)).trans h.one, (h2 M (.inr rfl)).trans h.other⟩
theorem running_below {w wr w' : World} {b c : Nat} {o : Int} {m : List Ent} {x y : Ent} {N M : Nat} (h : Running w wr b c o m x y N M) (hb : Below wr.heap.size wr w') : Running w w' b c o m x y N M := by
  obtain ⟨h1, h2⟩ := hx_below h.both hb
  exact running_same h h1 h2
theorem same_trans {A : Nat → Prop} {a b c : World} (h : Same A a b) (k : Same A b c) : Same A a c := fun i hi => (k i hi).trans (h i hi)
theorem same_less {A A' : Nat → Prop} {a b : World} (h : Same A a b) (hA : ∀ k, A' k → A k) : Same A' a b := fun i hi => h i (hA i hi)
theorem same_alloc {A : Nat → Prop} {w : World} (O : Obj) (h : ∀ k, A k → k < w.heap.size) : Same A w (w.alloc O) := fun k hk => Below.heap_alloc w O k (h k hk)
end Go.Proofs.Ytljgglmaglmceaa
