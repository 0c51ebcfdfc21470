/- A whole struct stored into a row that a call has made. -/
import Derived.Test.YtofapalakpkkpaaNRow
import Derived.Deep.MidRow
namespace Go.Proofs.Ytofapalakpkkpaa
open Go.ChangeShapes Go.WideShapes Go.ChangeAt Go.RowKit

/-- These values from place o on. -/
def setAt (xs : List Value) : Nat → List Value → List Value
  | _, [] => xs
  | o, v :: r => setAt (xs.set o v) (o + 1) r
theorem setAt_len : ∀ (r : List Value) (xs : List Value) (o : Nat), (setAt xs o r).length = xs.length
  | [], _, _ => rfl
  | v :: r, xs, o => by rw [setAt, setAt_len r, List.length_set]
theorem setAt_at : ∀ (r : List Value) (xs : List Value) (o j : Nat), o + r.length ≤ xs.length → (setAt xs o r)[j]? = if o ≤ j ∧ j < o + r.length then r[j - o]? else xs[j]?
  | [], xs, o, j, _ => by rw [setAt, if_neg (by rw [List.length_nil]; omega)]
  | v :: r, xs, o, j, h => by
    rw [List.length_cons] at h
    rw [setAt, setAt_at r (xs.set o v) (o + 1) j (by rw [List.length_set]; omega)]
    by_cases h1 : j = o
    · subst h1
      rw [if_neg (by omega), if_pos (by simp), Nat.sub_self, List.getElem?_cons_zero, List.getElem?_set_self (by omega)]
    · by_cases h2 : o + 1 ≤ j ∧ j < o + 1 + r.length
      · rw [if_pos h2, if_pos (by simp; omega), show j - o = (j - (o + 1)) + 1 by omega, List.getElem?_cons_succ]
      · rw [if_neg h2, if_neg (by simp; omega), List.getElem?_set_ne (by omega)]
section
variable {α : Type} {f : α → List Value} {k : Nat}
theorem gflat_set (E : Enc f k) (l : List α) (i : Nat) (x : α) (hi : i < l.length) : gflat f (l.set i x) = setAt (gflat f l) (i * k) (f x) := by
  have hk := E.pos
  have hb : i * k + k ≤ l.length * k := by
    have := Nat.mul_le_mul_right k (show i + 1 ≤ l.length by omega)
    rw [Nat.add_mul] at this; omega
  have hL : (gflat f l).length = l.length * k := gflat_len E l
  refine List.ext_getElem? (fun j => ?_)
  rw [setAt_at _ _ _ _ (by rw [E.len, hL]; exact hb), E.len]
  by_cases hj : j < l.length * k
  · have hd : j / k < l.length := Nat.div_lt_of_lt_mul (by rw [Nat.mul_comm]; exact hj)
    have hm : j % k < k := Nat.mod_lt _ hk
    have hjj : j / k * k + j % k = j := by rw [Nat.mul_comm]; exact Nat.div_add_mod j k
    by_cases he : j / k = i
    · have hx : (l.set i x)[i]? = some x := List.getElem?_set_self hi
      have h1 := gflat_at E (l.set i x) i (j % k) x hx hm
      rw [he] at hjj
      rw [hjj] at h1
      rw [h1, if_pos (by omega), show j - i * k = j % k by omega]
    · have hx : (l.set i x)[j / k]? = some l[j / k] := by rw [List.getElem?_set_ne (fun e => he e.symm), List.getElem?_eq_getElem hd]
      have h1 := gflat_at E (l.set i x) (j / k) (j % k) _ hx hm
      have h2 := gflat_at E l (j / k) (j % k) _ (List.getElem?_eq_getElem hd) hm
      rw [hjj] at h1 h2
      rw [h1, h2, if_neg]
      rintro ⟨h3, h4⟩
      have : j / k = i := by
        refine Nat.div_eq_of_lt_le ?_ ?_
        · exact h3
        · rw [Nat.add_mul]; omega
      exact he this
  · rw [List.getElem?_eq_none (by rw [gflat_len E, List.length_set]; omega), if_neg (by omega), List.getElem?_eq_none (by omega)]
theorem owns_setCells {B : Nat} {t : TypeId} {g n cap : Nat} : ∀ (r : List Value) (o : Nat) (xs : List Value) (w : World), w.ownsRow B t k (.slice (some ⟨g, 0, none⟩) n cap) n xs →
    (w.setCells g o r).ownsRow B t k (.slice (some ⟨g, 0, none⟩) n cap) n (setAt xs o r) ∧ w.grownBy (w.setCells g o r) (some g)
  | [], _, _, _, h => ⟨h, ⟨rfl, rfl, rfl, Nat.le_refl _, fun _ _ _ => rfl⟩⟩
  | v :: r, o, xs, w, h => by
    obtain ⟨a1, h1⟩ := h.stored o v
    obtain ⟨a2, h2⟩ := owns_setCells r (o + 1) (xs.set o v) (w.setCell ⟨g, o, none⟩ v) a1
    exact ⟨a2, ⟨h2.os.trans h1.os, h2.tape.trans h1.tape, h2.output.trans h1.output, Nat.le_trans h1.size h2.size, fun j hj hne => (h2.block j (Nat.lt_of_lt_of_le hj h1.size) hne).trans (h1.block j hj hne)⟩⟩
/-- One of them is stored. -/
theorem OwnG.stored {t : TypeId} {w : World} {B g n cap : Nat} {l : List α} (E : Enc f k) (h : OwnG f k t w B (.slice (some ⟨g, 0, none⟩) n cap) l) (i : Nat) (x : α) (hi : i < l.length) :
    OwnG f k t (w.setCells g (i * k) (f x)) B (.slice (some ⟨g, 0, none⟩) n cap) (l.set i x) ∧ w.grownBy (w.setCells g (i * k) (f x)) (some g) ∧ w.there g (i * k) k ∧ B ≤ g ∧ g < w.heap.size := by
  have hn : n = l.length := by
    obtain ⟨a, c, he⟩ := h.shape
    simp at he; exact he.2.1
  subst hn
  have h' : w.ownsRow B t k (.slice (some ⟨g, 0, none⟩) l.length cap) l.length (gflat f l) := h
  obtain ⟨a1, a2⟩ := owns_setCells (f x) (i * k) (gflat f l) w h'
  refine ⟨?_, a2, fun j hj => ⟨?_, h'.frozenAt _⟩, (World.ownsRow.lt h' g rfl).1, (World.ownsRow.lt h' g rfl).2⟩
  · unfold OwnG
    rw [List.length_set, gflat_set E l i x hi]
    exact a1
  · have hb : i * k + k ≤ l.length * k := by
      have := Nat.mul_le_mul_right k (show i + 1 ≤ l.length by omega)
      rw [Nat.add_mul] at this; omega
    rw [h'.cellAt _ (by omega), List.getElem?_eq_getElem (by rw [gflat_len E]; omega)]; rfl
end
/-- A node stored into a row of nodes. -/
theorem OwnN.stored {w0 w : World} {B g n cap : Nat} {l : List Nod} (h : OwnN w0 B w (.slice (some ⟨g, 0, none⟩) n cap) l) (i : Nat) (r : RawN) (x : Nod) (hr : NodIs w0 w r x) (hi : i < l.length) :
    OwnN w0 B (w.setCells g (i * 10) (nvL r)) (.slice (some ⟨g, 0, none⟩) n cap) (l.set i x) ∧ w.grownBy (w.setCells g (i * 10) (nvL r)) (some g) ∧ w.there g (i * 10) 10 ∧ B ≤ g ∧ g < w.heap.size := by
  obtain ⟨raw, h1, h2⟩ := h
  obtain ⟨a1, a2, a3, a4, a5⟩ := h1.stored encNod i r (by rw [h2.len]; exact hi)
  obtain ⟨c, fr, hb⟩ : ∃ c fr, w.heap[g]? = some (.cells c 27 fr) := by
    rcases h1.2 with ⟨he, _⟩ | ⟨g', cap', cur, he, _, hg, _⟩
    · cases he
    · simp only [Value.slice.injEq, Option.some.injEq, Addr.mk.injEq, and_true] at he
      obtain ⟨rfl, _⟩ := he
      exact ⟨_, _, hg⟩
  exact ⟨⟨_, a1, (h2.set i hr).mono (fun v l h => h.kept a2 hb)⟩, a2, a3, a4, a5⟩
section
variable {w w' : World} {b : Nat} {s : Sta} {c : Int} {v : Value}
theorem NodB.set0 (k : NodB w b s c v) (x : Int) : NodB (w.setCell ⟨b, 0, none⟩ (.int .i64 x)) b ⟨x, s.car, s.time, s.load, s.first, s.must, s.may, s.on⟩ c v := by unfold NodB; rw [heap_setCell_same w b 0 _ _ _ k]; rfl
theorem NodB.set1 (k : NodB w b s c v) (x : Int) : NodB (w.setCell ⟨b, 1, none⟩ (.int .i64 x)) b ⟨s.pos, x, s.time, s.load, s.first, s.must, s.may, s.on⟩ c v := by unfold NodB; rw [heap_setCell_same w b 1 _ _ _ k]; rfl
theorem NodB.set2 (k : NodB w b s c v) (x : Int) : NodB (w.setCell ⟨b, 2, none⟩ (.int .i64 x)) b ⟨s.pos, s.car, x, s.load, s.first, s.must, s.may, s.on⟩ c v := by unfold NodB; rw [heap_setCell_same w b 2 _ _ _ k]; rfl
theorem NodB.set3 (k : NodB w b s c v) (x : Int) : NodB (w.setCell ⟨b, 3, none⟩ (.int .i64 x)) b ⟨s.pos, s.car, s.time, x, s.first, s.must, s.may, s.on⟩ c v := by unfold NodB; rw [heap_setCell_same w b 3 _ _ _ k]; rfl
theorem NodB.set4 (k : NodB w b s c v) (x : Int) : NodB (w.setCell ⟨b, 4, none⟩ (.int .i64 x)) b ⟨s.pos, s.car, s.time, s.load, x, s.must, s.may, s.on⟩ c v := by unfold NodB; rw [heap_setCell_same w b 4 _ _ _ k]; rfl
theorem NodB.set5 (k : NodB w b s c v) (x : Nat) : NodB (w.setCell ⟨b, 5, none⟩ (.int .u64 (x : Nat))) b ⟨s.pos, s.car, s.time, s.load, s.first, x, s.may, s.on⟩ c v := by unfold NodB; rw [heap_setCell_same w b 5 _ _ _ k]; rfl
theorem NodB.set6 (k : NodB w b s c v) (x : Nat) : NodB (w.setCell ⟨b, 6, none⟩ (.int .u64 (x : Nat))) b ⟨s.pos, s.car, s.time, s.load, s.first, s.must, x, s.on⟩ c v := by unfold NodB; rw [heap_setCell_same w b 6 _ _ _ k]; rfl
theorem NodB.set7 (k : NodB w b s c v) (x : Nat) : NodB (w.setCell ⟨b, 7, none⟩ (.int .u64 (x : Nat))) b ⟨s.pos, s.car, s.time, s.load, s.first, s.must, s.may, x⟩ c v := by unfold NodB; rw [heap_setCell_same w b 7 _ _ _ k]; rfl
theorem NodB.set8 (k : NodB w b s c v) (x : Int) : NodB (w.setCell ⟨b, 8, none⟩ (.int .i64 x)) b ⟨s.pos, s.car, s.time, s.load, s.first, s.must, s.may, s.on⟩ x v := by unfold NodB; rw [heap_setCell_same w b 8 _ _ _ k]; rfl
theorem NodB.set9 (k : NodB w b s c v) (x : Value) : NodB (w.setCell ⟨b, 9, none⟩ (x)) b ⟨s.pos, s.car, s.time, s.load, s.first, s.must, s.may, s.on⟩ c x := by unfold NodB; rw [heap_setCell_same w b 9 _ _ _ k]; rfl
end
theorem put_node {w : World} {r : Nat} {s0 : Sta} {c0 : Int} {v0 : Value} (k : NodB w r s0 c0 v0) (x : RawN) : NodB (w.setCells r 0 (nvL x)) r x.s x.c x.u :=
  (((((((((k.set0 x.s.pos).set1 x.s.car).set2 x.s.time).set3 x.s.load).set4 x.s.first).set5 x.s.must).set6 x.s.may).set7 x.s.on).set8 x.c).set9 x.u
theorem nput_below {w : World} {r M : Nat} (h : M ≤ r) (x : RawN) : Below M w (w.setCells r 0 (nvL x)) :=
  ((((((((((Below.refl M w).setCell (p := ⟨r, 0, none⟩) h _).setCell (p := ⟨r, 1, none⟩) h _).setCell (p := ⟨r, 2, none⟩) h _).setCell (p := ⟨r, 3, none⟩) h _).setCell (p := ⟨r, 4, none⟩) h _).setCell (p := ⟨r, 5, none⟩) h _).setCell (p := ⟨r, 6, none⟩) h _).setCell (p := ⟨r, 7, none⟩) h _).setCell (p := ⟨r, 8, none⟩) h _).setCell (p := ⟨r, 9, none⟩) h _
theorem nput_other {w : World} {r b : Nat} (h : b ≠ r) (x : RawN) : (w.setCells r 0 (nvL x)).heap[b]? = w.heap[b]? :=
  (heap_setCell_other _ ⟨r, 9, none⟩ b _ h).trans ((heap_setCell_other _ ⟨r, 8, none⟩ b _ h).trans ((heap_setCell_other _ ⟨r, 7, none⟩ b _ h).trans ((heap_setCell_other _ ⟨r, 6, none⟩ b _ h).trans ((heap_setCell_other _ ⟨r, 5, none⟩ b _ h).trans ((heap_setCell_other _ ⟨r, 4, none⟩ b _ h).trans ((heap_setCell_other _ ⟨r, 3, none⟩ b _ h).trans ((heap_setCell_other _ ⟨r, 2, none⟩ b _ h).trans ((heap_setCell_other _ ⟨r, 1, none⟩ b _ h).trans (heap_setCell_other _ ⟨r, 0, none⟩ b _ h)))))))))
theorem turn_cell (W : World) (b o : Nat) (v : Value) : W.grownBy (W.setCell ⟨b, o, none⟩ v) (some b) :=
  ⟨rfl, rfl, rfl, ((Below.refl 0 W).setCell (p := ⟨b, o, none⟩) (Nat.zero_le _) v).size, fun k _ hk => heap_setCell_other W ⟨b, o, none⟩ k v (fun e => hk (by rw [e]))⟩
theorem turn_cells (b : Nat) : ∀ (r : List Value) (o : Nat) (W : World), W.grownBy (W.setCells b o r) (some b)
  | [], _, _ => ⟨rfl, rfl, rfl, Nat.le_refl _, fun _ _ _ => rfl⟩
  | v :: r, o, W => by
    have h1 := turn_cell W b o v
    have h2 := turn_cells b r (o + 1) (W.setCell ⟨b, o, none⟩ v)
    exact ⟨h2.os.trans h1.os, h2.tape.trans h1.tape, h2.output.trans h1.output, Nat.le_trans h1.size h2.size, fun j hj hne => (h2.block j (Nat.lt_of_lt_of_le hj h1.size) hne).trans (h1.block j hj hne)⟩
theorem nput_turns {w : World} {r : Nat} (x : RawN) : w.grownBy (w.setCells r 0 (nvL x)) (some r) := turn_cells r (nvL x) 0 w
theorem NodB.there {w : World} {r : Nat} {s0 : Sta} {c0 : Int} {v0 : Value} (k : NodB w r s0 c0 v0) : w.there r 0 10 := by
  intro j hj
  rw [Nat.zero_add]
  refine ⟨?_, k.free j⟩
  rw [k.cell j]
  match j, hj with
  | 0, _ => rfl
  | 1, _ => rfl
  | 2, _ => rfl
  | 3, _ => rfl
  | 4, _ => rfl
  | 5, _ => rfl
  | 6, _ => rfl
  | 7, _ => rfl
  | 8, _ => rfl
  | 9, _ => rfl
theorem infoNodeS : (Try.prog.info? 27).map (·.size) = some 10 := by kernel_rfl
theorem one_node (x : RawN) : (nvL x).toArray.all (·.oneCell') = true := all_oneCell_toArray (encNod.one x)
/-- A whole node is stored over another one. -/
theorem wpList_store_node {ops : Array Oper} {rest : List Oper} {op : Oper} {a : Act} {w : World} {Q : Exit → Act → World → Prop} (hgd : op.guard = none) (x y : Operand) (ho : op.op = .store 27 x y)
    (r : Nat) (s0 : Sta) (c0 : Int) (v0 : Value) (n : RawN) (hx : a.eval x = .pointer (some ⟨r, 0, none⟩)) (hy : a.eval y = nodeV n.s n.c n.u) (k : NodB w r s0 c0 v0)
    (h : ∀ w', NodB w' r n.s n.c n.u → (∀ M, M ≤ r → Below M w w') → (∀ b, b ≠ r → w'.heap[b]? = w.heap[b]?) → w.grownBy w' (some r) → wpList Try.prog ops Q rest (a.put op.dst undef) w') : wpList Try.prog ops Q (op :: rest) a w := by
  refine wpList_store_mid hgd 27 x y ho r 0 (nvL n).toArray hx (hy.trans rfl) (by exact k.there) (by exact infoNodeS) (one_node n) ?_
  exact h _ (by exact put_node k n) (fun M hM => by exact nput_below hM n) (fun b hb => by exact nput_other hb n) (by exact nput_turns n)
theorem wp_store_node {o : Oper} {a : Act} {w : World} {K : Act → World → Prop} {Q : Exit → Act → World → Prop} (x y : Operand) (ho : o.op = .store 27 x y)
    (r : Nat) (s0 : Sta) (c0 : Int) (v0 : Value) (n : RawN) (hx : a.eval x = .pointer (some ⟨r, 0, none⟩)) (hy : a.eval y = nodeV n.s n.c n.u) (k : NodB w r s0 c0 v0)
    (h : ∀ w', NodB w' r n.s n.c n.u → (∀ M, M ≤ r → Below M w w') → (∀ b, b ≠ r → w'.heap[b]? = w.heap[b]?) → w.grownBy w' (some r) → K (a.put o.dst undef) w') : o.wp Try.prog a w K Q := by
  refine wp_store_mid 27 x y ho r 0 (nvL n).toArray hx (hy.trans rfl) (by exact k.there) (by exact infoNodeS) (one_node n) ?_
  exact h _ (by exact put_node k n) (fun M hM => by exact nput_below hM n) (fun b hb => by exact nput_other hb n) (by exact nput_turns n)
theorem YBox.same {w w' : World} {N : Nat} {I : Ins} {u : Value} (k : YBox w N I u) (h : w'.heap[N]? = w.heap[N]?) : YBox w' N I u := by unfold YBox; rw [h]; exact k
theorem NodB.same {w w' : World} {b : Nat} {s : Sta} {c : Int} {v : Value} (k : NodB w b s c v) (h : w'.heap[b]? = w.heap[b]?) : NodB w' b s c v := by unfold NodB; rw [h]; exact k
/-- A node's box that is none of theirs turns: they stay. -/
theorem OwnN.beside {w0 w w' : World} {B r : Nat} {v : Value} {l : List Nod} {s : Sta} {c : Int} {u : Value} (h : OwnN w0 B w v l) (hr : r < B) (hg : w.grownBy w' (some r)) (hb : NodB w r s c u) : OwnN w0 B w' v l := by
  obtain ⟨raw, h1, h2⟩ := h
  refine ⟨raw, h1.kept hg ?_, h2.mono (fun v l h => h.kept hg hb)⟩
  rcases h1.2 with ⟨rfl, _⟩ | ⟨g', cap', cur, rfl, hB, _⟩
  · exact .inl rfl
  · right; simp [Value.ownBlock]; omega
theorem OwnN.lt {w0 w : World} {B : Nat} {v : Value} {l : List Nod} (h : OwnN w0 B w v l) (g : Nat) (hg : v.ownBlock = some g) : B ≤ g ∧ g < w.heap.size := by
  obtain ⟨raw, h1, _⟩ := h
  exact World.ownsRow.lt (show w.ownsRow B 27 10 v raw.length (gflat nvL raw) from h1) g hg
/-- A row of nodes grows: no path turns. -/
theorem PathB.grown {w0 w w' : World} {B : Nat} {v u : Value} {l : List Nod} {p : List Int} (ho : OwnN w0 B w v l) (hg : w.grownBy w' v.ownBlock) (h : PathB w0 w u p) : PathB w0 w' u p := by
  obtain ⟨raw, h1, _⟩ := ho
  rcases h1.2 with ⟨rfl, _⟩ | ⟨g', cap', cur, rfl, _, hb', _⟩
  · exact h.turned hg
  · exact h.kept hg hb'
theorem PathB.own {w0 w : World} {B : Nat} {v : Value} {p : List Int} (h : OwnI w B v p) (hB : w0.heap.size ≤ B) : PathB w0 w v p := .inr (h.less hB)
end Go.Proofs.Ytofapalakpkkpaa
