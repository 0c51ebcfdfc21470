/- What the document's word, line and Lines answer. -/
import Derived.Test.YtpgbbnmflnhlbaaXSame
namespace Go.Proofs.Ytpgbbnmflnhlbaa
open Go.ChangeShapes Go.WideShapes Go.ChangeAt Go.RowKit

theorem digs_bd : ∀ (d : List Int) (n m : Int) (k : Nat), 0 ≤ n → n < 10 ^ k → digs n d = some m → m < 10 ^ (k + d.length)
  | [], n, m, k, _, h, e => by simp [digs] at e; subst e; simpa using h
  | c :: r, n, m, k, h0, h, e => by
    unfold digs at e
    split at e
    · simp at e
    · have := digs_bd r (10 * n + (c - 48)) m (k + 1) (by omega) (by rw [Int.pow_succ]; omega) e
      rw [show k + (c :: r).length = k + 1 + r.length by simp; omega]
      exact this
/-- What is known of the digits gone over. -/
def DigJ (d : List Int) (k : Nat) (n : Int) : Prop := digs 0 d = digs n (d.drop k) ∧ 0 ≤ n ∧ n < 10 ^ k
theorem digJ_step {d : List Int} {k : Nat} {n c : Int} (h : DigJ d k n) (hk : k < d.length) (hc : d.getD k 0 = c) (h1 : 48 ≤ c) (h2 : c ≤ 57) : DigJ d (k + 1) (10 * n + (c - 48)) := by
  obtain ⟨e, h3, h4⟩ := h
  refine ⟨?_, by omega, by rw [Int.pow_succ]; omega⟩
  rw [e, drop_at d k hk c hc]
  show (if c < 48 ∨ 57 < c then none else digs (10 * n + (c - 48)) (d.drop (k + 1))) = _
  rw [if_neg (by omega)]
theorem digJ_bad {d : List Int} {k : Nat} {n c : Int} (h : DigJ d k n) (hk : k < d.length) (hc : d.getD k 0 = c) (h1 : c < 48 ∨ 57 < c) : digs 0 d = none := by
  rw [h.1, drop_at d k hk c hc]
  show (if c < 48 ∨ 57 < c then none else digs (10 * n + (c - 48)) (d.drop (k + 1))) = _
  rw [if_pos h1]
theorem digJ_end {d : List Int} {n : Int} (h : DigJ d d.length n) : digs 0 d = some n := by rw [h.1]; simp [digs]
theorem digJ_small {d : List Int} {k : Nat} {n : Int} (h : DigJ d k n) (hk : k ≤ 12) : n < 1000000000000 := by
  have h1 : (10 : Int) ^ k ≤ 10 ^ 12 := by
    have := Nat.pow_le_pow_right (n := 10) (by decide) hk
    exact_mod_cast this
  have := h.2.2
  omega
/-- What word answers, told by the number of bytes and the sign. -/
theorem word_plain (b : List Int) (h : b.head? ≠ some 45) : wordS b = if b.length < 1 ∨ 12 < b.length then none else digs 0 b := by unfold wordS; rw [if_neg h]
theorem word_minus (r : List Int) : wordS (45 :: r) = if r.length < 1 ∨ 12 < r.length then none else (digs 0 r).map (fun n => -n) := by unfold wordS; simp

end Go.Proofs.Ytpgbbnmflnhlbaa
/- What the document's line and Lines answer. -/
namespace Go.Proofs.Ytpgbbnmflnhlbaa
open Go.ChangeShapes Go.WideShapes Go.ChangeAt Go.RowKit

/-- Numbers that a call has made. -/
def OwnI (w : World) (B : Nat) (v : Value) (ys : List Int) : Prop := w.ownsRow B 3 1 v ys.length (ints ys)
theorem OwnI.alloc {w : World} {B : Nat} {v : Value} {ys : List Int} (h : OwnI w B v ys) (O : Obj) : OwnI (w.alloc O) B v ys := World.ownsRow.alloc h O
theorem OwnI.row {w : World} {B : Nat} {v : Value} {ys : List Int} (h : OwnI w B v ys) : Row w v (ints ys) := own_row h
theorem OwnI.below {w w' : World} {B : Nat} {v : Value} {ys : List Int} (h : OwnI w B v ys) (hb : Below w.heap.size w w') : OwnI w' B v ys := own_below h hb
theorem ownI_nil (w : World) (B : Nat) : OwnI w B (.slice none 0 0) [] := World.ownsRow_nil _ _ _ _
/-- Two of them: what grows at one leaves the other. -/
theorem OwnI.kept {w w' : World} {B : Nat} {v : Value} {ys : List Int} {row : Option Nat} (h : OwnI w B v ys) (hg : w.grownBy w' row) (hne : v.ownBlock = none ∨ v.ownBlock ≠ row) : OwnI w' B v ys := World.ownsRow.kept h hg hne
/-- Numbers put behind numbers that a call has made. -/
theorem app_ints {w : World} {ops : Array Oper} {rest : List Oper} {o : Oper} {a : Act} {Q : Exit → Act → World → Prop} (hgd : o.guard = none) (s x : Operand)
    (ho : o.op = .call { callee := .builtin .append, args := #[s, x], argTypes := #[32, 32] }) (B : Nat) (v : Value) (ys : List Int) (hs : a.eval s = v) (hown : OwnI w B v ys)
    (u : Value) (xs : List Int) (hx : a.eval x = u) (hr : Row w u (ints xs)) (hlen : ys.length + xs.length ≤ 10000000) (hB : B ≤ w.heap.size)
    (h : ∀ v' w', OwnI w' B v' (ys ++ xs) → w.grownBy w' v.ownBlock → (v'.ownBlock = v.ownBlock ∨ v'.ownBlock = some w.heap.size) → wpList Try.prog ops Q rest (a.put o.dst v') w') : wpList Try.prog ops Q (o :: rest) a w := by
  obtain ⟨i0, hi, hz0, hz1, hz2⟩ := info_parts infoInt
  obtain ⟨hm, ad, cap, rfl, hc, ⟨hc2, hn⟩, hcell⟩ := hr
  rw [ints_len] at *
  cases ad with
  | none =>
    have hc0 : cap = 0 := hn rfl
    subst hc0
    have hxs : xs = [] := List.eq_nil_of_length_eq_zero (by omega)
    subst hxs
    refine wpList_append_own_none hgd s x 32 ho B 3 i0 1 Try.underlying32 hi v ys.length (ints ys) hs hown hx (h v w ?_ ⟨rfl, rfl, rfl, Nat.le_refl _, fun _ _ _ => rfl⟩ (.inl rfl))
    rw [List.append_nil]; exact hown
  | some ad =>
    refine wpList_append_own_at w hgd s x 32 ho B 3 i0 _ 1 8 Try.underlying32 hi hz0 hz1 hz2 rfl (by decide) v ys.length (ints ys) hs hown ad xs.length cap (ints xs) hx (by rw [ints_len]; omega) ?_ ?_ (by unfold maxLen; omega) (by omega) hB ?_
    · intro j w0 hj
      rcases hcell with h0 | ⟨b, off, he, hcc⟩
      · rw [h0] at hj; simp at hj
      · simp at he
        subst he
        have hjl : j < xs.length := by
          rcases Nat.lt_or_ge j xs.length with h | h
          · exact h
          · rw [List.getElem?_eq_none (by rw [ints_len]; exact h)] at hj; simp at hj
        rw [add_off, hcc j hjl, hj]
    · intro u hu
      simp only [ints, List.mem_map] at hu
      obtain ⟨n, _, rfl⟩ := hu
      rfl
    · intro v' w' h1 h2 _ h4
      refine h v' w' ?_ h2 h4
      unfold OwnI
      rw [List.length_append, show ints (ys ++ xs) = ints ys ++ ints xs by simp [ints]]
      exact h1
theorem row_newi (w : World) (c : Int) : Row (w.alloc (.cells #[.int .i64 c] 3)) (.slice (some ⟨w.heap.size, 0, none⟩) 1 1) (ints [c]) := by
  refine ⟨by simp [ints, maxLen], _, _, rfl, by simp [ints], ⟨by simp [maxLen], by simp⟩, .inr ⟨_, _, rfl, fun i hi => ?_⟩⟩
  have : i = 0 := by simp [ints] at hi; omega
  subst this
  rw [cell_of_row _ _ _ _ _ _ (heap_alloc_new w _)]
  rfl

/-- One line put behind lines. -/
theorem app_line {w : World} {ops : Array Oper} {rest : List Oper} {o : Oper} {a : Act} {Q : Exit → Act → World → Prop} (hgd : o.guard = none) (s x : Operand)
    (ho : o.op = .call { callee := .builtin .append, args := #[s, x], argTypes := #[29, 29] }) (B : Nat) (v : Value) (A : List (List Int)) (hs : a.eval s = v) (W : World) (lv : Value) (hW : w = W.alloc (.cells #[lv] 32)) (hown : OwnLL W B v A)
    (l : List Int) (hx : a.eval x = .slice (some ⟨W.heap.size, 0, none⟩) 1 1) (hl : OwnI W B lv l) (hlen : A.length ≤ 1000000) (hB : B ≤ W.heap.size)
    (h : ∀ v' w', OwnLL w' B v' (A ++ [l]) → W.grownBy w' v.ownBlock → wpList Try.prog ops Q rest (a.put o.dst v') w') : wpList Try.prog ops Q (o :: rest) a w := by
  subst hW
  obtain ⟨i0, hi, hz0, hz1, hz2⟩ := info_parts infoInts
  obtain ⟨vs, h1, h2⟩ := hown
  have hvl := h2.in.len
  have one : lv.oneCell' = true := by
    obtain ⟨a', cap', rfl⟩ := own_shape (show W.ownsRow B 3 1 lv l.length (ints l) from hl)
    rfl
  refine wpList_append_own_at _ hgd s x 29 ho B 32 i0 _ 1 24 Try.underlying29 hi hz0 hz1 hz2 rfl (by decide) v vs.length vs hs (h1.alloc _) ⟨W.heap.size, 0, none⟩ 1 1 [lv] hx rfl (cell_one_new _ _ _) (by simpa using one) (by unfold maxLen; omega) (by omega) (by simp; omega) ?_
  intro v' w' q1 q2 _ _
  have hg := grown_alloc q2
  refine h v' w' ⟨vs ++ [lv], by rw [List.length_append]; exact q1, ?_⟩ hg
  have hall : OwnIn W B (vs ++ [lv]) (A ++ [l]) := h2.append ⟨hl, trivial⟩
  refine hall.kept hg (fun z hz => ?_)
  rcases h1.2 with ⟨rfl, _⟩ | ⟨g, cap, cur, rfl, _, hgg, _⟩
  · cases z.ownBlock <;> simp [Value.ownBlock]
  · exact .inr (hall.ne hgg (by decide) z hz)
/-- Numbers and a text beside each other. -/
theorem OwnI.text {w w' : World} {B C : Nat} {v u : Value} {xs ys : List Int} (h : OwnI w B v xs) (k : OwnB w C u ys) (hg : w.grownBy w' u.ownBlock) : OwnI w' B v xs := h.kept hg (own_diff (show w.ownsRow B 3 1 v xs.length (ints xs) from h) (show w.ownsRow C 5 1 u ys.length (byts ys) from k) (by decide))
theorem madei {w0 w w' : World} {v : Value} {xs : List Int} {O : Obj} (h : Below w0.heap.size w0 w) (ho : OwnI w w0.heap.size v xs) (hg : (w.alloc O).grownBy w' v.ownBlock) : Below w0.heap.size w0 w' :=
  h.trans (grown_below (grown_alloc hg) h.size (fun k hk => (World.ownsRow.lt ho k hk).1))
theorem OwnI.shape {w : World} {B : Nat} {v : Value} {xs : List Int} (h : OwnI w B v xs) : ∃ a cap, v = .slice a xs.length cap := own_shape (show w.ownsRow B 3 1 v xs.length (ints xs) from h)
theorem OwnB.shape {w : World} {B : Nat} {v : Value} {xs : List Int} (h : OwnB w B v xs) : ∃ a cap, v = .slice a xs.length cap := own_shape (show w.ownsRow B 5 1 v xs.length (byts xs) from h)

theorem OwnI.less {w : World} {B B' : Nat} {v : Value} {xs : List Int} (h : OwnI w B v xs) (hB : B' ≤ B) : OwnI w B' v xs := own_less (show w.ownsRow B 3 1 v xs.length (ints xs) from h) hB
theorem run_end {o x b : List Int} {k : Nat} (h : k = b.length) : lineRun o x (b.drop k) = flush o x := by rw [drop_end _ _ h]; rfl
theorem run_hash {o x b : List Int} {k : Nat} (h : k < b.length) (hc : b.getD k 0 = 35) : lineRun o x (b.drop k) = flush o x := by rw [drop_at _ _ h _ hc]; simp [lineRun]
theorem run_space {o x b : List Int} {k : Nat} (h : k < b.length) (hc : b.getD k 0 = 32) : lineRun o x (b.drop k) = (flush o x).bind (fun o => lineRun o [] (b.drop (k + 1))) := by rw [drop_at _ _ h _ hc]; simp [lineRun]
theorem run_on {o x b : List Int} {k : Nat} {c : Int} (h : k < b.length) (hc : b.getD k 0 = c) (h1 : c ≠ 35) (h2 : c ≠ 32) : lineRun o x (b.drop k) = lineRun o (x ++ [c]) (b.drop (k + 1)) := by rw [drop_at _ _ h _ hc]; simp [lineRun, h1, h2]
theorem flush_nil (o : List Int) : flush o [] = some o := rfl
theorem flush_bad {o x : List Int} (h : x ≠ []) (hw : wordS x = none) : flush o x = none := by simp [flush, h, hw]
theorem flush_num {o x : List Int} {n : Int} (h : x ≠ []) (hw : wordS x = some n) : flush o x = some (o ++ [n]) := by simp [flush, h, hw]

theorem ref_end {out : List (List Int)} {x b : List Int} {k : Nat} (h : k = b.length) : refRun out x (b.drop k) = (lineS x).map (fun l => addL out l) := by rw [drop_end _ _ h]; rfl
theorem ref_feed {out : List (List Int)} {x b : List Int} {k : Nat} (h : k < b.length) (hc : b.getD k 0 = 10) : refRun out x (b.drop k) = (lineS x).bind (fun l => refRun (addL out l) [] (b.drop (k + 1))) := by rw [drop_at _ _ h _ hc]; simp [refRun]
theorem ref_on {out : List (List Int)} {x b : List Int} {k : Nat} {c : Int} (h : k < b.length) (hc : b.getD k 0 = c) (h1 : c ≠ 10) : refRun out x (b.drop k) = refRun out (x ++ [c]) (b.drop (k + 1)) := by rw [drop_at _ _ h _ hc]; simp [refRun, h1]
theorem madeL {w0 w w' : World} {v : Value} {A : List (List Int)} (h : Below w0.heap.size w0 w) (ho : OwnLL w w0.heap.size v A) (hg : w.grownBy w' v.ownBlock) : Below w0.heap.size w0 w' :=
  h.trans (grown_below hg h.size ho.ge)

end Go.Proofs.Ytpgbbnmflnhlbaa
