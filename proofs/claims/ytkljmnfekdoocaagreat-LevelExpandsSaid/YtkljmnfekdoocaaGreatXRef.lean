/- What the document's word, line and Lines answer. -/
import Derived.Test.YtkljmnfekdoocaaGreatXSame
namespace Go.Proofs.YtkljmnfekdoocaaGreat
open Go.ChangeShapes Go.WideShapes Go.ChangeAt Go.RowKit

end Go.Proofs.YtkljmnfekdoocaaGreat
/- What the document's line and Lines answer. -/
namespace Go.Proofs.YtkljmnfekdoocaaGreat
open Go.ChangeShapes Go.WideShapes Go.ChangeAt Go.RowKit

/-- Numbers that a call has made. -/
def OwnI (w : World) (B : Nat) (v : Value) (ys : List Int) : Prop := w.ownsRow B 3 1 v ys.length (ints ys)
theorem OwnI.alloc {w : World} {B : Nat} {v : Value} {ys : List Int} (h : OwnI w B v ys) (O : Obj) : OwnI (w.alloc O) B v ys := World.ownsRow.alloc h O
theorem OwnI.row {w : World} {B : Nat} {v : Value} {ys : List Int} (h : OwnI w B v ys) : Row w v (ints ys) := own_row h
theorem OwnI.below {w w' : World} {B : Nat} {v : Value} {ys : List Int} (h : OwnI w B v ys) (hb : Below w.heap.size w w') : OwnI w' B v ys := own_below h hb
theorem ownI_nil (w : World) (B : Nat) : OwnI w B (.slice none 0 0) [] := World.ownsRow_nil _ _ _ _
/-- Two of them: what grows at one leaves the other. -/
theorem OwnI.kept {w w' : World} {B : Nat} {v : Value} {ys : List Int} {row : Option Nat} (h : OwnI w B v ys) (hg : w.grownBy w' row) (hne : v.ownBlock = none ∨ v.ownBlock ≠ row) : OwnI w' B v ys := World.ownsRow.kept h hg hne
/-- Numbers put behind numbers that a call has made. -/
theorem app_ints {w : World} {ops : Array Oper} {rest : List Oper} {o : Oper} {a : Act} {Q : Exit → Act → World → Prop} (hgd : o.guard = none) (s x : Operand)
    (ho : o.op = .call { callee := .builtin .append, args := #[s, x], argTypes := #[31, 31] }) (B : Nat) (v : Value) (ys : List Int) (hs : a.eval s = v) (hown : OwnI w B v ys)
    (u : Value) (xs : List Int) (hx : a.eval x = u) (hr : Row w u (ints xs)) (hlen : ys.length + xs.length ≤ 10000000) (hB : B ≤ w.heap.size)
    (h : ∀ v' w', OwnI w' B v' (ys ++ xs) → w.grownBy w' v.ownBlock → (v'.ownBlock = v.ownBlock ∨ v'.ownBlock = some w.heap.size) → wpList Tryz.prog ops Q rest (a.put o.dst v') w') : wpList Tryz.prog ops Q (o :: rest) a w := by
  obtain ⟨i0, hi, hz0, hz1, hz2⟩ := info_parts infoInt
  obtain ⟨hm, ad, cap, rfl, hc, ⟨hc2, hn⟩, hcell⟩ := hr
  rw [ints_len] at *
  cases ad with
  | none =>
    have hc0 : cap = 0 := hn rfl
    subst hc0
    have hxs : xs = [] := List.eq_nil_of_length_eq_zero (by omega)
    subst hxs
    refine wpList_append_own_none hgd s x 31 ho B 3 i0 1 Tryz.underlying31 hi v ys.length (ints ys) hs hown hx (h v w ?_ ⟨rfl, rfl, rfl, Nat.le_refl _, fun _ _ _ => rfl⟩ (.inl rfl))
    rw [List.append_nil]; exact hown
  | some ad =>
    refine wpList_append_own_at w hgd s x 31 ho B 3 i0 _ 1 8 Tryz.underlying31 hi hz0 hz1 hz2 rfl (by decide) v ys.length (ints ys) hs hown ad xs.length cap (ints xs) hx (by rw [ints_len]; omega) ?_ ?_ (by unfold maxLen; omega) (by omega) hB ?_
    · intro j w0 hj
      rcases hcell with h0 | ⟨b, off, he, hcc⟩
      · rw [h0] at hj; simp at hj
      · simp at he
        subst he
        have hjl : j < xs.length := by
          rcases Nat.lt_or_ge j xs.length with h | h
          · exact h
          · rw [List.getElem?_eq_none (by rw [ints_len]; exact h)] at hj; simp at hj
        rw [add_off, hcc j hjl, hj]
    · intro u hu
      simp only [ints, List.mem_map] at hu
      obtain ⟨n, _, rfl⟩ := hu
      rfl
    · intro v' w' h1 h2 _ h4
      refine h v' w' ?_ h2 h4
      unfold OwnI
      rw [List.length_append, show ints (ys ++ xs) = ints ys ++ ints xs by simp [ints]]
      exact h1
theorem row_newi (w : World) (c : Int) : Row (w.alloc (.cells #[.int .i64 c] 3)) (.slice (some ⟨w.heap.size, 0, none⟩) 1 1) (ints [c]) := by
  refine ⟨by simp [ints, maxLen], _, _, rfl, by simp [ints], ⟨by simp [maxLen], by simp⟩, .inr ⟨_, _, rfl, fun i hi => ?_⟩⟩
  have : i = 0 := by simp [ints] at hi; omega
  subst this
  rw [cell_of_row _ _ _ _ _ _ (heap_alloc_new w _)]
  rfl

/-- One line put behind lines. -/
theorem app_line {w : World} {ops : Array Oper} {rest : List Oper} {o : Oper} {a : Act} {Q : Exit → Act → World → Prop} (hgd : o.guard = none) (s x : Operand)
    (ho : o.op = .call { callee := .builtin .append, args := #[s, x], argTypes := #[67, 67] }) (B : Nat) (v : Value) (A : List (List Int)) (hs : a.eval s = v) (W : World) (lv : Value) (hW : w = W.alloc (.cells #[lv] 31)) (hown : OwnLL W B v A)
    (l : List Int) (hx : a.eval x = .slice (some ⟨W.heap.size, 0, none⟩) 1 1) (hl : OwnI W B lv l) (hlen : A.length ≤ 1000000) (hB : B ≤ W.heap.size)
    (h : ∀ v' w', OwnLL w' B v' (A ++ [l]) → W.grownBy w' v.ownBlock → wpList Tryz.prog ops Q rest (a.put o.dst v') w') : wpList Tryz.prog ops Q (o :: rest) a w := by
  subst hW
  obtain ⟨i0, hi, hz0, hz1, hz2⟩ := info_parts infoInts
  obtain ⟨vs, h1, h2⟩ := hown
  have hvl := h2.in.len
  have one : lv.oneCell' = true := by
    obtain ⟨a', cap', rfl⟩ := own_shape (show W.ownsRow B 3 1 lv l.length (ints l) from hl)
    rfl
  refine wpList_append_own_at _ hgd s x 67 ho B 31 i0 _ 1 24 Tryz.underlying67 hi hz0 hz1 hz2 rfl (by decide) v vs.length vs hs (h1.alloc _) ⟨W.heap.size, 0, none⟩ 1 1 [lv] hx rfl (cell_one_new _ _ _) (by simpa using one) (by unfold maxLen; omega) (by omega) (by simp; omega) ?_
  intro v' w' q1 q2 _ _
  have hg := grown_alloc q2
  refine h v' w' ⟨vs ++ [lv], by rw [List.length_append]; exact q1, ?_⟩ hg
  have hall : OwnIn W B (vs ++ [lv]) (A ++ [l]) := h2.append ⟨hl, trivial⟩
  refine hall.kept hg (fun z hz => ?_)
  rcases h1.2 with ⟨rfl, _⟩ | ⟨g, cap, cur, rfl, _, hgg, _⟩
  · cases z.ownBlock <;> simp [Value.ownBlock]
  · exact .inr (hall.ne hgg (by decide) z hz)
theorem OwnI.shape {w : World} {B : Nat} {v : Value} {xs : List Int} (h : OwnI w B v xs) : ∃ a cap, v = .slice a xs.length cap := own_shape (show w.ownsRow B 3 1 v xs.length (ints xs) from h)
theorem OwnB.shape {w : World} {B : Nat} {v : Value} {xs : List Int} (h : OwnB w B v xs) : ∃ a cap, v = .slice a xs.length cap := own_shape (show w.ownsRow B 5 1 v xs.length (byts xs) from h)

theorem OwnI.less {w : World} {B B' : Nat} {v : Value} {xs : List Int} (h : OwnI w B v xs) (hB : B' ≤ B) : OwnI w B' v xs := own_less (show w.ownsRow B 3 1 v xs.length (ints xs) from h) hB
end Go.Proofs.YtkljmnfekdoocaaGreat
