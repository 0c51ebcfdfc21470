/- What the document's Sorted answers. -/
import Derived.Test.YtipjaibemhoifaaVBox0
import Derived.Test.YtipjaibemhoifaaXPMat
import Derived.Deep.CutBlock
namespace Go.Proofs.Ytipjaibemhoifaa
open Go.ChangeShapes Go.WideShapes Go.ChangeAt Go.RowKit

/-- A part of lines that a call has made, put behind lines that it has made. -/
theorem app_part {w : World} {ops : Array Oper} {rest : List Oper} {o : Oper} {a : Act} {Q : Exit → Act → World → Prop} (hgd : o.guard = none) (s x : Operand)
    (ho : o.op = .call { callee := .builtin .append, args := #[s, x], argTypes := #[42, 42] }) (B : Nat) (v : Value) (A : List (List Int)) (hs : a.eval s = v) (hown : OwnLL w B v A)
    (u : Value) (C : List (List Int)) (hx : a.eval x = u) (hr : ∃ us, Row w u us ∧ OwnIn w B us C) (hlen : A.length + C.length ≤ 1000000) (hB : B ≤ w.heap.size)
    (h : ∀ v' w', OwnLL w' B v' (A ++ C) → w.grownBy w' v.ownBlock → (v'.ownBlock = v.ownBlock ∨ v'.ownBlock = some w.heap.size) → wpList Try.prog ops Q rest (a.put o.dst v') w') : wpList Try.prog ops Q (o :: rest) a w := by
  obtain ⟨i0, hi, hz0, hz1, hz2⟩ := info_parts infoInts
  obtain ⟨vs, h1, h2⟩ := hown
  obtain ⟨us, k1, k2⟩ := hr
  have hvl := h2.in.len
  have hul := k2.in.len
  have post : ∀ w', w.grownBy w' v.ownBlock → OwnIn w' B (vs ++ us) (A ++ C) := by
    intro w' hg
    have hall := h2.append k2
    refine hall.kept hg (fun z hz => ?_)
    rcases h1.2 with ⟨rfl, _⟩ | ⟨g, cap, cur, rfl, _, hgg, _⟩
    · cases z.ownBlock <;> simp [Value.ownBlock]
    · exact .inr (hall.ne hgg (by decide) z hz)
  obtain ⟨hm, ad, cap, rfl, hc, ⟨hc2, hn⟩, hcell⟩ := k1
  cases ad with
  | none =>
    have hc0 : cap = 0 := hn rfl
    have hus : us = [] := List.eq_nil_of_length_eq_zero (by omega)
    subst hus hc0
    refine wpList_append_own_none hgd s x 42 ho B 34 i0 1 Try.underlying42 hi v vs.length vs hs h1 hx (h v w ⟨vs ++ [], by simpa using h1, post w ⟨rfl, rfl, rfl, Nat.le_refl _, fun _ _ _ => rfl⟩⟩ ⟨rfl, rfl, rfl, Nat.le_refl _, fun _ _ _ => rfl⟩ (.inl rfl))
  | some ad =>
    refine wpList_append_own_at w hgd s x 42 ho B 34 i0 _ 1 24 Try.underlying42 hi hz0 hz1 hz2 rfl (by decide) v vs.length vs hs h1 ad us.length cap us hx (by omega) ?_ k2.one (by unfold maxLen; omega) (by omega) hB ?_
    · intro j w0 hj
      have hjl : j < us.length := by
        rcases Nat.lt_or_ge j us.length with h | h
        · exact h
        · rw [List.getElem?_eq_none h] at hj; simp at hj
      rcases hcell with rfl | ⟨b, off, he, hcc⟩
      · simp at hjl
      · simp at he
        subst he
        rw [add_off, hcc j hjl, hj]
    · intro v' w' q1 q2 _ q4
      refine h v' w' ⟨vs ++ us, ?_, post w' q2⟩ q2 q4
      rw [List.length_append]; exact q1
theorem OwnIn.take {w : World} {B : Nat} : ∀ {vs : List Value} {L : List (List Int)} (k : Nat), OwnIn w B vs L → OwnIn w B (vs.take k) (L.take k)
  | [], [], _, _ => by simp [OwnIn]
  | _ :: _, _ :: _, 0, _ => trivial
  | _ :: _, _ :: _, k + 1, h => ⟨h.1, OwnIn.take k h.2⟩
  | [], _ :: _, _, h => h.elim
  | _ :: _, [], _, h => h.elim
theorem OwnIn.drop {w : World} {B : Nat} : ∀ {vs : List Value} {L : List (List Int)} (k : Nat), OwnIn w B vs L → OwnIn w B (vs.drop k) (L.drop k)
  | [], [], _, _ => by simp [OwnIn]
  | _ :: _, _ :: _, 0, h => h
  | _ :: _, _ :: _, k + 1, h => OwnIn.drop k h.2
  | [], _ :: _, _, h => h.elim
  | _ :: _, [], _, h => h.elim
theorem OwnIn.below {w w' : World} {B : Nat} (hb : Below w.heap.size w w') : ∀ {vs : List Value} {L : List (List Int)}, OwnIn w B vs L → OwnIn w' B vs L
  | [], [], _ => trivial
  | _ :: _, _ :: _, h => ⟨own_below h.1 hb, OwnIn.below hb h.2⟩
  | [], _ :: _, h => h.elim
  | _ :: _, [], h => h.elim
/-- The first and the last part of lines that a call has made. -/
theorem OwnLL.parts {w : World} {B g n cap : Nat} {L : List (List Int)} (h : OwnLL w B (.slice (some ⟨g, 0, none⟩) n cap) L) (k : Nat) (hk : k ≤ n) :
    (∃ us, Row w (.slice (some ⟨g, 0, none⟩) k cap) us ∧ OwnIn w B us (L.take k)) ∧ ∀ a, a = (if cap = k then some (⟨g, 0, none⟩ : Addr) else some ⟨g, 0 + k, none⟩) → ∃ us, Row w (.slice a (n - k) (cap - k)) us ∧ OwnIn w B us (L.drop k) := by
  have hn := h.num
  obtain ⟨vs, h1, h2⟩ := h
  have hv : n = vs.length := by rw [hn, h2.in.len]
  have hr := own_row h1
  constructor
  · refine ⟨vs.take k, ?_, h2.take k⟩
    have := Row.part hr 0 k (Nat.zero_le _) (by omega) (some ⟨g, 0, none⟩) (by split <;> rfl)
    rw [List.drop_zero, Nat.sub_zero] at this
    exact this
  · intro a ha
    refine ⟨vs.drop k, ?_, h2.drop k⟩
    have := Row.part hr k n hk (by omega) a ha
    rw [List.take_of_length_le (by rw [List.length_drop]; omega)] at this
    exact this
/-- One more row goes behind all that is not above it. -/
theorem ord_next {X : List (List Int)} {r : List Int} {k : Nat} (hk : k ≤ (sortL X).length) (h1 : k = 0 ∨ key ((sortL X).getD (k - 1) []) ≤ key r) (h2 : ∀ i, k ≤ i → i < (sortL X).length → key r < key ((sortL X).getD i [])) :
    sortL (X ++ [r]) = (sortL X).take k ++ r :: (sortL X).drop k := by
  have hs := (stab_sortL X)
  refine sortL_eq (stab_snoc (by rw [List.take_append_drop]; exact hs) (upto_at hs.1 hk h1) (fun y hy => ?_))
  obtain ⟨i, hi, rfl⟩ := List.getElem_of_mem hy
  have hi2 : k + i < (sortL X).length := by rw [List.length_drop] at hi; omega
  have := h2 (k + i) (by omega) hi2
  rw [List.getD_eq_getElem?_getD, List.getElem?_eq_getElem hi2] at this
  rw [List.getElem_drop]
  exact this
end Go.Proofs.Ytipjaibemhoifaa
