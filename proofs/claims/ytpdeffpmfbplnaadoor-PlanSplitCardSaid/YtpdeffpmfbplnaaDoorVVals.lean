/- Routes of a plan that come into another one as they are. -/
import Derived.Test.YtpdeffpmfbplnaaDoorXVC
import Derived.Deep.AppendLies
namespace Go.Proofs.YtpdeffpmfbplnaaDoor
open Go.ChangeShapes Go.WideShapes Go.ChangeAt Go.RowKit

def OwnV (w : World) (B : Nat) (v : Value) (vs : List Value) : Prop := w.ownsRow B 42 1 v vs.length vs
theorem ownV_nil (w : World) (B : Nat) : OwnV w B (.slice none 0 0) [] := World.ownsRow_nil _ _ _ _
theorem OwnV.ge {w : World} {B : Nat} {v : Value} {vs : List Value} (h : OwnV w B v vs) : ∀ g, v.ownBlock = some g → B ≤ g := fun g hg => (World.ownsRow.lt h g hg).1
theorem OwnV.below {w w' : World} {B : Nat} {v : Value} {vs : List Value} (h : OwnV w B v vs) (hb : Below w.heap.size w w') : OwnV w' B v vs := own_below h hb
theorem OwnV.lines {w : World} {B : Nat} {v : Value} {vs : List Value} {L : List (List Int)} (h : OwnV w B v vs) (hi : In w vs L) : IsLL w v L := ⟨vs, own_row h, hi⟩
theorem OwnV.set {w : World} {B : Nat} {v : Value} {vs : List Value} (h : OwnV w B v vs) (N : Nat) (hN : N < B) (x : Value) : OwnV (w.setCell ⟨N, 0, none⟩ x) B v vs := by
  refine World.ownsRow.kept (row := some N) h ⟨rfl, rfl, rfl, by simp [World.setCell], fun k _ hk => heap_setCell_other w ⟨N, 0, none⟩ k _ (fun e => hk (by rw [e]))⟩ ?_
  cases hb : v.ownBlock with
  | none => exact .inl rfl
  | some g => exact .inr (fun e => by have := h.ge g hb; simp at e; omega)
/-- One value put behind values, at a step of a drawn region. -/
theorem wp_app_val {w : World} {o : Oper} {a : Act} {K : Act → World → Prop} {Q : Exit → Act → World → Prop} (s x : Operand)
    (ho : o.op = .call { callee := .builtin .append, args := #[s, x], argTypes := #[25, 25] }) (B : Nat) (v : Value) (vs : List Value) (hs : a.eval s = v) (hown : OwnV w B v vs)
    (g : Nat) (u : Value) (hx : a.eval x = .slice (some ⟨g, 0, none⟩) 1 1) (hg : w.cell? ⟨g, 0, none⟩ = some u) (one : u.oneCell' = true) (hlen : vs.length ≤ 1000000) (hB : B ≤ w.heap.size)
    (h : ∀ gg cap w', OwnV w' B (.slice (some ⟨gg, 0, none⟩) (vs.length + 1) cap) (vs ++ [u]) → w.grownBy w' v.ownBlock → K (a.put o.dst (.slice (some ⟨gg, 0, none⟩) (vs.length + 1) cap)) w') : o.wp Tryd.prog a w K Q := by
  obtain ⟨i0, hi, hz0, hz1, hz2⟩ := info_parts infoInts
  refine wp_append_lies w s x 25 ho B 42 i0 _ 1 24 Tryd.underlying25 hi hz0 hz1 hz2 rfl (by decide) v vs.length vs hs hown ⟨g, 0, none⟩ 1 1 [u] hx rfl ?_ (by simpa using one) (by decide) (by unfold maxLen; omega) (by omega) hB _ rfl ?_
  · intro j y hj
    match j with
    | 0 => simp at hj; subst hj; rw [add_off]; exact hg
    | j + 1 => simp at hj
  · intro g' cap w' h1 h2 _ _
    refine h _ _ w' ?_ h2
    unfold OwnV
    rw [List.length_append]; exact h1
theorem In.snoc {w : World} {vs : List Value} {L : List (List Int)} {u : Value} {l : List Int} (h : In w vs L) (hu : Row w u (ints l)) : In w (vs ++ [u]) (L ++ [l]) := h.append ⟨hu, trivial⟩
theorem rev_take {L : List (List Int)} {k : Nat} (hk : k < L.length) : L.reverse.take (k + 1) = L.reverse.take k ++ [L.getD (L.length - 1 - k) []] := by
  rw [take_getD (by rw [List.length_reverse]; exact hk)]
  congr 2
  rw [List.getD_eq_getElem?_getD, List.getD_eq_getElem?_getD, List.getElem?_reverse hk]
/-- No two begin alike: then their order does not matter. -/
theorem ord_rev {L : List (List Int)} (h : ∀ i, i < L.length → ∀ j, j < i → L.getD i [] ≠ [] → L.getD j [] ≠ [] → key (L.getD i []) ≠ key (L.getD j [])) : ordL L.reverse = ordL L := by
  have hu : usedL L.reverse = (usedL L).reverse := by unfold usedL; rw [List.filter_reverse]
  unfold ordL
  rw [hu]
  symm
  refine sortL_perm (List.reverse_perm _).symm ?_
  have hp : L.Pairwise (fun a b => a ≠ [] → b ≠ [] → key a ≠ key b) := by
    rw [List.pairwise_iff_getElem]
    intro i j hi hj hij ha hb
    have := h j hj i hij (by rw [List.getD_eq_getElem?_getD, List.getElem?_eq_getElem hj]; exact hb) (by rw [List.getD_eq_getElem?_getD, List.getElem?_eq_getElem hi]; exact ha)
    rw [List.getD_eq_getElem?_getD, List.getElem?_eq_getElem hj, List.getD_eq_getElem?_getD, List.getElem?_eq_getElem hi] at this
    exact fun e => this e.symm
  have hq : (usedL L).Pairwise (fun a b => a ≠ [] → b ≠ [] → key a ≠ key b) := hp.filter _
  refine List.Pairwise.imp_of_mem ?_ hq
  intro a b ha hb hab
  exact hab (usedL_full L a ha) (usedL_full L b hb)
theorem cost_rev {I : Ins} {L : List (List Int)} : (costE I L.reverse = 0 ↔ costE I L = 0) ∧ costN I L.reverse = costN I L := by
  have h1 : costE I L = 0 → costE I L.reverse = 0 ∧ costN I L.reverse = costN I L := cost_perm (List.reverse_perm L).symm
  have h2 : costE I L.reverse = 0 → costE I L = 0 ∧ costN I L = costN I L.reverse := cost_perm (List.reverse_perm L)
  refine ⟨⟨fun h => (h2 h).1, fun h => (h1 h).1⟩, ?_⟩
  by_cases hc : costE I L = 0
  · exact (h1 hc).2
  · rw [cost_none hc, cost_none (fun h => hc (h2 h).1)]
theorem few_rev {L : List (List Int)} (h : FewP L) : FewP L.reverse := ⟨by simpa using h.1, fun l hl => h.2 l (List.mem_reverse.1 hl)⟩
theorem fits_rev {L : List (List Int)} (h : Fits L) : Fits L.reverse := fun l hl => h l (List.mem_reverse.1 hl)
end Go.Proofs.YtpdeffpmfbplnaaDoor
