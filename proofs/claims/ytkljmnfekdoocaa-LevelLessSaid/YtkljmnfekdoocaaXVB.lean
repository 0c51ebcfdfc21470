/- The routes that have stops, in order. -/
import Derived.Test.YtkljmnfekdoocaaXVA
import Derived.Test.YtkljmnfekdoocaaXRef
import Derived.Test.YtkljmnfekdoocaaXPrint
import Derived.Lib.SliceRun
import Derived.Deep.CutRange
import Derived.Test.YtkljmnfekdoocaaXIOwn
namespace Go.Proofs.Ytkljmnfekdoocaa
open Go.ChangeShapes Go.WideShapes Go.ChangeAt Go.RowKit

/-- A plan by value. -/
def planV (v : Value) : Value := .agg #[v]
/-- The routes that have stops. -/
def usedL (L : List (List Int)) : List (List Int) := L.filter (fun l => !l.isEmpty)
def ordL (L : List (List Int)) : List (List Int) := sortL (usedL L)
theorem usedL_full (L : List (List Int)) : Full (usedL L) := by
  intro l hl
  have := (List.mem_filter.1 hl).2
  cases l with
  | nil => simp at this
  | cons x l => simp
theorem usedL_len (L : List (List Int)) : (usedL L).length ≤ L.length := List.length_filter_le _ _
theorem ordL_len (L : List (List Int)) : (ordL L).length ≤ L.length := by unfold ordL; rw [sortL_len]; exact usedL_len L
theorem ordL_mem (L : List (List Int)) (l : List Int) : l ∈ ordL L ↔ l ∈ L ∧ l ≠ [] := by
  unfold ordL usedL
  rw [sortL_mem, List.mem_filter]
  cases l <;> simp
theorem usedL_snoc (L : List (List Int)) (l : List Int) : usedL (L ++ [l]) = if l = [] then usedL L else usedL L ++ [l] := by
  unfold usedL
  rw [List.filter_append]
  cases l <;> simp
set_option maxRecDepth 1000000 in
set_option maxHeartbeats 1000000 in
theorem clone_any {w : World} {u : Value} {l : List Int} (h : Row w u (ints l)) (hl : l ≠ []) (hlen : l.length ≤ 1000000) :
    Calls Try.prog 45 #[u] w fun e w' => ∃ v, e = .returned v ∧ OwnI w' w.heap.size v l ∧ Below w.heap.size w w' := by
  have H := Lib.hid h
  obtain ⟨tb, off, cap, rfl, _⟩ := row_at (p := 0) h (by rw [ints_len]; exact List.length_pos_iff.2 hl)
  rw [ints_len] at *
  clear h
  have hnil : ∀ (W : World) (a : Option Addr) (n c : Nat), (binOp .eql 25 (.slice a n c) (.slice none 0 0)).run Try.prog W = .ok (.bool a.isNone) W := fun W a n c => Lib.run_eql_slice_nil W _ _ a n c 0 0 Try.underlying25
  go_enter Try.func45, Try.ntmps45
  go_wp2_with (first | (at_builtin; refine app_ints rfl _ _ rfl w.heap.size _ [] rfl (World.ownsRow_made w #[] 0 (Nat.le_refl _) (Nat.zero_le _) (by simp)) _ l rfl (H.out.below ((Below.refl _ _).alloc (Nat.le_refl _) _)) (by simpa using (by omega : l.length ≤ 10000000)) (by simp) ?_))
  intro v' w' own grown _
  have HO := Lib.hid own
  have HB := Lib.hid (((Below.refl _ w).alloc (Nat.le_refl _) (.cells #[] 3)).grown grown (by simp) (by intro k hk; simp [Value.ownBlock] at hk; omega))
  clear own grown
  go_wp2
  go_ret
  exact ⟨_, rfl, by simpa using HO.out, HB.out⟩
theorem take_getD {L : List (List Int)} {k : Nat} (hk : k < L.length) : L.take (k + 1) = L.take k ++ [L.getD k []] := by
  rw [List.take_add_one, List.getD_eq_getElem?_getD, List.getElem?_eq_getElem hk]; rfl
end Go.Proofs.Ytkljmnfekdoocaa
/- What Sorted and Print answer. -/
namespace Go.Proofs.Ytkljmnfekdoocaa
open Go.ChangeShapes Go.WideShapes Go.ChangeAt Go.RowKit

/-- At most forty routes, of at most a hundred stops each. -/
def FewP (L : List (List Int)) : Prop := L.length ≤ 40 ∧ ∀ l ∈ L, l.length ≤ 100
instance (L : List (List Int)) : Decidable (FewP L) := by unfold FewP; infer_instance
theorem FewP.rows {L : List (List Int)} (h : FewP L) : ∀ l ∈ L, l.length ≤ 1000000 := fun l hl => by have := h.2 l hl; omega
theorem cnt_few : ∀ (L : List (List Int)), (∀ l ∈ L, l.length ≤ 100) → cnt L ≤ 100 * L.length
  | [], _ => by simp [cnt]
  | l :: L, h => by
    have := cnt_few L (fun x hx => h x (by simp [hx]))
    have := h l (by simp)
    simp [cnt]; omega
theorem fits_ord {L : List (List Int)} (hf : Fits L) : Fits (ordL L) := fun l hl => hf l ((ordL_mem L l).1 hl).1
theorem few_ord {L : List (List Int)} (h : FewP L) : FewP (ordL L) := ⟨Nat.le_trans (ordL_len L) h.1, fun l hl => h.2 l ((ordL_mem L l).1 hl).1⟩
theorem few_text {L : List (List Int)} (h : FewP L) (hf : Fits L) : (textOf L).length ≤ 5000000 := by
  have h1 := textOf_len L (fun l hl n hn => by have := hf l hl n hn; omega)
  have h2 := cnt_few L h.2
  have := h.1
  omega
theorem planV_fits {w : World} {v : Value} {L : List (List Int)} (h : IsLL w v L) (i : Nat) (hi : i < L.length) : (L.getD i []).length ≤ maxLen := by
  obtain ⟨a, cap, rfl, _⟩ := h.form
  obtain ⟨_, _, _, _, _, _, _, _, rfl, hm, _⟩ := ll_at h i hi
  exact hm
theorem fewp_step {L : List (List Int)} {k : Nat} (hk : k < L.length) (h : ∀ l ∈ L.take k, l.length ≤ 100) (hc : (L.getD k []).length ≤ 100) : ∀ l ∈ L.take (k + 1), l.length ≤ 100 := by
  intro l hl
  rw [take_getD hk] at hl
  simp only [List.mem_append, List.mem_singleton] at hl
  rcases hl with hl | rfl
  · exact h l hl
  · exact hc
end Go.Proofs.Ytkljmnfekdoocaa
/- How plans come in. -/
namespace Go.Proofs.Ytkljmnfekdoocaa
open Go.ChangeShapes Go.WideShapes Go.ChangeAt Go.RowKit

theorem cells_lines : Try.prog.cellsOf 74 = 1 := by kernel_rfl
section
variable {H : Type} {enc : TypeId × Value → H} {w : World} {base : Nat} {spare : Nat → Bool} {held : Bool}
end
end Go.Proofs.Ytkljmnfekdoocaa
/- A plan in its own block; orders of plans. -/
namespace Go.Proofs.Ytkljmnfekdoocaa
open Go.ChangeShapes Go.WideShapes Go.ChangeAt Go.RowKit

section
variable {w w' : World} {N : Nat} {v : Value}
end
theorem ord_full (L : List (List Int)) : Full (ordL L) := fun l hl => ((ordL_mem L l).1 hl).2
theorem used_self {L : List (List Int)} (h : Full L) : usedL L = L := by
  unfold usedL
  rw [List.filter_eq_self]
  intro l hl
  have := h l hl
  cases l with
  | nil => exact absurd rfl this
  | cons x l => rfl
/-- Sorted once more it is the same. -/
theorem ord_idem (L : List (List Int)) : ordL (ordL L) = ordL L := by
  rw [show ordL (ordL L) = sortL (usedL (ordL L)) from rfl, used_self (ord_full L)]
  exact sortL_self (stab_sortL _).1
theorem ord_perm {L : List (List Int)} (h : Full L) : (ordL L).Perm L := by
  have := (stab_sortL (usedL L)).perm
  rw [used_self h] at this
  rw [show ordL L = sortL (usedL L) from rfl, used_self h]
  exact this
theorem getD_mem' {l : List Int} {i : Nat} (h : i < l.length) : l.getD i 0 ∈ l := by
  rw [List.getD_eq_getElem?_getD, List.getElem?_eq_getElem h]; exact List.getElem_mem h
theorem all_at {l : List Int} {p : Int → Prop} (h : ∀ i, i < l.length → p (l.getD i 0)) : ∀ n ∈ l, p n := by
  intro n hn
  obtain ⟨i, hi, rfl⟩ := List.getElem_of_mem hn
  have := h i hi
  rw [List.getD_eq_getElem?_getD, List.getElem?_eq_getElem hi] at this
  exact this
theorem all_atL {L : List (List Int)} {p : List Int → Prop} (h : ∀ i, i < L.length → p (L.getD i [])) : ∀ l ∈ L, p l := by
  intro n hn
  obtain ⟨i, hi, rfl⟩ := List.getElem_of_mem hn
  have := h i hi
  rw [List.getD_eq_getElem?_getD, List.getElem?_eq_getElem hi] at this
  exact this
end Go.Proofs.Ytkljmnfekdoocaa
