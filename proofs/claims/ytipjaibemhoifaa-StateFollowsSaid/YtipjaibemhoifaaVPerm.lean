/- Plans in another order. -/
import Derived.Test.YtipjaibemhoifaaVBox0
import Derived.Test.YtipjaibemhoifaaVCMath
namespace Go.Proofs.Ytipjaibemhoifaa
open Go.ChangeShapes Go.WideShapes Go.ChangeAt Go.RowKit

theorem farS_perm {I : Ins} {L M : List (List Int)} (h : L.Perm M) : farS I L = farS I M := by
  induction h with
  | nil => rfl
  | cons x _ ih => simp only [farS, ih]
  | swap x y l => simp only [farS]; omega
  | trans _ _ ih1 ih2 => exact ih1.trans ih2
theorem flatten_perm {L M : List (List Int)} (h : L.Perm M) : L.flatten.Perm M.flatten := by
  induction h with
  | nil => exact List.Perm.refl _
  | cons x _ ih => simp only [List.flatten_cons]; exact List.Perm.append_left _ ih
  | swap x y l =>
    simp only [List.flatten_cons, ← List.append_assoc]
    exact List.Perm.append_right _ List.perm_append_comm
  | trans _ _ ih1 ih2 => exact ih1.trans ih2
/-- What may be may be in another order, and costs the same. -/
theorem cost_perm {I : Ins} {L M : List (List Int)} (h : L.Perm M) (hc : costE I L = 0) : costE I M = 0 ∧ costN I M = costN I L := by
  obtain ⟨h1, h2, h3, h4, h5⟩ := costE_ok hc
  have hf := flatten_perm h
  have hm : firstE I M = 0 := (firstE_zero I M).2 (fun l hl => (firstE_zero I L).1 h3 l (h.mem_iff.2 hl))
  have hE : costE I M = 0 := by
    rw [costE_of h1 (by rw [← h.length_eq]; exact h2) hm]
    exact togE_ok (hf.nodup_iff.1 h4) (by rw [← hf.length_eq]; omega)
  exact ⟨hE, by rw [costN_ok hE, costN_ok hc, farS_perm h]⟩
theorem cost_full {I : Ins} {L : List (List Int)} (hc : costE I L = 0) : Full L := fun l hl => (errR_zero ((firstE_zero I L).1 (costE_ok hc).2.2.1 l hl)).1
theorem cost_ord {I : Ins} {L : List (List Int)} (hc : costE I L = 0) : costE I (ordL L) = 0 ∧ costN I (ordL L) = costN I L := cost_perm (ord_perm (cost_full hc)).symm hc
theorem cost_none {I : Ins} {L : List (List Int)} (hc : costE I L ≠ 0) : costN I L = 0 := by unfold costN; rw [if_neg hc]
theorem ord_step (L : List (List Int)) (k : Nat) (hk : k + 1 < (ordL L).length) : key ((ordL L).getD k []) ≤ key ((ordL L).getD (k + 1) []) := getD_le (stab_sortL _).1 (Nat.le_succ k) hk
theorem full_at {L : List (List Int)} (h : Full L) {i : Nat} (hi : i < L.length) : L.getD i [] ≠ [] := h.at hi
end Go.Proofs.Ytipjaibemhoifaa
