/- The plain mathematics of what a plan costs. -/
import Derived.Test.YtaaljploegiihaaGreatXTSched
import Derived.Test.YtaaljploegiihaaGreatYD
import Derived.Deep.CutRange
namespace Go.Proofs.YtaaljploegiihaaGreat

theorem sub_len : ∀ {R D : List Int}, R.Nodup → (∀ x ∈ R, x ∈ D) → R.length ≤ D.length
  | [], _, _, _ => by simp
  | x :: R, D, hn, h => by
    have hx := h x (by simp)
    have hn' := List.nodup_cons.1 hn
    have := sub_len (R := R) (D := D.erase x) hn'.2 (fun y hy => by
      have hne : y ≠ x := fun e => hn'.1 (by rw [← e]; exact hy)
      exact (List.mem_erase_of_ne hne).2 (h y (by simp [hy])))
    rw [List.length_erase_of_mem hx] at this
    have h0 : 0 < D.length := List.length_pos_of_mem hx
    simp; omega
/-- What is wrong with a route by itself. -/
def errR (I : Ins) (l : List Int) : Int := if l = [] then 1 else errT I l
theorem errR_zero {I : Ins} {l : List Int} (h : errR I l = 0) : l ≠ [] ∧ errT I l = 0 := by
  unfold errR at h
  by_cases hl : l = []
  · rw [if_pos hl] at h; simp at h
  · rw [if_neg hl] at h; exact ⟨hl, h⟩
/-- How far all go. -/
def farS (I : Ins) : List (List Int) → Int
  | [] => 0
  | l :: L => farT I l + farS I L
end Go.Proofs.YtaaljploegiihaaGreat
/- Plans in another order. -/
namespace Go.Proofs.YtaaljploegiihaaGreat
open Go.ChangeShapes Go.WideShapes Go.ChangeAt Go.RowKit

end Go.Proofs.YtaaljploegiihaaGreat
/- What a plan costs, and what is wrong with it. -/
namespace Go.Proofs.YtaaljploegiihaaGreat
open Go.ChangeShapes Go.WideShapes Go.ChangeAt Go.RowKit

end Go.Proofs.YtaaljploegiihaaGreat
/- What Cost answers. -/
namespace Go.Proofs.YtaaljploegiihaaGreat
open Go.ChangeShapes Go.WideShapes Go.ChangeAt Go.RowKit

end Go.Proofs.YtaaljploegiihaaGreat
