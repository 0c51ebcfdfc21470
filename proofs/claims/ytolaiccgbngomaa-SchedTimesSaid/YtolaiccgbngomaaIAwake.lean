/- The chapter's example. -/
import Derived.Test.YtolaiccgbngomaaIParse
import Derived.Test.YtolaiccgbngomaaIPrint
import Derived.Lib.ConvBytes
namespace Go.Proofs.Ytolaiccgbngomaa
open Go.ChangeShapes Go.WideShapes Go.ChangeAt Go.RowKit

def smallB : List Int := [49, 32, 49, 32, 53, 10, 48, 32, 48, 32, 48, 32, 48, 32, 49, 48, 48, 32, 48, 10, 51, 32, 48, 32, 50, 32, 48, 32, 53, 48, 32, 49, 10, 48, 32, 52, 32, 45, 50, 32, 48, 32, 57, 48, 32, 49, 10]
def smallI : Ins := ⟨1, 1, 5, [⟨0, 0, 0, 0, 100, 0⟩, ⟨3, 0, 2, 0, 50, 1⟩, ⟨0, 4, -2, 0, 90, 1⟩]⟩
theorem small_ok : perr smallB = 0 ∧ pins smallB = smallI ∧ mayB smallI = true ∧ textOf (linesI smallI) = smallB := by decide +kernel
theorem small_any (w : World) : Calls Try.prog 21 #[] w fun e w' => e = .returned (.string (strOfNums smallB)) ∧ w = w' := by
  go_enter Try.func21, Try.ntmps21
  go_wp2
  go_ret
  exact ⟨by congr 2, rfl⟩
/-- A text made of a string. -/
theorem conv_back {w : World} {s : ByteArray} {xs : List Int} (hs : s = strOfNums xs) (hx : ∀ c ∈ xs, 0 ≤ c ∧ c ≤ 255) (hl : xs.length ≤ 1000000) :
    Row (Lib.bytesWorld w 5 s) (.slice (some ⟨w.heap.size, 0, none⟩) s.size (grownCap w s.size 0 5)) (byts xs) := by
  subst hs
  rw [strOfNums_size]
  refine ⟨by rw [byts_len]; unfold maxLen; omega, _, _, by rw [byts_len], by rw [byts_len]; exact grownCap_ge _ _ _ _, ⟨grownCap_le_maxLen _ _ _ _ (by unfold maxLen; omega), by simp⟩, .inr ⟨w.heap.size, 0, rfl, fun i hi => ?_⟩⟩
  rw [byts_len] at hi
  rw [Nat.zero_add, Lib.bytesWorld_cell w 5 _ i (by rw [strOfNums_size]; exact hi), byts_at _ _ hi]
  have hc := hx (xs.getD i 0) (by rw [List.getD_eq_getElem?_getD, List.getElem?_eq_getElem hi]; simp)
  have hn : (strOfNums xs).data.toList.getD i 0 = UInt8.ofNat (xs.getD i 0).toNat := by
    simp [strOfNums, List.getD_eq_getElem?_getD, hi]
  rw [hn]
  have : ((UInt8.ofNat (xs.getD i 0).toNat).toNat : Int) = xs.getD i 0 := by
    simp only [UInt8.toNat_ofNat']
    omega
  rw [this]
theorem conv_below (w : World) (s : ByteArray) : Below w.heap.size w (Lib.bytesWorld w 5 s) :=
  ⟨rfl, rfl, rfl, by rw [Lib.bytesWorld_size]; omega, fun k hk => Lib.bytesWorld_at_old w 5 s k hk⟩
end Go.Proofs.Ytolaiccgbngomaa
