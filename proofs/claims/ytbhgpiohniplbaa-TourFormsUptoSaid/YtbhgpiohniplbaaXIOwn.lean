/- The chapter's example. -/
import Derived.Test.YtbhgpiohniplbaaXIParse
import Derived.Lib.ConvBytes
import Derived.Deep.Slices
import Derived.Deep.Fields
import Derived.Test.YtbhgpiohniplbaaXIForm
namespace Go.Proofs.Ytbhgpiohniplbaa
open Go.ChangeShapes Go.WideShapes Go.ChangeAt Go.RowKit

def smallB : List Int := [49, 32, 49, 32, 53, 10, 48, 32, 48, 32, 48, 32, 48, 32, 49, 48, 48, 32, 48, 10, 51, 32, 48, 32, 50, 32, 48, 32, 53, 48, 32, 49, 10, 48, 32, 52, 32, 45, 50, 32, 48, 32, 57, 48, 32, 49, 10]
def smallI : Ins := ⟨1, 1, 5, [⟨0, 0, 0, 0, 100, 0⟩, ⟨3, 0, 2, 0, 50, 1⟩, ⟨0, 4, -2, 0, 90, 1⟩]⟩
theorem small_ok : perr smallB = 0 ∧ pins smallB = smallI ∧ mayB smallI = true ∧ textOf (linesI smallI) = smallB := by decide +kernel
/-- A text made of a string. -/
theorem conv_back {w : World} {s : ByteArray} {xs : List Int} (hs : s = strOfNums xs) (hx : ∀ c ∈ xs, 0 ≤ c ∧ c ≤ 255) (hl : xs.length ≤ 1000000) :
    Row (Lib.bytesWorld w 5 s) (.slice (some ⟨w.heap.size, 0, none⟩) s.size (grownCap w s.size 0 5)) (byts xs) := by
  subst hs
  rw [strOfNums_size]
  refine ⟨by rw [byts_len]; unfold maxLen; omega, _, _, by rw [byts_len], by rw [byts_len]; exact grownCap_ge _ _ _ _, ⟨grownCap_le_maxLen _ _ _ _ (by unfold maxLen; omega), by simp⟩, .inr ⟨w.heap.size, 0, rfl, fun i hi => ?_⟩⟩
  rw [byts_len] at hi
  rw [Nat.zero_add, Lib.bytesWorld_cell w 5 _ i (by rw [strOfNums_size]; exact hi), byts_at _ _ hi]
  have hc := hx (xs.getD i 0) (by rw [List.getD_eq_getElem?_getD, List.getElem?_eq_getElem hi]; simp)
  have hn : (strOfNums xs).data.toList.getD i 0 = UInt8.ofNat (xs.getD i 0).toNat := by
    simp [strOfNums, List.getD_eq_getElem?_getD, hi]
  rw [hn]
  have : ((UInt8.ofNat (xs.getD i 0).toNat).toNat : Int) = xs.getD i 0 := by
    simp only [UInt8.toNat_ofNat']
    omega
  rw [this]
theorem conv_below (w : World) (s : ByteArray) : Below w.heap.size w (Lib.bytesWorld w 5 s) :=
  ⟨rfl, rfl, rfl, by rw [Lib.bytesWorld_size]; omega, fun k hk => Lib.bytesWorld_at_old w 5 s k hk⟩
end Go.Proofs.Ytbhgpiohniplbaa
/- Instances that a law is handed. -/
namespace Go.Proofs.Ytbhgpiohniplbaa
open Go.ChangeShapes Go.WideShapes Go.ChangeAt Go.RowKit

def Fit (n : Int) : Prop := -9223372036854775808 ≤ n ∧ n ≤ 9223372036854775807
def FitS (t : Stp) : Prop := Fit t.x ∧ Fit t.y ∧ Fit t.d ∧ Fit t.r ∧ Fit t.u ∧ Fit t.s
def FitI (I : Ins) : Prop := Fit I.p ∧ Fit I.c ∧ Fit I.r ∧ ∀ i, i < I.l.length → FitS (nth I.l i)
section
variable {H : Type} {enc : TypeId × Value → H} {w : World} {base : Nat} {spare : Nat → Bool} {held : Bool}
theorem int_cells {fuel : Nat} {cs : List Value} {x : Option (DataW H × List MemPlace)} (hx : ∃ y, x = some y) (h : DataW.trod enc Try.prog w base spare held fuel 3 cs = x) : ∃ n, cs = [.int .i64 n] ∧ Fit n := by
  obtain ⟨y, rfl⟩ := hx
  obtain ⟨n, hn, _, hw⟩ := DataW.trod_int Try.underlying3 h
  exact ⟨n, hn, wf_fits hw⟩
end
end Go.Proofs.Ytbhgpiohniplbaa
/- A number of one stop is changed; what is printed, in one word. -/
namespace Go.Proofs.Ytbhgpiohniplbaa
open Go.ChangeShapes Go.WideShapes Go.ChangeAt Go.RowKit

theorem flat_set : ∀ (l : List Stp) (i k : Nat) (t : Stp) (u : Value), i < l.length → k < 6 → (rowV (nth l i)).set k u = rowV t → (flat l).set (i * 6 + k) u = flat (l.set i t)
  | [], i, _, _, _, h, _, _ => by simp at h
  | s :: l, 0, k, t, u, _, hk, h => by
    rw [flat, Nat.zero_mul, Nat.zero_add, List.set_append_left _ _ (by simp [rowV]; omega), List.set_cons_zero, flat]
    rw [show (rowV s).set k u = rowV t from h]
  | s :: l, i + 1, k, t, u, hi, hk, h => by
    rw [flat, List.set_append_right _ _ (by simp [rowV]; omega), List.set_cons_succ, flat]
    congr 1
    rw [show (i + 1) * 6 + k - (rowV s).length = i * 6 + k by simp [rowV]; omega]
    exact flat_set l i k t u (by simpa using hi) hk h
/-- What Print answers, in one word. -/
def pe (I : Ins) : Int := if mayB I = true then 0 else 1
def pt (I : Ins) : List Int := if mayB I = true then textOf (linesI I) else []
theorem printed_one {w w' : World} {I : Ins} {e : Ending} (h : Printed w w' I e) : ∃ v, e = .returned (.tuple #[v, .int .i64 (pe I)]) ∧ OwnB w' w.heap.size v (pt I) ∧ Below w.heap.size w w' := by
  rcases h with ⟨hm, rfl, hb⟩ | ⟨hm, v, rfl, ho, hb⟩
  · exact ⟨.slice none 0 0, by unfold pe; rw [hm]; rfl, by unfold pt; rw [hm]; exact ownB_nil _ _, hb⟩
  · exact ⟨v, by unfold pe; rw [hm]; rfl, by unfold pt; rw [hm]; exact ho, hb⟩
/-- The instance's box in a later world. -/
theorem box_cells {W w' : World} {N : Nat} {I : Ins} {v : Value} (h : Hid (Holds (cellsI N I v) W)) (hN : N < W.heap.size) (hb : Hid (Below W.heap.size W w')) :
    w'.cell? ⟨N, 0, none⟩ = some (.int .i64 I.p) ∧ w'.cell? ⟨N, 1, none⟩ = some (.int .i64 I.c) ∧ w'.cell? ⟨N, 2, none⟩ = some (.int .i64 I.r) ∧ w'.cell? ⟨N, 3, none⟩ = some v := by
  have := Holds.below hb.out h.out ⟨hN, hN, hN, hN, trivial⟩
  simp only [cellsI, Holds] at this
  exact ⟨this.1, this.2.1, this.2.2.1, this.2.2.2.1⟩
section
variable {w w' : World} {N : Nat} {I : Ins} {u : Value}
end
theorem wrap_ne (x : Int) (h : Fit x) : IntKind.i64.wrap (x + 1) ≠ x := by
  obtain ⟨h0, h1⟩ := h
  by_cases e : x = 9223372036854775807
  · subst e; decide
  · rw [IntWalk.i64_in _ (by omega)]; omega
theorem set_ne {l : List Stp} {i : Nat} {t : Stp} (hi : i < l.length) (h : t ≠ nth l i) : l ≠ l.set i t := fun e => by
  have : nth l i = nth (l.set i t) i := congrArg (fun m => nth m i) e
  rw [nth_set l i i t hi, if_pos rfl] at this
  exact h this.symm
end Go.Proofs.Ytbhgpiohniplbaa
