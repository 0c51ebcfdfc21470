/- The chapter's example. -/
import Derived.Test.YtipjaibemhoifaaUDoc
import Derived.Test.YtipjaibemhoifaaUJoin
import Derived.Test.YtipjaibemhoifaaXPMat
import Derived.Test.YtipjaibemhoifaaVArgs
import Derived.JoinedCond
import Derived.Deep.Slices
namespace Go.Proofs.Ytipjaibemhoifaa
open Go.ChangeShapes Go.WideShapes Go.ChangeAt Go.RowKit

theorem uRow_two (w : World) (a b : Int) : Row (w.alloc (.cells #[.int .i64 a, .int .i64 b] 3)) (.slice (some ⟨w.heap.size, 0, none⟩) 2 2) (ints [a, b]) := by
  refine ⟨by simp [ints, maxLen], _, _, rfl, by simp [ints], ⟨by simp [maxLen], by simp⟩, .inr ⟨w.heap.size, 0, rfl, fun i hi => ?_⟩⟩
  rw [Nat.zero_add, cell_of_row _ _ _ _ _ _ (heap_alloc_new w _)]
  simp [ints]
theorem eg_join : joinL (ordL [[3, 4], [1, 2]]) = [1, 2, 0, 3, 4] := by decide +kernel
theorem eg_split : splitE [1, 2, 0, 3, 4] = 0 ∧ splitR [1, 2, 0, 3, 4] = [[1, 2], [3, 4]] := split_fine (by decide) (by decide) (by decide)
section
variable {H : Type} {enc : TypeId × Value → H} {w : World} {base : Nat} {spare : Nat → Bool} {held : Bool}
/-- Rows of numbers that a law is handed. -/
theorem uopen_row {a : Option Addr} {len cap : Nat} {d : DataW H} {p : List MemPlace} (h : DataW.Trod enc Try.prog w base spare held 34 (.slice a len cap) d p) :
    ∃ l : List Int, Row w (.slice a len cap) (ints l) ∧ ∀ n ∈ l, Fit n := by
  obtain ⟨fuel, hf⟩ := h
  obtain ⟨v, l, hcs, hr, hfit⟩ := open_nums hf
  simp [Value.cells] at hcs
  subst hcs
  exact ⟨l, hr, hfit⟩
end
theorem bulk_one {H : Type} (d : DataW H) : 1 ≤ Rows.uptoBulk d := by
  cases d with
  | lit l => cases l <;> simp [Rows.uptoBulk]
  | _ => simp [Rows.uptoBulk]
theorem bulk_len {H : Type} (l : List (DataW H)) : l.length ≤ Rows.uptoBulkAll l := by
  induction l with
  | nil => exact Nat.zero_le _
  | cons x r ih => have := bulk_one x; simp only [Rows.uptoBulkAll, List.length_cons]; omega
/-- A row of numbers that comes first among arguments whose bulk has a bound. -/
theorem row_bulk {H : Type} {enc : TypeId × Value → H} {w : World} {base : Nat} {spare : Nat → Bool} {held : Bool} {a : Option Addr} {len cap : Nat} {d : DataW H} {p : List MemPlace} {ds : List (DataW H)} {l : List Int}
    (h : DataW.Trod enc Try.prog w base spare held 34 (.slice a len cap) d p) (hr : Row w (.slice a len cap) (ints l)) (hk : Rows.uptoSmall H (d :: ds) = true) : l.length ≤ 1048576 := by
  have hk2 : Rows.uptoBulkAll (d :: ds) ≤ 1048576 := of_decide_eq_true hk
  obtain ⟨_, _, _, hv, _⟩ := hr
  simp only [Value.slice.injEq, ints_len] at hv
  obtain ⟨fuel, hf⟩ := h
  simp only [Rows.uptoBulkAll] at hk2
  rcases Go.Deep.open_slice Try.underlying34 hf with ⟨h0, _⟩ | ⟨ad, ln, cp, m, n, D, Pl, hcs, _, _, _, _, hx, _⟩
  · simp [Value.cells] at h0
    omega
  · simp [Value.cells] at hcs
    have hd : d = .slice ((List.range ln).map D) ((List.range (m - ln)).map fun j => D (ln + j)) := congrArg Prod.fst hx
    rw [hd] at hk2
    simp only [Rows.uptoBulk] at hk2
    have := bulk_len ((List.range ln).map D)
    rw [List.length_map, List.length_range] at this
    omega
theorem few_sum : ∀ (L : List (List Int)), (∀ l ∈ L, l.length ≤ 100) → sumL L ≤ 101 * L.length
  | [], _ => by simp [sumL]
  | l :: L, h => by
    have h1 := few_sum L (fun x hx => h x (by simp [hx]))
    have h2 := h l (by simp)
    simp only [sumL, List.length_cons]
    split <;> omega
theorem FewP.sum {L : List (List Int)} (h : FewP L) : sumL L ≤ 1000000 := by have := few_sum L h.2; have := h.1; omega
theorem FewP.num {L : List (List Int)} (h : FewP L) : L.length ≤ 1000 := by have := h.1; omega
end Go.Proofs.Ytipjaibemhoifaa
