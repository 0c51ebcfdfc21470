/- The chapter's example. -/
import Derived.Test.YtbhgpiohniplbaaUDoc
import Derived.Test.YtbhgpiohniplbaaUJoin
import Derived.Test.YtbhgpiohniplbaaXPMat
import Derived.Test.YtbhgpiohniplbaaVArgs
import Derived.JoinedCond
import Derived.Deep.Slices
namespace Go.Proofs.Ytbhgpiohniplbaa
open Go.ChangeShapes Go.WideShapes Go.ChangeAt Go.RowKit

theorem uRow_two (w : World) (a b : Int) : Row (w.alloc (.cells #[.int .i64 a, .int .i64 b] 3)) (.slice (some ⟨w.heap.size, 0, none⟩) 2 2) (ints [a, b]) := by
  refine ⟨by simp [ints, maxLen], _, _, rfl, by simp [ints], ⟨by simp [maxLen], by simp⟩, .inr ⟨w.heap.size, 0, rfl, fun i hi => ?_⟩⟩
  rw [Nat.zero_add, cell_of_row _ _ _ _ _ _ (heap_alloc_new w _)]
  simp [ints]
theorem eg_join : joinL (ordL [[3, 4], [1, 2]]) = [1, 2, 0, 3, 4] := by decide +kernel
theorem eg_split : splitE [1, 2, 0, 3, 4] = 0 ∧ splitR [1, 2, 0, 3, 4] = [[1, 2], [3, 4]] := split_fine (by decide) (by decide) (by decide)
set_option maxRecDepth 1000000 in
set_option maxHeartbeats 4000000 in
theorem uawake_any (w : World) : Calls Try.prog 9 #[] w fun e w' => e = .returned (.bool true) ∧ Below w.heap.size w w' := by
  go_enter Try.func9, Try.ntmps9
  go_wp2_with fail
  have HL3 := Lib.hid (isLL_two ((w.alloc (.cells #[.int .i64 3, .int .i64 4] 3)).alloc (.cells #[.int .i64 1, .int .i64 2] 3)) _ _ [3, 4] [1, 2] ((uRow_two w 3 4).below ((Below.refl _ _).alloc (Nat.le_refl _) _)) (uRow_two (w.alloc (.cells #[.int .i64 3, .int .i64 4] 3)) 1 2))
  have HB5 := Lib.hid ((((Below.refl w.heap.size w).alloc (Nat.le_refl _) (.cells #[.int .i64 3, .int .i64 4] 3)).alloc (by simp) (.cells #[.int .i64 1, .int .i64 2] 3)).alloc (by simp; omega) (.cells #[.slice (some ⟨w.heap.size, 0, none⟩) 2 2, .slice (some ⟨w.heap.size + 1, 0, none⟩) 2 2] 28))
  rw [show ((w.alloc (.cells #[.int .i64 3, .int .i64 4] 3)).alloc (.cells #[.int .i64 1, .int .i64 2] 3)).heap.size = w.heap.size + 1 + 1 by simp, show (w.alloc (.cells #[.int .i64 3, .int .i64 4] 3)).heap.size = w.heap.size + 1 by simp] at HL3
  change Calls _ _ #[planV _] (((w.alloc (.cells #[.int .i64 3, .int .i64 4] 3)).alloc (.cells #[.int .i64 1, .int .i64 2] 3)).alloc (.cells #[.slice (some ⟨w.heap.size, 0, none⟩) 2 2, .slice (some ⟨w.heap.size + 1, 0, none⟩) 2 2] 28)) _
  generalize ((w.alloc (.cells #[.int .i64 3, .int .i64 4] 3)).alloc (.cells #[.int .i64 1, .int .i64 2] 3)).alloc (.cells #[.slice (some ⟨w.heap.size, 0, none⟩) 2 2, .slice (some ⟨w.heap.size + 1, 0, none⟩) 2 2] 28) = W2 at *
  refine (join_any HL3.out (by decide) (by intro l hl; simp at hl; rcases hl with rfl | rfl <;> simp) (by decide)).mono ?_
  rw [eg_join]
  rintro e w3 ⟨u, rfl, hu, hb⟩
  have HU := Lib.hid hu
  have HB6 := Lib.hid (HB5.out.trans (hb.mono HB5.out.size))
  obtain ⟨ua, uc, rfl⟩ := hu.shape
  clear hu hb
  go_wp2_with fail
  refine (split_any HU.out.row (by decide)).mono ?_
  rw [eg_split.1, eg_split.2]
  rintro e w4 ⟨p, rfl, hp, hb⟩
  have HB7 := Lib.hid (HB6.out.trans (hb.mono HB6.out.size))
  have HU4 := Lib.hid (HU.out.below hb)
  obtain ⟨pa, pc, rfl⟩ := hp.shape
  unfold planV
  clear hp hb
  go_upto_region 3 with fail
  have HB8 := Lib.hid (HB7.out.alloc HB7.out.size (.cells #[.slice pa [[1, 2], [3, 4]].length pc] 24))
  have HX := (pbox_new w4 (.slice pa [[1, 2], [3, 4]].length pc)).cell
  have HU5 := Lib.hid (HU4.out.alloc (.cells #[.slice pa [[1, 2], [3, 4]].length pc] 24))
  generalize w4.alloc (.cells #[.slice pa [[1, 2], [3, 4]].length pc] 24) = W5 at *
  obtain ⟨b1, o1, c1, he1, hc1, _, _⟩ := row_at (p := 2) HU5.out.row (by decide)
  obtain ⟨b2, o2, c2, he2, hc2, _, _⟩ := row_at (p := 3) HU5.out.row (by decide)
  rw [ints_at _ 2 (by decide)] at hc1
  rw [ints_at _ 3 (by decide)] at hc2
  simp only [Value.slice.injEq] at he1 he2
  obtain ⟨rfl, _, rfl⟩ := he1
  simp only [Option.some.injEq, Addr.mk.injEq, and_true] at he2
  obtain ⟨⟨rfl, rfl⟩, _, rfl⟩ := he2
  have e1 : ([1, 2, 0, 3, 4] : List Int).getD 2 0 = 0 := rfl
  have e2 : ([1, 2, 0, 3, 4] : List Int).getD 3 0 = 3 := rfl
  rw [e1] at hc1
  rw [e2] at hc2
  clear e1 e2
  go_wp2
  go_ret
  exact ⟨rfl, HB8.out⟩
section
variable {H : Type} {enc : TypeId × Value → H} {w : World} {base : Nat} {spare : Nat → Bool} {held : Bool}
/-- Rows of numbers that a law is handed. -/
theorem uopen_row {a : Option Addr} {len cap : Nat} {d : DataW H} {p : List MemPlace} (h : DataW.Trod enc Try.prog w base spare held 28 (.slice a len cap) d p) :
    ∃ l : List Int, Row w (.slice a len cap) (ints l) ∧ ∀ n ∈ l, Fit n := by
  obtain ⟨fuel, hf⟩ := h
  obtain ⟨v, l, hcs, hr, hfit⟩ := open_nums hf
  simp [Value.cells] at hcs
  subst hcs
  exact ⟨l, hr, hfit⟩
end
theorem bulk_one {H : Type} (d : DataW H) : 1 ≤ Rows.uptoBulk d := by
  cases d with
  | lit l => cases l <;> simp [Rows.uptoBulk]
  | _ => simp [Rows.uptoBulk]
theorem bulk_len {H : Type} (l : List (DataW H)) : l.length ≤ Rows.uptoBulkAll l := by
  induction l with
  | nil => exact Nat.zero_le _
  | cons x r ih => have := bulk_one x; simp only [Rows.uptoBulkAll, List.length_cons]; omega
/-- A row of numbers that comes first among arguments whose bulk has a bound. -/
theorem row_bulk {H : Type} {enc : TypeId × Value → H} {w : World} {base : Nat} {spare : Nat → Bool} {held : Bool} {a : Option Addr} {len cap : Nat} {d : DataW H} {p : List MemPlace} {ds : List (DataW H)} {l : List Int}
    (h : DataW.Trod enc Try.prog w base spare held 28 (.slice a len cap) d p) (hr : Row w (.slice a len cap) (ints l)) (hk : Rows.uptoSmall H (d :: ds) = true) : l.length ≤ 1048576 := by
  have hk2 : Rows.uptoBulkAll (d :: ds) ≤ 1048576 := of_decide_eq_true hk
  obtain ⟨_, _, _, hv, _⟩ := hr
  simp only [Value.slice.injEq, ints_len] at hv
  obtain ⟨fuel, hf⟩ := h
  simp only [Rows.uptoBulkAll] at hk2
  rcases Go.Deep.open_slice Try.underlying28 hf with ⟨h0, _⟩ | ⟨ad, ln, cp, m, n, D, Pl, hcs, _, _, _, _, hx, _⟩
  · simp [Value.cells] at h0
    omega
  · simp [Value.cells] at hcs
    have hd : d = .slice ((List.range ln).map D) ((List.range (m - ln)).map fun j => D (ln + j)) := congrArg Prod.fst hx
    rw [hd] at hk2
    simp only [Rows.uptoBulk] at hk2
    have := bulk_len ((List.range ln).map D)
    rw [List.length_map, List.length_range] at this
    omega
theorem few_sum : ∀ (L : List (List Int)), (∀ l ∈ L, l.length ≤ 100) → sumL L ≤ 101 * L.length
  | [], _ => by simp [sumL]
  | l :: L, h => by
    have h1 := few_sum L (fun x hx => h x (by simp [hx]))
    have h2 := h l (by simp)
    simp only [sumL, List.length_cons]
    split <;> omega
theorem FewP.sum {L : List (List Int)} (h : FewP L) : sumL L ≤ 1000000 := by have := few_sum L h.2; have := h.1; omega
theorem FewP.num {L : List (List Int)} (h : FewP L) : L.length ≤ 1000 := by have := h.1; omega
end Go.Proofs.Ytbhgpiohniplbaa
