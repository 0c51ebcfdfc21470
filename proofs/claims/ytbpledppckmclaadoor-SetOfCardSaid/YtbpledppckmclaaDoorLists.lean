/- What set.Of and set.Upto answer, and the document's own answers to them; that the chapter's examples come out as the document says (awake). -/
import Derived.Test.YtbpledppckmclaaDoorRef
import Derived.WalkLawsBesides
namespace Go.Proofs.YtbpledppckmclaaDoor
open Go.ChangeShapes Go.WideShapes Go.ChangeAt Go.RowKit

/-- A slice that reads as a list of numbers: none, or so many cells behind each other. -/
def Reads (w : World) (a : Option Addr) (zs : List Int) : Prop :=
  zs.length ≤ 9223372036854775807 ∧ (zs = [] ∨ ∃ b off, a = some ⟨b, off, none⟩ ∧ ∀ k, k < zs.length → w.cell? ⟨b, off + k, none⟩ = some (.int .i64 (zs.getD k 0)))

theorem ofN_take (zs : List Int) (k : Nat) (h : k < zs.length) : ofN (zs.take (k + 1)) = ofN (zs.take k) ||| bitN (zs.getD k 0) := by
  rw [List.take_succ_eq_append_getElem h, ofN_snoc]
  simp [List.getD, h]

theorem of_none (w : World) (a : Option Addr) (cap : Nat) :
    Calls Tryd.prog 14 #[.slice a 0 cap] w fun e w' => e = .returned (.int .u64 ((ofN [] : Nat) : Int)) ∧ w = w' := by
  go_enter Tryd.func14, Tryd.ntmps14
  go_wp2
  go_loop [3, 8] (fun s i => i = .int .i64 0 ∧ s = .int .u64 0) (fun _ _ => 0)
  case atStart => exact ⟨rfl, rfl⟩
  case round =>
    obtain ⟨rfl, rfl⟩ := hrel
    go_wp2
    go_ret
    exact ⟨rfl, rfl⟩
theorem of_some (w : World) (b off len cap : Nat) (zs : List Int) (hl : len ≤ 9223372036854775807) (hz : zs.length = len) (hc : ∀ k, k < len → w.cell? ⟨b, off + k, none⟩ = some (.int .i64 (zs.getD k 0))) :
    Calls Tryd.prog 14 #[.slice (some ⟨b, off, none⟩) len cap] w fun e w' => e = .returned (.int .u64 (ofN zs)) ∧ w = w' := by
  have HC := Lib.hid hc
  have HZ := Lib.hid hz
  clear hc hz
  go_enter Tryd.func14, Tryd.ntmps14
  go_wp2
  go_loop [3, 8] (fun s i => ∃ k : Nat, k ≤ len ∧ i = .int .i64 k ∧ s = .int .u64 (ofN (zs.take k))) (fun _ i => len - (intOf i).toNat)
  case atStart => exact ⟨0, Nat.zero_le _, rfl, rfl⟩
  case round =>
    obtain ⟨k, hk, rfl, rfl⟩ := hrel
    have hb := ofN_lt (zs.take k)
    by_cases hlt : k < len
    · have hcell := HC.out k hlt
      have HS := Lib.hid (ofN_take zs k (by have := HZ.out; omega))
      generalize zs.getD k 0 = x at *
      generalize ofN (zs.take k) = s at *
      go_wp2_with (go_at_call 21; refine (with_any _ _ _ hb).mono ?_; rintro e w' ⟨rfl, rfl⟩)
      go_round
      case rel => exact ⟨k + 1, by omega, by go_num, by rw [HS.out]⟩
      case measure => simp [intOf]; omega
    · go_wp2
      go_ret
      obtain rfl : k = len := by omega
      have hz := HZ.out
      rw [List.take_of_length_le (by omega)]
      exact ⟨rfl, rfl⟩
theorem of_reads (w : World) (a : Option Addr) (len cap : Nat) (zs : List Int) (hz : zs.length = len) (h : Reads w a zs) :
    Calls Tryd.prog 14 #[.slice a len cap] w fun e w' => e = .returned (.int .u64 (ofN zs)) ∧ w = w' := by
  obtain ⟨h1, h2⟩ := h
  subst hz
  rcases h2 with rfl | ⟨b, off, rfl, h3⟩
  · exact of_none w a cap
  · exact of_some w b off zs.length cap zs h1 rfl h3

theorem upto_any (n : Int) (w : World) (h1 : -9223372036854775808 ≤ n) :
    Calls Tryd.prog 15 #[.int .i64 n] w fun e w' => e = .returned (.int .u64 (uptoN (min n 63).toNat)) ∧ w = w' := by
  by_cases hn : 63 < n
  · rw [show (min n 63).toNat = 63 by omega]
    go_enter Tryd.func15, Tryd.ntmps15
    go_wp2
    go_loop [3, 7] (fun s i => ∃ k : Nat, k ≤ 63 ∧ i = .int .i64 k ∧ s = .int .u64 (uptoN k)) (fun _ i => 63 - (intOf i).toNat)
    case atStart => exact ⟨0, Nat.zero_le _, rfl, rfl⟩
    case round =>
      obtain ⟨k, hk, rfl, rfl⟩ := hrel
      have hb := upto_lt k
      by_cases hlt : k < 63
      · have HS := Lib.hid (upto_succ k)
        generalize uptoN k = s at *
        go_wp2_with (go_at_call 21; refine (with_any _ _ _ hb).mono ?_; rintro e w' ⟨rfl, rfl⟩)
        go_round
        case rel => exact ⟨k + 1, by omega, by go_num, by rw [HS.out]⟩
        case measure => simp [intOf]; omega
      · obtain rfl : k = 63 := by omega
        go_wp2
        go_ret
        exact ⟨rfl, rfl⟩
  · rw [show (min n 63).toNat = n.toNat by omega]
    have hn' : n ≤ 63 := by omega
    go_enter Tryd.func15, Tryd.ntmps15
    go_wp2
    go_loop [3, 7] (fun s i => ∃ k : Nat, k ≤ n.toNat ∧ i = .int .i64 k ∧ s = .int .u64 (uptoN k)) (fun _ i => n.toNat - (intOf i).toNat)
    case atStart => exact ⟨0, Nat.zero_le _, rfl, rfl⟩
    case round =>
      obtain ⟨k, hk, rfl, rfl⟩ := hrel
      have hb := upto_lt k
      by_cases hlt : (k : Int) < n
      · have HS := Lib.hid (upto_succ k)
        generalize uptoN k = s at *
        go_wp2_with (go_at_call 21; refine (with_any _ _ _ hb).mono ?_; rintro e w' ⟨rfl, rfl⟩)
        go_round
        case rel => exact ⟨k + 1, by omega, by go_num, by rw [HS.out]⟩
        case measure => simp [intOf]; omega
      · have hd : decide ((k : Int) < n) = false := by simp; omega
        have HE := Lib.hid (show n.toNat = k by omega)
        go_wp2
        go_ret
        exact ⟨ret_int (by rw [HE.out]), rfl⟩
theorem of13 : ofN [1, 3] = 10 := by decide
theorem upto3 : uptoN (min (3 : Int) 63).toNat = 14 := by decide
theorem shift14 : shiftN 14 3 = 112 := by decide
theorem has10 : has 10 3 = true := by decide
theorem cnt10 : cnt 10 = 2 := by decide
theorem reads_two {w : World} {g : Nat} {x y : Int} (h0 : w.cell? ⟨g, 0, none⟩ = some (.int .i64 x)) (h1 : w.cell? ⟨g, 1, none⟩ = some (.int .i64 y)) : Reads w (some ⟨g, 0, none⟩) [x, y] := by
  refine ⟨by simp, Or.inr ⟨_, _, rfl, ?_⟩⟩
  intro k hk
  have : k = 0 ∨ k = 1 := by simp at hk; omega
  rcases this with rfl | rfl
  · exact h0
  · exact h1
theorem awake_any (w : World) :
    Calls Tryd.prog 5 #[] w fun e w' => e = .returned (.bool true) ∧ w.alloc (.cells #[.int .i64 1, .int .i64 3] 3) = w' := by
  go_enter Tryd.func5, Tryd.ntmps5
  go_wp2_with fail
  refine (of_reads _ _ 2 2 [1, 3] rfl ?_).mono ?_
  · refine reads_two ?_ ?_ <;> simp [go_sem]
  rw [of13]
  rintro e w' ⟨rfl, rfl⟩
  go_wp2_with fail
  refine (upto_any 3 _ (by omega)).mono ?_
  rw [upto3]
  rintro e w' ⟨rfl, rfl⟩
  go_wp2_with fail
  refine (shift_any 14 3 _ (by omega) (by omega)).mono ?_
  rw [shift14]
  rintro e w' ⟨rfl, rfl⟩
  go_wp2_with fail
  refine (has_any 10 3 _ (by omega)).mono ?_
  rw [has10]
  rintro e w' ⟨rfl, rfl⟩
  go_wp2_with fail
  refine (len_any 10 _ (by omega)).mono ?_
  rw [cnt10]
  rintro e w' ⟨rfl, rfl⟩
  go_wp2
  go_ret
  exact ⟨rfl, rfl⟩
end Go.Proofs.YtbpledppckmclaaDoor
