/- What num.Sum and the document's Sum answer. -/
import Derived.Test.YtkljmnfekdoocaaGreatXB
import Derived.Test.YtkljmnfekdoocaaGreatXRead
import Derived.WalkLawsBesides
namespace Go.Proofs.YtkljmnfekdoocaaGreat
open Go.ChangeShapes Go.WideShapes Go.ChangeAt Go.RowKit

theorem sum_none (w : World) (a : Option Addr) (cap : Nat) :
    Calls Tryz.prog 33 #[.slice a 0 cap] w fun e w' => e = .returned (.int .i64 0) ∧ w = w' := by
  go_enter Tryz.func33, Tryz.ntmps33
  go_wp2
  go_loop [3, 8] (fun s i => i = .int .i64 0 ∧ s = .int .i64 0) (fun _ _ => 0)
  case atStart => exact ⟨rfl, rfl⟩
  case round =>
    obtain ⟨rfl, rfl⟩ := hrel
    go_wp2
    go_ret
    exact ⟨rfl, rfl⟩
theorem sum_some (w : World) (b off len cap : Nat) (zs : List Int) (hl : len ≤ 9223372036854775807) (hz : zs.length = len) (hc : ∀ k, k < len → w.cell? ⟨b, off + k, none⟩ = some (.int .i64 (zs.getD k 0))) :
    Calls Tryz.prog 33 #[.slice (some ⟨b, off, none⟩) len cap] w fun e w' => e = .returned (.int .i64 (sumOf zs)) ∧ w = w' := by
  have HC := Lib.hid hc
  have HZ := Lib.hid hz
  clear hc hz
  go_enter Tryz.func33, Tryz.ntmps33
  go_wp2
  go_loop [3, 8] (fun s i => ∃ k : Nat, k ≤ len ∧ i = .int .i64 k ∧ s = .int .i64 (sumOf (zs.take k))) (fun _ i => len - (intOf i).toNat)
  case atStart => exact ⟨0, Nat.zero_le _, rfl, rfl⟩
  case round =>
    obtain ⟨k, hk, rfl, rfl⟩ := hrel
    have hb := sumOf_bd (zs.take k)
    obtain ⟨s1, s2⟩ := hb
    by_cases hlt : k < len
    · have hcell := HC.out k hlt
      have hs : sumOf (zs.take (k + 1)) = min (sumOf (zs.take k) + clamp (zs.getD k 0)) 1152921504606846976 := by
        have hz := HZ.out
        rw [List.take_succ_eq_append_getElem (by omega), sumOf_snoc]
        simp [List.getD, hz, hlt]
      have HS := Lib.hid hs
      clear hs
      generalize zs.getD k 0 = x at *
      go_wp2
      go_round
      case rel =>
        refine ⟨k + 1, by omega, by go_num, ?_⟩
        rw [HS.out]
        unfold clamp
        congr 1
        omega
      case measure => simp [intOf]; omega
    · go_wp2
      go_ret
      obtain rfl : k = len := by omega
      have hz := HZ.out
      rw [List.take_of_length_le (by omega)]
      exact ⟨rfl, rfl⟩
/-- A slice that reads as a list of costs: none, or so many cells behind each other. -/
def Reads (w : World) (a : Option Addr) (zs : List Int) : Prop :=
  zs.length ≤ 9223372036854775807 ∧ (zs = [] ∨ ∃ b off, a = some ⟨b, off, none⟩ ∧ ∀ k, k < zs.length → w.cell? ⟨b, off + k, none⟩ = some (.int .i64 (zs.getD k 0)))
theorem sum_reads (w : World) (a : Option Addr) (len cap : Nat) (zs : List Int) (hz : zs.length = len) (h : Reads w a zs) :
    Calls Tryz.prog 33 #[.slice a len cap] w fun e w' => e = .returned (.int .i64 (sumOf zs)) ∧ w = w' := by
  obtain ⟨h1, h2⟩ := h
  subst hz
  rcases h2 with rfl | ⟨b, off, rfl, h3⟩
  · exact sum_none w a cap
  · exact sum_some w b off zs.length cap zs h1 rfl h3
theorem rsum_none (w : World) (a : Option Addr) (cap : Nat) :
    Calls Tryz.prog 24 #[.slice a 0 cap] w fun e w' => e = .returned (.int .i64 0) ∧ w = w' := by
  go_enter Tryz.func24, Tryz.ntmps24
  go_wp2
  go_loop [3, 4] (fun s i => i = .int .i64 0 ∧ s = .int .i64 0) (fun _ _ => 0)
  case atStart => exact ⟨rfl, rfl⟩
  case round =>
    obtain ⟨rfl, rfl⟩ := hrel
    go_wp2
    go_ret
    exact ⟨rfl, rfl⟩
theorem rsum_some (w : World) (b off len cap : Nat) (zs : List Int) (hl : len ≤ 9223372036854775807) (hz : zs.length = len) (hc : ∀ k, k < len → w.cell? ⟨b, off + k, none⟩ = some (.int .i64 (zs.getD k 0))) :
    Calls Tryz.prog 24 #[.slice (some ⟨b, off, none⟩) len cap] w fun e w' => e = .returned (.int .i64 (sumOf zs)) ∧ w = w' := by
  have HC := Lib.hid hc
  have HZ := Lib.hid hz
  clear hc hz
  go_enter Tryz.func24, Tryz.ntmps24
  go_wp2
  go_loop [3, 4] (fun s i => ∃ k : Nat, k ≤ len ∧ i = .int .i64 k ∧ s = .int .i64 (sumOf (zs.take k))) (fun _ i => len - (intOf i).toNat)
  case atStart => exact ⟨0, Nat.zero_le _, rfl, rfl⟩
  case round =>
    obtain ⟨k, hk, rfl, rfl⟩ := hrel
    have hb := sumOf_bd (zs.take k)
    obtain ⟨s1, s2⟩ := hb
    by_cases hlt : k < len
    · have hcell := HC.out k hlt
      have hs : sumOf (zs.take (k + 1)) = min (sumOf (zs.take k) + clamp (zs.getD k 0)) 1152921504606846976 := by
        have hz := HZ.out
        rw [List.take_succ_eq_append_getElem (by omega), sumOf_snoc]
        simp [List.getD, hz, hlt]
      have HS := Lib.hid hs
      clear hs
      generalize zs.getD k 0 = x at *
      go_wp2
      all_goals
        go_round
        case rel =>
          refine ⟨k + 1, by omega, by go_num, ?_⟩
          rw [HS.out]
          unfold clamp
          congr 1
          omega
        case measure => simp [intOf]; omega
    · go_wp2
      go_ret
      obtain rfl : k = len := by omega
      have hz := HZ.out
      rw [List.take_of_length_le (by omega)]
      exact ⟨rfl, rfl⟩
theorem rsum_reads (w : World) (a : Option Addr) (len cap : Nat) (zs : List Int) (hz : zs.length = len) (h : Reads w a zs) :
    Calls Tryz.prog 24 #[.slice a len cap] w fun e w' => e = .returned (.int .i64 (sumOf zs)) ∧ w = w' := by
  obtain ⟨h1, h2⟩ := h
  subst hz
  rcases h2 with rfl | ⟨b, off, rfl, h3⟩
  · exact rsum_none w a cap
  · exact rsum_some w b off zs.length cap zs h1 rfl h3
theorem reads_row {w : World} {a : Option Addr} {n cap : Nat} {l : List Int} (h : Row w (.slice a n cap) (ints l)) : n = l.length ∧ Reads w a l := by
  obtain ⟨hm, a', cap', hv, _, _, hc⟩ := h
  simp only [Value.slice.injEq, ints_len] at hv
  obtain ⟨rfl, rfl, rfl⟩ := hv
  rw [ints_len] at hm hc
  refine ⟨rfl, by unfold maxLen at hm; omega, ?_⟩
  rcases hc with hc | ⟨b, off, rfl, hc⟩
  · left
    have := congrArg List.length hc
    rw [ints_len] at this
    exact List.eq_nil_of_length_eq_zero this
  · exact .inr ⟨b, off, rfl, fun k hk => by rw [hc k hk, ints_at l k hk]⟩
theorem sum_any {w : World} {v : Value} {l : List Int} (h : Row w v (ints l)) : Calls Tryz.prog 33 #[v] w fun e w' => e = .returned (.int .i64 (sumOf l)) ∧ w = w' := by
  obtain ⟨_, a, cap, rfl, _⟩ := id h
  obtain ⟨h1, h2⟩ := reads_row h
  exact sum_reads w a _ cap l h1.symm h2
theorem rsum_any {w : World} {v : Value} {l : List Int} (h : Row w v (ints l)) : Calls Tryz.prog 24 #[v] w fun e w' => e = .returned (.int .i64 (sumOf l)) ∧ w = w' := by
  obtain ⟨_, a, cap, rfl, _⟩ := id h
  obtain ⟨h1, h2⟩ := reads_row h
  exact rsum_reads w a _ cap l h1.symm h2
end Go.Proofs.YtkljmnfekdoocaaGreat
