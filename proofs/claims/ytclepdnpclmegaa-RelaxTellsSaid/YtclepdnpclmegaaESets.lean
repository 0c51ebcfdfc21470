/- The document's sets of what both have, of what one has, and all of a set. -/
import Derived.Test.YtclepdnpclmegaaXE
import Derived.Test.YtclepdnpclmegaaXRef
namespace Go.Proofs.Ytclepdnpclmegaa
open Go.ChangeShapes Go.WideShapes Go.ChangeAt Go.RowKit

def someN (s k : Nat) : List Int := ((List.range k).filter (fun i : Nat => s.testBit i)).map (fun i : Nat => (i : Int))
theorem someN_yes (s k : Nat) (h : s.testBit k = true) : someN s (k + 1) = someN s k ++ [(k : Int)] := by
  unfold someN; rw [List.range_succ, List.filter_append, List.map_append]; simp [h]
theorem someN_no (s k : Nat) (h : s.testBit k = false) : someN s (k + 1) = someN s k := by
  unfold someN; rw [List.range_succ, List.filter_append, List.map_append]; simp [h]
theorem someN_len (s k : Nat) : (someN s k).length ≤ k := by
  unfold someN
  rw [List.length_map]
  exact Nat.le_trans (List.length_filter_le _ _) (by simp)
theorem of_allN (s : Nat) (hs : s < 18446744073709551616) : ofN (allN s) = s := ofN_of_mem _ s hs (fun k _ => mem_allN s k)
set_option maxHeartbeats 800000 in
theorem erall_any (s : Nat) (w : World) (hs : s < 18446744073709551616) : Calls Try.prog 32 #[.int .u64 s] w fun e w' => ∃ v, e = .returned v ∧ OwnI w' w.heap.size v (allN s) ∧ Below w.heap.size w w' := by
  go_enter Try.func32, Try.ntmps32
  go_wp2
  go_loopw [3, 4] (fun v i wr => ∃ k : Nat, k ≤ 64 ∧ i = .int .i64 k ∧ OwnI wr w.heap.size v (someN s k) ∧ Below w.heap.size w wr) (fun _ i _ => 64 - (intOf i).toNat)
  case atStart => exact ⟨0, Nat.zero_le _, rfl, ownI_nil _ _, Below.refl _ _⟩
  case round =>
    obtain ⟨k, hk, rfl, hg, hbw⟩ := hrel
    have HG := Lib.hid hg
    have HB := Lib.hid hbw
    have hsz := hbw.size
    have hlen := someN_len s k
    clear hg hbw
    by_cases hlt : k < 64
    · have hh := has_nat s k hlt
      cases hb : s.testBit k with
      | true =>
        rw [hb] at hh
        have HH := Lib.hid hh
        have HS := Lib.hid (someN_yes s k hb)
        clear hh hb
        go_wp2_with fail
        refine (erhas_any _ _ _ hs).mono ?_
        rw [HH.out]
        rintro e w' ⟨rfl, rfl⟩
        generalize someN s k = L at *
        obtain ⟨ua, uc, rfl⟩ := HG.out.shape
        go_wp2_with (first | (at_builtin; refine app_ints rfl _ _ rfl w.heap.size _ L rfl (HG.out.alloc _) _ [(k : Int)] rfl (row_newi _ _) (by simp; omega) (by simp; omega) ?_))
        intro v' w1 hown' hgrow _
        have HN := Lib.hid hown'
        have HBN := Lib.hid (HB.out.trans (grown_below (grown_alloc hgrow) HB.out.size (fun q hq => (World.ownsRow.lt HG.out q hq).1)))
        clear hown' hgrow
        go_wp2
        go_roundw
        case rel => exact ⟨k + 1, by omega, by go_num, by rw [HS.out]; exact HN.out, HBN.out⟩
        case measure => simp [intOf]; omega
      | false =>
        rw [hb] at hh
        have HH := Lib.hid hh
        have HS := Lib.hid (someN_no s k hb)
        clear hh hb
        go_wp2_with fail
        refine (erhas_any _ _ _ hs).mono ?_
        rw [HH.out]
        rintro e w' ⟨rfl, rfl⟩
        go_wp2
        go_roundw
        case rel => exact ⟨k + 1, by omega, by go_num, by rw [HS.out]; exact HG.out, HB.out⟩
        case measure => simp [intOf]; omega
    · obtain rfl : k = 64 := by omega
      go_wp2
      go_ret
      exact ⟨_, rfl, HG.out, HB.out⟩
/-- What both have of the first k. -/
def bothN (s t k : Nat) : Nat := (s &&& t) % 2 ^ k
theorem bothN_lt (s t k : Nat) (hs : s < 18446744073709551616) : bothN s t k < 18446744073709551616 := Nat.lt_of_le_of_lt (Nat.mod_le _ _) (and_lt hs)
theorem bothN_step (s t k : Nat) (hk : k ≤ 63) : bothN s t (k + 1) = if has s k && has t k then bothN s t k ||| bitN k else bothN s t k := by
  rw [has_nat s k (by omega), has_nat t k (by omega), ← Nat.testBit_and]
  unfold bothN
  apply Nat.eq_of_testBit_eq
  intro i
  rw [Nat.testBit_mod_two_pow]
  cases h : (s &&& t).testBit k
  · rw [if_neg (by simp), Nat.testBit_mod_two_pow]
    by_cases e : i = k
    · subst e; rw [h]; simp
    · congr 1
      rw [Bool.eq_iff_iff]; simp; omega
  · rw [if_pos rfl, Nat.testBit_or, Nat.testBit_mod_two_pow, bitN_nat k hk, Nat.testBit_two_pow]
    by_cases e : i = k
    · subst e; rw [h]; simp
    · rw [show decide (k = i) = false by simp; omega, Bool.or_false]
      congr 1
      rw [Bool.eq_iff_iff]; simp; omega
theorem bothN_all (s t : Nat) (hs : s < 18446744073709551616) : bothN s t 64 = s &&& t := Nat.mod_eq_of_lt (show s &&& t < 2 ^ 64 from and_lt hs)
set_option maxHeartbeats 800000 in
theorem erand_any (s t : Nat) (w : World) (hs : s < 18446744073709551616) (ht : t < 18446744073709551616) :
    Calls Try.prog 20 #[.int .u64 s, .int .u64 t] w fun e w' => e = .returned (.int .u64 ((s &&& t : Nat) : Int)) ∧ w = w' := by
  rw [← bothN_all s t hs]
  go_enter Try.func20, Try.ntmps20
  go_wp2
  go_loop [5, 6] (fun o i => ∃ k : Nat, k ≤ 64 ∧ i = .int .i64 k ∧ o = .int .u64 (bothN s t k)) (fun _ i => 64 - (intOf i).toNat)
  case atStart => exact ⟨0, Nat.zero_le _, rfl, by unfold bothN; rw [Nat.pow_zero, Nat.mod_one]; rfl⟩
  case round =>
    obtain ⟨k, hk, rfl, rfl⟩ := hrel
    by_cases hlt : k < 64
    · have HS := Lib.hid (bothN_step s t k (by omega))
      have hb := bothN_lt s t k hs
      generalize bothN s t k = o at *
      cases ha : has s k
      all_goals
        cases hb2 : has t k
        all_goals
          have HA := Lib.hid ha
          have HB := Lib.hid hb2
          rw [ha, hb2] at HS
          clear ha hb2
          go_wp2_with fail
          refine (erhas_any _ _ _ hs).mono ?_
          rw [HA.out]
          rintro e w' ⟨rfl, rfl⟩
          go_wp2_with fail
          refine (erhas_any _ _ _ ht).mono ?_
          rw [HB.out]
          rintro e w' ⟨rfl, rfl⟩
          go_wp2_with (go_at_call 31; refine (erwith_any _ _ _ hb).mono ?_; rintro e w' ⟨rfl, rfl⟩)
          go_round
          case rel => exact ⟨k + 1, by omega, by go_num, by rw [HS.out]; rfl⟩
          case measure => simp [intOf]; omega
    · obtain rfl : k = 64 := by omega
      go_wp2
      go_ret
      exact ⟨rfl, rfl⟩
/-- What the one has, and the first k of the other one's. -/
theorem oneN_step (s t k : Nat) (h : k < (allN t).length) : s ||| ofN ((allN t).take (k + 1)) = (s ||| ofN ((allN t).take k)) ||| bitN ((allN t).getD k 0) := by
  rw [List.take_succ_eq_append_getElem h, ofN_snoc, Nat.or_assoc]
  simp [List.getD, h]
theorem allN_le (s : Nat) : (allN s).length ≤ 64 := someN_len s 64
set_option maxHeartbeats 800000 in
theorem eror_any (s t : Nat) (w : World) (hs : s < 18446744073709551616) (ht : t < 18446744073709551616) :
    Calls Try.prog 21 #[.int .u64 s, .int .u64 t] w fun e w' => e = .returned (.int .u64 ((s ||| t : Nat) : Int)) ∧ Below w.heap.size w w' := by
  go_enter Try.func21, Try.ntmps21
  go_wp2_with fail
  refine (erall_any _ _ ht).mono ?_
  rintro e w1 ⟨v, rfl, hv, hb⟩
  have HB := Lib.hid hb
  have hle := allN_le t
  have HST := Lib.hid (oneN_step s t)
  have hr0 := hv.row
  have HE := Lib.hid (show s ||| ofN ((allN t).take (allN t).length) = s ||| t by rw [List.take_length, of_allN t ht])
  clear hb
  obtain ⟨ua, uc, rfl⟩ := hv.shape
  have HR := Lib.hid hr0
  clear hv hr0
  generalize allN t = L at *
  go_wp2
  go_loop [5, 7] (fun o i => ∃ k : Nat, k ≤ L.length ∧ i = .int .i64 k ∧ o = .int .u64 ((s ||| ofN (L.take k) : Nat) : Int)) (fun _ i => L.length - (intOf i).toNat)
  case atStart => exact ⟨0, Nat.zero_le _, rfl, by simp [ofN]⟩
  case round =>
    obtain ⟨k, hk, rfl, rfl⟩ := hrel
    by_cases hlt : k < L.length
    · have HS := Lib.hid (HST.out k hlt)
      have hbo : s ||| ofN (L.take k) < 18446744073709551616 := or_lt hs (ofN_lt _)
      generalize s ||| ofN (L.take k) = o at *
      obtain ⟨b, off, c, he, hc, -, -⟩ := row_at (p := k) HR.out (by rw [ints_len]; exact hlt)
      rw [ints_at _ k hlt] at hc
      simp only [Value.slice.injEq] at he
      obtain ⟨rfl, -, rfl⟩ := he
      generalize L.getD k 0 = x at *
      have hki : (k : Int) < (L.length : Int) := by omega
      go_wp2_with (go_at_call 31; refine (erwith_any _ _ _ hbo).mono ?_; rintro e w' ⟨rfl, rfl⟩)
      go_round
      case rel => exact ⟨k + 1, by omega, by go_num, by rw [HS.out]⟩
      case measure => simp [intOf]; omega
    · obtain rfl : k = L.length := by omega
      have HQ := HE
      go_wp2
      go_ret
      have h := HQ.out
      rw [List.take_length] at h
      exact ⟨ret_int (by rw [h]), HB.out⟩
end Go.Proofs.Ytclepdnpclmegaa
