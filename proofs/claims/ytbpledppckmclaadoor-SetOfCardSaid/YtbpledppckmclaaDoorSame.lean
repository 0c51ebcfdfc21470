/- That the document's own answers Same and Within are what they should be: of two lists that read alike, and of any two sets. -/
import Derived.Test.YtbpledppckmclaaDoorStops
import Derived.Deep.QuietTactic
import Derived.BigQuiet
namespace Go.Proofs.YtbpledppckmclaaDoor
open Go.ChangeShapes Go.WideShapes Go.ChangeAt Go.RowKit

theorem below_drewN {m : Nat} {w w' : World} (h : Below m w w') : ∀ n, Below m w (w'.drewN n)
  | 0 => h
  | n + 1 => (below_drewN h n).drew
theorem same_none (w : World) (a b : Option Addr) (c d : Nat) :
    Calls Tryd.prog 7 #[.slice a 0 c, .slice b 0 d] w fun e w' => e = .returned (.bool true) ∧ Below w.heap.size w w' := by
  go_enter Tryd.func7, Tryd.ntmps7
  go_wp2
  go_loop [5] (fun i => i = .int .i64 0) (fun _ => 0)
  case atStart => rfl
  case round =>
    subst hrel
    go_wp2
    go_ret
    exact ⟨rfl, Below.refl _ _⟩
set_option maxHeartbeats 800000 in
theorem same_some (w : World) (b off c b' off' d : Nat) (L : List Int) (hl : L.length ≤ 9223372036854775807) (h : ∀ k, k < L.length → w.cell? ⟨b, off + k, none⟩ = some (.int .i64 (L.getD k 0))) (h' : ∀ k, k < L.length → w.cell? ⟨b', off' + k, none⟩ = some (.int .i64 (L.getD k 0))) :
    Calls Tryd.prog 7 #[.slice (some ⟨b, off, none⟩) L.length c, .slice (some ⟨b', off', none⟩) L.length d] w fun e w' => e = .returned (.bool true) ∧ Below w.heap.size w w' := by
  have H := Lib.hid h
  have H' := Lib.hid h'
  clear h h'
  go_enter Tryd.func7, Tryd.ntmps7
  go_wp2
  go_loopw [5] (fun i wr => ∃ k : Nat, k ≤ L.length ∧ i = .int .i64 k ∧ Below w.heap.size w wr) (fun i _ => L.length - (intOf i).toNat)
  case atStart => exact ⟨0, Nat.zero_le _, rfl, Below.refl _ _⟩
  case round =>
    obtain ⟨k, hk, rfl, hb⟩ := hrel
    by_cases hlt : k < L.length
    · have c1 := cell_later hb (H.out k hlt)
      have c2 := cell_later hb (H'.out k hlt)
      have HB := Lib.hid hb
      clear hb
      generalize L.getD k 0 = x at *
      go_wp2_with fail
      go_quiet (fail)
      go_wp2
      go_roundw
      case rel => exact ⟨k + 1, by omega, by go_num, below_drewN HB.out _⟩
      case measure => simp [intOf]; omega
    · have HB := Lib.hid hb
      clear hb
      go_wp2
      go_ret
      exact ⟨rfl, HB.out⟩
theorem same_reads (w : World) (a b : Option Addr) (c d n : Nat) (L : List Int) (hn : L.length = n) (h : Reads w a L) (h' : Reads w b L) :
    Calls Tryd.prog 7 #[.slice a n c, .slice b n d] w fun e w' => e = .returned (.bool true) ∧ Below w.heap.size w w' := by
  subst hn
  obtain ⟨hl, h⟩ := h
  obtain ⟨-, h'⟩ := h'
  rcases h with rfl | ⟨b1, o1, rfl, h⟩
  · exact same_none w a b c d
  · rcases h' with rfl | ⟨b2, o2, rfl, h'⟩
    · exact same_none w _ b c d
    · exact same_some w b1 o1 c b2 o2 d L hl h h'

def inside (s t k : Nat) : Bool := (List.range k).all (fun i => !has s i || has t i)
theorem inside_succ (s t k : Nat) : inside s t (k + 1) = (inside s t k && (!has s k || has t k)) := by
  unfold inside; rw [List.range_succ, List.all_append]; simp
theorem inside_stays (s t k : Nat) (h : inside s t k = false) : ∀ m, inside s t (k + m) = false
  | 0 => h
  | m + 1 => by rw [← Nat.add_assoc, inside_succ, inside_stays s t k h m, Bool.false_and]
theorem inside_all (s t : Nat) (hs : s < 18446744073709551616) : inside s t 64 = within s t := by
  rw [Bool.eq_iff_iff, within_iff s t hs]
  unfold inside
  simp only [List.all_eq_true, List.mem_range]
  constructor
  · intro h k hk h1
    have := h k hk
    rw [h1] at this
    simpa using this
  · intro h k hk
    have := h k hk
    cases h1 : has s k <;> simp_all
set_option maxHeartbeats 800000 in
theorem rwithin_any (s t : Nat) (w : World) (hs : s < 18446744073709551616) (ht : t < 18446744073709551616) :
    Calls Tryd.prog 13 #[.int .u64 s, .int .u64 t] w fun e w' => e = .returned (.bool (within s t)) ∧ w = w' := by
  rw [← inside_all s t hs]
  go_enter Tryd.func13, Tryd.ntmps13
  go_wp2
  go_loop [5] (fun i => ∃ k : Nat, k ≤ 64 ∧ i = .int .i64 k ∧ inside s t k = true) (fun i => 64 - (intOf i).toNat)
  case atStart => exact ⟨0, Nat.zero_le _, rfl, rfl⟩
  case round =>
    obtain ⟨k, hk, rfl, hin⟩ := hrel
    have HI := Lib.hid hin
    clear hin
    by_cases hlt : k < 64
    · have HS := Lib.hid (inside_succ s t k)
      cases ha : has s k with
      | false =>
        have HA := Lib.hid ha
        clear ha
        cases hb : has t k
        all_goals
          have HB := Lib.hid hb
          clear hb
          go_wp2_with fail
          refine (rhas_any _ _ _ hs).mono ?_
          rw [HA.out]
          rintro e w' ⟨rfl, rfl⟩
          go_wp2_with fail
          refine (rhas_any _ _ _ ht).mono ?_
          rw [HB.out]
          rintro e w' ⟨rfl, rfl⟩
          go_wp2
          go_round
          case rel => exact ⟨k + 1, by omega, by go_num, by rw [HS.out, HI.out, HA.out]; rfl⟩
          case measure => simp [intOf]; omega
      | true =>
        have HA := Lib.hid ha
        clear ha
        cases hb : has t k with
        | true =>
          have HB := Lib.hid hb
          clear hb
          go_wp2_with fail
          refine (rhas_any _ _ _ hs).mono ?_
          rw [HA.out]
          rintro e w' ⟨rfl, rfl⟩
          go_wp2_with fail
          refine (rhas_any _ _ _ ht).mono ?_
          rw [HB.out]
          rintro e w' ⟨rfl, rfl⟩
          go_wp2
          go_round
          case rel => exact ⟨k + 1, by omega, by go_num, by rw [HS.out, HI.out, HA.out, HB.out]; rfl⟩
          case measure => simp [intOf]; omega
        | false =>
          have HB := Lib.hid hb
          have HE := Lib.hid (show inside s t 64 = false by
            have h1 : inside s t (k + 1) = false := by rw [HS.out, HA.out, hb]; simp
            have := inside_stays s t (k + 1) h1 (64 - (k + 1))
            rwa [show k + 1 + (64 - (k + 1)) = 64 by omega] at this)
          clear hb
          go_wp2_with fail
          refine (rhas_any _ _ _ hs).mono ?_
          rw [HA.out]
          rintro e w' ⟨rfl, rfl⟩
          go_wp2_with fail
          refine (rhas_any _ _ _ ht).mono ?_
          rw [HB.out]
          rintro e w' ⟨rfl, rfl⟩
          go_wp2
          go_ret
          exact ⟨ret_bool HE.out.symm, rfl⟩
    · obtain rfl : k = 64 := by omega
      go_wp2
      go_ret
      exact ⟨ret_bool HI.out.symm, rfl⟩
end Go.Proofs.YtbpledppckmclaaDoor
