/- slices.BinarySearch over numbers that rise. -/
import Derived.Test.YtofapalakpkkpaaXPMat
import Derived.Test.YtofapalakpkkpaaNArgs
namespace Go.Proofs.Ytofapalakpkkpaa
open Go.ChangeShapes Go.WideShapes Go.ChangeAt Go.RowKit

set_option maxRecDepth 1000000 in
theorem cnan_any (x : Int) (w : World) : Calls Try.prog 67 #[.int .i64 x] w fun e w' => e = .returned (.bool false) ∧ w = w' := by
  have h0 : (x != x) = false := by simp
  go_enter Try.func67, Try.ntmps67
  go_wp2
  go_ret
  first | exact ⟨rfl, rfl⟩ | exact ⟨by simp, rfl⟩
set_option maxRecDepth 1000000 in
theorem snan_any (x : Int) (w : World) : Calls Try.prog 55 #[.int .i64 x] w fun e w' => e = .returned (.bool false) ∧ w = w' := by
  have h0 : (x != x) = false := by simp
  go_enter Try.func55, Try.ntmps55
  go_wp2
  go_ret
  first | exact ⟨rfl, rfl⟩ | exact ⟨by simp, rfl⟩
set_option maxRecDepth 1000000 in
set_option maxHeartbeats 1000000 in
theorem cless_any (x y : Int) (w : World) : Calls Try.prog 54 #[.int .i64 x, .int .i64 y] w fun e w' => e = .returned (.bool (decide (x < y))) ∧ w = w' := by
  go_enter Try.func54, Try.ntmps54
  go_wp2_with fail
  refine (cnan_any x _).mono ?_
  rintro e w2 ⟨rfl, rfl⟩
  go_wp2
  go_ret
  exact ⟨rfl, rfl⟩
/-- How many are below t: where t is to be looked for. -/
theorem rises_at {l : List Int} (h : l.Pairwise (fun a b => a < b)) {i j : Nat} (hij : i < j) (hj : j < l.length) : l.getD i 0 < l.getD j 0 := by
  have h1 := (List.pairwise_iff_getElem.1 h) i j (by omega) hj hij
  rw [List.getD_eq_getElem?_getD, List.getD_eq_getElem?_getD, List.getElem?_eq_getElem hj, List.getElem?_eq_getElem (show i < l.length by omega)]
  exact h1
theorem mem_getD {l : List Int} {t : Int} : t ∈ l ↔ ∃ i, i < l.length ∧ l.getD i 0 = t := by
  rw [List.mem_iff_getElem]
  constructor
  · rintro ⟨i, hi, rfl⟩
    exact ⟨i, hi, by rw [List.getD_eq_getElem?_getD, List.getElem?_eq_getElem hi]; rfl⟩
  · rintro ⟨i, hi, rfl⟩
    exact ⟨i, hi, by rw [List.getD_eq_getElem?_getD, List.getElem?_eq_getElem hi]; rfl⟩
def OnLeft (l : List Int) (t : Int) (i : Nat) : Prop := ∀ k, k < i → l.getD k 0 < t
def OnRight (l : List Int) (t : Int) (j : Nat) : Prop := ∀ k, j ≤ k → k < l.length → t ≤ l.getD k 0
theorem left_on {l : List Int} (hs : l.Pairwise (fun a b => a < b)) {t : Int} {h : Nat} (hh : h < l.length) (hx : l.getD h 0 < t) : OnLeft l t (h + 1) := by
  intro k hk
  rcases Nat.lt_or_ge k h with h1 | h1
  · exact Int.lt_trans (rises_at hs h1 hh) hx
  · obtain rfl : k = h := by omega
    exact hx
theorem right_on {l : List Int} (hs : l.Pairwise (fun a b => a < b)) {t : Int} {h : Nat} (hx : ¬ l.getD h 0 < t) : OnRight l t h := by
  intro k hk hkl
  rcases Nat.lt_or_ge h k with h1 | h1
  · have := rises_at hs h1 hkl; omega
  · obtain rfl : k = h := by omega
    omega
theorem found_at {l : List Int} {t : Int} {i : Nat} (hl : OnLeft l t i) (hr : OnRight l t i) (hs : l.Pairwise (fun a b => a < b)) : decide (t ∈ l) = (decide (i < l.length) && decide (l.getD i 0 = t)) := by
  rw [Bool.eq_iff_iff]
  simp only [decide_eq_true_eq, Bool.and_eq_true]
  rw [mem_getD]
  constructor
  · rintro ⟨k, hk, rfl⟩
    have h1 : ¬ k < i := fun h => by have := hl k h; omega
    have h2 : k = i := by
      rcases Nat.lt_or_ge i k with h | h
      · have a1 := rises_at hs h hk
        have a2 := hr i (Nat.le_refl _) (by omega)
        omega
      · omega
    subst h2
    exact ⟨hk, rfl⟩
  · rintro ⟨h1, h2⟩
    exact ⟨i, h1, h2⟩
set_option maxRecDepth 1000000 in
set_option maxHeartbeats 4000000 in
theorem binary_any {w : World} {u : Value} {l : List Int} {t : Int} (hu : Row w u (ints l)) (hs : l.Pairwise (fun a b => a < b)) (hlen : l.length ≤ 1000000) :
    Calls Try.prog 34 #[u, .int .i64 t] w fun e w' => (∃ i : Int, e = .returned (.tuple #[.int .i64 i, .bool (decide (t ∈ l))])) ∧ w = w' := by
  have HU := Lib.hid hu
  have HS := Lib.hid hs
  have HLE := Lib.hid hlen
  obtain ⟨ua, uc, rfl, hm1⟩ := hu.form
  simp only [ints_len] at *
  clear hu hs hm1 hlen
  have hl1 : l.length ≤ 9223372036854775807 := by have := HLE.out; omega
  go_enter Try.func34, Try.ntmps34
  go_wp2_with fail
  go_loop [7, 8] (fun i j => ∃ (a b : Nat), i = .int .i64 a ∧ j = .int .i64 b ∧ a ≤ b ∧ b ≤ l.length ∧ OnLeft l t a ∧ OnRight l t b) (fun i j => (intOf j).toNat - (intOf i).toNat)
  case atStart => exact ⟨0, l.length, rfl, rfl, Nat.zero_le _, Nat.le_refl _, fun k hk => absurd hk (Nat.not_lt_zero _), fun k h1 h2 => by omega⟩
  case round =>
    obtain ⟨a, b, rfl, rfl, hab, hbl, hle, hri⟩ := hrel
    have HL := Lib.hid hle
    have HR := Lib.hid hri
    have HBL := Lib.hid hbl
    have HAB := Lib.hid hab
    clear hle hri
    by_cases hlt : a < b
    · have hlt2 : (a : Int) < (b : Int) := by omega
      have HK := Lib.hid hlt
      obtain ⟨h, hh⟩ : ∃ h : Nat, (a + b) / 2 = h := ⟨_, rfl⟩
      have hh1 : a ≤ h := by omega
      have hh2 : h < b := by omega
      have hh3 : h < l.length := by omega
      have q1 : IntKind.i64.wrap ((a : Int) + (b : Int)) = ((a + b : Nat) : Int) := by
        have := IntWalk.i64_in ((a : Int) + (b : Int)) (by have := HLE.out; omega)
        rw [this]; omega
      have HH1 := Lib.hid hh1
      have HH2 := Lib.hid hh2
      have HH3 := Lib.hid hh3
      have HHH := Lib.hid hh
      clear hab hbl hlt hh hh1 hh2
      have hw : IntKind.u64.wrap ((a : Int) + (b : Int)) = (a : Int) + (b : Int) := IntWalk.u64_in _ (by have := HLE.out; have := HBL.out; omega)
      have q2 : wrap64 (((a : Int) + (b : Int)) / 2) = (h : Int) := by
        rw [show ((a : Int) + (b : Int)) / 2 = (h : Int) by have := HHH.out; omega]
        exact IntWalk.wrap64_in _ (by have := HH3.out; have := HLE.out; omega)
      go_upto_region 5 with fail
      rw [q2]
      clear q1 q2 hw
      obtain ⟨b1, o1, cc1, he1, hc1, _, _⟩ := row_at (p := h) HU.out (by rw [ints_len]; exact hh3)
      rw [ints_at l h hh3] at hc1
      simp only [ints_len, Value.slice.injEq, true_and] at he1
      obtain ⟨rfl, rfl⟩ := he1
      have HY := Lib.hid (fun hx => left_on HS.out (t := t) HH3.out hx)
      have HN := Lib.hid (fun hx => right_on HS.out (t := t) (h := h) hx)
      have hhi : (h : Int) < (l.length : Int) := by omega
      have hk2 : IntKind.i64.wrap ((h : Int) + 1) = (h : Int) + 1 := IntWalk.i64_in _ (by have := HLE.out; omega)
      clear hh3
      generalize l.getD h 0 = x at *
      go_wp2_with fail
      refine (cless_any x t _).mono ?_
      rintro e w2 ⟨rfl, rfl⟩
      by_cases hx : x < t
      · have hxd := decide_eq_true hx
        have HE := Lib.hid (HY.out hx)
        clear hx
        go_wp2
        go_round
        case rel => exact ⟨h + 1, b, by go_num, rfl, by have := HH2.out; omega, HBL.out, HE.out, HR.out⟩
        case measure => have := HH1.out; have := HH2.out; simp [intOf]; omega
      · have hxd := decide_eq_false hx
        have HE := Lib.hid (HN.out (by omega))
        clear hx
        go_wp2
        go_round
        case rel => exact ⟨a, h, rfl, rfl, HH1.out, by have := HH2.out; have := HBL.out; omega, HL.out, HE.out⟩
        case measure => have := HH1.out; have := HH2.out; simp [intOf]; omega
    · obtain rfl : a = b := by omega
      have hlt2 : ¬ (a : Int) < (a : Int) := by omega
      have HFA := Lib.hid (found_at HL.out HR.out HS.out)
      clear hlt hab
      by_cases hal : a < l.length
      · have hal2 : (a : Int) < (l.length : Int) := by omega
        have hd1 := decide_eq_true hal
        obtain ⟨b1, o1, cc1, he1, hc1, _, _⟩ := row_at (p := a) HU.out (by rw [ints_len]; exact hal)
        rw [ints_at l a hal] at hc1
        simp only [ints_len, Value.slice.injEq, true_and] at he1
        obtain ⟨rfl, rfl⟩ := he1
        generalize l.getD a 0 = x at *
        by_cases hx : x = t
        · have hxb : (x == t) = true := by simp [hx]
          have HE := Lib.hid (show decide (t ∈ l) = true by rw [HFA.out, hd1, decide_eq_true hx]; rfl)
          clear hx
          go_wp2
          exact bodyPost_ret (v := .tuple #[.int .i64 a, .bool true]) (by simp [results, Try.results34, go_sem]) rfl ⟨⟨_, by rw [HE.out]⟩, rfl⟩
        · have hxb : (x == t) = false := by simp [hx]
          have HE := Lib.hid (show decide (t ∈ l) = false by rw [HFA.out, hd1, decide_eq_false hx]; rfl)
          clear hx
          go_wp2_with fail
          refine (snan_any x _).mono ?_
          rintro e w2 ⟨rfl, rfl⟩
          go_wp2
          exact bodyPost_ret (v := .tuple #[.int .i64 a, .bool false]) (by simp [results, Try.results34, go_sem]) rfl ⟨⟨_, by rw [HE.out]⟩, rfl⟩
      · have hal2 : ¬ (a : Int) < (l.length : Int) := by omega
        have HE := Lib.hid (show decide (t ∈ l) = false by rw [HFA.out, decide_eq_false hal]; rfl)
        have hd1 := decide_eq_false hal
        clear hal
        go_wp2
        exact bodyPost_ret (v := .tuple #[.int .i64 a, .bool false]) (by simp [results, Try.results34, go_sem]) rfl ⟨⟨_, by rw [HE.out]⟩, rfl⟩
end Go.Proofs.Ytofapalakpkkpaa
