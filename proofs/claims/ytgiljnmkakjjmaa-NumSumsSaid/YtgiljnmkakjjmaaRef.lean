/- What the document's own answers for layer 1 (package haulierref01) come to: the same plain functions by which package num answers. -/
import Derived.Test.YtgiljnmkakjjmaaAny
namespace Go.Proofs.Ytgiljnmkakjjmaa
open Go.ChangeShapes Go.WideShapes Go.ChangeAt Go.RowKit

theorem rsafe_yes (n : Int) (w : World) (h1 : -1152921504606846976 ≤ n) (h2 : n ≤ 1152921504606846976) :
    Calls Try.prog 23 #[.int .i64 n] w fun e w' => e = .returned (.bool true) ∧ w = w' := by
  go_enter Try.func23, Try.ntmps23
  go_wp2
  go_ret
  exact ⟨rfl, rfl⟩

theorem rsafe_no (n : Int) (w : World) (h : n < -1152921504606846976 ∨ 1152921504606846976 < n) :
    Calls Try.prog 23 #[.int .i64 n] w fun e w' => e = .returned (.bool false) ∧ w = w' := by
  rcases h with h | h
  · have h' : decide (-1152921504606846976 ≤ n) = false := by simpa using h
    go_enter Try.func23, Try.ntmps23
    go_wp2
    go_ret
    exact ⟨rfl, rfl⟩
  · have h' : decide (n ≤ 1152921504606846976) = false := by simpa using h
    go_enter Try.func23, Try.ntmps23
    go_wp2
    go_ret
    exact ⟨rfl, rfl⟩

theorem rsize_any (n : Int) (w : World) (h : Safe n) :
    Calls Try.prog 26 #[.int .i64 n] w fun e w' => e = .returned (.int .i64 (sz n)) ∧ w = w' := by
  obtain ⟨h1, h2⟩ := h
  unfold sz
  by_cases h : n < 0
  · rw [if_pos h]
    go_enter Try.func26, Try.ntmps26
    go_wp2
    go_ret
    exact ⟨rfl, rfl⟩
  · rw [if_neg h]
    go_enter Try.func26, Try.ntmps26
    go_wp2
    go_ret
    exact ⟨rfl, rfl⟩

theorem radd_any (a b : Int) (w : World) :
    Calls Try.prog 13 #[.int .i64 a, .int .i64 b] w fun e w' => e = .returned (.tuple #[.int .i64 (val a b (a + b)), .int .i64 (err a b (a + b))]) ∧ w = w' := by
  unfold val err
  by_cases ha : Safe a
  · by_cases hb : Safe b
    · obtain ⟨a1, a2⟩ := id ha
      obtain ⟨b1, b2⟩ := id hb
      by_cases hr : Safe (a + b)
      · rw [if_pos ⟨ha, hb, hr⟩, if_pos ⟨ha, hb, hr⟩]
        obtain ⟨r1, r2⟩ := id hr
        clear ha hb hr
        go_enter Try.func13, Try.ntmps13
        go_wp2_with (go_at_call 23; refine (rsafe_yes _ _ (by omega) (by omega)).mono ?_; rintro e w' ⟨rfl, rfl⟩)
        go_ret2
        exact ⟨rfl, rfl⟩
      · rw [if_neg (fun h => hr h.2.2), if_neg (fun h => hr h.2.2)]
        have HR : Hid (a + b < -1152921504606846976 ∨ 1152921504606846976 < a + b) := Lib.hid (by unfold Safe at hr; omega)
        clear ha hb hr
        go_enter Try.func13, Try.ntmps13
        go_wp2_with fail
        refine (rsafe_yes _ _ (by omega) (by omega)).mono ?_
        rintro e w' ⟨rfl, rfl⟩
        go_wp2_with fail
        refine (rsafe_yes _ _ (by omega) (by omega)).mono ?_
        rintro e w' ⟨rfl, rfl⟩
        go_wp2_with fail
        refine (rsafe_no _ _ HR.out).mono ?_
        rintro e w' ⟨rfl, rfl⟩
        go_wp2
        go_ret2
        exact ⟨rfl, rfl⟩
    · rw [if_neg (fun h => hb h.2.1), if_neg (fun h => hb h.2.1)]
      obtain ⟨a1, a2⟩ := id ha
      have HR : Hid (b < -1152921504606846976 ∨ 1152921504606846976 < b) := Lib.hid (by unfold Safe at hb; omega)
      clear ha hb
      go_enter Try.func13, Try.ntmps13
      go_wp2_with fail
      refine (rsafe_yes _ _ (by omega) (by omega)).mono ?_
      rintro e w' ⟨rfl, rfl⟩
      go_wp2_with fail
      refine (rsafe_no _ _ HR.out).mono ?_
      rintro e w' ⟨rfl, rfl⟩
      go_wp2
      go_ret2
      exact ⟨rfl, rfl⟩
  · rw [if_neg (fun h => ha h.1), if_neg (fun h => ha h.1)]
    have HR : Hid (a < -1152921504606846976 ∨ 1152921504606846976 < a) := Lib.hid (by unfold Safe at ha; omega)
    clear ha
    go_enter Try.func13, Try.ntmps13
    go_wp2_with fail
    refine (rsafe_no _ _ HR.out).mono ?_
    rintro e w' ⟨rfl, rfl⟩
    by_cases hb : Safe b
    · obtain ⟨b1, b2⟩ := id hb
      clear hb
      go_wp2_with fail
      refine (rsafe_yes _ _ (by omega) (by omega)).mono ?_
      rintro e w' ⟨rfl, rfl⟩
      go_wp2
      go_ret2
      exact ⟨rfl, rfl⟩
    · have HB : Hid (b < -1152921504606846976 ∨ 1152921504606846976 < b) := Lib.hid (by unfold Safe at hb; omega)
      clear hb
      go_wp2_with fail
      refine (rsafe_no _ _ HB.out).mono ?_
      rintro e w' ⟨rfl, rfl⟩
      go_wp2
      go_ret2
      exact ⟨rfl, rfl⟩

theorem rsub_any (a b : Int) (w : World) :
    Calls Try.prog 15 #[.int .i64 a, .int .i64 b] w fun e w' => e = .returned (.tuple #[.int .i64 (val a b (a - b)), .int .i64 (err a b (a - b))]) ∧ w = w' := by
  unfold val err
  by_cases ha : Safe a
  · by_cases hb : Safe b
    · obtain ⟨a1, a2⟩ := id ha
      obtain ⟨b1, b2⟩ := id hb
      by_cases hr : Safe (a - b)
      · rw [if_pos ⟨ha, hb, hr⟩, if_pos ⟨ha, hb, hr⟩]
        obtain ⟨r1, r2⟩ := id hr
        clear ha hb hr
        go_enter Try.func15, Try.ntmps15
        go_wp2_with (go_at_call 23; refine (rsafe_yes _ _ (by omega) (by omega)).mono ?_; rintro e w' ⟨rfl, rfl⟩)
        go_ret2
        exact ⟨rfl, rfl⟩
      · rw [if_neg (fun h => hr h.2.2), if_neg (fun h => hr h.2.2)]
        have HR : Hid (a - b < -1152921504606846976 ∨ 1152921504606846976 < a - b) := Lib.hid (by unfold Safe at hr; omega)
        clear ha hb hr
        go_enter Try.func15, Try.ntmps15
        go_wp2_with fail
        refine (rsafe_yes _ _ (by omega) (by omega)).mono ?_
        rintro e w' ⟨rfl, rfl⟩
        go_wp2_with fail
        refine (rsafe_yes _ _ (by omega) (by omega)).mono ?_
        rintro e w' ⟨rfl, rfl⟩
        go_wp2_with fail
        refine (rsafe_no _ _ HR.out).mono ?_
        rintro e w' ⟨rfl, rfl⟩
        go_wp2
        go_ret2
        exact ⟨rfl, rfl⟩
    · rw [if_neg (fun h => hb h.2.1), if_neg (fun h => hb h.2.1)]
      obtain ⟨a1, a2⟩ := id ha
      have HR : Hid (b < -1152921504606846976 ∨ 1152921504606846976 < b) := Lib.hid (by unfold Safe at hb; omega)
      clear ha hb
      go_enter Try.func15, Try.ntmps15
      go_wp2_with fail
      refine (rsafe_yes _ _ (by omega) (by omega)).mono ?_
      rintro e w' ⟨rfl, rfl⟩
      go_wp2_with fail
      refine (rsafe_no _ _ HR.out).mono ?_
      rintro e w' ⟨rfl, rfl⟩
      go_wp2
      go_ret2
      exact ⟨rfl, rfl⟩
  · rw [if_neg (fun h => ha h.1), if_neg (fun h => ha h.1)]
    have HR : Hid (a < -1152921504606846976 ∨ 1152921504606846976 < a) := Lib.hid (by unfold Safe at ha; omega)
    clear ha
    go_enter Try.func15, Try.ntmps15
    go_wp2_with fail
    refine (rsafe_no _ _ HR.out).mono ?_
    rintro e w' ⟨rfl, rfl⟩
    by_cases hb : Safe b
    · obtain ⟨b1, b2⟩ := id hb
      clear hb
      go_wp2_with fail
      refine (rsafe_yes _ _ (by omega) (by omega)).mono ?_
      rintro e w' ⟨rfl, rfl⟩
      go_wp2
      go_ret2
      exact ⟨rfl, rfl⟩
    · have HB : Hid (b < -1152921504606846976 ∨ 1152921504606846976 < b) := Lib.hid (by unfold Safe at hb; omega)
      clear hb
      go_wp2_with fail
      refine (rsafe_no _ _ HB.out).mono ?_
      rintro e w' ⟨rfl, rfl⟩
      go_wp2
      go_ret2
      exact ⟨rfl, rfl⟩

theorem rmul_any (a b : Int) (w : World) :
    Calls Try.prog 17 #[.int .i64 a, .int .i64 b] w fun e w' => e = .returned (.tuple #[.int .i64 (val a b (a * b)), .int .i64 (err a b (a * b))]) ∧ w = w' := by
  unfold val err
  by_cases ha : Safe a
  · by_cases hb : Safe b
    · obtain ⟨a1, a2⟩ := id ha
      obtain ⟨b1, b2⟩ := id hb
      obtain ⟨s1, s2⟩ := sz_bd a ha
      obtain ⟨t1, t2⟩ := sz_bd b hb
      have HA := Lib.hid ha
      have HB := Lib.hid hb
      by_cases hr : Safe (a * b)
      · rw [if_pos ⟨ha, hb, hr⟩, if_pos ⟨ha, hb, hr⟩]
        obtain ⟨r1, r2⟩ := id hr
        by_cases h0 : a = 0
        · subst h0
          have e0 : sz 0 = 0 := rfl
          have E0 := Lib.hid e0
          clear ha hb hr e0
          go_enter Try.func17, Try.ntmps17
          go_wp2_with (first | (go_at_call 23; refine (rsafe_yes _ _ (by omega) (by omega)).mono ?_; rintro e w' ⟨rfl, rfl⟩) | (go_at_call 26; refine (rsize_any _ _ HA.out).mono ?_; rw [E0.out]; rintro e w' ⟨rfl, rfl⟩))
          go_ret2
          exact ⟨by simp, rfl⟩
        · have hq := (le_quo a b h0).2 hr
          have hp : 0 < sz a := by unfold sz; split <;> omega
          clear ha hb hr h0
          go_enter Try.func17, Try.ntmps17
          go_wp2_with (first | (go_at_call 23; refine (rsafe_yes _ _ (by omega) (by omega)).mono ?_; rintro e w' ⟨rfl, rfl⟩) | (go_at_call 26; refine (rsize_any _ _ (by first | exact HA.out | exact HB.out)).mono ?_; rintro e w' ⟨rfl, rfl⟩))
          go_ret2
          exact ⟨rfl, rfl⟩
      · rw [if_neg (fun h => hr h.2.2), if_neg (fun h => hr h.2.2)]
        have h0 : a ≠ 0 := by rintro rfl; exact hr (by rw [Int.zero_mul]; exact ha)
        have hq : 1152921504606846976 / sz a < sz b := by
          have := mt (le_quo a b h0).1 hr
          omega
        have hp : 0 < sz a := by unfold sz; split <;> omega
        clear ha hb hr h0
        go_enter Try.func17, Try.ntmps17
        go_wp2_with (first | (go_at_call 23; refine (rsafe_yes _ _ (by omega) (by omega)).mono ?_; rintro e w' ⟨rfl, rfl⟩) | (go_at_call 26; refine (rsize_any _ _ (by first | exact HA.out | exact HB.out)).mono ?_; rintro e w' ⟨rfl, rfl⟩))
        go_ret2
        exact ⟨rfl, rfl⟩
    · rw [if_neg (fun h => hb h.2.1), if_neg (fun h => hb h.2.1)]
      obtain ⟨a1, a2⟩ := id ha
      have HR : Hid (b < -1152921504606846976 ∨ 1152921504606846976 < b) := Lib.hid (by unfold Safe at hb; omega)
      clear ha hb
      go_enter Try.func17, Try.ntmps17
      go_wp2_with fail
      refine (rsafe_yes _ _ (by omega) (by omega)).mono ?_
      rintro e w' ⟨rfl, rfl⟩
      go_wp2_with fail
      refine (rsafe_no _ _ HR.out).mono ?_
      rintro e w' ⟨rfl, rfl⟩
      go_wp2
      go_ret2
      exact ⟨rfl, rfl⟩
  · rw [if_neg (fun h => ha h.1), if_neg (fun h => ha h.1)]
    have HR : Hid (a < -1152921504606846976 ∨ 1152921504606846976 < a) := Lib.hid (by unfold Safe at ha; omega)
    clear ha
    go_enter Try.func17, Try.ntmps17
    go_wp2_with fail
    refine (rsafe_no _ _ HR.out).mono ?_
    rintro e w' ⟨rfl, rfl⟩
    by_cases hb : Safe b
    · obtain ⟨b1, b2⟩ := id hb
      clear hb
      go_wp2_with fail
      refine (rsafe_yes _ _ (by omega) (by omega)).mono ?_
      rintro e w' ⟨rfl, rfl⟩
      go_wp2
      go_ret2
      exact ⟨rfl, rfl⟩
    · have HB : Hid (b < -1152921504606846976 ∨ 1152921504606846976 < b) := Lib.hid (by unfold Safe at hb; omega)
      clear hb
      go_wp2_with fail
      refine (rsafe_no _ _ HB.out).mono ?_
      rintro e w' ⟨rfl, rfl⟩
      go_wp2
      go_ret2
      exact ⟨rfl, rfl⟩
end Go.Proofs.Ytgiljnmkakjjmaa
