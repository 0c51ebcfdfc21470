/- What the document's word, line and Lines answer. -/
import Derived.Test.YtkhlmgkapmofiaaDoorArgs
namespace Go.Proofs.YtkhlmgkapmofiaaDoor
open Go.ChangeShapes Go.WideShapes Go.ChangeAt Go.RowKit

theorem digs_bd : ∀ (d : List Int) (n m : Int) (k : Nat), 0 ≤ n → n < 10 ^ k → digs n d = some m → m < 10 ^ (k + d.length)
  | [], n, m, k, _, h, e => by simp [digs] at e; subst e; simpa using h
  | c :: r, n, m, k, h0, h, e => by
    unfold digs at e
    split at e
    · simp at e
    · have := digs_bd r (10 * n + (c - 48)) m (k + 1) (by omega) (by rw [Int.pow_succ]; omega) e
      rw [show k + (c :: r).length = k + 1 + r.length by simp; omega]
      exact this
/-- What is known of the digits gone over. -/
def DigJ (d : List Int) (k : Nat) (n : Int) : Prop := digs 0 d = digs n (d.drop k) ∧ 0 ≤ n ∧ n < 10 ^ k
theorem digJ_step {d : List Int} {k : Nat} {n c : Int} (h : DigJ d k n) (hk : k < d.length) (hc : d.getD k 0 = c) (h1 : 48 ≤ c) (h2 : c ≤ 57) : DigJ d (k + 1) (10 * n + (c - 48)) := by
  obtain ⟨e, h3, h4⟩ := h
  refine ⟨?_, by omega, by rw [Int.pow_succ]; omega⟩
  rw [e, drop_at d k hk c hc]
  show (if c < 48 ∨ 57 < c then none else digs (10 * n + (c - 48)) (d.drop (k + 1))) = _
  rw [if_neg (by omega)]
theorem digJ_bad {d : List Int} {k : Nat} {n c : Int} (h : DigJ d k n) (hk : k < d.length) (hc : d.getD k 0 = c) (h1 : c < 48 ∨ 57 < c) : digs 0 d = none := by
  rw [h.1, drop_at d k hk c hc]
  show (if c < 48 ∨ 57 < c then none else digs (10 * n + (c - 48)) (d.drop (k + 1))) = _
  rw [if_pos h1]
theorem digJ_end {d : List Int} {n : Int} (h : DigJ d d.length n) : digs 0 d = some n := by rw [h.1]; simp [digs]
theorem digJ_small {d : List Int} {k : Nat} {n : Int} (h : DigJ d k n) (hk : k ≤ 12) : n < 1000000000000 := by
  have h1 : (10 : Int) ^ k ≤ 10 ^ 12 := by
    have := Nat.pow_le_pow_right (n := 10) (by decide) hk
    exact_mod_cast this
  have := h.2.2
  omega
/-- What word answers, told by the number of bytes and the sign. -/
theorem word_plain (b : List Int) (h : b.head? ≠ some 45) : wordS b = if b.length < 1 ∨ 12 < b.length then none else digs 0 b := by unfold wordS; rw [if_neg h]
theorem word_minus (r : List Int) : wordS (45 :: r) = if r.length < 1 ∨ 12 < r.length then none else (digs 0 r).map (fun n => -n) := by unfold wordS; simp

set_option maxRecDepth 1000000 in
set_option maxHeartbeats 1000000 in
theorem word_any {w : World} {tv : Value} {b : List Int} (h : Row w tv (byts b)) :
    Calls Tryd.prog 44 #[tv] w fun e w' => e = .returned (.tuple #[.int .i64 ((wordS b).getD 0), .bool (wordS b).isSome]) ∧ w = w' := by
  have H := Lib.hid h
  obtain ⟨a, cap, rfl, hm⟩ := h.form
  simp only [byts_len] at *
  clear h
  clear hm
  match b, H with
  | [], H =>
    have HW := Lib.hid (show wordS [] = none by decide)
    go_enter Tryd.func44, Tryd.ntmps44
    go_wp2
    refine bodyPost_ret (v := .tuple #[.int .i64 0, .bool false]) ?_ rfl ?_
    · simp [results, Tryd.results44, go_sem]
    rw [HW.out]
    exact ⟨rfl, rfl⟩
  | c :: r, H =>
    obtain ⟨tb, off, rfl, hc, htb⟩ := row_cell H.out 0 (by simp [byts])
    simp [byts] at hc
    have hcap0 : (c :: r).length ≤ cap := by
      obtain ⟨_, a', cap', he, hc', _⟩ := H.out
      simp [byts_len] at he hc'
      simp; omega
    by_cases h45 : c = 45
    · subst h45
      have b0 : decide ((0 : Int) < (r.length : Int) + 1) = true := decide_eq_true (by omega)
      by_cases hr : r.length < 1 ∨ 12 < r.length
      · have HN := Lib.hid (show wordS (45 :: r) = none by rw [word_minus, if_pos hr])
        have key : decide ((r.length : Int) < 1) = true ∨ (decide ((r.length : Int) < 1) = false ∧ decide ((12 : Int) < (r.length : Int)) = true) := by simp only [decide_eq_true_eq, decide_eq_false_iff_not]; omega
        clear hr
        rcases key with b1 | ⟨b1, b2⟩
        all_goals
          go_enter Tryd.func44, Tryd.ntmps44
          go_wp2
        all_goals
          refine bodyPost_ret (v := .tuple #[.int .i64 0, .bool false]) ?_ rfl ?_
          · simp [results, Tryd.results44, go_sem]
          rw [HN.out]
          exact ⟨rfl, rfl⟩
      · have b1 : decide ((r.length : Int) < 1) = false := decide_eq_false (by omega)
        have b2 : decide ((12 : Int) < (r.length : Int)) = false := decide_eq_false (by omega)
        have hcap : ¬ cap = 1 := by simp at hcap0; omega
        have hr1 : 1 ≤ r.length := by omega
        have hr2 : r.length ≤ 12 := by omega
        clear hr
        go_enter Tryd.func44, Tryd.ntmps44
        go_wp2_with fail
        go_loop [5, 6] (fun n i => ∃ (k : Nat) (nn : Int), k ≤ r.length ∧ i = .int .i64 k ∧ n = .int .i64 nn ∧ DigJ r k nn) (fun _ i => r.length - (intOf i).toNat)
        case atStart => exact ⟨0, 0, Nat.zero_le _, rfl, rfl, rfl, by decide, by decide⟩
        case round =>
          obtain ⟨k, nn, hk, rfl, rfl, hJ⟩ := hrel
          have HJ := Lib.hid hJ
          have hj1 := hJ.2.1
          have hj2 := digJ_small hJ (by omega)
          clear hJ
          by_cases hlt : k < r.length
          · have hck := row_here H.out (k + 1) (by simp [byts]; try omega)
            rw [byts_at _ _ (by simp; try omega)] at hck
            obtain ⟨x, hx⟩ : ∃ x, r.getD k 0 = x := ⟨_, rfl⟩
            have hx2 : (45 :: r).getD (k + 1) 0 = x := by rw [← hx]; simp [List.getD]
            rw [hx2, show off + (k + 1) = off + 1 + k by omega] at hck
            have HX := Lib.hid hx
            clear hx hx2
            by_cases hdig : 48 ≤ x ∧ x ≤ 57
            · obtain ⟨hd1, hd2⟩ := hdig
              have b1 : decide (x < 48) = false := decide_eq_false (by omega)
              have b2 : decide (57 < x) = false := decide_eq_false (by omega)
              have e3 : IntKind.i64.wrap (10 * nn) = 10 * nn := IntWalk.i64_in _ (by omega)
              have e4 : IntKind.u8.wrap (x - 48) = x - 48 := by rw [IntKind.wrap_u8]; omega
              have e5 : IntKind.i64.wrap (x - 48) = x - 48 := IntWalk.i64_in _ (by omega)
              have e6 : IntKind.i64.wrap (10 * nn + (x - 48)) = 10 * nn + (x - 48) := IntWalk.i64_in _ (by omega)
              have HJ2 := Lib.hid (digJ_step HJ.out hlt HX.out hd1 hd2)
              go_wp2
              go_round
              case rel => exact ⟨k + 1, _, by omega, by go_num, rfl, HJ2.out⟩
              case measure => simp [intOf]; omega
            · have HN := Lib.hid (show wordS (45 :: r) = none by rw [word_minus, if_neg (by omega), digJ_bad HJ.out hlt HX.out (by omega)]; rfl)
              have key : decide (x < 48) = true ∨ (decide (x < 48) = false ∧ decide (57 < x) = true) := by simp only [decide_eq_true_eq, decide_eq_false_iff_not]; omega
              clear hdig
              rcases key with b1 | ⟨b1, b2⟩
              all_goals
                go_wp2
                refine bodyPost_ret (v := .tuple #[.int .i64 0, .bool false]) ?_ rfl ?_
                · simp [results, Tryd.results44, go_sem]
                rw [HN.out]
                exact ⟨rfl, rfl⟩
          · obtain rfl : k = r.length := by omega
            clear hlt hk
            have HW := Lib.hid (show wordS (45 :: r) = some (-nn) by rw [word_minus, if_neg (by omega), digJ_end HJ.out]; rfl)
            have en : IntKind.i64.wrap (-nn) = -nn := IntWalk.i64_in _ (by omega)
            go_wp2
            refine bodyPost_ret (v := .tuple #[.int .i64 (-nn), .bool true]) ?_ rfl ?_
            · simp [results, Tryd.results44, go_sem]
            rw [HW.out]
            exact ⟨rfl, rfl⟩
    · have h45b : (c == 45) = false := by simpa using h45
      have b0 : decide ((0 : Int) < (r.length : Int) + 1) = true := decide_eq_true (by omega)
      by_cases hr : 12 < r.length + 1
      · have HN := Lib.hid (show wordS (c :: r) = none by rw [word_plain _ (by simpa using h45), if_pos (.inr (by simpa using hr))])
        have b1 : decide ((r.length : Int) + 1 < 1) = false := decide_eq_false (by omega)
        have b2 : decide ((12 : Int) < (r.length : Int) + 1) = true := decide_eq_true (by omega)
        clear h45
        go_enter Tryd.func44, Tryd.ntmps44
        go_wp2
        refine bodyPost_ret (v := .tuple #[.int .i64 0, .bool false]) ?_ rfl ?_
        · simp [results, Tryd.results44, go_sem]
        rw [HN.out]
        exact ⟨rfl, rfl⟩
      · have b1 : decide ((r.length : Int) + 1 < 1) = false := decide_eq_false (by omega)
        have b2 : decide ((12 : Int) < (r.length : Int) + 1) = false := decide_eq_false (by omega)
        have hr2 : (c :: r).length ≤ 12 := by simp; omega
        have hr3 : r.length ≤ 11 := by omega
        clear hr
        go_enter Tryd.func44, Tryd.ntmps44
        go_wp2_with fail
        go_loop [5, 6] (fun n i => ∃ (k : Nat) (nn : Int), k ≤ (c :: r).length ∧ i = .int .i64 k ∧ n = .int .i64 nn ∧ DigJ (c :: r) k nn) (fun _ i => (c :: r).length - (intOf i).toNat)
        case atStart => exact ⟨0, 0, Nat.zero_le _, rfl, rfl, rfl, by decide, by decide⟩
        case round =>
          obtain ⟨k, nn, hk, rfl, rfl, hJ⟩ := hrel
          have HJ := Lib.hid hJ
          have hj1 := hJ.2.1
          have hj2 := digJ_small hJ (by omega)
          clear hJ
          by_cases hlt : k < (c :: r).length
          · have hck := row_here H.out k (by simp [byts]; try omega)
            rw [byts_at _ _ (by simp; try omega)] at hck
            obtain ⟨x, hx⟩ : ∃ x, (c :: r).getD k 0 = x := ⟨_, rfl⟩
            have hx2 : (c :: r).getD k 0 = x := hx
            have bk : decide ((k : Int) < (r.length : Int) + 1) = true := decide_eq_true (by simp at hlt; omega)
            have hlt3 : k < r.length + 1 := by simpa using hlt
            rw [hx2] at hck
            have HX := Lib.hid hx
            clear hx hx2
            by_cases hdig : 48 ≤ x ∧ x ≤ 57
            · obtain ⟨hd1, hd2⟩ := hdig
              have b1 : decide (x < 48) = false := decide_eq_false (by omega)
              have b2 : decide (57 < x) = false := decide_eq_false (by omega)
              have e3 : IntKind.i64.wrap (10 * nn) = 10 * nn := IntWalk.i64_in _ (by omega)
              have e4 : IntKind.u8.wrap (x - 48) = x - 48 := by rw [IntKind.wrap_u8]; omega
              have e5 : IntKind.i64.wrap (x - 48) = x - 48 := IntWalk.i64_in _ (by omega)
              have e6 : IntKind.i64.wrap (10 * nn + (x - 48)) = 10 * nn + (x - 48) := IntWalk.i64_in _ (by omega)
              have HJ2 := Lib.hid (digJ_step HJ.out hlt HX.out hd1 hd2)
              go_wp2
              go_round
              case rel => exact ⟨k + 1, _, by omega, by go_num, rfl, HJ2.out⟩
              case measure => simp [intOf]; omega
            · have HN := Lib.hid (show wordS (c :: r) = none by rw [word_plain _ (by simpa using h45), if_neg (by simp; omega), digJ_bad HJ.out hlt HX.out (by omega)])
              have key : decide (x < 48) = true ∨ (decide (x < 48) = false ∧ decide (57 < x) = true) := by simp only [decide_eq_true_eq, decide_eq_false_iff_not]; omega
              clear hdig
              rcases key with b1 | ⟨b1, b2⟩
              all_goals
                go_wp2
                refine bodyPost_ret (v := .tuple #[.int .i64 0, .bool false]) ?_ rfl ?_
                · simp [results, Tryd.results44, go_sem]
                rw [HN.out]
                exact ⟨rfl, rfl⟩
          · obtain rfl : k = (c :: r).length := by omega
            clear hlt hk
            have bk : decide (((r.length + 1 : Nat) : Int) < (r.length : Int) + 1) = false := decide_eq_false (by omega)
            have HW := Lib.hid (show wordS (c :: r) = some nn by rw [word_plain _ (by simpa using h45), if_neg (by simp; omega), digJ_end HJ.out])
            go_wp2
            refine bodyPost_ret (v := .tuple #[.int .i64 nn, .bool true]) ?_ rfl ?_
            · simp [results, Tryd.results44, go_sem]
            rw [HW.out]
            exact ⟨rfl, rfl⟩
end Go.Proofs.YtkhlmgkapmofiaaDoor
