/- What a move leaves. -/
import Derived.Test.YtpgbbnmflnhlbaaXSNext
import Derived.Test.YtpgbbnmflnhlbaaXSPlan
import Derived.Laws.StructEq
import Derived.Test.YtpgbbnmflnhlbaaXVC
namespace Go.Proofs.Ytpgbbnmflnhlbaa
open Go.ChangeShapes Go.WideShapes Go.ChangeAt Go.RowKit

theorem can_home {I : Ins} {s : Sta} (hg : GoOn I s) : Can I s 0 ↔ CanHome I s 0 := ⟨can_zero, fun h => ⟨hg, .inr (.inr h)⟩⟩
theorem can_take {I : Ins} {s : Sta} {j : Int} (hg : GoOn I s) (hj : 1 ≤ j ∧ j ≤ I.p) : Can I s j ↔ CanTake I s j := by
  refine ⟨fun h => ?_, fun h => ⟨hg, .inl h⟩⟩
  rcases h.2 with h | h | h
  · exact h
  · have := h.1; omega
  · have := h.1; omega
theorem can_bring {I : Ins} {s : Sta} {j : Int} (hg : GoOn I s) (hj : I.p < j ∧ j ≤ 2 * I.p) : Can I s j ↔ CanBring I s j := by
  have := (fine_of hg.1).p0
  refine ⟨fun h => ?_, fun h => ⟨hg, .inr (.inl h)⟩⟩
  rcases h.2 with h | h | h
  · have := h.1; omega
  · exact h
  · have := h.1; omega
theorem can_never {I : Ins} {s : Sta} {j : Int} (hm : mayB I = true) (hj : j ≠ 0 ∧ ¬ (1 ≤ j ∧ j ≤ 2 * I.p)) : ¬ Can I s j := fun h => by
  have := (fine_of hm).p0
  have := can_rng h
  omega
theorem move_no {I : Ins} {s : Sta} {j : Int} (h : ¬ Can I s j) : moveS I s j = s ∧ moveC I s j = 0 ∧ decide (Can I s j) = false := ⟨if_neg h, if_neg h, decide_eq_false h⟩
theorem move_yes {I : Ins} {s : Sta} {j : Int} (h : Can I s j) : moveS I s j = nextS I s j ∧ moveC I s j = farS1 I s j ∧ decide (Can I s j) = true := ⟨if_pos h, if_pos h, decide_eq_true h⟩
theorem next_home {I : Ins} {s : Sta} : nextS I s 0 = homeS I s := if_pos rfl
theorem next_visit {I : Ins} {s : Sta} {j : Int} (h : j ≠ 0) : nextS I s j = visitS I s j := if_neg h
/-- The boxes of a call: the instance, the state, the answer's cells, and the struct that embeds both. -/
theorem boxes_move (w : World) (I : Ins) (v : Value) (s : Sta) : StB ((((w.alloc (boxI I v)).alloc (boxSt s)).alloc (boxSt noughtS)).alloc (boxH I v s)) (w.heap.size + 1) s ∧
    StB ((((w.alloc (boxI I v)).alloc (boxSt s)).alloc (boxSt noughtS)).alloc (boxH I v s)) (w.heap.size + 1 + 1) noughtS ∧
    HereB ((((w.alloc (boxI I v)).alloc (boxSt s)).alloc (boxSt noughtS)).alloc (boxH I v s)) (w.heap.size + 1 + 1 + 1) I v s ∧
    Below w.heap.size w ((((w.alloc (boxI I v)).alloc (boxSt s)).alloc (boxSt noughtS)).alloc (boxH I v s)) := by
  have h1 : (w.alloc (boxI I v)).heap.size = w.heap.size + 1 := by simp
  have h2 : ((w.alloc (boxI I v)).alloc (boxSt s)).heap.size = w.heap.size + 1 + 1 := by simp
  have h3 : (((w.alloc (boxI I v)).alloc (boxSt s)).alloc (boxSt noughtS)).heap.size = w.heap.size + 1 + 1 + 1 := by simp
  have a1 := st_new (w.alloc (boxI I v)) s
  have a2 := st_new ((w.alloc (boxI I v)).alloc (boxSt s)) noughtS
  have a3 := here_new (((w.alloc (boxI I v)).alloc (boxSt s)).alloc (boxSt noughtS)) I v s
  rw [h1] at a1
  rw [h2] at a2
  rw [h3] at a3
  refine ⟨(a1.later ((Below.refl _ _).alloc (Nat.le_refl _) _)).later ((Below.refl _ _).alloc (Nat.le_refl _) _), a2.later ((Below.refl _ _).alloc (Nat.le_refl _) _), a3, ?_⟩
  exact ((((Below.refl w.heap.size w).alloc (Nat.le_refl _) _).alloc (by rw [h1]; omega) _).alloc (by rw [h2]; omega) _).alloc (by rw [h3]; omega) _
/-- .. without the answer's cells. -/
theorem boxes_here (w : World) (I : Ins) (v : Value) (s : Sta) : YBox (((w.alloc (boxI I v)).alloc (boxSt s)).alloc (boxH I v s)) w.heap.size I v ∧ StB (((w.alloc (boxI I v)).alloc (boxSt s)).alloc (boxH I v s)) (w.heap.size + 1) s ∧
    HereB (((w.alloc (boxI I v)).alloc (boxSt s)).alloc (boxH I v s)) (w.heap.size + 1 + 1) I v s ∧ Below w.heap.size w (((w.alloc (boxI I v)).alloc (boxSt s)).alloc (boxH I v s)) := by
  have h1 : (w.alloc (boxI I v)).heap.size = w.heap.size + 1 := by simp
  have h2 : ((w.alloc (boxI I v)).alloc (boxSt s)).heap.size = w.heap.size + 1 + 1 := by simp
  have a1 := st_new (w.alloc (boxI I v)) s
  have a3 := here_new ((w.alloc (boxI I v)).alloc (boxSt s)) I v s
  rw [h1] at a1
  rw [h2] at a3
  refine ⟨((ybox_new w I v).later ((Below.refl _ _).alloc (Nat.le_refl _) _)).later ((Below.refl _ _).alloc (Nat.le_refl _) _), a1.later ((Below.refl _ _).alloc (Nat.le_refl _) _), a3, ?_⟩
  exact (((Below.refl w.heap.size w).alloc (Nat.le_refl _) _).alloc (by rw [h1]; omega) _).alloc (by rw [h2]; omega) _
set_option maxRecDepth 1000000 in
set_option maxHeartbeats 4000000 in
theorem smove_any {w : World} {v : Value} {I : Ins} {s : Sta} {j : Int} (hr : SRow w v I.l) (hs : SetsOk s) :
    Calls Try.prog 48 #[insV I v, staV s, .int .i64 j] w fun e w' => e = .returned (.tuple #[staV (moveS I s j), .int .i64 (moveC I s j), .bool (decide (Can I s j))]) ∧ Below w.heap.size w w' := by
  have HR := Lib.hid hr
  have HS := Lib.hid hs
  obtain ⟨ad, cap, rfl, _⟩ := hr.form
  clear hr hs
  unfold insV
  rw [show staV s = .agg #[.int .i64 s.pos, .int .i64 s.car, .int .i64 s.time, .int .i64 s.load, .int .i64 s.first, .int .u64 s.must, .int .u64 s.may, .int .u64 s.on] from rfl]
  go_enter Try.func48, Try.ntmps48
  go_wp2_with fail
  obtain ⟨b1, b2, b3, b4⟩ := boxes_move w I (.slice ad I.l.length cap) s
  have HT0 := Lib.hid b1
  have HX0 := Lib.hid b2
  have HC0 := Lib.hid b3
  have HB0 := Lib.hid b4
  clear b1 b2 b3 b4
  change Calls _ _ _ ((((w.alloc (boxI I (.slice ad I.l.length cap))).alloc (boxSt s)).alloc (boxSt noughtS)).alloc (boxH I (.slice ad I.l.length cap) s)) _
  generalize (((w.alloc (boxI I (.slice ad I.l.length cap))).alloc (boxSt s)).alloc (boxSt noughtS)).alloc (boxH I (.slice ad I.l.length cap) s) = W at *
  refine (goOn_any HC0.out (HR.out.below HB0.out)).mono ?_
  rintro e w1 ⟨rfl, hb⟩
  have HT1 := Lib.hid (HT0.out.later hb)
  have HX1 := Lib.hid (HX0.out.later hb)
  have HC1 := Lib.hid (HC0.out.later hb)
  have HB1 := Lib.hid (HB0.out.trans (hb.mono HB0.out.size))
  clear hb HT0 HX0 HC0 HB0
  by_cases hg : GoOn I s
  case' neg =>
    have HE := Lib.hid (move_no (I := I) (s := s) (j := j) (fun h => hg h.1))
    rw [decide_eq_false hg]
    clear hg
    have z0 := HT1.out.c0
    have z1 := HT1.out.c1
    have z2 := HT1.out.c2
    have z3 := HT1.out.c3
    have z4 := HT1.out.c4
    have z5 := HT1.out.c5
    have z6 := HT1.out.c6
    have z7 := HT1.out.c7
    go_wp2_with (refine wpList_store_state (by rfl) (.tmp 6) (.tmp 19) (by rfl) (w.heap.size + 1 + 1) _ s (by rfl) (by rfl) HX1.out ?_)
    clear z0 z1 z2 z3 z4 z5 z6 z7
    intro WE hE hbE
    have z0 := hE.c0
    have z1 := hE.c1
    have z2 := hE.c2
    have z3 := hE.c3
    have z4 := hE.c4
    have z5 := hE.c5
    have z6 := hE.c6
    have z7 := hE.c7
    go_wp2
    exact bodyPost_ret (v := .tuple #[staV s, .int .i64 0, .bool false]) (by simp [results, Try.results48, go_sem, z0, z1, z2, z3, z4, z5, z6, z7, staV]) rfl ⟨by rw [HE.out.1, HE.out.2.1, HE.out.2.2], HB1.out.trans (hbE _ (by omega))⟩
  rw [decide_eq_true hg]
  have HG := Lib.hid hg
  have HM := Lib.hid hg.1
  have hp0 := (fine_of hg.1).p0
  clear hg
  by_cases h0 : j = 0
  · subst h0
    have hj0 : 0 ≤ (0 : Int) ∧ (0 : Int) ≤ 2 * I.p := by omega
    have HJ := Lib.hid hj0
    clear hj0
    have HCE := Lib.hid (can_home HG.out)
    go_wp2_with fail
    refine (way_home rfl).mono ?_
    rintro e w2 ⟨rfl, hb⟩
    have HT2 := Lib.hid (HT1.out.later hb)
    have HX2 := Lib.hid (HX1.out.later hb)
    have HC2 := Lib.hid (HC1.out.later hb)
    have HB2 := Lib.hid (HB1.out.trans (hb.mono HB1.out.size))
    clear hb HT1 HX1 HC1 HB1
    unfold metV
    go_wp2_with fail
    refine (canReturn_any HC2.out (HR.out.below HB2.out) HG.out HS.out).mono ?_
    rintro e w3 ⟨rfl, hb⟩
    have HT3 := Lib.hid (HT2.out.later hb)
    have HX3 := Lib.hid (HX2.out.later hb)
    have HC3 := Lib.hid (HC2.out.later hb)
    have HB3 := Lib.hid (HB2.out.trans (hb.mono HB2.out.size))
    clear hb HT2 HX2 HC2 HB2
    by_cases hcan : Can I s 0
    case' neg =>
      have HE := Lib.hid (move_no hcan)
      rw [decide_eq_false (fun h => hcan (HCE.out.2 h))]
      clear hcan
      have z0 := HT3.out.c0
      have z1 := HT3.out.c1
      have z2 := HT3.out.c2
      have z3 := HT3.out.c3
      have z4 := HT3.out.c4
      have z5 := HT3.out.c5
      have z6 := HT3.out.c6
      have z7 := HT3.out.c7
      go_wp2_with (refine wpList_store_state (by rfl) (.tmp 6) (.tmp 30) (by rfl) (w.heap.size + 1 + 1) _ s (by rfl) (by rfl) HX3.out ?_)
      clear z0 z1 z2 z3 z4 z5 z6 z7
      intro WE hE hbE
      have z0 := hE.c0
      have z1 := hE.c1
      have z2 := hE.c2
      have z3 := hE.c3
      have z4 := hE.c4
      have z5 := hE.c5
      have z6 := hE.c6
      have z7 := hE.c7
      go_wp2
      exact bodyPost_ret (v := .tuple #[staV s, .int .i64 0, .bool false]) (by simp [results, Try.results48, go_sem, z0, z1, z2, z3, z4, z5, z6, z7, staV]) rfl ⟨by rw [HE.out.1, HE.out.2.1, HE.out.2.2], HB3.out.trans (hbE _ (by omega))⟩
    have HE := Lib.hid (move_yes hcan)
    have HCan := Lib.hid (HCE.out.1 hcan)
    have HNX := Lib.hid (next_home (I := I) (s := s))
    rw [decide_eq_true HCan.out]
    clear hcan
    go_wp2_with fail
    refine (returned_any HC3.out (HR.out.below HB3.out) HG.out).mono ?_
    rintro e w4 ⟨rfl, hb⟩
    have HT4 := Lib.hid (HT3.out.later hb)
    have HX4 := Lib.hid (HX3.out.later hb)
    have HC4 := Lib.hid (HC3.out.later hb)
    have HB4 := Lib.hid (HB3.out.trans (hb.mono HB3.out.size))
    clear hb HT3 HX3 HC3 HB3
    go_wp2_with fail
    refine (hfarTo_any HC4.out (HR.out.below HB4.out) HM.out HG.out.2.1 (HJ.out)).mono ?_
    rintro e w5 ⟨rfl, hb⟩
    have HT5 := Lib.hid (HT4.out.later hb)
    have HX5 := Lib.hid (HX4.out.later hb)
    have HC5 := Lib.hid (HC4.out.later hb)
    have HB5 := Lib.hid (HB4.out.trans (hb.mono HB4.out.size))
    clear hb HT4 HX4 HC4 HB4
    go_wp2_with (refine wpList_store_state (by rfl) (.tmp 6) (.tmp 33) (by rfl) (w.heap.size + 1 + 1) _ (homeS I s) (by rfl) (by rfl) HX5.out ?_)
    intro WE hE hbE
    have z0 := hE.c0
    have z1 := hE.c1
    have z2 := hE.c2
    have z3 := hE.c3
    have z4 := hE.c4
    have z5 := hE.c5
    have z6 := hE.c6
    have z7 := hE.c7
    go_wp2
    exact bodyPost_ret (v := .tuple #[staV (homeS I s), .int .i64 (farS1 I s 0), .bool true]) (by simp [results, Try.results48, go_sem, z0, z1, z2, z3, z4, z5, z6, z7, staV]) rfl ⟨by rw [HE.out.1, HE.out.2.1, HE.out.2.2, HNX.out], HB5.out.trans (hbE _ (by omega))⟩
  by_cases h1 : 1 ≤ j ∧ j ≤ I.p
  · have HJ1 := Lib.hid h1
    have HJ := Lib.hid (show 0 ≤ j ∧ j ≤ 2 * I.p by omega)
    have HJ0 := Lib.hid h0
    clear h0 h1
    have HCE := Lib.hid (can_take HG.out HJ1.out)
    go_wp2_with fail
    refine (way_take HC1.out HJ1.out).mono ?_
    rintro e w2 ⟨rfl, hb⟩
    have HT2 := Lib.hid (HT1.out.later hb)
    have HX2 := Lib.hid (HX1.out.later hb)
    have HC2 := Lib.hid (HC1.out.later hb)
    have HB2 := Lib.hid (HB1.out.trans (hb.mono HB1.out.size))
    clear hb HT1 HX1 HC1 HB1
    unfold metV
    go_wp2_with fail
    refine (canTake_any HC2.out (HR.out.below HB2.out) HG.out HS.out HJ1.out).mono ?_
    rintro e w3 ⟨rfl, hb⟩
    have HT3 := Lib.hid (HT2.out.later hb)
    have HX3 := Lib.hid (HX2.out.later hb)
    have HC3 := Lib.hid (HC2.out.later hb)
    have HB3 := Lib.hid (HB2.out.trans (hb.mono HB2.out.size))
    clear hb HT2 HX2 HC2 HB2
    by_cases hcan : Can I s j
    case' neg =>
      have HE := Lib.hid (move_no hcan)
      rw [decide_eq_false (fun h => hcan (HCE.out.2 h))]
      clear hcan
      have z0 := HT3.out.c0
      have z1 := HT3.out.c1
      have z2 := HT3.out.c2
      have z3 := HT3.out.c3
      have z4 := HT3.out.c4
      have z5 := HT3.out.c5
      have z6 := HT3.out.c6
      have z7 := HT3.out.c7
      go_wp2_with (refine wpList_store_state (by rfl) (.tmp 6) (.tmp 30) (by rfl) (w.heap.size + 1 + 1) _ s (by rfl) (by rfl) HX3.out ?_)
      clear z0 z1 z2 z3 z4 z5 z6 z7
      intro WE hE hbE
      have z0 := hE.c0
      have z1 := hE.c1
      have z2 := hE.c2
      have z3 := hE.c3
      have z4 := hE.c4
      have z5 := hE.c5
      have z6 := hE.c6
      have z7 := hE.c7
      go_wp2
      exact bodyPost_ret (v := .tuple #[staV s, .int .i64 0, .bool false]) (by simp [results, Try.results48, go_sem, z0, z1, z2, z3, z4, z5, z6, z7, staV]) rfl ⟨by rw [HE.out.1, HE.out.2.1, HE.out.2.2], HB3.out.trans (hbE _ (by omega))⟩
    have HE := Lib.hid (move_yes hcan)
    have HCan := Lib.hid (HCE.out.1 hcan)
    have HNX := Lib.hid (next_visit (I := I) (s := s) HJ0.out)
    rw [decide_eq_true HCan.out]
    clear hcan
    go_wp2_with fail
    refine (taken_any HC3.out (HR.out.below HB3.out) HG.out HS.out HJ1.out (goOn_bd HG.out).2.2.2.1).mono ?_
    rintro e w4 ⟨rfl, hb⟩
    have HT4 := Lib.hid (HT3.out.later hb)
    have HX4 := Lib.hid (HX3.out.later hb)
    have HC4 := Lib.hid (HC3.out.later hb)
    have HB4 := Lib.hid (HB3.out.trans (hb.mono HB3.out.size))
    clear hb HT3 HX3 HC3 HB3
    go_wp2_with fail
    refine (hfarTo_any HC4.out (HR.out.below HB4.out) HM.out HG.out.2.1 (HJ.out)).mono ?_
    rintro e w5 ⟨rfl, hb⟩
    have HT5 := Lib.hid (HT4.out.later hb)
    have HX5 := Lib.hid (HX4.out.later hb)
    have HC5 := Lib.hid (HC4.out.later hb)
    have HB5 := Lib.hid (HB4.out.trans (hb.mono HB4.out.size))
    clear hb HT4 HX4 HC4 HB4
    go_wp2_with (refine wpList_store_state (by rfl) (.tmp 6) (.tmp 33) (by rfl) (w.heap.size + 1 + 1) _ (visitS I s j) (by rfl) (by rfl) HX5.out ?_)
    intro WE hE hbE
    have z0 := hE.c0
    have z1 := hE.c1
    have z2 := hE.c2
    have z3 := hE.c3
    have z4 := hE.c4
    have z5 := hE.c5
    have z6 := hE.c6
    have z7 := hE.c7
    go_wp2
    exact bodyPost_ret (v := .tuple #[staV (visitS I s j), .int .i64 (farS1 I s j), .bool true]) (by simp [results, Try.results48, go_sem, z0, z1, z2, z3, z4, z5, z6, z7, staV]) rfl ⟨by rw [HE.out.1, HE.out.2.1, HE.out.2.2, HNX.out], HB5.out.trans (hbE _ (by omega))⟩
  by_cases h2 : I.p < j ∧ j ≤ 2 * I.p
  · have HJ2 := Lib.hid h2
    have HJ := Lib.hid (show 0 ≤ j ∧ j ≤ 2 * I.p by omega)
    have HJ0 := Lib.hid h0
    clear h0 h1 h2
    have HCE := Lib.hid (can_bring HG.out HJ2.out)
    go_wp2_with fail
    refine (way_bring HC1.out HM.out HJ2.out).mono ?_
    rintro e w2 ⟨rfl, hb⟩
    have HT2 := Lib.hid (HT1.out.later hb)
    have HX2 := Lib.hid (HX1.out.later hb)
    have HC2 := Lib.hid (HC1.out.later hb)
    have HB2 := Lib.hid (HB1.out.trans (hb.mono HB1.out.size))
    clear hb HT1 HX1 HC1 HB1
    unfold metV
    go_wp2_with fail
    refine (canBring_any HC2.out (HR.out.below HB2.out) HG.out HS.out HJ2.out).mono ?_
    rintro e w3 ⟨rfl, hb⟩
    have HT3 := Lib.hid (HT2.out.later hb)
    have HX3 := Lib.hid (HX2.out.later hb)
    have HC3 := Lib.hid (HC2.out.later hb)
    have HB3 := Lib.hid (HB2.out.trans (hb.mono HB2.out.size))
    clear hb HT2 HX2 HC2 HB2
    by_cases hcan : Can I s j
    case' neg =>
      have HE := Lib.hid (move_no hcan)
      rw [decide_eq_false (fun h => hcan (HCE.out.2 h))]
      clear hcan
      have z0 := HT3.out.c0
      have z1 := HT3.out.c1
      have z2 := HT3.out.c2
      have z3 := HT3.out.c3
      have z4 := HT3.out.c4
      have z5 := HT3.out.c5
      have z6 := HT3.out.c6
      have z7 := HT3.out.c7
      go_wp2_with (refine wpList_store_state (by rfl) (.tmp 6) (.tmp 30) (by rfl) (w.heap.size + 1 + 1) _ s (by rfl) (by rfl) HX3.out ?_)
      clear z0 z1 z2 z3 z4 z5 z6 z7
      intro WE hE hbE
      have z0 := hE.c0
      have z1 := hE.c1
      have z2 := hE.c2
      have z3 := hE.c3
      have z4 := hE.c4
      have z5 := hE.c5
      have z6 := hE.c6
      have z7 := hE.c7
      go_wp2
      exact bodyPost_ret (v := .tuple #[staV s, .int .i64 0, .bool false]) (by simp [results, Try.results48, go_sem, z0, z1, z2, z3, z4, z5, z6, z7, staV]) rfl ⟨by rw [HE.out.1, HE.out.2.1, HE.out.2.2], HB3.out.trans (hbE _ (by omega))⟩
    have HE := Lib.hid (move_yes hcan)
    have HCan := Lib.hid (HCE.out.1 hcan)
    have HNX := Lib.hid (next_visit (I := I) (s := s) HJ0.out)
    rw [decide_eq_true HCan.out]
    clear hcan
    go_wp2_with fail
    refine (brought_any HC3.out (HR.out.below HB3.out) HG.out HS.out HJ2.out HCan.out.2.1).mono ?_
    rintro e w4 ⟨rfl, hb⟩
    have HT4 := Lib.hid (HT3.out.later hb)
    have HX4 := Lib.hid (HX3.out.later hb)
    have HC4 := Lib.hid (HC3.out.later hb)
    have HB4 := Lib.hid (HB3.out.trans (hb.mono HB3.out.size))
    clear hb HT3 HX3 HC3 HB3
    go_wp2_with fail
    refine (hfarTo_any HC4.out (HR.out.below HB4.out) HM.out HG.out.2.1 (HJ.out)).mono ?_
    rintro e w5 ⟨rfl, hb⟩
    have HT5 := Lib.hid (HT4.out.later hb)
    have HX5 := Lib.hid (HX4.out.later hb)
    have HC5 := Lib.hid (HC4.out.later hb)
    have HB5 := Lib.hid (HB4.out.trans (hb.mono HB4.out.size))
    clear hb HT4 HX4 HC4 HB4
    go_wp2_with (refine wpList_store_state (by rfl) (.tmp 6) (.tmp 33) (by rfl) (w.heap.size + 1 + 1) _ (visitS I s j) (by rfl) (by rfl) HX5.out ?_)
    intro WE hE hbE
    have z0 := hE.c0
    have z1 := hE.c1
    have z2 := hE.c2
    have z3 := hE.c3
    have z4 := hE.c4
    have z5 := hE.c5
    have z6 := hE.c6
    have z7 := hE.c7
    go_wp2
    exact bodyPost_ret (v := .tuple #[staV (visitS I s j), .int .i64 (farS1 I s j), .bool true]) (by simp [results, Try.results48, go_sem, z0, z1, z2, z3, z4, z5, z6, z7, staV]) rfl ⟨by rw [HE.out.1, HE.out.2.1, HE.out.2.2, HNX.out], HB5.out.trans (hbE _ (by omega))⟩
  have HJ := Lib.hid (show j ≠ 0 ∧ ¬ (1 ≤ j ∧ j ≤ 2 * I.p) by omega)
  have HE := Lib.hid (move_no (I := I) (s := s) (can_never HM.out HJ.out))
  clear h0 h1 h2
  go_wp2_with fail
  refine (way_never HC1.out HM.out HJ.out).mono ?_
  rintro e w2 ⟨rfl, hb⟩
  have HT2 := Lib.hid (HT1.out.later hb)
  have HX2 := Lib.hid (HX1.out.later hb)
  have HC2 := Lib.hid (HC1.out.later hb)
  have HB2 := Lib.hid (HB1.out.trans (hb.mono HB1.out.size))
  clear hb HT1 HX1 HC1 HB1
  unfold metV
  go_wp2_with fail
  refine (never_any).mono ?_
  rintro e w3 ⟨rfl, rfl⟩
  have z0 := HT2.out.c0
  have z1 := HT2.out.c1
  have z2 := HT2.out.c2
  have z3 := HT2.out.c3
  have z4 := HT2.out.c4
  have z5 := HT2.out.c5
  have z6 := HT2.out.c6
  have z7 := HT2.out.c7
  go_wp2_with (refine wpList_store_state (by rfl) (.tmp 6) (.tmp 30) (by rfl) (w.heap.size + 1 + 1) _ s (by rfl) (by rfl) HX2.out ?_)
  clear z0 z1 z2 z3 z4 z5 z6 z7
  intro WE hE hbE
  have z0 := hE.c0
  have z1 := hE.c1
  have z2 := hE.c2
  have z3 := hE.c3
  have z4 := hE.c4
  have z5 := hE.c5
  have z6 := hE.c6
  have z7 := hE.c7
  go_wp2
  exact bodyPost_ret (v := .tuple #[staV s, .int .i64 0, .bool false]) (by simp [results, Try.results48, go_sem, z0, z1, z2, z3, z4, z5, z6, z7, staV]) rfl ⟨by rw [HE.out.1, HE.out.2.1, HE.out.2.2], HB2.out.trans (hbE _ (by omega))⟩
end Go.Proofs.Ytpgbbnmflnhlbaa
/- All moves. -/
namespace Go.Proofs.Ytpgbbnmflnhlbaa
open Go.ChangeShapes Go.WideShapes Go.ChangeAt Go.RowKit

theorem moves_none {I : Ins} {s : Sta} (h : ¬ GoOn I s) : movesS I s = [] := by
  unfold movesS movesN
  rw [List.filter_eq_nil_iff]
  intro j _
  simp only [decide_eq_true_eq]
  exact fun hc => h hc.1
set_option maxRecDepth 1000000 in
set_option maxHeartbeats 4000000 in
theorem smoves_any {w : World} {v : Value} {I : Ins} {s : Sta} (hr : SRow w v I.l) (hs : SetsOk s) :
    Calls Try.prog 52 #[insV I v, staV s] w fun e w' => ∃ u, e = .returned u ∧ OwnI w' w.heap.size u (movesS I s) ∧ Below w.heap.size w w' := by
  have HR := Lib.hid hr
  have HS := Lib.hid hs
  obtain ⟨ad, cap, rfl, hlm, _⟩ := hr.form
  clear hr hs
  unfold insV
  rw [show staV s = .agg #[.int .i64 s.pos, .int .i64 s.car, .int .i64 s.time, .int .i64 s.load, .int .i64 s.first, .int .u64 s.must, .int .u64 s.may, .int .u64 s.on] from rfl]
  go_enter Try.func52, Try.ntmps52
  go_wp2_with fail
  obtain ⟨_, _, b3, b4⟩ := boxes_here w I (.slice ad I.l.length cap) s
  have HC0 := Lib.hid b3
  have HB0 := Lib.hid b4
  clear b3 b4
  change Calls _ _ _ (((w.alloc (boxI I (.slice ad I.l.length cap))).alloc (boxSt s)).alloc (boxH I (.slice ad I.l.length cap) s)) _
  generalize ((w.alloc (boxI I (.slice ad I.l.length cap))).alloc (boxSt s)).alloc (boxH I (.slice ad I.l.length cap) s) = W at *
  refine (goOn_any HC0.out (HR.out.below HB0.out)).mono ?_
  rintro e w1 ⟨rfl, hb⟩
  have HC1 := Lib.hid (HC0.out.later hb)
  have HB1 := Lib.hid (HB0.out.trans (hb.mono HB0.out.size))
  clear hb HC0 HB0
  by_cases hg : GoOn I s
  case' neg =>
    have HE := Lib.hid (moves_none hg)
    rw [decide_eq_false hg]
    clear hg
    go_wp2
    go_ret
    exact ⟨_, rfl, by rw [HE.out]; exact ownI_nil _ _, HB1.out⟩
  rw [decide_eq_true hg]
  have HG := Lib.hid hg
  have HM := Lib.hid hg.1
  have hf := fine_of hg.1
  have hp0 := hf.p0
  have hp1 := hf.p1
  have hlen := hf.len
  have HALL := Lib.hid (movesN_all (I := I) (s := s) (n := I.l.length) (by omega))
  have HR1 := Lib.hid (HR.out.below HB1.out)
  have q3 := HC1.out.c3
  clear hg hf
  go_wp2_with fail
  clear q3
  go_loopw [6, 23] (fun u i wr => ∃ k : Nat, k ≤ I.l.length ∧ i = .int .i64 k ∧ OwnI wr w1.heap.size u (movesN I s k) ∧ Below w1.heap.size w1 wr) (fun _ i _ => I.l.length - (intOf i).toNat)
  case atStart => exact ⟨0, Nat.zero_le _, rfl, ownI_nil _ _, Below.refl _ _⟩
  case round =>
    obtain ⟨k, hk, rfl, hu, hbw⟩ := hrel
    have HU2 := Lib.hid hu
    have HC2 := Lib.hid (HC1.out.later hbw)
    have HB2 := Lib.hid hbw
    clear hu hbw
    by_cases hltk : k < I.l.length
    · have hki : (k : Int) < (I.l.length : Int) := by omega
      have hkc : (k : Int) ≤ 2 * I.p := by omega
      have HKL := Lib.hid hltk
      clear hk
      by_cases h0 : k = 0
      · have HK0 := Lib.hid (show (k : Int) = 0 by omega)
        clear h0
        have HCE := Lib.hid (show Can I s k ↔ CanHome I s 0 by rw [HK0.out]; exact can_home HG.out)
        clear hkc
        go_wp2_with fail
        refine (way_home HK0.out).mono ?_
        rintro e w3 ⟨rfl, hb⟩
        have HC3 := Lib.hid (HC2.out.later hb)
        have HU3 := Lib.hid (HU2.out.below hb)
        have HB3 := Lib.hid (HB2.out.trans (hb.mono HB2.out.size))
        clear hb HC2 HU2 HB2
        unfold metV
        go_wp2_with fail
        refine (canReturn_any HC3.out (HR1.out.below HB3.out) HG.out HS.out).mono ?_
        rintro e w4 ⟨rfl, hb⟩
        have HC4 := Lib.hid (HC3.out.later hb)
        have HU4 := Lib.hid (HU3.out.below hb)
        have HB4 := Lib.hid (HB3.out.trans (hb.mono HB3.out.size))
        clear hb HC3 HU3 HB3
        by_cases hcan : Can I s k
        · have HE := Lib.hid (show movesN I s (k + 1) = movesN I s k ++ [(k : Int)] by rw [movesN_succ, if_pos hcan])
          rw [decide_eq_true (HCE.out.1 hcan)]
          clear hcan
          have hml := movesN_len I s k
          generalize movesN I s k = L at *
          obtain ⟨ua, uc, rfl⟩ := HU4.out.shape
          go_wp2_with (first | (at_builtin; refine app_ints rfl _ _ rfl w1.heap.size _ L rfl (HU4.out.alloc _) _ [(k : Int)] rfl (row_newi _ _) (by simp; omega) (by have := HB4.out.size; simp; omega) ?_))
          intro v' w' hown hgrow _
          have HN := Lib.hid hown
          have HBN := Lib.hid (HB4.out.trans (grown_below (grown_alloc hgrow) HB4.out.size (fun q hq => (World.ownsRow.lt HU4.out q hq).1)))
          clear hown hgrow hml
          go_wp2
          go_roundw
          case rel => exact ⟨k + 1, by have := HKL.out; omega, by go_num, by rw [HE.out]; exact HN.out, HBN.out⟩
          case measure => have := HKL.out; simp [intOf]; omega
        · have HE := Lib.hid (show movesN I s (k + 1) = movesN I s k by rw [movesN_succ, if_neg hcan])
          rw [decide_eq_false (fun h => hcan (HCE.out.2 h))]
          clear hcan
          go_wp2
          go_roundw
          case rel => exact ⟨k + 1, by have := HKL.out; omega, by go_num, by rw [HE.out]; exact HU4.out, HB4.out⟩
          case measure => have := HKL.out; simp [intOf]; omega
      by_cases h1 : (k : Int) ≤ I.p
      · have HJ1 := Lib.hid (show 1 ≤ (k : Int) ∧ (k : Int) ≤ I.p by omega)
        clear h0 h1
        have HCE := Lib.hid (can_take HG.out HJ1.out)
        clear hkc
        go_wp2_with fail
        refine (way_take HC2.out HJ1.out).mono ?_
        rintro e w3 ⟨rfl, hb⟩
        have HC3 := Lib.hid (HC2.out.later hb)
        have HU3 := Lib.hid (HU2.out.below hb)
        have HB3 := Lib.hid (HB2.out.trans (hb.mono HB2.out.size))
        clear hb HC2 HU2 HB2
        unfold metV
        go_wp2_with fail
        refine (canTake_any HC3.out (HR1.out.below HB3.out) HG.out HS.out HJ1.out).mono ?_
        rintro e w4 ⟨rfl, hb⟩
        have HC4 := Lib.hid (HC3.out.later hb)
        have HU4 := Lib.hid (HU3.out.below hb)
        have HB4 := Lib.hid (HB3.out.trans (hb.mono HB3.out.size))
        clear hb HC3 HU3 HB3
        by_cases hcan : Can I s k
        · have HE := Lib.hid (show movesN I s (k + 1) = movesN I s k ++ [(k : Int)] by rw [movesN_succ, if_pos hcan])
          rw [decide_eq_true (HCE.out.1 hcan)]
          clear hcan
          have hml := movesN_len I s k
          generalize movesN I s k = L at *
          obtain ⟨ua, uc, rfl⟩ := HU4.out.shape
          go_wp2_with (first | (at_builtin; refine app_ints rfl _ _ rfl w1.heap.size _ L rfl (HU4.out.alloc _) _ [(k : Int)] rfl (row_newi _ _) (by simp; omega) (by have := HB4.out.size; simp; omega) ?_))
          intro v' w' hown hgrow _
          have HN := Lib.hid hown
          have HBN := Lib.hid (HB4.out.trans (grown_below (grown_alloc hgrow) HB4.out.size (fun q hq => (World.ownsRow.lt HU4.out q hq).1)))
          clear hown hgrow hml
          go_wp2
          go_roundw
          case rel => exact ⟨k + 1, by have := HKL.out; omega, by go_num, by rw [HE.out]; exact HN.out, HBN.out⟩
          case measure => have := HKL.out; simp [intOf]; omega
        · have HE := Lib.hid (show movesN I s (k + 1) = movesN I s k by rw [movesN_succ, if_neg hcan])
          rw [decide_eq_false (fun h => hcan (HCE.out.2 h))]
          clear hcan
          go_wp2
          go_roundw
          case rel => exact ⟨k + 1, by have := HKL.out; omega, by go_num, by rw [HE.out]; exact HU4.out, HB4.out⟩
          case measure => have := HKL.out; simp [intOf]; omega
      have HJ2 := Lib.hid (show I.p < (k : Int) ∧ (k : Int) ≤ 2 * I.p by omega)
      clear h0 h1
      have HCE := Lib.hid (can_bring HG.out HJ2.out)
      clear hkc
      go_wp2_with fail
      refine (way_bring HC2.out HM.out HJ2.out).mono ?_
      rintro e w3 ⟨rfl, hb⟩
      have HC3 := Lib.hid (HC2.out.later hb)
      have HU3 := Lib.hid (HU2.out.below hb)
      have HB3 := Lib.hid (HB2.out.trans (hb.mono HB2.out.size))
      clear hb HC2 HU2 HB2
      unfold metV
      go_wp2_with fail
      refine (canBring_any HC3.out (HR1.out.below HB3.out) HG.out HS.out HJ2.out).mono ?_
      rintro e w4 ⟨rfl, hb⟩
      have HC4 := Lib.hid (HC3.out.later hb)
      have HU4 := Lib.hid (HU3.out.below hb)
      have HB4 := Lib.hid (HB3.out.trans (hb.mono HB3.out.size))
      clear hb HC3 HU3 HB3
      by_cases hcan : Can I s k
      · have HE := Lib.hid (show movesN I s (k + 1) = movesN I s k ++ [(k : Int)] by rw [movesN_succ, if_pos hcan])
        rw [decide_eq_true (HCE.out.1 hcan)]
        clear hcan
        have hml := movesN_len I s k
        generalize movesN I s k = L at *
        obtain ⟨ua, uc, rfl⟩ := HU4.out.shape
        go_wp2_with (first | (at_builtin; refine app_ints rfl _ _ rfl w1.heap.size _ L rfl (HU4.out.alloc _) _ [(k : Int)] rfl (row_newi _ _) (by simp; omega) (by have := HB4.out.size; simp; omega) ?_))
        intro v' w' hown hgrow _
        have HN := Lib.hid hown
        have HBN := Lib.hid (HB4.out.trans (grown_below (grown_alloc hgrow) HB4.out.size (fun q hq => (World.ownsRow.lt HU4.out q hq).1)))
        clear hown hgrow hml
        go_wp2
        go_roundw
        case rel => exact ⟨k + 1, by have := HKL.out; omega, by go_num, by rw [HE.out]; exact HN.out, HBN.out⟩
        case measure => have := HKL.out; simp [intOf]; omega
      · have HE := Lib.hid (show movesN I s (k + 1) = movesN I s k by rw [movesN_succ, if_neg hcan])
        rw [decide_eq_false (fun h => hcan (HCE.out.2 h))]
        clear hcan
        go_wp2
        go_roundw
        case rel => exact ⟨k + 1, by have := HKL.out; omega, by go_num, by rw [HE.out]; exact HU4.out, HB4.out⟩
        case measure => have := HKL.out; simp [intOf]; omega
    · obtain rfl : k = I.l.length := by omega
      clear hltk hk
      go_wp2
      go_ret
      exact ⟨_, rfl, by rw [← HALL.out]; exact HU2.out.less HB1.out.size, HB1.out.trans (HB2.out.mono HB1.out.size)⟩
end Go.Proofs.Ytpgbbnmflnhlbaa
/- Where a state can be ended, and what it costs. -/
namespace Go.Proofs.Ytpgbbnmflnhlbaa
open Go.ChangeShapes Go.WideShapes Go.ChangeAt Go.RowKit

theorem Sta.eq_iff (a b : Sta) : (a.pos = b.pos ∧ a.car = b.car ∧ a.time = b.time ∧ a.load = b.load ∧ a.first = b.first ∧ a.must = b.must ∧ a.may = b.may ∧ a.on = b.on) ↔ a = b := by
  obtain ⟨⟩ := a
  obtain ⟨⟩ := b
  simp
theorem guardSta : Try.prog.eqGuardType Try.prog.depth 55 = false := by kernel_rfl
set_option maxRecDepth 1000000 in
set_option maxHeartbeats 4000000 in
theorem equalSta (a b : Sta) (w : World) : (Op.equalIn 10000 55 (.agg #[.int .i64 a.pos, .int .i64 a.car, .int .i64 a.time, .int .i64 a.load, .int .i64 a.first, .int .u64 a.must, .int .u64 a.may, .int .u64 a.on]) (.agg #[.int .i64 b.pos, .int .i64 b.car, .int .i64 b.time, .int .i64 b.load, .int .i64 b.first, .int .u64 b.must, .int .u64 b.may, .int .u64 b.on])).run Try.prog w = .ok (decide (a = b)) w := by
  have u3 := Try.underlying3
  have u4 := Try.underlying53
  have hS : Try.prog.underlying 55 = some (.struct (Try.prog.fieldsOf 55)) := by kernel_rfl
  rw [show (10000 : Nat) = 9999 + 1 from rfl, run_equalIn_agg w 9999 55 _ _ hS (by kernel_rfl)]
  simp only [Program.fieldsOf, Try.underlying55]
  have e : decide (a = b) = decide (a.pos = b.pos ∧ a.car = b.car ∧ a.time = b.time ∧ a.load = b.load ∧ a.first = b.first ∧ a.must = b.must ∧ a.may = b.may ∧ a.on = b.on) := decide_eq_decide.2 (Sta.eq_iff a b).symm
  rw [e]
  go_simp
  simp only [Int.natCast_inj]
  by_cases h0 : a.pos = b.pos
  case' neg => (rw [if_neg h0, decide_eq_false h0]; rfl)
  rw [if_pos h0, decide_eq_true h0, Bool.true_and]
  by_cases h1 : a.car = b.car
  case' neg => (rw [if_neg h1, decide_eq_false h1]; rfl)
  rw [if_pos h1, decide_eq_true h1, Bool.true_and]
  by_cases h2 : a.time = b.time
  case' neg => (rw [if_neg h2, decide_eq_false h2]; rfl)
  rw [if_pos h2, decide_eq_true h2, Bool.true_and]
  by_cases h3 : a.load = b.load
  case' neg => (rw [if_neg h3, decide_eq_false h3]; rfl)
  rw [if_pos h3, decide_eq_true h3, Bool.true_and]
  by_cases h4 : a.first = b.first
  case' neg => (rw [if_neg h4, decide_eq_false h4]; rfl)
  rw [if_pos h4, decide_eq_true h4, Bool.true_and]
  by_cases h5 : a.must = b.must
  case' neg => (rw [if_neg h5, decide_eq_false h5]; rfl)
  rw [if_pos h5, decide_eq_true h5, Bool.true_and]
  by_cases h6 : a.may = b.may
  case' neg => (rw [if_neg h6, decide_eq_false h6]; rfl)
  rw [if_pos h6, decide_eq_true h6, Bool.true_and]
  by_cases h7 : a.on = b.on
  case' neg => (rw [if_neg h7, decide_eq_false h7])
  rw [if_pos h7, decide_eq_true h7]
def FirstS (I : Ins) (s : Sta) : Prop := mayB I = true ∧ I.p = 0 ∧ s = rootS I
instance (I : Ins) (s : Sta) : Decidable (FirstS I s) := by unfold FirstS; infer_instance
def BackE (I : Ins) (s : Sta) : Prop := GoOn I s ∧ BackB I s ∧ within (allS I) s.may = true
instance (I : Ins) (s : Sta) : Decidable (BackE I s) := by unfold BackE; infer_instance
theorem end_iff (I : Ins) (s : Sta) : EndS I s ↔ FirstS I s ∨ BackE I s := by
  unfold EndS FirstS BackE BackB
  exact ⟨fun h => h.elim .inl (fun ⟨a, b, c, d, e⟩ => .inr ⟨a, ⟨b, c, e⟩, d⟩), fun h => h.elim .inl (fun ⟨a, ⟨b, c, e⟩, d⟩ => .inr ⟨a, b, c, d, e⟩)⟩
theorem end_first {I : Ins} {s : Sta} (h : FirstS I s) : endC I s = 0 ∧ decide (EndS I s) = true := by
  have he := (end_iff I s).2 (.inl h)
  refine ⟨?_, decide_eq_true he⟩
  rw [endC_is he, h.2.2, root_may h.1]
  exact farF_self _
theorem end_no {I : Ins} {s : Sta} (h1 : ¬ FirstS I s) (h2 : ¬ BackE I s) : endC I s = 0 ∧ decide (EndS I s) = false := by
  have he : ¬ EndS I s := fun h => ((end_iff I s).1 h).elim h1 h2
  exact ⟨endC_none he, decide_eq_false he⟩
theorem end_back {I : Ins} {s : Sta} (h2 : BackE I s) : endC I s = farS1 I s 0 ∧ decide (EndS I s) = true := by
  have he := (end_iff I s).2 (.inr h2)
  exact ⟨endC_is he, decide_eq_true he⟩
theorem back_within {I : Ins} {s : Sta} (hg : GoOn I s) : (decide (BackB I s) && within (allS I) s.may) = decide (BackE I s) := by
  rw [Bool.eq_iff_iff]
  simp only [Bool.and_eq_true, decide_eq_true_eq]
  exact ⟨fun ⟨a, b⟩ => ⟨hg, a, b⟩, fun ⟨_, a, b⟩ => ⟨a, b⟩⟩
set_option maxRecDepth 1000000 in
set_option maxHeartbeats 4000000 in
theorem send_any {w : World} {v : Value} {I : Ins} {s : Sta} (hr : SRow w v I.l) (hs : SetsOk s) :
    Calls Try.prog 50 #[insV I v, staV s] w fun e w' => e = .returned (.tuple #[.int .i64 (endC I s), .bool (decide (EndS I s))]) ∧ Below w.heap.size w w' := by
  have HR := Lib.hid hr
  have HS := Lib.hid hs
  obtain ⟨ad, cap, rfl, _⟩ := hr.form
  clear hr hs
  unfold insV
  rw [show staV s = .agg #[.int .i64 s.pos, .int .i64 s.car, .int .i64 s.time, .int .i64 s.load, .int .i64 s.first, .int .u64 s.must, .int .u64 s.may, .int .u64 s.on] from rfl]
  go_enter Try.func50, Try.ntmps50
  go_wp2_with fail
  obtain ⟨b1, b2, b3, b4⟩ := boxes_here w I (.slice ad I.l.length cap) s
  have HY0 := Lib.hid b1
  have HT0 := Lib.hid b2
  have HC0 := Lib.hid b3
  have HB0 := Lib.hid b4
  clear b1 b2 b3 b4
  change Code.wp _ _ _ _ (((w.alloc (boxI I (.slice ad I.l.length cap))).alloc (boxSt s)).alloc (boxH I (.slice ad I.l.length cap) s))
  generalize ((w.alloc (boxI I (.slice ad I.l.length cap))).alloc (boxSt s)).alloc (boxH I (.slice ad I.l.length cap) s) = W at *
  go_cut [11] from 12 (fun c wx => c = .bool (decide (FirstS I s)) ∧ HereB wx (w.heap.size + 1 + 1) I (.slice ad I.l.length cap) s ∧ Below w.heap.size w wx)
  case first =>
    have HYd := Lib.hid (HY0.out.later (Below.refl _ _).drew)
    have HTd := Lib.hid (HT0.out.later (Below.refl _ _).drew)
    have HCd := Lib.hid (HC0.out.later (Below.refl _ _).drew)
    have HBd := Lib.hid HB0.out.drew
    have HS0 := Lib.hid (show Holds (cellsI w.heap.size I (.slice ad I.l.length cap) ++ cellsSt (w.heap.size + 1) s) W.drew from Holds.app.2 ⟨⟨HYd.out.cells.1, HYd.out.cells.2.1, HYd.out.cells.2.2.1, HYd.out.cells.2.2.2, trivial⟩, HTd.out.holds⟩)
    refine wp_region_held_drew (S := Holds (cellsI w.heap.size I (.slice ad I.l.length cap) ++ cellsSt (w.heap.size + 1) s)) (by kernel_rfl) HS0.out (fun hSn => ?_)
    clear HY0 HT0 HC0 HB0
    generalize W.drew = V at *
    have hlt := Lib.hid (show Lows V.heap.size (cellsI w.heap.size I (.slice ad I.l.length cap) ++ cellsSt (w.heap.size + 1) s) from Lows.app ⟨HYd.out.lt, HYd.out.lt, HYd.out.lt, HYd.out.lt, trivial⟩ (lows_St HTd.out.lt))
    have Bc := Lib.hid (Below.refl V.heap.size V)
    simp only [cellsI, cellsSt, List.cons_append, List.nil_append] at HS0 hlt hSn ⊢
    refine tks [0] 1 rfl (by kernel_rfl) (fun _ _ _ _ h => h) (by assumption) (fun KT hKT => ?_)
    refine tkT (by (simp only [gA, gB]; rfl)) (by rfl) (by (intro w hSw; (simp only [Holds] at hSw); go_simp <;> with_reducible rfl)) ?_
    simp only [Act.put, pA, pB, pC]
    refine hKT _ ?_
    clear KT hKT
    refine wpAnyH_ready (rs := [1]) (by kernel_rfl) (by simp) ?_
    refine AllReadyH.cons (o := ?oz276) ?iz276 (fun K hK => ?kz276) AllReadyH.nil
    case iz276 => (simp only [List.getElem?_toArray, List.getElem?_cons_zero, List.getElem?_cons_succ]; rfl)
    go_simp
    change Calls _ _ #[insV I (.slice ad I.l.length cap)] _ _
    refine (may_any (HR.out.below (HBd.out.trans (Bc.out.mono HBd.out.size)))).mono ?_
    rintro e w' ⟨rfl, hb⟩
    refine held_more hK HS0.out hlt (Bc.out.trans (hb.mono Bc.out.size)) (fun Bc hSn => ?_)
    clear hb hK
    by_cases hm : mayB I = true
    case' neg =>
      have HE := Lib.hid (show decide (FirstS I s) = false from decide_eq_false (fun h => hm h.1))
      rw [Bool.not_eq_true] at hm
      rw [hm]
      clear hm
      refine tks [2] 1 rfl (by kernel_rfl) (fun _ _ _ _ h => h) (by assumption) (fun KT hKT => ?_)
      refine tkT (by (simp only [gA, gB, gC]; rfl)) (by rfl) (by (intro w hSw; (simp only [Holds] at hSw); go_simp <;> with_reducible rfl)) ?_
      simp only [Act.put, pA, pB, pC]
      refine hKT _ ?_
      clear KT hKT
      refine tks [3, 4, 5] 3 rfl (by kernel_rfl) (fun _ _ _ _ h => h) (by assumption) (fun KT hKT => ?_)
      iterate 3 (refine tkS (by (simp only [gA, gB, gC]; rfl)) (by rfl) ?_; simp only [Act.put, pA, pB, pC])
      refine hKT _ ?_
      clear KT hKT
      refine tks [6, 7] 2 rfl (by kernel_rfl) (fun _ _ _ _ h => h) (by assumption) (fun KT hKT => ?_)
      iterate 2 (refine tkT (by (simp only [gA, gB, gC]; rfl)) (by rfl) (by (intro w hSw; (simp only [Holds] at hSw); go_simp <;> with_reducible rfl)) ?_; simp only [Act.put, pA, pB, pC])
      refine hKT _ ?_
      clear KT hKT
      refine tks [8, 9, 10, 11] 4 rfl (by kernel_rfl) (fun _ _ _ _ h => h) (by assumption) (fun KT hKT => ?_)
      iterate 4 (refine tkS (by (simp only [gA, gB, gC]; rfl)) (by rfl) ?_; simp only [Act.put, pA, pB, pC])
      refine hKT _ ?_
      clear KT hKT
      refine tks [12, 13] 2 rfl (by kernel_rfl) (fun _ _ _ _ h => h) (by assumption) (fun KT hKT => ?_)
      iterate 2 (refine tkT (by (simp only [gA, gB, gC]; rfl)) (by rfl) (by (intro w hSw; (simp only [Holds] at hSw); go_simp <;> with_reducible rfl)) ?_; simp only [Act.put, pA, pB, pC])
      refine hKT _ ?_
      clear KT hKT
      refine wpAnyH_done (by kernel_rfl) ?_ _
      go_wp2_with fail
      go_meet
      exact ⟨by rw [HE.out], HCd.out.later Bc.out, HBd.out.trans (Bc.out.mono HBd.out.size)⟩
    have HM := Lib.hid hm
    rw [hm]
    clear hm
    refine tks [2] 1 rfl (by kernel_rfl) (fun _ _ _ _ h => h) (by assumption) (fun KT hKT => ?_)
    refine tkT (by (simp only [gA, gB, gC]; rfl)) (by rfl) (by (intro w hSw; (simp only [Holds] at hSw); go_simp <;> with_reducible rfl)) ?_
    simp only [Act.put, pA, pB, pC]
    refine hKT _ ?_
    clear KT hKT
    by_cases h0 : I.p = 0
    case' neg =>
      have HE := Lib.hid (show decide (FirstS I s) = false from decide_eq_false (fun h => h0 h.2.1))
      have b0 : (I.p == 0) = false := by simp [h0]
      clear h0
      refine tks [3, 4, 5] 3 rfl (by kernel_rfl) (fun _ _ _ _ h => h) (by assumption) (fun KT hKT => ?_)
      iterate 3 (refine tkT (by (simp only [gA, gB, gC]; rfl)) (by rfl) (by (intro w hSw; (simp only [Holds] at hSw); go_simp <;> with_reducible rfl)) ?_; simp only [Act.put, pA, pB, pC])
      refine hKT _ ?_
      clear KT hKT
      refine tks [6, 7] 2 rfl (by kernel_rfl) (fun _ _ _ _ h => h) (by assumption) (fun KT hKT => ?_)
      iterate 2 (refine tkT (by (simp only [gA, gB, gC]; rfl)) (by rfl) (by (intro w hSw; (simp only [Holds] at hSw); go_simp <;> with_reducible rfl)) ?_; simp only [Act.put, pA, pB, pC])
      refine hKT _ ?_
      clear KT hKT
      refine tks [8, 9, 10, 11] 4 rfl (by kernel_rfl) (fun _ _ _ _ h => h) (by assumption) (fun KT hKT => ?_)
      iterate 4 (refine tkS (by (simp only [gA, gB, gC]; rfl)) (by rfl) ?_; simp only [Act.put, pA, pB, pC])
      refine hKT _ ?_
      clear KT hKT
      refine tks [12, 13] 2 rfl (by kernel_rfl) (fun _ _ _ _ h => h) (by assumption) (fun KT hKT => ?_)
      iterate 2 (refine tkT (by (simp only [gA, gB, gC]; rfl)) (by rfl) (by (intro w hSw; (simp only [Holds] at hSw); go_simp <;> with_reducible rfl)) ?_; simp only [Act.put, pA, pB, pC])
      refine hKT _ ?_
      clear KT hKT
      refine wpAnyH_done (by kernel_rfl) ?_ _
      go_wp2_with fail
      go_meet
      exact ⟨by rw [HE.out], HCd.out.later Bc.out, HBd.out.trans (Bc.out.mono HBd.out.size)⟩
    have H0 := Lib.hid h0
    have b0 : (I.p == 0) = true := by simp [h0]
    clear h0
    refine tks [3, 4, 5] 3 rfl (by kernel_rfl) (fun _ _ _ _ h => h) (by assumption) (fun KT hKT => ?_)
    iterate 3 (refine tkT (by (simp only [gA, gB, gC]; rfl)) (by rfl) (by (intro w hSw; (simp only [Holds] at hSw); go_simp <;> with_reducible rfl)) ?_; simp only [Act.put, pA, pB, pC])
    refine hKT _ ?_
    clear KT hKT
    refine tks [6, 7] 2 rfl (by kernel_rfl) (fun _ _ _ _ h => h) (by assumption) (fun KT hKT => ?_)
    iterate 2 (refine tkT (by (simp only [gA, gB, gC]; rfl)) (by rfl) (by (intro w hSw; (simp only [Holds] at hSw); go_simp <;> with_reducible rfl)) ?_; simp only [Act.put, pA, pB, pC])
    refine hKT _ ?_
    clear KT hKT
    refine tks [8, 9] 2 rfl (by kernel_rfl) (fun _ _ _ _ h => h) (by assumption) (fun KT hKT => ?_)
    iterate 2 (refine tkT (by (simp only [gA, gB, gC]; rfl)) (by rfl) (by (intro w hSw; (simp only [Holds] at hSw); go_simp <;> with_reducible rfl)) ?_; simp only [Act.put, pA, pB, pC])
    refine hKT _ ?_
    clear KT hKT
    refine wpAnyH_ready (rs := [10]) (by kernel_rfl) (by simp) ?_
    refine AllReadyH.cons (o := ?oz277) ?iz277 (fun K hK => ?kz277) AllReadyH.nil
    case iz277 => (simp only [List.getElem?_toArray, List.getElem?_cons_zero, List.getElem?_cons_succ]; rfl)
    go_simp
    change Calls _ _ #[insV I (.slice ad I.l.length cap)] _ _
    refine (sroot_any (HR.out.below (HBd.out.trans (Bc.out.mono HBd.out.size)))).mono ?_
    rintro e w' ⟨rfl, hb⟩
    refine held_more hK HS0.out hlt (Bc.out.trans (hb.mono Bc.out.size)) (fun Bc hSn => ?_)
    clear hb hK
    have keq := equalSta s (rootS I)
    have kg := guardSta
    have HE := Lib.hid (show decide (FirstS I s) = decide (s = rootS I) from decide_eq_decide.2 ⟨fun h => h.2.2, fun h => ⟨HM.out, H0.out, h⟩⟩)
    unfold staV
    by_cases hq : s = rootS I
    · rw [decide_eq_true hq] at keq HE
      clear hq
      refine tks [11] 1 rfl (by kernel_rfl) (fun _ _ _ _ h => h) (by assumption) (fun KT hKT => ?_)
      refine tkT (by (simp only [gA, gB, gC]; rfl)) (by rfl) (by (intro w hSw; (simp only [Holds] at hSw); go_simp <;> with_reducible rfl)) ?_
      simp only [Act.put, pA, pB, pC]
      refine hKT _ ?_
      clear KT hKT
      refine tks [12, 13] 2 rfl (by kernel_rfl) (fun _ _ _ _ h => h) (by assumption) (fun KT hKT => ?_)
      iterate 2 (refine tkT (by (simp only [gA, gB, gC]; rfl)) (by rfl) (by (intro w hSw; (simp only [Holds] at hSw); go_simp <;> with_reducible rfl)) ?_; simp only [Act.put, pA, pB, pC])
      refine hKT _ ?_
      clear KT hKT
      refine wpAnyH_done (by kernel_rfl) ?_ _
      go_wp2_with fail
      go_meet
      exact ⟨by rw [HE.out], HCd.out.later Bc.out, HBd.out.trans (Bc.out.mono HBd.out.size)⟩
    · rw [decide_eq_false hq] at keq HE
      clear hq
      refine tks [11] 1 rfl (by kernel_rfl) (fun _ _ _ _ h => h) (by assumption) (fun KT hKT => ?_)
      refine tkT (by (simp only [gA, gB, gC]; rfl)) (by rfl) (by (intro w hSw; (simp only [Holds] at hSw); go_simp <;> with_reducible rfl)) ?_
      simp only [Act.put, pA, pB, pC]
      refine hKT _ ?_
      clear KT hKT
      refine tks [12, 13] 2 rfl (by kernel_rfl) (fun _ _ _ _ h => h) (by assumption) (fun KT hKT => ?_)
      iterate 2 (refine tkT (by (simp only [gA, gB, gC]; rfl)) (by rfl) (by (intro w hSw; (simp only [Holds] at hSw); go_simp <;> with_reducible rfl)) ?_; simp only [Act.put, pA, pB, pC])
      refine hKT _ ?_
      clear KT hKT
      refine wpAnyH_done (by kernel_rfl) ?_ _
      go_wp2_with fail
      go_meet
      exact ⟨by rw [HE.out], HCd.out.later Bc.out, HBd.out.trans (Bc.out.mono HBd.out.size)⟩
  case rest =>
    obtain ⟨rfl, hc, hb⟩ := hcut
    have HC1 := Lib.hid hc
    have HB1 := Lib.hid hb
    clear hc hb HY0 HT0 HC0 HB0
    by_cases hf : FirstS I s
    · have HE := Lib.hid (end_first hf)
      rw [decide_eq_true hf]
      clear hf
      go_wp2
      exact bodyPost_ret (v := .tuple #[.int .i64 0, .bool true]) (by simp [results, Try.results50, go_sem]) rfl ⟨by rw [HE.out.1, HE.out.2], HB1.out⟩
    rw [decide_eq_false hf]
    have HF := Lib.hid hf
    clear hf
    go_wp2_with fail
    refine (goOn_any HC1.out (HR.out.below HB1.out)).mono ?_
    rintro e w2 ⟨rfl, hb⟩
    have HC2 := Lib.hid (HC1.out.later hb)
    have HB2 := Lib.hid (HB1.out.trans (hb.mono HB1.out.size))
    clear hb
    by_cases hg : GoOn I s
    case' neg =>
      have HE := Lib.hid (end_no HF.out (fun h => hg h.1))
      rw [decide_eq_false hg]
      clear hg
      go_wp2
      exact bodyPost_ret (v := .tuple #[.int .i64 0, .bool false]) (by simp [results, Try.results50, go_sem]) rfl ⟨by rw [HE.out.1, HE.out.2], HB2.out⟩
    rw [decide_eq_true hg]
    have HG := Lib.hid hg
    have HW := Lib.hid (back_within hg)
    clear hg
    go_wp2_with fail
    refine (canEnd_any HC2.out (HR.out.below HB2.out) HG.out HS.out).mono ?_
    rintro e w3 ⟨rfl, hb⟩
    have HC3 := Lib.hid (HC2.out.later hb)
    have HB3 := Lib.hid (HB2.out.trans (hb.mono HB2.out.size))
    clear hb
    rw [HW.out]
    by_cases hk : BackE I s
    case' neg =>
      have HE := Lib.hid (end_no HF.out hk)
      rw [decide_eq_false hk]
      clear hk
      go_wp2
      exact bodyPost_ret (v := .tuple #[.int .i64 0, .bool false]) (by simp [results, Try.results50, go_sem]) rfl ⟨by rw [HE.out.1, HE.out.2], HB3.out⟩
    have HE := Lib.hid (end_back hk)
    rw [decide_eq_true hk]
    clear hk
    go_wp2_with fail
    refine (hfarTo_any HC3.out (HR.out.below HB3.out) HG.out.1 HG.out.2.1 ⟨Int.le_refl _, by have := (fine_of HG.out.1).p0; omega⟩).mono ?_
    rintro e w4 ⟨rfl, hb⟩
    have HB4 := Lib.hid (HB3.out.trans (hb.mono HB3.out.size))
    clear hb
    go_wp2
    exact bodyPost_ret (v := .tuple #[.int .i64 (farS1 I s 0), .bool true]) (by simp [results, Try.results50, go_sem]) rfl ⟨by rw [HE.out.1, HE.out.2], HB4.out⟩
end Go.Proofs.Ytpgbbnmflnhlbaa
/- What is known behind moves. -/
namespace Go.Proofs.Ytpgbbnmflnhlbaa
open Go.ChangeShapes Go.WideShapes Go.ChangeAt Go.RowKit

def folS (I : Ins) (t : List Int) : Option (Sta × Int) := if mayB I = true then followS I t else none
def folE (I : Ins) (t : List Int) : Int := if mayB I = true then (if (followS I t).isSome = true then 0 else 4) else 1
def stO : Option (Sta × Int) → Sta
  | some x => x.1
  | none => noughtS
def coO : Option (Sta × Int) → Int
  | some x => x.2
  | none => 0
theorem fol_bad {I : Ins} (h : mayB I = false) (t : List Int) : folS I t = none ∧ folE I t = 1 := by unfold folS folE; rw [h]; exact ⟨if_neg (by decide), if_neg (by decide)⟩
theorem fol_no {I : Ins} (h : mayB I = true) {t : List Int} (hf : followS I t = none) : folS I t = none ∧ folE I t = 4 := by unfold folS folE; rw [if_pos h, if_pos h, hf]; exact ⟨rfl, rfl⟩
theorem fol_yes {I : Ins} (h : mayB I = true) {t : List Int} {s : Sta} {c : Int} (hf : followS I t = some (s, c)) : folS I t = some (s, c) ∧ folE I t = 0 := by unfold folS folE; rw [if_pos h, if_pos h, hf]; exact ⟨rfl, rfl⟩
theorem cutP_size (t : List Int) : t.length = (cutP t).1.length + ((cutP t).1.flatten ++ (cutP t).2).length := by
  refine snoc_ind (P := fun t => t.length = (cutP t).1.length + ((cutP t).1.flatten ++ (cutP t).2).length) rfl ?_ t
  intro t x ih
  rw [cutP_snoc]
  unfold cutStep
  simp only [List.length_append, List.length_singleton] at *
  split
  · simp only [List.length_append, List.length_singleton]; omega
  · simp only [List.length_append, List.length_singleton, List.flatten_append, List.flatten_cons, List.flatten_nil, List.append_nil, List.length_nil]; omega
/-- No more than a few moves can be followed. -/
theorem follow_few {I : Ins} (hm : mayB I = true) {t : List Int} {s : Sta} {c : Int} (h : followS I t = some (s, c)) : t.length ≤ 40 := by
  obtain ⟨⟨ts, hi⟩, _⟩ := follow_inv hm t s c h
  have h1 := cutP_size t
  have h2 := rng_len (n := (2 * I.p).toNat) hi.nodup (fun i hj => by have := hi.rng i hj; omega)
  have h3 := hi.car
  have h4 := hi.carc
  have h5 := (fine_of hm).p1
  have h6 := (inb_iff _ _ _).1 ((may_iff I).1 hm).2.1
  omega
theorem follow_cost {I : Ins} (t : List Int) : ∀ s c, followS I t = some (s, c) → 0 ≤ c ∧ c ≤ 20000 * t.length := by
  refine snoc_ind (P := fun t => ∀ s c, followS I t = some (s, c) → 0 ≤ c ∧ c ≤ 20000 * t.length) ?_ ?_ t
  · intro s c h
    rw [follow_nil] at h
    simp only [Option.some.injEq, Prod.mk.injEq] at h
    obtain ⟨_, rfl⟩ := h
    exact ⟨Int.le_refl _, by simp⟩
  · intro t j ih s c h
    obtain ⟨s0, c0, h1, _, _, rfl⟩ := follow_step h
    have h2 := ih s0 c0 h1
    have h3 := far1_bd I s0 j
    simp only [List.length_append, List.length_singleton]
    omega
theorem follow_sets {I : Ins} (hm : mayB I = true) {t : List Int} {s : Sta} {c : Int} (h : followS I t = some (s, c)) : SetsOk s := by
  obtain ⟨⟨ts, hi⟩, _⟩ := follow_inv hm t s c h
  have h1 := hi.seen
  have h2 := hi.same
  exact ⟨by rw [h1]; exact ofN_lt _, by rw [h2, h1]; exact ofN_lt _, hi.onlt⟩
theorem nought_sets : SetsOk noughtS := ⟨by decide, by decide, by decide⟩
theorem fol_sets (I : Ins) (t : List Int) : SetsOk (stO (folS I t)) := by
  cases hm : mayB I with
  | false => rw [(fol_bad hm t).1]; exact nought_sets
  | true =>
    cases hf : followS I t with
    | none => rw [(fol_no hm hf).1]; exact nought_sets
    | some x => obtain ⟨s, c⟩ := x; rw [(fol_yes hm hf).1]; exact follow_sets hm hf
/-- One move more, of those that are to be followed. -/
theorem follow_next {I : Ins} {l : List Int} {k : Nat} {s : Sta} {c : Int} (hk : k < l.length) (h : followS I (l.take k) = some (s, c)) :
    (Can I s (l.getD k 0) → followS I (l.take (k + 1)) = some (nextS I s (l.getD k 0), c + farS1 I s (l.getD k 0))) ∧ (¬ Can I s (l.getD k 0) → followS I l = none) := by
  have e : l.take (k + 1) = l.take k ++ [l.getD k 0] := by rw [List.take_succ_eq_append_getElem hk, List.getD_eq_getElem?_getD, List.getElem?_eq_getElem hk]; rfl
  refine ⟨fun hc => ?_, fun hc => ?_⟩
  · rw [e]; exact follow_more h hc
  · have h2 : followS I (l.take (k + 1)) = none := by
      rw [e, follow_snoc, h]
      simp only [Option.bind_some, stepS]
      rw [if_neg hc]
    have h3 := follow_none h2 (l.drop (k + 1))
    rwa [List.take_append_drop] at h3
set_option maxRecDepth 1000000 in
set_option maxHeartbeats 4000000 in
theorem sfollow_any {w : World} {v pv : Value} {I : Ins} {l : List Int} (hr : SRow w v I.l) (hl : Row w pv (ints l)) :
    Calls Try.prog 56 #[insV I v, pv] w fun e w' => e = .returned (.tuple #[staV (stO (folS I l)), .int .i64 (coO (folS I l)), .int .i64 (folE I l)]) ∧ Below w.heap.size w w' := by
  have HR := Lib.hid hr
  have HL := Lib.hid hl
  obtain ⟨ad, cap, rfl, _⟩ := hr.form
  obtain ⟨ad2, cap2, rfl, hmx⟩ := hl.form
  rw [ints_len] at *
  have hmx2 : l.length ≤ 9223372036854775807 := by unfold maxLen at hmx; omega
  clear hr hl hmx
  unfold insV
  go_enter Try.func56, Try.ntmps56
  go_wp2_with fail
  have HY0 := Lib.hid ((ybox_new w I (.slice ad I.l.length cap)).later ((Below.refl _ _).alloc (Nat.le_refl _) (boxSt noughtS)))
  have HX0 := Lib.hid (st_new (w.alloc (boxI I (.slice ad I.l.length cap))) noughtS)
  have HB0 := Lib.hid (((Below.refl w.heap.size w).alloc (Nat.le_refl _) (boxI I (.slice ad I.l.length cap))).alloc (by simp) (boxSt noughtS))
  have hsz : (w.alloc (boxI I (.slice ad I.l.length cap))).heap.size = w.heap.size + 1 := by simp
  rw [hsz] at HX0
  clear hsz
  change Calls _ _ #[insV I (.slice ad I.l.length cap)] ((w.alloc (boxI I (.slice ad I.l.length cap))).alloc (boxSt noughtS)) _
  generalize (w.alloc (boxI I (.slice ad I.l.length cap))).alloc (boxSt noughtS) = W at *
  refine (may_any (HR.out.below HB0.out)).mono ?_
  rintro e w1 ⟨rfl, hb⟩
  have HY1 := Lib.hid (HY0.out.later hb)
  have HX1 := Lib.hid (HX0.out.later hb)
  have HB1 := Lib.hid (HB0.out.trans (hb.mono HB0.out.size))
  clear hb HY0 HX0 HB0
  cases hm : mayB I
  · have HE := Lib.hid (fol_bad hm l)
    go_wp2_with (refine wpList_store_state (by rfl) (.tmp 4) (.tmp 17) (by rfl) (w.heap.size + 1) _ (noughtS) (by rfl) (by rfl) HX1.out ?_)
    intro WE hE hbE
    have z0 := hE.c0
    have z1 := hE.c1
    have z2 := hE.c2
    have z3 := hE.c3
    have z4 := hE.c4
    have z5 := hE.c5
    have z6 := hE.c6
    have z7 := hE.c7
    go_wp2
    exact bodyPost_ret (v := .tuple #[staV (noughtS), .int .i64 (0), .int .i64 1]) (by simp [results, Try.results56, go_sem, z0, z1, z2, z3, z4, z5, z6, z7, staV]) rfl ⟨by rw [HE.out.1, HE.out.2]; rfl, HB1.out.trans (hbE _ (Nat.le_succ _))⟩
  have HM := Lib.hid hm
  clear hm
  obtain ⟨y0, y1, y2, y3⟩ := HY1.out.cells
  go_wp2_with fail
  clear y0 y1 y2 y3
  change Calls _ _ #[insV I (.slice ad I.l.length cap)] _ _
  refine (sroot_any (HR.out.below HB1.out)).mono ?_
  rintro e w2 ⟨rfl, hb⟩
  have HY2 := Lib.hid (HY1.out.later hb)
  have HX2 := Lib.hid (HX1.out.later hb)
  have HB2 := Lib.hid (HB1.out.trans (hb.mono HB1.out.size))
  clear hb HY1 HX1 HB1
  obtain ⟨po, ca, ti, lo, fi, mu, ma, on, hrt⟩ : ∃ po ca ti lo fi mu ma on, rootS I = ⟨po, ca, ti, lo, fi, mu, ma, on⟩ := ⟨_, _, _, _, _, _, _, _, rfl⟩
  rw [hrt]
  have HRT := Lib.hid hrt
  clear hrt
  unfold staV
  go_wp2_with fail
  have HT3 := Lib.hid (st_new w2 ⟨po, ca, ti, lo, fi, mu, ma, on⟩)
  have HY3 := Lib.hid (HY2.out.later ((Below.refl _ _).alloc (Nat.le_refl _) (boxSt ⟨po, ca, ti, lo, fi, mu, ma, on⟩)))
  have HX3 := Lib.hid (HX2.out.later ((Below.refl _ _).alloc (Nat.le_refl _) (boxSt ⟨po, ca, ti, lo, fi, mu, ma, on⟩)))
  have HB3 := Lib.hid (HB2.out.alloc HB2.out.size (boxSt ⟨po, ca, ti, lo, fi, mu, ma, on⟩))
  have HXlt := Lib.hid (show w.heap.size + 1 < w2.heap.size from HX2.out.lt)
  clear HY2 HX2 HB2
  change Code.wp _ _ _ _ (w2.alloc (boxSt ⟨po, ca, ti, lo, fi, mu, ma, on⟩))
  generalize w2.alloc (boxSt ⟨po, ca, ti, lo, fi, mu, ma, on⟩) = W3 at *
  generalize w2.heap.size = x at *
  go_loopw [8, 22] (fun c i wr => ∃ (k : Nat) (s : Sta) (n : Int), k ≤ l.length ∧ i = .int .i64 k ∧ c = .int .i64 n ∧ followS I (l.take k) = some (s, n) ∧ YBox wr w.heap.size I (.slice ad I.l.length cap) ∧ StB wr (w.heap.size + 1) noughtS ∧ StB wr x s ∧ Below w.heap.size w wr) (fun _ i _ => l.length - (intOf i).toNat)
  case atStart => exact ⟨0, _, 0, Nat.zero_le _, rfl, rfl, by rw [List.take_zero, follow_nil, HRT.out], HY3.out, HX3.out, HT3.out, HB3.out⟩
  case round =>
    obtain ⟨k, s, n, hk, rfl, rfl, hf, hy, hx, ht, hb⟩ := hrel
    have HF := Lib.hid hf
    have HY4 := Lib.hid hy
    have HX4 := Lib.hid hx
    have HT4 := Lib.hid ht
    have HB4 := Lib.hid hb
    clear hf hy hx ht hb HY3 HX3 HT3 HB3
    by_cases hltk : k < l.length
    · have hki : (k : Int) < (l.length : Int) := by omega
      have HKL := Lib.hid hltk
      have HNX := Lib.hid (follow_next hltk HF.out)
      have hcb := follow_cost _ _ _ HF.out
      have hfw := follow_few HM.out HF.out
      have hfb := far1_bd I s (l.getD k 0)
      have hcl : (l.take k).length = k := by rw [List.length_take]; omega
      rw [hcl] at hcb hfw
      have e1 : IntKind.i64.wrap (n + farS1 I s (l.getD k 0)) = n + farS1 I s (l.getD k 0) := IntWalk.i64_in _ (by omega)
      have e2 : IntKind.i64.wrap ((k : Int) + 1) = (k : Int) + 1 := IntWalk.i64_in _ (by omega)
      obtain ⟨rb, ro, rfl, hcell, hrb⟩ := row_cell HL.out k (by rw [ints_len]; exact hltk)
      rw [ints_at _ k hltk] at hcell
      clear hcb hfw hfb hcl hk
      generalize l.getD k 0 = j at *
      have x0 := (HB4.out.cell (p := ⟨rb, ro + k, none⟩) hrb).trans hcell
      obtain ⟨y0, y1, y2, y3⟩ := HY4.out.cells
      have q0 := HT4.out.c0
      have q1 := HT4.out.c1
      have q2 := HT4.out.c2
      have q3 := HT4.out.c3
      have q4 := HT4.out.c4
      have q5 := HT4.out.c5
      have q6 := HT4.out.c6
      have q7 := HT4.out.c7
      clear hcell
      go_wp2_with fail
      clear x0 y0 y1 y2 y3 q0 q1 q2 q3 q4 q5 q6 q7
      change Calls _ _ #[insV I (.slice ad I.l.length cap), staV s, .int .i64 j] _ _
      refine (smove_any (HR.out.below HB4.out) (follow_sets HM.out HF.out)).mono ?_
      rintro e w5 ⟨rfl, hb⟩
      have HY5 := Lib.hid (HY4.out.later hb)
      have HX5 := Lib.hid (HX4.out.later hb)
      have HT5 := Lib.hid (HT4.out.later hb)
      have HB5 := Lib.hid (HB4.out.trans (hb.mono HB4.out.size))
      clear hb HY4 HX4 HT4 HB4
      obtain ⟨po, ca, ti, lo, fi, mu, ma, on, hms⟩ : ∃ po ca ti lo fi mu ma on, moveS I s j = ⟨po, ca, ti, lo, fi, mu, ma, on⟩ := ⟨_, _, _, _, _, _, _, _, rfl⟩
      rw [hms]
      have HMS := Lib.hid hms
      clear hms
      unfold staV
      by_cases hcan : Can I s j
      case' neg =>
        have HE := Lib.hid (fol_no HM.out (HNX.out.2 hcan))
        rw [decide_eq_false hcan]
        clear hcan
        have HX6 := Lib.hid (HX5.out.later ((Below.refl _ _).alloc (Nat.le_refl _) (boxSt ⟨po, ca, ti, lo, fi, mu, ma, on⟩)))
        have HB6 := Lib.hid (HB5.out.alloc HB5.out.size (boxSt ⟨po, ca, ti, lo, fi, mu, ma, on⟩))
        go_wp2_with (refine wpList_store_state (by rfl) (.tmp 4) (.tmp 36) (by rfl) (w.heap.size + 1) _ (noughtS) (by rfl) (by rfl) HX6.out ?_)
        intro WE hE hbE
        have z0 := hE.c0
        have z1 := hE.c1
        have z2 := hE.c2
        have z3 := hE.c3
        have z4 := hE.c4
        have z5 := hE.c5
        have z6 := hE.c6
        have z7 := hE.c7
        go_wp2
        exact bodyPost_ret (v := .tuple #[staV (noughtS), .int .i64 (0), .int .i64 4]) (by simp [results, Try.results56, go_sem, z0, z1, z2, z3, z4, z5, z6, z7, staV]) rfl ⟨by rw [HE.out.1, HE.out.2]; rfl, HB6.out.trans (hbE _ (Nat.le_succ _))⟩
      rw [decide_eq_true hcan]
      have HE := Lib.hid (HNX.out.1 hcan)
      rw [(move_yes hcan).2.1]
      have HMS2 := Lib.hid (show nextS I s j = ⟨po, ca, ti, lo, fi, mu, ma, on⟩ from (move_yes hcan).1.symm.trans HMS.out)
      clear hcan HMS
      have HT6 := Lib.hid (HT5.out.later ((Below.refl _ _).alloc (Nat.le_refl _) (boxSt ⟨po, ca, ti, lo, fi, mu, ma, on⟩)))
      go_wp2_with (refine wpList_store_state (by rfl) (.tmp 7) (.tmp 37) (by rfl) x _ ⟨po, ca, ti, lo, fi, mu, ma, on⟩ (by rfl) (by rfl) HT6.out ?_)
      intro WE hE hbE
      have HY7 := Lib.hid ((HY5.out.later ((Below.refl _ _).alloc (Nat.le_refl _) (boxSt ⟨po, ca, ti, lo, fi, mu, ma, on⟩))).below (by have := HXlt.out; omega) (hbE _ (Nat.le_refl _)))
      have HX7 := Lib.hid ((HX5.out.later ((Below.refl _ _).alloc (Nat.le_refl _) (boxSt ⟨po, ca, ti, lo, fi, mu, ma, on⟩))).below HXlt.out (hbE _ (Nat.le_refl _)))
      have HB7 := Lib.hid ((HB5.out.alloc HB5.out.size (boxSt ⟨po, ca, ti, lo, fi, mu, ma, on⟩)).trans (hbE _ (by have := HXlt.out; omega)))
      have HT7 := Lib.hid hE
      clear hE hbE HY5 HX5 HT5 HB5 HT6
      go_wp2
      go_roundw
      case rel => exact ⟨k + 1, _, _, by have := HKL.out; omega, by go_num, rfl, HE.out, HY7.out, HX7.out, by rw [HMS2.out]; exact HT7.out, HB7.out⟩
      case measure => have := HKL.out; simp [intOf]; omega
    · obtain rfl : k = l.length := by omega
      rw [List.take_length] at HF
      have HE := Lib.hid (fol_yes HM.out HF.out)
      have q0 := HT4.out.c0
      have q1 := HT4.out.c1
      have q2 := HT4.out.c2
      have q3 := HT4.out.c3
      have q4 := HT4.out.c4
      have q5 := HT4.out.c5
      have q6 := HT4.out.c6
      have q7 := HT4.out.c7
      go_wp2_with (refine wpList_store_state (by rfl) (.tmp 4) (.tmp 42) (by rfl) (w.heap.size + 1) _ (s) (by rfl) (by rfl) HX4.out ?_)
      intro WE hE hbE
      have z0 := hE.c0
      have z1 := hE.c1
      have z2 := hE.c2
      have z3 := hE.c3
      have z4 := hE.c4
      have z5 := hE.c5
      have z6 := hE.c6
      have z7 := hE.c7
      go_wp2
      exact bodyPost_ret (v := .tuple #[staV (s), .int .i64 (n), .int .i64 0]) (by simp [results, Try.results56, go_sem, z0, z1, z2, z3, z4, z5, z6, z7, staV]) rfl ⟨by rw [HE.out.1, HE.out.2]; rfl, HB4.out.trans (hbE _ (Nat.le_succ _))⟩
end Go.Proofs.Ytpgbbnmflnhlbaa
