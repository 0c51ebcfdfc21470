/- InstSame holds for every instance and any two numbers, where the library's tables start as its text lays them (the card ties that); there is no further condition. -/
import Derived.Test.YtkhlmgkapmofiaaDoorRows
import Derived.Test.YtkhlmgkapmofiaaDoorTie
import Derived.Test.YtkhlmgkapmofiaaDoorCards
import Derived.Test.YtkhlmgkapmofiaaDoorLaid
import Derived.SevenTiedAt
import Derived.Test.YtkhlmgkapmofiaaDoorIOwn
namespace Go.Proofs.YtkhlmgkapmofiaaDoor.instSame
open Go.ChangeShapes Go.WideShapes Go.ChangeAt Go.RowKit

set_option maxRecDepth 1000000 in
set_option maxHeartbeats 1000000 in
theorem walk (I0 : Ins) (v0 : Value) (a1 : Int) (a2 : Int) (w : World) (e0 : SRow w v0 I0.l) (f0 : FitI I0) (hT : Tab w.heap.size w) :
    Calls Tryd.prog 8 #[insV I0 v0, .int .i64 a1, .int .i64 a2] w fun e w' => e = .returned (.bool true) ∧ Below w.heap.size w w' := by
  have HT := Lib.hid hT
  have HE := Lib.hid e0
  have HFI := Lib.hid f0
  obtain ⟨a, cap, rfl, hm, _⟩ := e0.form
  have hm1 : I0.l.length ≤ 9223372036854775807 := by unfold maxLen at hm; omega
  clear hT e0 f0 hm
  unfold insV
  have key : decide ((33 : Int) < (I0.l.length : Int)) = true ∨ (decide ((33 : Int) < (I0.l.length : Int)) = false ∧ decide (a1 < 0) = true) ∨ (decide ((33 : Int) < (I0.l.length : Int)) = false ∧ decide (a1 < 0) = false ∧ decide ((I0.l.length : Int) ≤ a1) = true) ∨ (decide ((33 : Int) < (I0.l.length : Int)) = false ∧ decide (a1 < 0) = false ∧ decide ((I0.l.length : Int) ≤ a1) = false) := by
    simp only [decide_eq_true_eq, decide_eq_false_iff_not]; omega
  go_enter Tryd.func8, Tryd.ntmps8
  go_wp2_with fail
  change Calls _ _ _ (w.alloc (boxI I0 (.slice a I0.l.length cap))) _
  have HB0 := Lib.hid ((Below.refl _ w).alloc (Nat.le_refl _) (boxI I0 (.slice a I0.l.length cap)))
  have HS0 := Lib.hid (holds_box w I0 (.slice a I0.l.length cap))
  have hlt : w.heap.size < (w.alloc (boxI I0 (.slice a I0.l.length cap))).heap.size := by simp
  have HE0 := Lib.hid (HE.out.below HB0.out)
  have HXB := Lib.hid (ybox_new w I0 (.slice a I0.l.length cap))
  generalize w.alloc (boxI I0 (.slice a I0.l.length cap)) = W at *
  refine (iawake_any _ ((HT.out.on HB0.out).up HB0.out.size)).mono ?_
  rintro e w1 ⟨rfl, hb⟩
  have HW1 := Lib.hid hb
  obtain ⟨c0, c1, c2, c3⟩ := box_cells HS0 hlt HW1
  have hz : w.heap.size < w1.heap.size := by have := hb.size; omega
  clear hb
  rcases key with d1 | ⟨d1, d2⟩ | ⟨d1, d2, d3⟩ | ⟨d1, d2, d3⟩
  · go_wp2
    go_ret
    exact ⟨rfl, HB0.out.trans (HW1.out.mono HB0.out.size)⟩
  · go_wp2
    go_ret
    exact ⟨rfl, HB0.out.trans (HW1.out.mono HB0.out.size)⟩
  · go_wp2
    go_ret
    exact ⟨rfl, HB0.out.trans (HW1.out.mono HB0.out.size)⟩
  have HL33 := Lib.hid (show I0.l.length ≤ 33 by simp only [decide_eq_false_iff_not] at d1; omega)
  obtain ⟨i, rfl⟩ : ∃ i : Nat, a1 = i := ⟨a1.toNat, by simp only [decide_eq_false_iff_not] at d2; omega⟩
  have hil : i < I0.l.length := by simp only [decide_eq_false_iff_not] at d3; omega
  have hii : (i : Int) < (I0.l.length : Int) := by omega
  have HE1 := Lib.hid (HE0.out.below HW1.out)
  have HX1 := Lib.hid ((show YBox W w.heap.size I0 (.slice a I0.l.length cap) from HXB.out).later HW1.out)
  have hsW := HW1.out.size
  go_wp2_with (first | (at_builtin; refine app_stops rfl _ _ rfl (w1.heap.size + 1) (.slice none 0 0) [] rfl (ownS_nil _ _) _ I0.l rfl (HE1.out.below ((Below.refl _ w1).alloc (Nat.le_refl _) _)) (by have := HL33.out; simp; omega) (by simp) ?_))
  intro v' w' hown hgrow _
  have HO := Lib.hid hown
  have HG := Lib.hid (grown_below hgrow (Nat.le_refl _) (fun q hq => by simp [Value.ownBlock] at hq))
  have HG1 := Lib.hid (((Below.refl _ w1).alloc (Nat.le_refl _) (boxI I0 (.slice a I0.l.length cap))).trans (HG.out.mono (by simp)))
  have HY := Lib.hid ((ybox_new w1 I0 (.slice a I0.l.length cap)).later HG.out)
  have HX2 := Lib.hid (HX1.out.later HG1.out)
  have HE2 := Lib.hid (HE1.out.below HG1.out)
  clear hown hgrow c0 c1 c2 c3
  obtain ⟨g, vc, rfl⟩ := HO.out.form (by omega)
  obtain ⟨y0, y1, y2, y3⟩ := HY.out.cells
  obtain ⟨c0, c1, c2, c3⟩ := HX2.out.cells
  have hz2 : w.heap.size < w'.heap.size := HX2.out.lt
  have f3 := HY.out.free 3
  have hgb := HO.out.at i hil
  have HY3 := Lib.hid (HY.out.stops (.slice (some ⟨g, 0, none⟩) I0.l.length vc))
  have HX3 := Lib.hid (HX2.out.other ⟨w1.heap.size, 3, none⟩ (.slice (some ⟨g, 0, none⟩) I0.l.length vc) (by simp; omega))
  have HO3 := Lib.hid (show OwnS (w'.setCell ⟨w1.heap.size, 3, none⟩ (.slice (some ⟨g, 0, none⟩) I0.l.length vc)) (w1.heap.size + 1) _ _ from ownsRow_setCell_below HO.out (by simp) _)
  have HG3 := Lib.hid (HG1.out.setCell (p := ⟨w1.heap.size, 3, none⟩) (Nat.le_refl _) (.slice (some ⟨g, 0, none⟩) I0.l.length vc))
  have HE3 := Lib.hid (HE1.out.below HG3.out)
  go_wp2_with fail
  generalize w'.setCell ⟨w1.heap.size, 3, none⟩ (.slice (some ⟨g, 0, none⟩) I0.l.length vc) = W3 at *
  change Calls _ _ #[insV I0 (.slice a I0.l.length cap), insV I0 (.slice (some ⟨g, 0, none⟩) I0.l.length vc)] _ _
  refine (isame_any HE3.out HO3.out.row).mono ?_
  rw [decide_eq_true (rfl : I0 = I0)]
  rintro e w4 ⟨rfl, hb⟩
  have HX4 := Lib.hid (HX3.out.later hb)
  have HY4 := Lib.hid (HY3.out.later hb)
  have HO4 := Lib.hid (HO3.out.below hb)
  have HW4 := Lib.hid (HW1.out.trans ((HG3.out.trans (hb.mono HG3.out.size)).mono hsW))
  have HE4 := Lib.hid (HE0.out.below HW4.out)
  have hs4 : w1.heap.size < w4.heap.size := HY4.out.lt
  clear hb c0 c1 c2 c3 y0 y1 y2 y3 f3 hgb
  obtain ⟨c0, c1, c2, c3⟩ := HX4.out.cells
  obtain ⟨y0, y1, y2, y3⟩ := HY4.out.cells
  obtain ⟨hat, hfr, hgl, hgb⟩ := HO4.out.at i hil
  obtain ⟨t, ht⟩ : ∃ t, nth I0.l i = t := ⟨_, rfl⟩
  have HFT := Lib.hid (show FitS t by rw [← ht]; exact HFI.out.2.2.2 i hil)
  rw [ht] at hat
  have HTT := Lib.hid ht
  obtain ⟨e0, e1, e2, e3, e4, e5⟩ := hat
  clear ht
  by_cases q0 : a2 = 0
  · subst q0
    obtain ⟨x', hx'⟩ : ∃ x', IntKind.i64.wrap (t.x + 1) = x' := ⟨_, rfl⟩
    have hx2 : wrap64 (t.x + 1) = x' := by rw [← IntWalk.i64_left]; exact hx'
    have HNX := Lib.hid (show x' ≠ t.x from fun e => wrap_ne t.x HFT.out.1 (hx'.trans e))
    have fx := hfr (i * 6)
    have HO5 := Lib.hid ((HO4.out.stored i 0 ⟨x', t.y, t.d, t.r, t.u, t.s⟩ (.int .i64 x') hil (by omega) (by rw [HTT.out]; rfl) ⟨g, i * 6, none⟩ rfl).1)
    have HX5 := Lib.hid (HX4.out.other ⟨g, i * 6, none⟩ (.int .i64 x') (by simp; omega))
    have HY5 := Lib.hid (show YBox (w4.setCell ⟨g, i * 6, none⟩ (.int .i64 x')) w1.heap.size ⟨I0.p, I0.c, I0.r, I0.l.set i ⟨x', t.y, t.d, t.r, t.u, t.s⟩⟩ (.slice (some ⟨g, 0, none⟩) I0.l.length vc) from HY4.out.other ⟨g, i * 6, none⟩ (.int .i64 x') (by simp; omega))
    have HW5 := Lib.hid (HW4.out.setCell (p := ⟨g, i * 6, none⟩) (by simp; omega) (.int .i64 x'))
    have HE5 := Lib.hid (HE0.out.below HW5.out)
    have HNE0 := Lib.hid (show I0.l ≠ I0.l.set i ⟨x', t.y, t.d, t.r, t.u, t.s⟩ from set_ne hil (fun e => by rw [HTT.out] at e; have := congrArg Stp.x e; exact HNX.out this))
    have HNE := Lib.hid (show decide (I0 = ⟨I0.p, I0.c, I0.r, I0.l.set i ⟨x', t.y, t.d, t.r, t.u, t.s⟩⟩) = false ∧ decide (⟨I0.p, I0.c, I0.r, I0.l.set i ⟨x', t.y, t.d, t.r, t.u, t.s⟩⟩ = I0) = false from ⟨decide_eq_false (fun e => HNE0.out (congrArg Ins.l e)), decide_eq_false (fun e => HNE0.out (congrArg Ins.l e).symm)⟩)
    go_wp2_with fail
    generalize HH : w4.setCell ⟨g, i * 6, none⟩ (.int .i64 x') = W5 at *
    clear HH c0 c1 c2 c3 y0 y1 y2 y3 e0 e1 e2 e3 e4 e5
    change Calls _ _ #[insV I0 (.slice a I0.l.length cap), insV ⟨I0.p, I0.c, I0.r, I0.l.set i ⟨x', t.y, t.d, t.r, t.u, t.s⟩⟩ (.slice (some ⟨g, 0, none⟩) I0.l.length vc)] _ _
    refine (isame_any (J := ⟨I0.p, I0.c, I0.r, I0.l.set i ⟨x', t.y, t.d, t.r, t.u, t.s⟩⟩) HE5.out HO5.out.row).mono ?_
    rw [HNE.out.1]
    rintro e w6 ⟨rfl, hb⟩
    have HX6 := Lib.hid (HX5.out.later hb)
    have HY6 := Lib.hid (HY5.out.later hb)
    have HE6 := Lib.hid (HE5.out.below hb)
    have HO6 := Lib.hid (HO5.out.below hb)
    have HW6 := Lib.hid (HW5.out.trans (hb.mono HW5.out.size))
    clear hb
    obtain ⟨c0, c1, c2, c3⟩ := HX6.out.cells
    obtain ⟨y0, y1, y2, y3⟩ := HY6.out.cells
    go_wp2_with fail
    change Calls _ _ #[insV ⟨I0.p, I0.c, I0.r, I0.l.set i ⟨x', t.y, t.d, t.r, t.u, t.s⟩⟩ (.slice (some ⟨g, 0, none⟩) I0.l.length vc), insV I0 (.slice a I0.l.length cap)] _ _
    refine (isame_any (I := ⟨I0.p, I0.c, I0.r, I0.l.set i ⟨x', t.y, t.d, t.r, t.u, t.s⟩⟩) HO6.out.row HE6.out).mono ?_
    rw [HNE.out.2]
    rintro e w7 ⟨rfl, hb⟩
    have HW7 := Lib.hid (HW6.out.trans (hb.mono HW6.out.size))
    clear hb
    go_wp2
    go_ret
    exact ⟨rfl, HB0.out.trans (HW7.out.mono HB0.out.size)⟩
  have k0 : (a2 == 0) = false := by simp [q0]
  by_cases q1 : a2 = 1
  · subst q1
    obtain ⟨x', hx'⟩ : ∃ x', IntKind.i64.wrap (t.u + 1) = x' := ⟨_, rfl⟩
    have hx2 : wrap64 (t.u + 1) = x' := by rw [← IntWalk.i64_left]; exact hx'
    have HNX := Lib.hid (show x' ≠ t.u from fun e => wrap_ne t.u HFT.out.2.2.2.2.1 (hx'.trans e))
    have fx := hfr (i * 6 + 4)
    have HO5 := Lib.hid ((HO4.out.stored i 4 ⟨t.x, t.y, t.d, t.r, x', t.s⟩ (.int .i64 x') hil (by omega) (by rw [HTT.out]; rfl) ⟨g, i * 6 + 4, none⟩ rfl).1)
    have HX5 := Lib.hid (HX4.out.other ⟨g, i * 6 + 4, none⟩ (.int .i64 x') (by simp; omega))
    have HY5 := Lib.hid (show YBox (w4.setCell ⟨g, i * 6 + 4, none⟩ (.int .i64 x')) w1.heap.size ⟨I0.p, I0.c, I0.r, I0.l.set i ⟨t.x, t.y, t.d, t.r, x', t.s⟩⟩ (.slice (some ⟨g, 0, none⟩) I0.l.length vc) from HY4.out.other ⟨g, i * 6 + 4, none⟩ (.int .i64 x') (by simp; omega))
    have HW5 := Lib.hid (HW4.out.setCell (p := ⟨g, i * 6 + 4, none⟩) (by simp; omega) (.int .i64 x'))
    have HE5 := Lib.hid (HE0.out.below HW5.out)
    have HNE0 := Lib.hid (show I0.l ≠ I0.l.set i ⟨t.x, t.y, t.d, t.r, x', t.s⟩ from set_ne hil (fun e => by rw [HTT.out] at e; have := congrArg Stp.u e; exact HNX.out this))
    have HNE := Lib.hid (show decide (I0 = ⟨I0.p, I0.c, I0.r, I0.l.set i ⟨t.x, t.y, t.d, t.r, x', t.s⟩⟩) = false ∧ decide (⟨I0.p, I0.c, I0.r, I0.l.set i ⟨t.x, t.y, t.d, t.r, x', t.s⟩⟩ = I0) = false from ⟨decide_eq_false (fun e => HNE0.out (congrArg Ins.l e)), decide_eq_false (fun e => HNE0.out (congrArg Ins.l e).symm)⟩)
    go_wp2_with fail
    generalize HH : w4.setCell ⟨g, i * 6 + 4, none⟩ (.int .i64 x') = W5 at *
    clear HH c0 c1 c2 c3 y0 y1 y2 y3 e0 e1 e2 e3 e4 e5
    change Calls _ _ #[insV I0 (.slice a I0.l.length cap), insV ⟨I0.p, I0.c, I0.r, I0.l.set i ⟨t.x, t.y, t.d, t.r, x', t.s⟩⟩ (.slice (some ⟨g, 0, none⟩) I0.l.length vc)] _ _
    refine (isame_any (J := ⟨I0.p, I0.c, I0.r, I0.l.set i ⟨t.x, t.y, t.d, t.r, x', t.s⟩⟩) HE5.out HO5.out.row).mono ?_
    rw [HNE.out.1]
    rintro e w6 ⟨rfl, hb⟩
    have HX6 := Lib.hid (HX5.out.later hb)
    have HY6 := Lib.hid (HY5.out.later hb)
    have HE6 := Lib.hid (HE5.out.below hb)
    have HO6 := Lib.hid (HO5.out.below hb)
    have HW6 := Lib.hid (HW5.out.trans (hb.mono HW5.out.size))
    clear hb
    obtain ⟨c0, c1, c2, c3⟩ := HX6.out.cells
    obtain ⟨y0, y1, y2, y3⟩ := HY6.out.cells
    go_wp2_with fail
    change Calls _ _ #[insV ⟨I0.p, I0.c, I0.r, I0.l.set i ⟨t.x, t.y, t.d, t.r, x', t.s⟩⟩ (.slice (some ⟨g, 0, none⟩) I0.l.length vc), insV I0 (.slice a I0.l.length cap)] _ _
    refine (isame_any (I := ⟨I0.p, I0.c, I0.r, I0.l.set i ⟨t.x, t.y, t.d, t.r, x', t.s⟩⟩) HO6.out.row HE6.out).mono ?_
    rw [HNE.out.2]
    rintro e w7 ⟨rfl, hb⟩
    have HW7 := Lib.hid (HW6.out.trans (hb.mono HW6.out.size))
    clear hb
    go_wp2
    go_ret
    exact ⟨rfl, HB0.out.trans (HW7.out.mono HB0.out.size)⟩
  have k1 : (a2 == 1) = false := by simp [q1]
  by_cases q2 : a2 = 2
  · subst q2
    obtain ⟨x', hx'⟩ : ∃ x', IntKind.i64.wrap (t.d + 1) = x' := ⟨_, rfl⟩
    have hx2 : wrap64 (t.d + 1) = x' := by rw [← IntWalk.i64_left]; exact hx'
    have HNX := Lib.hid (show x' ≠ t.d from fun e => wrap_ne t.d HFT.out.2.2.1 (hx'.trans e))
    have fx := hfr (i * 6 + 2)
    have HO5 := Lib.hid ((HO4.out.stored i 2 ⟨t.x, t.y, x', t.r, t.u, t.s⟩ (.int .i64 x') hil (by omega) (by rw [HTT.out]; rfl) ⟨g, i * 6 + 2, none⟩ rfl).1)
    have HX5 := Lib.hid (HX4.out.other ⟨g, i * 6 + 2, none⟩ (.int .i64 x') (by simp; omega))
    have HY5 := Lib.hid (show YBox (w4.setCell ⟨g, i * 6 + 2, none⟩ (.int .i64 x')) w1.heap.size ⟨I0.p, I0.c, I0.r, I0.l.set i ⟨t.x, t.y, x', t.r, t.u, t.s⟩⟩ (.slice (some ⟨g, 0, none⟩) I0.l.length vc) from HY4.out.other ⟨g, i * 6 + 2, none⟩ (.int .i64 x') (by simp; omega))
    have HW5 := Lib.hid (HW4.out.setCell (p := ⟨g, i * 6 + 2, none⟩) (by simp; omega) (.int .i64 x'))
    have HE5 := Lib.hid (HE0.out.below HW5.out)
    have HNE0 := Lib.hid (show I0.l ≠ I0.l.set i ⟨t.x, t.y, x', t.r, t.u, t.s⟩ from set_ne hil (fun e => by rw [HTT.out] at e; have := congrArg Stp.d e; exact HNX.out this))
    have HNE := Lib.hid (show decide (I0 = ⟨I0.p, I0.c, I0.r, I0.l.set i ⟨t.x, t.y, x', t.r, t.u, t.s⟩⟩) = false ∧ decide (⟨I0.p, I0.c, I0.r, I0.l.set i ⟨t.x, t.y, x', t.r, t.u, t.s⟩⟩ = I0) = false from ⟨decide_eq_false (fun e => HNE0.out (congrArg Ins.l e)), decide_eq_false (fun e => HNE0.out (congrArg Ins.l e).symm)⟩)
    go_wp2_with fail
    generalize HH : w4.setCell ⟨g, i * 6 + 2, none⟩ (.int .i64 x') = W5 at *
    clear HH c0 c1 c2 c3 y0 y1 y2 y3 e0 e1 e2 e3 e4 e5
    change Calls _ _ #[insV I0 (.slice a I0.l.length cap), insV ⟨I0.p, I0.c, I0.r, I0.l.set i ⟨t.x, t.y, x', t.r, t.u, t.s⟩⟩ (.slice (some ⟨g, 0, none⟩) I0.l.length vc)] _ _
    refine (isame_any (J := ⟨I0.p, I0.c, I0.r, I0.l.set i ⟨t.x, t.y, x', t.r, t.u, t.s⟩⟩) HE5.out HO5.out.row).mono ?_
    rw [HNE.out.1]
    rintro e w6 ⟨rfl, hb⟩
    have HX6 := Lib.hid (HX5.out.later hb)
    have HY6 := Lib.hid (HY5.out.later hb)
    have HE6 := Lib.hid (HE5.out.below hb)
    have HO6 := Lib.hid (HO5.out.below hb)
    have HW6 := Lib.hid (HW5.out.trans (hb.mono HW5.out.size))
    clear hb
    obtain ⟨c0, c1, c2, c3⟩ := HX6.out.cells
    obtain ⟨y0, y1, y2, y3⟩ := HY6.out.cells
    go_wp2_with fail
    change Calls _ _ #[insV ⟨I0.p, I0.c, I0.r, I0.l.set i ⟨t.x, t.y, x', t.r, t.u, t.s⟩⟩ (.slice (some ⟨g, 0, none⟩) I0.l.length vc), insV I0 (.slice a I0.l.length cap)] _ _
    refine (isame_any (I := ⟨I0.p, I0.c, I0.r, I0.l.set i ⟨t.x, t.y, x', t.r, t.u, t.s⟩⟩) HO6.out.row HE6.out).mono ?_
    rw [HNE.out.2]
    rintro e w7 ⟨rfl, hb⟩
    have HW7 := Lib.hid (HW6.out.trans (hb.mono HW6.out.size))
    clear hb
    go_wp2
    go_ret
    exact ⟨rfl, HB0.out.trans (HW7.out.mono HB0.out.size)⟩
  have k2 : (a2 == 2) = false := by simp [q2]
  clear q0 q1 q2
  obtain ⟨x', hx'⟩ : ∃ x', IntKind.i64.wrap (I0.r + 1) = x' := ⟨_, rfl⟩
  have hx2 : wrap64 (I0.r + 1) = x' := by rw [← IntWalk.i64_left]; exact hx'
  have HNX := Lib.hid (show x' ≠ I0.r from fun e => wrap_ne I0.r HFI.out.2.2.1 (hx'.trans e))
  have fx := HY4.out.free 2
  have HO5 := Lib.hid (show OwnS (w4.setCell ⟨w1.heap.size, 2, none⟩ (.int .i64 x')) (w1.heap.size + 1) (.slice (some ⟨g, 0, none⟩) I0.l.length vc) I0.l from ownsRow_setCell_below HO4.out (by simp) _)
  have HX5 := Lib.hid (HX4.out.other ⟨w1.heap.size, 2, none⟩ (.int .i64 x') (by simp; omega))
  have HY5 := Lib.hid (HY4.out.room x')
  have HW5 := Lib.hid (HW4.out.setCell (p := ⟨w1.heap.size, 2, none⟩) hsW (.int .i64 x'))
  have HE5 := Lib.hid (HE0.out.below HW5.out)
  have HNE := Lib.hid (show decide (I0 = ⟨I0.p, I0.c, x', I0.l⟩) = false ∧ decide (⟨I0.p, I0.c, x', I0.l⟩ = I0) = false from ⟨decide_eq_false (fun e => HNX.out (congrArg Ins.r e).symm), decide_eq_false (fun e => HNX.out (congrArg Ins.r e))⟩)
  go_wp2_with fail
  generalize HH : w4.setCell ⟨w1.heap.size, 2, none⟩ (.int .i64 x') = W5 at *
  clear HH c0 c1 c2 c3 y0 y1 y2 y3 e0 e1 e2 e3 e4 e5
  change Calls _ _ #[insV I0 (.slice a I0.l.length cap), insV ⟨I0.p, I0.c, x', I0.l⟩ (.slice (some ⟨g, 0, none⟩) I0.l.length vc)] _ _
  refine (isame_any (J := ⟨I0.p, I0.c, x', I0.l⟩) HE5.out HO5.out.row).mono ?_
  rw [HNE.out.1]
  rintro e w6 ⟨rfl, hb⟩
  have HX6 := Lib.hid (HX5.out.later hb)
  have HY6 := Lib.hid (HY5.out.later hb)
  have HE6 := Lib.hid (HE5.out.below hb)
  have HO6 := Lib.hid (HO5.out.below hb)
  have HW6 := Lib.hid (HW5.out.trans (hb.mono HW5.out.size))
  clear hb
  obtain ⟨c0, c1, c2, c3⟩ := HX6.out.cells
  obtain ⟨y0, y1, y2, y3⟩ := HY6.out.cells
  go_wp2_with fail
  change Calls _ _ #[insV ⟨I0.p, I0.c, x', I0.l⟩ (.slice (some ⟨g, 0, none⟩) I0.l.length vc), insV I0 (.slice a I0.l.length cap)] _ _
  refine (isame_any (I := ⟨I0.p, I0.c, x', I0.l⟩) HO6.out.row HE6.out).mono ?_
  rw [HNE.out.2]
  rintro e w7 ⟨rfl, hb⟩
  have HW7 := Lib.hid (HW6.out.trans (hb.mono HW6.out.size))
  clear hb
  go_wp2
  go_ret
  exact ⟨rfl, HB0.out.trans (HW7.out.mono HB0.out.size)⟩

set_option maxRecDepth 100000 in
theorem lifted (os : Os) (started : os.Started) (H : Type) (enc : TypeId × Value → H) :
    ReturnsInHanded {} Tryd.checked os 8 .any (fun w args => (Rows.instSameSpec.pre enc Tryd.prog Tryd.f8 [] false w args ∧ laidMetH Tryd.prog Rows.instSameRow.laid w) ∧ sizedMet enc Tryd.prog Tryd.f8 (OpenSpec.ofChange Rows.instSameSpec) false w args)
      (Rows.instSameSpec.post enc Tryd.prog Tryd.f8 false true false false) := by
  refine returnsInHanded_of_change_and (C := Tryd.checked) (X := fun w _ => laidMetH Tryd.prog Rows.instSameRow.laid w) (fun _ _ _ hh h => h.of_heap hh) own started (by kernel_rfl) Tryd.func8
    (ChangeSpec.witness_shaped (enc := enc) (C := Tryd.checked) (os := os) (X := fun w _ => laidMetH Tryd.prog Rows.instSameRow.laid w) false (World.doorLaid Tryd.prog 24 os) #[.agg #[.int .i64 0, .int .i64 0, .int .i64 0, .slice none 0 0], .int .i64 0, .int .i64 0] 8 rfl (World.shaped_of_RefB (by kernel_rfl) (by kernel_rfl)) (by kernel_rfl) (by kernel_rfl) (by kernel_rfl) (door_met os _)) ?_
  intro W base args ds gs before hval0 hW _ _ hL _
  have hval : ∀ (j : Nat) t v, Tryd.f8.params[j]? = some t → args[j]? = some v → Value.okWide Tryd.prog W .any base t v := hval0
  have hW' := hW
  obtain ⟨p, q, hA0, hV, rfl, hfz, hnd⟩ := hW
  have hA : DataW.TrodAll enc Tryd.prog W 0 (fun _ => true) true Tryd.f8.params.toList args.toList ds p := hA0
  rw [Tryd.params8] at hA hval
  obtain ⟨v0, vs0, d0, ds0, p0, q0, hargs, rfl, rfl, h0, r0⟩ := trodAll_cons hA
  obtain ⟨v1, vs1, d1, ds1, p1, q1, rfl, rfl, rfl, h1, r1⟩ := trodAll_cons r0
  obtain ⟨v2, vs2, d2, ds2, p2, q2, rfl, rfl, rfl, h2, r2⟩ := trodAll_cons r1
  obtain ⟨rfl, rfl, rfl⟩ := trodAll_nil r2
  obtain rfl : args = #[v0, v1, v2] := by cases args; simp_all
  obtain ⟨rfl, rfl⟩ := trodVars_none hV
  have k0 := h0
  have lt0 : ∀ x ∈ p0, x.block < W.heap.size := by obtain ⟨m, hm⟩ := k0; exact DataW.trod_lt m _ _ _ hm
  have k1 := h1
  have lt1 : ∀ x ∈ p1, x.block < W.heap.size := by obtain ⟨m, hm⟩ := k1; exact DataW.trod_lt m _ _ _ hm
  have k2 := h2
  have lt2 : ∀ x ∈ p2, x.block < W.heap.size := by obtain ⟨m, hm⟩ := k2; exact DataW.trod_lt m _ _ _ hm
  obtain ⟨I0, u0, rfl, e0, f0⟩ := open_inst (hval 0 26 v0 rfl rfl) h0
  obtain ⟨a1, rfl, rfl, rfl, i1⟩ := open_int Tryd.underlying3 (hval 1 3 v1 rfl rfl) h1
  obtain ⟨a2, rfl, rfl, rfl, i2⟩ := open_int Tryd.underlying3 (hval 2 3 v2 rfl rfl) h2
  have hT := tab_of_laid hL
  clear hA0 hval0
  refine (walk I0 _ a1 a2 W e0 f0 hT).mono fun e W' ⟨he, bel⟩ => ?_
  subst he
  exact ⟨_, rfl, _, _, _, [], _, [], hW', trodAll_mk1 (shut_bool Tryd.underlying4 _), (trodAll_cons_mk (Below.trod laidOut (by kernel_rfl) (of_decide_eq_true (by kernel_rfl)) k0 bel lt0) (trodAll_cons_mk (Below.trod laidOut (by kernel_rfl) (of_decide_eq_true (by kernel_rfl)) k1 bel lt1) (trodAll_cons_mk (Below.trod laidOut (by kernel_rfl) (of_decide_eq_true (by kernel_rfl)) k2 bel lt2) trodAll_mk0))), rfl, bel.frame _, fun h => by cases h⟩

theorem over : Rows.InstSameSaid :=
  OpenClaim.holds_of_wide 8 Tryd.f8 rfl rfl rfl rfl rfl rfl rfl ⟨rfl, rfl, rfl, rfl, rfl⟩ rfl rfl rfl rfl rfl (by kernel_rfl) Tryd.func8 (by kernel_rfl)
    (of_decide_eq_true (by kernel_rfl)) (by unfold Func.isWrapper; first | (rw [if_pos (by decide +kernel)]; kernel_rfl) | (rw [if_neg (by decide +kernel)]; exact ⟨rfl, rfl⟩))
    (fun os started H enc _ => lifted os started H enc)

theorem proved : Rows.InstSameCardSaid :=
  Claim7.holds_tied_plain_at .later [] [.data, .data, .data] true Rows.instSameCard.stood.harness false
    over (fun _ h => by cases h) (by kernel_rfl) (fun _ h => by cases h) instSame_row_tie rfl ⟨rfl, rfl⟩ (by kernel_rfl) rfl
    (fun f fn hf hfn => by
      obtain rfl : f = 8 := Option.some.inj ((show Tryd.prog.funcNamed Rows.instSameRow.func = some 8 by kernel_rfl).symm.trans hf) |>.symm
      obtain rfl : fn = Tryd.f8 := (Option.some.inj (Tryd.func8.symm.trans hfn)).symm
      refine ⟨by kernel_rfl, fun j t ht => ?_⟩
      rw [Tryd.params8] at ht
      rcases j with _ | _ | _ | j
      · obtain rfl : t = 26 := by simpa using ht.symm
        exact (show Tryd.prog.wantsStandIn 26 = false by kernel_rfl)
      · obtain rfl : t = 3 := by simpa using ht.symm
        exact (show Tryd.prog.wantsStandIn 3 = false by kernel_rfl)
      · obtain rfl : t = 3 := by simpa using ht.symm
        exact (show Tryd.prog.wantsStandIn 3 = false by kernel_rfl)
      · simp at ht)
    (by kernel_rfl)
#print axioms proved
end Go.Proofs.YtkhlmgkapmofiaaDoor.instSame
