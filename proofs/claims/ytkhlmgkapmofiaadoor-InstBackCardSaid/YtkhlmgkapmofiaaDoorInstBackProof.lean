/- InstBack holds for every instance, where the library's tables start as its text lays them (the card ties that); there is no further condition. -/
import Derived.Test.YtkhlmgkapmofiaaDoorRows
import Derived.Test.YtkhlmgkapmofiaaDoorTie
import Derived.Test.YtkhlmgkapmofiaaDoorCards
import Derived.Test.YtkhlmgkapmofiaaDoorLaid
import Derived.SevenTiedAt
import Derived.Test.YtkhlmgkapmofiaaDoorISame
import Derived.Test.YtkhlmgkapmofiaaDoorIArgs
namespace Go.Proofs.YtkhlmgkapmofiaaDoor.instBack
open Go.ChangeShapes Go.WideShapes Go.ChangeAt Go.RowKit

set_option maxRecDepth 1000000 in
set_option maxHeartbeats 1000000 in
theorem walk (I0 : Ins) (v0 : Value) (w : World) (e0 : SRow w v0 I0.l) (hT : Tab w.heap.size w) :
    Calls Tryd.prog 5 #[insV I0 v0] w fun e w' => e = .returned (.bool true) ∧ Below w.heap.size w w' := by
  have HT := Lib.hid hT
  have HE := Lib.hid e0
  obtain ⟨a, cap, rfl, _⟩ := e0.form
  clear hT e0
  unfold insV
  by_cases hlen : 100 < I0.l.length
  · have hd : decide ((100 : Int) < (I0.l.length : Int)) = true := decide_eq_true (by omega)
    go_enter Tryd.func5, Tryd.ntmps5
    go_wp2_with fail
    change Calls _ _ _ (w.alloc (boxI I0 (.slice a I0.l.length cap))) _
    have HB0 := Lib.hid ((Below.refl _ w).alloc (Nat.le_refl _) (boxI I0 (.slice a I0.l.length cap)))
    have HS0 := Lib.hid (holds_box w I0 (.slice a I0.l.length cap))
    have hlt : w.heap.size < (w.alloc (boxI I0 (.slice a I0.l.length cap))).heap.size := by simp
    generalize w.alloc (boxI I0 (.slice a I0.l.length cap)) = W at *
    refine (iawake_any _ ((HT.out.on HB0.out).up HB0.out.size)).mono ?_
    rintro e w1 ⟨rfl, hb⟩
    have hc := Holds.below hb HS0.out ⟨hlt, hlt, hlt, hlt, trivial⟩
    simp only [cellsI, Holds] at hc
    obtain ⟨c0, c1, c2, c3, _⟩ := hc
    have HB := Lib.hid (HB0.out.trans (hb.mono HB0.out.size))
    clear hb
    go_wp2
    go_ret
    exact ⟨rfl, HB.out⟩
  · have hd : decide ((100 : Int) < (I0.l.length : Int)) = false := decide_eq_false (by omega)
    go_enter Tryd.func5, Tryd.ntmps5
    go_wp2_with fail
    change Calls _ _ _ (w.alloc (boxI I0 (.slice a I0.l.length cap))) _
    have HB0 := Lib.hid ((Below.refl _ w).alloc (Nat.le_refl _) (boxI I0 (.slice a I0.l.length cap)))
    have HS0 := Lib.hid (holds_box w I0 (.slice a I0.l.length cap))
    have hlt : w.heap.size < (w.alloc (boxI I0 (.slice a I0.l.length cap))).heap.size := by simp
    have HLO := Lib.hid (show Lows (w.alloc (boxI I0 (.slice a I0.l.length cap))).heap.size (cellsI w.heap.size I0 (.slice a I0.l.length cap)) from ⟨hlt, hlt, hlt, hlt, trivial⟩)
    have HE0 := Lib.hid (HE.out.below HB0.out)
    generalize w.alloc (boxI I0 (.slice a I0.l.length cap)) = W at *
    refine (iawake_any _ ((HT.out.on HB0.out).up HB0.out.size)).mono ?_
    rintro e w1 ⟨rfl, hb⟩
    have hc := Holds.below hb HS0.out HLO.out
    simp only [cellsI, Holds] at hc
    obtain ⟨c0, c1, c2, c3, _⟩ := hc
    have HB := Lib.hid (HB0.out.trans (hb.mono HB0.out.size))
    have HW1 := Lib.hid hb
    clear hb
    go_wp2_with fail
    refine (iprint_any (HE0.out.below HW1.out) ((HT.out.on HB.out).up HB.out.size)).mono ?_
    intro e w2 hP
    rcases hP with ⟨hno, rfl, hb⟩ | ⟨hyes, pv, rfl, hp, hb⟩
    · have HNO := Lib.hid hno
      have HW2 := Lib.hid (HW1.out.trans (hb.mono HW1.out.size))
      have hc := Holds.below HW2.out HS0.out HLO.out
      simp only [cellsI, Holds] at hc
      obtain ⟨d0, d1, d2, d3, _⟩ := hc
      clear hno hb c0 c1 c2 c3
      go_wp2_with fail
      refine (may_any (HE0.out.below HW2.out)).mono ?_
      rw [HNO.out]
      rintro e w3 ⟨rfl, hb⟩
      have HW3 := Lib.hid (HW2.out.trans (hb.mono HW2.out.size))
      clear hb
      go_wp2
      go_ret
      exact ⟨rfl, HB0.out.trans (HW3.out.mono HB0.out.size)⟩
    · have HY := Lib.hid hyes
      have HBK := Lib.hid (back hyes)
      have HP := Lib.hid hp
      obtain ⟨pa, pc, rfl⟩ := hp.shape
      have HW2 := Lib.hid (HW1.out.trans (hb.mono HW1.out.size))
      clear hyes hb hp c0 c1 c2 c3
      go_wp2_with fail
      refine (parse_any HP.out.row).mono ?_
      rintro e w3 ⟨v, rfl, hv, hb⟩
      rw [HBK.out.1, HBK.out.2] at *
      have HV := Lib.hid hv
      obtain ⟨va, vc, rfl⟩ := hv.shape
      have HW3 := Lib.hid (HW2.out.trans (hb.mono HW2.out.size))
      clear hv hb
      unfold insV
      have hc := Holds.below HW3.out HS0.out HLO.out
      simp only [cellsI, Holds] at hc
      obtain ⟨c0, c1, c2, c3, _⟩ := hc
      have hz : w.heap.size < w3.heap.size := by have := HW3.out.size; omega
      go_wp2_with fail
      change Calls _ _ #[insV I0 (.slice a I0.l.length cap), insV I0 (.slice va I0.l.length vc)] (w3.alloc (boxI I0 (.slice va I0.l.length vc))) _
      have HV4 := Lib.hid (HV.out.alloc (boxI I0 (.slice va I0.l.length vc)))
      have HW4 := Lib.hid (HW3.out.alloc (by have := HW3.out.size; omega) (boxI I0 (.slice va I0.l.length vc)))
      generalize w3.alloc (boxI I0 (.slice va I0.l.length vc)) = w4 at *
      refine (isame_any (HE0.out.below HW4.out) HV4.out.row).mono ?_
      rw [decide_eq_true (rfl : I0 = I0)]
      rintro e w5 ⟨rfl, hb⟩
      have HW5 := Lib.hid (HW4.out.trans (hb.mono HW4.out.size))
      have hc := Holds.below HW5.out HS0.out HLO.out
      simp only [cellsI, Holds] at hc
      obtain ⟨d0, d1, d2, d3, _⟩ := hc
      clear hb c0 c1 c2 c3
      go_wp2_with fail
      refine (may_any (HE0.out.below HW5.out)).mono ?_
      rw [HY.out]
      rintro e w6 ⟨rfl, hb⟩
      have HW6 := Lib.hid (HW5.out.trans (hb.mono HW5.out.size))
      clear hb
      go_wp2
      go_ret
      exact ⟨rfl, HB0.out.trans (HW6.out.mono HB0.out.size)⟩

set_option maxRecDepth 100000 in
theorem lifted (os : Os) (started : os.Started) (H : Type) (enc : TypeId × Value → H) :
    ReturnsInHanded {} Tryd.checked os 5 .any (fun w args => (Rows.instBackSpec.pre enc Tryd.prog Tryd.f5 [] false w args ∧ laidMetH Tryd.prog Rows.instBackRow.laid w) ∧ sizedMet enc Tryd.prog Tryd.f5 (OpenSpec.ofChange Rows.instBackSpec) false w args)
      (Rows.instBackSpec.post enc Tryd.prog Tryd.f5 false true false false) := by
  refine returnsInHanded_of_change_and (C := Tryd.checked) (X := fun w _ => laidMetH Tryd.prog Rows.instBackRow.laid w) (fun _ _ _ hh h => h.of_heap hh) own started (by kernel_rfl) Tryd.func5
    (ChangeSpec.witness_shaped (enc := enc) (C := Tryd.checked) (os := os) (X := fun w _ => laidMetH Tryd.prog Rows.instBackRow.laid w) false (World.doorLaid Tryd.prog 24 os) #[.agg #[.int .i64 0, .int .i64 0, .int .i64 0, .slice none 0 0]] 8 rfl (World.shaped_of_RefB (by kernel_rfl) (by kernel_rfl)) (by kernel_rfl) (by kernel_rfl) (by kernel_rfl) (door_met os _)) ?_
  intro W base args ds gs before hval0 hW _ _ hL _
  have hval : ∀ (j : Nat) t v, Tryd.f5.params[j]? = some t → args[j]? = some v → Value.okWide Tryd.prog W .any base t v := hval0
  have hW' := hW
  obtain ⟨p, q, hA0, hV, rfl, hfz, hnd⟩ := hW
  have hA : DataW.TrodAll enc Tryd.prog W 0 (fun _ => true) true Tryd.f5.params.toList args.toList ds p := hA0
  rw [Tryd.params5] at hA hval
  obtain ⟨v0, vs0, d0, ds0, p0, q0, hargs, rfl, rfl, h0, r0⟩ := trodAll_cons hA
  obtain ⟨rfl, rfl, rfl⟩ := trodAll_nil r0
  obtain rfl : args = #[v0] := by cases args; simp_all
  obtain ⟨rfl, rfl⟩ := trodVars_none hV
  have k0 := h0
  have lt0 : ∀ x ∈ p0, x.block < W.heap.size := by obtain ⟨m, hm⟩ := k0; exact DataW.trod_lt m _ _ _ hm
  obtain ⟨I0, u0, rfl, e0, _⟩ := open_inst (hval 0 26 v0 rfl rfl) h0
  have hT := tab_of_laid hL
  clear hA0 hval0
  refine (walk I0 _ W e0 hT).mono fun e W' ⟨he, bel⟩ => ?_
  subst he
  exact ⟨_, rfl, _, _, _, [], _, [], hW', trodAll_mk1 (shut_bool Tryd.underlying4 _), (trodAll_cons_mk (Below.trod laidOut (by kernel_rfl) (of_decide_eq_true (by kernel_rfl)) k0 bel lt0) trodAll_mk0), rfl, bel.frame _, fun h => by cases h⟩

theorem over : Rows.InstBackSaid :=
  OpenClaim.holds_of_wide 5 Tryd.f5 rfl rfl rfl rfl rfl rfl rfl ⟨rfl, rfl, rfl, rfl, rfl⟩ rfl rfl rfl rfl rfl (by kernel_rfl) Tryd.func5 (by kernel_rfl)
    (of_decide_eq_true (by kernel_rfl)) (by unfold Func.isWrapper; first | (rw [if_pos (by decide +kernel)]; kernel_rfl) | (rw [if_neg (by decide +kernel)]; exact ⟨rfl, rfl⟩))
    (fun os started H enc _ => lifted os started H enc)

theorem proved : Rows.InstBackCardSaid :=
  Claim7.holds_tied_plain_at .later [] [.data, .data, .data] true Rows.instBackCard.stood.harness false
    over (fun _ h => by cases h) (by kernel_rfl) (fun _ h => by cases h) instBack_row_tie rfl ⟨rfl, rfl⟩ (by kernel_rfl) rfl
    (fun f fn hf hfn => by
      obtain rfl : f = 5 := Option.some.inj ((show Tryd.prog.funcNamed Rows.instBackRow.func = some 5 by kernel_rfl).symm.trans hf) |>.symm
      obtain rfl : fn = Tryd.f5 := (Option.some.inj (Tryd.func5.symm.trans hfn)).symm
      refine ⟨by kernel_rfl, fun j t ht => ?_⟩
      rw [Tryd.params5] at ht
      rcases j with _ | j
      · obtain rfl : t = 26 := by simpa using ht.symm
        exact (show Tryd.prog.wantsStandIn 26 = false by kernel_rfl)
      · simp at ht)
    (by kernel_rfl)
#print axioms proved
end Go.Proofs.YtkhlmgkapmofiaaDoor.instBack
