/- InstAgain holds for every text, where the library's tables start as its text lays them (the card ties that); there is no further condition. -/
import Derived.Test.YtkhlmgkapmofiaaDoorRows
import Derived.Test.YtkhlmgkapmofiaaDoorTie
import Derived.Test.YtkhlmgkapmofiaaDoorCards
import Derived.Test.YtkhlmgkapmofiaaDoorLaid
import Derived.SevenTiedAt
import Derived.Test.YtkhlmgkapmofiaaDoorISame
import Derived.Test.YtkhlmgkapmofiaaDoorIOwn
namespace Go.Proofs.YtkhlmgkapmofiaaDoor.instAgain
open Go.ChangeShapes Go.WideShapes Go.ChangeAt Go.RowKit

set_option maxRecDepth 1000000 in
set_option maxHeartbeats 1000000 in
theorem walk (v0 : Value) (l0 : List Int) (w : World) (e0 : Row w v0 (byts l0)) (hT : Tab w.heap.size w) :
    Calls Tryd.prog 6 #[v0] w fun e w' => e = .returned (.bool true) ∧ Below w.heap.size w w' := by
  have HT := Lib.hid hT
  have HE := Lib.hid e0
  obtain ⟨a, cap, rfl, hm⟩ := e0.form
  simp only [byts_len] at *
  clear hT e0 hm
  by_cases hlen : 6000 < l0.length
  · have hd : decide ((6000 : Int) < (l0.length : Int)) = true := decide_eq_true (by omega)
    go_enter Tryd.func6, Tryd.ntmps6
    go_wp2_with fail
    refine (iawake_any _ HT.out).mono ?_
    rintro e w1 ⟨rfl, hb⟩
    have HB := Lib.hid hb
    clear hb
    go_wp2
    go_ret
    exact ⟨rfl, HB.out⟩
  · have hd : decide ((6000 : Int) < (l0.length : Int)) = false := decide_eq_false (by omega)
    go_enter Tryd.func6, Tryd.ntmps6
    go_wp2_with fail
    refine (iawake_any _ HT.out).mono ?_
    rintro e w1 ⟨rfl, hb⟩
    have HB := Lib.hid hb
    clear hb
    go_wp2_with fail
    obtain ⟨I, hI⟩ : ∃ I, pins l0 = I := ⟨_, rfl⟩
    have HI := Lib.hid hI
    refine (parse_any (HE.out.below HB.out)).mono ?_
    rintro e w2 ⟨v, rfl, hv, hb⟩
    rw [HI.out] at hv ⊢
    have HV := Lib.hid hv
    have HB2 := Lib.hid (HB.out.trans (hb.mono HB.out.size))
    obtain ⟨va, vc, rfl⟩ := hv.shape
    clear hv hb
    unfold insV
    by_cases hp : perr l0 = 0
    · have HM := Lib.hid (show mayB I = true by rw [← hI]; exact (perr_ok hp).2.2.2)
      have HBK := Lib.hid (back HM.out)
      rw [hp]
      clear hp hI
      go_wp2_with fail
      change Calls _ _ #[insV I (.slice va I.l.length vc)] (w2.alloc (boxI I (.slice va I.l.length vc))) _
      have HB3 := Lib.hid (HB2.out.alloc HB2.out.size (boxI I (.slice va I.l.length vc)))
      have HX := Lib.hid (ybox_new w2 I (.slice va I.l.length vc))
      have HV3 := Lib.hid (HV.out.alloc (boxI I (.slice va I.l.length vc)))
      generalize w2.alloc (boxI I (.slice va I.l.length vc)) = W at *
      refine (iprint_any HV3.out.row ((HT.out.on HB3.out).up HB3.out.size)).mono ?_
      intro e w3 hP
      rcases hP with ⟨hno, _⟩ | ⟨_, pv, rfl, hp, hb⟩
      · rw [HM.out] at hno; simp at hno
      have HP := Lib.hid hp
      have HX3 := Lib.hid (HX.out.later hb)
      have HV4 := Lib.hid (HV3.out.below hb)
      have HB4 := Lib.hid (HB3.out.trans (hb.mono HB3.out.size))
      obtain ⟨pa, pc, rfl⟩ := hp.shape
      clear hp hb
      go_wp2_with fail
      refine (parse_any HP.out.row).mono ?_
      rintro e w4 ⟨u, rfl, hu, hb⟩
      rw [HBK.out.1]
      rw [HBK.out.2] at hu ⊢
      have HU := Lib.hid hu
      obtain ⟨ua, uc, rfl⟩ := hu.shape
      have HX4 := Lib.hid (HX3.out.later hb)
      have HV5 := Lib.hid (HV4.out.below hb)
      have HP4 := Lib.hid (HP.out.below hb)
      have HB5 := Lib.hid (HB4.out.trans (hb.mono HB4.out.size))
      clear hu hb
      unfold insV
      go_wp2_with fail
      change Calls _ _ #[insV I (.slice ua I.l.length uc)] (w4.alloc (boxI I (.slice ua I.l.length uc))) _
      have HB6 := Lib.hid (HB5.out.alloc HB5.out.size (boxI I (.slice ua I.l.length uc)))
      have HY := Lib.hid (ybox_new w4 I (.slice ua I.l.length uc))
      have HX5 := Lib.hid (HX4.out.later ((Below.refl _ w4).alloc (Nat.le_refl _) (boxI I (.slice ua I.l.length uc))))
      have HU5 := Lib.hid (HU.out.alloc (boxI I (.slice ua I.l.length uc)))
      have HV6 := Lib.hid (HV5.out.alloc (boxI I (.slice ua I.l.length uc)))
      have HP5 := Lib.hid (HP4.out.alloc (boxI I (.slice ua I.l.length uc)))
      generalize w4.alloc (boxI I (.slice ua I.l.length uc)) = W2 at *
      refine (iprint_any HU5.out.row ((HT.out.on HB6.out).up HB6.out.size)).mono ?_
      intro e w5 hP
      rcases hP with ⟨hno, _⟩ | ⟨_, qv, rfl, hp, hb⟩
      · rw [HM.out] at hno; simp at hno
      have HQ := Lib.hid hp
      have HX6 := Lib.hid (HX5.out.later hb)
      have HY6 := Lib.hid (HY.out.later hb)
      have HU6 := Lib.hid (HU5.out.below hb)
      have HV7 := Lib.hid (HV6.out.below hb)
      have HP6 := Lib.hid (HP5.out.below hb)
      have HB7 := Lib.hid (HB6.out.trans (hb.mono HB6.out.size))
      obtain ⟨qa, qc, rfl⟩ := hp.shape
      clear hp hb
      obtain ⟨c0, c1, c2, c3⟩ := HX6.out.cells
      go_wp2_with fail
      refine (may_any HV7.out.row).mono ?_
      rw [HM.out]
      rintro e w6 ⟨rfl, hb⟩
      have HX7 := Lib.hid (HX6.out.later hb)
      have HY7 := Lib.hid (HY6.out.later hb)
      have HU7 := Lib.hid (HU6.out.below hb)
      have HV8 := Lib.hid (HV7.out.below hb)
      have HP7 := Lib.hid (HP6.out.below hb)
      have HQ7 := Lib.hid (HQ.out.below hb)
      have HB8 := Lib.hid (HB7.out.trans (hb.mono HB7.out.size))
      clear hb c0 c1 c2 c3
      obtain ⟨c0, c1, c2, c3⟩ := HX7.out.cells
      obtain ⟨y0, y1, y2, y3⟩ := HY7.out.cells
      go_wp2_with fail
      change Calls _ _ #[insV I (.slice va I.l.length vc), insV I (.slice ua I.l.length uc)] _ _
      refine (isame_any HV8.out.row HU7.out.row).mono ?_
      rw [decide_eq_true (rfl : I = I)]
      rintro e w7 ⟨rfl, hb⟩
      have hcv1 := conv_row (HP7.out.below hb).row
      have hcv2 := conv_row (HQ7.out.below hb).row
      have HB9 := Lib.hid (HB8.out.trans (hb.mono HB8.out.size))
      obtain ⟨sv, hsv⟩ : ∃ sv, strOfNums (textOf (linesI I)) = sv := ⟨_, rfl⟩
      rw [hsv] at hcv1 hcv2
      clear hb c0 c1 c2 c3 y0 y1 y2 y3 hsv
      go_wp2
      go_ret
      exact ⟨rfl, HB9.out⟩
    · have hI0 := (perr_bad hp).symm.trans hI
      subst hI0
      have hn : (perr l0 != 0) = true := by simp [hp]
      generalize perr l0 = ee at *
      have k1 : noIns.p = 0 := rfl
      have k2 : noIns.l.length = 0 := rfl
      rw [k1, k2] at *
      clear hp hI HI
      go_wp2
      go_ret
      exact ⟨rfl, HB2.out.alloc HB2.out.size _⟩

set_option maxRecDepth 100000 in
theorem lifted (os : Os) (started : os.Started) (H : Type) (enc : TypeId × Value → H) :
    ReturnsInHanded {} Tryd.checked os 6 .any (fun w args => (Rows.instAgainSpec.pre enc Tryd.prog Tryd.f6 [] false w args ∧ laidMetH Tryd.prog Rows.instAgainRow.laid w) ∧ sizedMet enc Tryd.prog Tryd.f6 (OpenSpec.ofChange Rows.instAgainSpec) false w args)
      (Rows.instAgainSpec.post enc Tryd.prog Tryd.f6 false true false false) := by
  refine returnsInHanded_of_change_and (C := Tryd.checked) (X := fun w _ => laidMetH Tryd.prog Rows.instAgainRow.laid w) (fun _ _ _ hh h => h.of_heap hh) own started (by kernel_rfl) Tryd.func6
    (ChangeSpec.witness_shaped (enc := enc) (C := Tryd.checked) (os := os) (X := fun w _ => laidMetH Tryd.prog Rows.instAgainRow.laid w) false (World.doorLaid Tryd.prog 24 os) #[.slice none 0 0] 8 rfl (World.shaped_of_RefB (by kernel_rfl) (by kernel_rfl)) (by kernel_rfl) (by kernel_rfl) (by kernel_rfl) (door_met os _)) ?_
  intro W base args ds gs before hval0 hW _ _ hL _
  have hval : ∀ (j : Nat) t v, Tryd.f6.params[j]? = some t → args[j]? = some v → Value.okWide Tryd.prog W .any base t v := hval0
  have hW' := hW
  obtain ⟨p, q, hA0, hV, rfl, hfz, hnd⟩ := hW
  have hA : DataW.TrodAll enc Tryd.prog W 0 (fun _ => true) true Tryd.f6.params.toList args.toList ds p := hA0
  rw [Tryd.params6] at hA hval
  obtain ⟨v0, vs0, d0, ds0, p0, q0, hargs, rfl, rfl, h0, r0⟩ := trodAll_cons hA
  obtain ⟨rfl, rfl, rfl⟩ := trodAll_nil r0
  obtain rfl : args = #[v0] := by cases args; simp_all
  obtain ⟨rfl, rfl⟩ := trodVars_none hV
  have k0 := h0
  have lt0 : ∀ x ∈ p0, x.block < W.heap.size := by obtain ⟨m, hm⟩ := k0; exact DataW.trod_lt m _ _ _ hm
  obtain ⟨a0, len0, cap0, rfl⟩ := okWide_slice Tryd.underlying22 (hval 0 22 v0 rfl rfl)
  obtain ⟨l0, e0⟩ := open_bytes h0
  have hT := tab_of_laid hL
  clear hA0 hval0
  refine (walk _ l0 W e0 hT).mono fun e W' ⟨he, bel⟩ => ?_
  subst he
  exact ⟨_, rfl, _, _, _, [], _, [], hW', trodAll_mk1 (shut_bool Tryd.underlying4 _), (trodAll_cons_mk (Below.trod laidOut (by kernel_rfl) (of_decide_eq_true (by kernel_rfl)) k0 bel lt0) trodAll_mk0), rfl, bel.frame _, fun h => by cases h⟩

theorem over : Rows.InstAgainSaid :=
  OpenClaim.holds_of_wide 6 Tryd.f6 rfl rfl rfl rfl rfl rfl rfl ⟨rfl, rfl, rfl, rfl, rfl⟩ rfl rfl rfl rfl rfl (by kernel_rfl) Tryd.func6 (by kernel_rfl)
    (of_decide_eq_true (by kernel_rfl)) (by unfold Func.isWrapper; first | (rw [if_pos (by decide +kernel)]; kernel_rfl) | (rw [if_neg (by decide +kernel)]; exact ⟨rfl, rfl⟩))
    (fun os started H enc _ => lifted os started H enc)

theorem proved : Rows.InstAgainCardSaid :=
  Claim7.holds_tied_plain_at .later [] [.data, .data, .data] true Rows.instAgainCard.stood.harness false
    over (fun _ h => by cases h) (by kernel_rfl) (fun _ h => by cases h) instAgain_row_tie rfl ⟨rfl, rfl⟩ (by kernel_rfl) rfl
    (fun f fn hf hfn => by
      obtain rfl : f = 6 := Option.some.inj ((show Tryd.prog.funcNamed Rows.instAgainRow.func = some 6 by kernel_rfl).symm.trans hf) |>.symm
      obtain rfl : fn = Tryd.f6 := (Option.some.inj (Tryd.func6.symm.trans hfn)).symm
      refine ⟨by kernel_rfl, fun j t ht => ?_⟩
      rw [Tryd.params6] at ht
      rcases j with _ | j
      · obtain rfl : t = 22 := by simpa using ht.symm
        exact (show Tryd.prog.wantsStandIn 22 = false by kernel_rfl)
      · simp at ht)
    (by kernel_rfl)
#print axioms proved
end Go.Proofs.YtkhlmgkapmofiaaDoor.instAgain
