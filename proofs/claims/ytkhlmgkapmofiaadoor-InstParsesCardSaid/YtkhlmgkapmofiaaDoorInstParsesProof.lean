/- InstParses holds for every text, where the library's tables start as its text lays them (the card ties that); there is no further condition. -/
import Derived.Test.YtkhlmgkapmofiaaDoorRows
import Derived.Test.YtkhlmgkapmofiaaDoorTie
import Derived.Test.YtkhlmgkapmofiaaDoorCards
import Derived.Test.YtkhlmgkapmofiaaDoorLaid
import Derived.SevenTiedAt
import Derived.Test.YtkhlmgkapmofiaaDoorIRParse
import Derived.Test.YtkhlmgkapmofiaaDoorIRSame
import Derived.Test.YtkhlmgkapmofiaaDoorIOwn
namespace Go.Proofs.YtkhlmgkapmofiaaDoor.instParses
open Go.ChangeShapes Go.WideShapes Go.ChangeAt Go.RowKit

set_option maxRecDepth 1000000 in
set_option maxHeartbeats 1000000 in
theorem walk (v0 : Value) (l0 : List Int) (w : World) (e0 : Row w v0 (byts l0)) (hT : Tab w.heap.size w) :
    Calls Tryd.prog 3 #[v0] w fun e w' => e = .returned (.bool true) ∧ Below w.heap.size w w' := by
  have HT := Lib.hid hT
  have HE := Lib.hid e0
  obtain ⟨a, cap, rfl, hm⟩ := e0.form
  simp only [byts_len] at *
  clear hT e0 hm
  by_cases hlen : 6000 < l0.length
  · have hd : decide ((6000 : Int) < (l0.length : Int)) = true := decide_eq_true (by omega)
    go_enter Tryd.func3, Tryd.ntmps3
    go_wp2_with fail
    refine (iawake_any _ HT.out).mono ?_
    rintro e w1 ⟨rfl, hb⟩
    have HB := Lib.hid hb
    clear hb
    go_wp2
    go_ret
    exact ⟨rfl, HB.out⟩
  · have hd : decide ((6000 : Int) < (l0.length : Int)) = false := decide_eq_false (by omega)
    go_enter Tryd.func3, Tryd.ntmps3
    go_wp2_with fail
    refine (iawake_any _ HT.out).mono ?_
    rintro e w1 ⟨rfl, hb⟩
    have HB := Lib.hid hb
    clear hb
    go_wp2_with fail
    obtain ⟨I, hI⟩ : ∃ I, pins l0 = I := ⟨_, rfl⟩
    obtain ⟨ee, hee⟩ : ∃ k, perr l0 = k := ⟨_, rfl⟩
    have HI := Lib.hid hI
    have HEE := Lib.hid hee
    clear hI hee
    refine (parse_any (HE.out.below HB.out)).mono ?_
    rintro e w2 ⟨v, rfl, hv, hb⟩
    rw [HI.out] at hv ⊢
    rw [HEE.out]
    have HV := Lib.hid hv
    have HB2 := Lib.hid (HB.out.trans (hb.mono HB.out.size))
    obtain ⟨va, vc, rfl⟩ := hv.shape
    clear hv hb
    unfold insV
    go_wp2_with fail
    change Calls _ _ _ (w2.alloc (boxI I (.slice va I.l.length vc))) _
    have HB3 := Lib.hid (HB2.out.alloc HB2.out.size (boxI I (.slice va I.l.length vc)))
    have HX := Lib.hid (ybox_new w2 I (.slice va I.l.length vc))
    have HV3 := Lib.hid (HV.out.alloc (boxI I (.slice va I.l.length vc)))
    generalize w2.alloc (boxI I (.slice va I.l.length vc)) = W at *
    refine (rparse_any (HE.out.below HB3.out)).mono ?_
    rintro e w3 ⟨u, rfl, hu, hb⟩
    rw [HI.out] at hu ⊢
    rw [HEE.out]
    have HU := Lib.hid hu
    have HX3 := Lib.hid (HX.out.later hb)
    have HV4 := Lib.hid (HV3.out.below hb)
    have HB4 := Lib.hid (HB3.out.trans (hb.mono HB3.out.size))
    obtain ⟨ua, uc, rfl⟩ := hu.shape
    obtain ⟨c0, c1, c2, c3⟩ := HX3.out.cells
    have hz := HX3.out.lt
    clear hu hb
    unfold insV
    go_wp2_with fail
    change Calls _ _ #[insV I (.slice va I.l.length vc), insV I (.slice ua I.l.length uc)] (w3.alloc (boxI I (.slice ua I.l.length uc))) _
    refine (rsame_any (HV4.out.alloc (boxI I (.slice ua I.l.length uc))).row (HU.out.alloc (boxI I (.slice ua I.l.length uc))).row).mono ?_
    rw [decide_eq_true (rfl : I = I)]
    rintro e w5 ⟨rfl, hb⟩
    have HB5 := Lib.hid ((HB4.out.alloc HB4.out.size (boxI I (.slice ua I.l.length uc))).trans (hb.mono (by have := HB4.out.size; simp; omega)))
    clear hb
    go_wp2
    go_ret
    exact ⟨rfl, HB5.out⟩

set_option maxRecDepth 100000 in
theorem lifted (os : Os) (started : os.Started) (H : Type) (enc : TypeId × Value → H) :
    ReturnsInHanded {} Tryd.checked os 3 .any (fun w args => (Rows.instParsesSpec.pre enc Tryd.prog Tryd.f3 [] false w args ∧ laidMetH Tryd.prog Rows.instParsesRow.laid w) ∧ sizedMet enc Tryd.prog Tryd.f3 (OpenSpec.ofChange Rows.instParsesSpec) false w args)
      (Rows.instParsesSpec.post enc Tryd.prog Tryd.f3 false true false false) := by
  refine returnsInHanded_of_change_and (C := Tryd.checked) (X := fun w _ => laidMetH Tryd.prog Rows.instParsesRow.laid w) (fun _ _ _ hh h => h.of_heap hh) own started (by kernel_rfl) Tryd.func3
    (ChangeSpec.witness_shaped (enc := enc) (C := Tryd.checked) (os := os) (X := fun w _ => laidMetH Tryd.prog Rows.instParsesRow.laid w) false (World.doorLaid Tryd.prog 24 os) #[.slice none 0 0] 8 rfl (World.shaped_of_RefB (by kernel_rfl) (by kernel_rfl)) (by kernel_rfl) (by kernel_rfl) (by kernel_rfl) (door_met os _)) ?_
  intro W base args ds gs before hval0 hW _ _ hL _
  have hval : ∀ (j : Nat) t v, Tryd.f3.params[j]? = some t → args[j]? = some v → Value.okWide Tryd.prog W .any base t v := hval0
  have hW' := hW
  obtain ⟨p, q, hA0, hV, rfl, hfz, hnd⟩ := hW
  have hA : DataW.TrodAll enc Tryd.prog W 0 (fun _ => true) true Tryd.f3.params.toList args.toList ds p := hA0
  rw [Tryd.params3] at hA hval
  obtain ⟨v0, vs0, d0, ds0, p0, q0, hargs, rfl, rfl, h0, r0⟩ := trodAll_cons hA
  obtain ⟨rfl, rfl, rfl⟩ := trodAll_nil r0
  obtain rfl : args = #[v0] := by cases args; simp_all
  obtain ⟨rfl, rfl⟩ := trodVars_none hV
  have k0 := h0
  have lt0 : ∀ x ∈ p0, x.block < W.heap.size := by obtain ⟨m, hm⟩ := k0; exact DataW.trod_lt m _ _ _ hm
  obtain ⟨a0, len0, cap0, rfl⟩ := okWide_slice Tryd.underlying22 (hval 0 22 v0 rfl rfl)
  obtain ⟨l0, e0⟩ := open_bytes h0
  have hT := tab_of_laid hL
  clear hA0 hval0
  refine (walk _ l0 W e0 hT).mono fun e W' ⟨he, bel⟩ => ?_
  subst he
  exact ⟨_, rfl, _, _, _, [], _, [], hW', trodAll_mk1 (shut_bool Tryd.underlying4 _), (trodAll_cons_mk (Below.trod laidOut (by kernel_rfl) (of_decide_eq_true (by kernel_rfl)) k0 bel lt0) trodAll_mk0), rfl, bel.frame _, fun h => by cases h⟩

theorem over : Rows.InstParsesSaid :=
  OpenClaim.holds_of_wide 3 Tryd.f3 rfl rfl rfl rfl rfl rfl rfl ⟨rfl, rfl, rfl, rfl, rfl⟩ rfl rfl rfl rfl rfl (by kernel_rfl) Tryd.func3 (by kernel_rfl)
    (of_decide_eq_true (by kernel_rfl)) (by unfold Func.isWrapper; first | (rw [if_pos (by decide +kernel)]; kernel_rfl) | (rw [if_neg (by decide +kernel)]; exact ⟨rfl, rfl⟩))
    (fun os started H enc _ => lifted os started H enc)

theorem proved : Rows.InstParsesCardSaid :=
  Claim7.holds_tied_plain_at .later [] [.data, .data, .data] true Rows.instParsesCard.stood.harness false
    over (fun _ h => by cases h) (by kernel_rfl) (fun _ h => by cases h) instParses_row_tie rfl ⟨rfl, rfl⟩ (by kernel_rfl) rfl
    (fun f fn hf hfn => by
      obtain rfl : f = 3 := Option.some.inj ((show Tryd.prog.funcNamed Rows.instParsesRow.func = some 3 by kernel_rfl).symm.trans hf) |>.symm
      obtain rfl : fn = Tryd.f3 := (Option.some.inj (Tryd.func3.symm.trans hfn)).symm
      refine ⟨by kernel_rfl, fun j t ht => ?_⟩
      rw [Tryd.params3] at ht
      rcases j with _ | j
      · obtain rfl : t = 22 := by simpa using ht.symm
        exact (show Tryd.prog.wantsStandIn 22 = false by kernel_rfl)
      · simp at ht)
    (by kernel_rfl)
#print axioms proved
end Go.Proofs.YtkhlmgkapmofiaaDoor.instParses
