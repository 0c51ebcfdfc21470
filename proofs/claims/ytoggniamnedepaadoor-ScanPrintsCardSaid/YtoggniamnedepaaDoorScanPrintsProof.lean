/- ScanPrints holds for every list of lines of numbers of Go's int, where the library's tables start as its text lays them (the card ties that); there is no further condition. -/
import Derived.Test.YtoggniamnedepaaDoorRows
import Derived.Test.YtoggniamnedepaaDoorTie
import Derived.Test.YtoggniamnedepaaDoorCards
import Derived.Test.YtoggniamnedepaaDoorLaid
import Derived.SevenTiedAt
import Derived.Test.YtoggniamnedepaaDoorRefp
namespace Go.Proofs.YtoggniamnedepaaDoor.scanPrints
open Go.ChangeShapes Go.WideShapes Go.ChangeAt Go.RowKit

theorem few_cnt : ∀ (L : List (List Int)), (∀ l ∈ L, l.length ≤ 100) → cnt L ≤ 100 * L.length
  | [], _ => by simp [cnt]
  | l :: L, h => by
    have := few_cnt L (fun x hx => h x (by simp [hx]))
    have := h l (by simp)
    simp [cnt]; omega
theorem few_text {L : List (List Int)} (h : Few L) (hf : Fits L) : (textOf L).length ≤ 5000000 := by
  have h1 := textOf_len L (fun l hl n hn => by have := hf l hl n hn; omega)
  have h2 := few_cnt L h.2
  have := h.1
  omega
set_option maxRecDepth 1000000 in
set_option maxHeartbeats 1000000 in
theorem walk (v0 : Value) (l0 : List (List Int)) (w : World) (e0 : IsLL w v0 l0) (f0 : Fits l0) (hT : Tab w.heap.size w) :
    Calls Tryd.prog 3 #[v0] w fun e w' => e = .returned (.bool true) ∧ Below w.heap.size w w' := by
  have HT := Lib.hid hT
  have HE := Lib.hid e0
  have HF := Lib.hid f0
  obtain ⟨a, cap, rfl, hm⟩ := e0.form
  clear hT e0 f0 hm
  by_cases hfew : Few l0
  · have hdf : decide (Few l0) = true := decide_eq_true hfew
    have HTL := Lib.hid (few_text hfew HF.out)
    clear hfew
    go_enter Tryd.func3, Tryd.ntmps3
    go_wp2_with fail
    refine (awake_any _).mono ?_
    rintro e w1 ⟨rfl, hb⟩
    have HB := Lib.hid hb
    clear hb
    go_wp2_with fail
    refine (few_any (HE.out.below HB.out)).mono ?_
    rw [hdf]
    rintro e w' ⟨rfl, rfl⟩
    go_wp2_with fail
    obtain ⟨sv, hsv⟩ : ∃ sv, strOfNums (textOf l0) = sv := ⟨_, rfl⟩
    have HSV := Lib.hid hsv
    have B1 := Lib.hid HB.out.drew
    clear hsv
    refine wp_region_held_drew (S := fun _ => True) (by kernel_rfl) trivial (fun hHeld => ?_)
    refine wpAnyH_take (i := 0) (oi := ?o0) (v := ?v0) ?i0 (by kernel_rfl) (by kernel_rfl) (by kernel_rfl) ?q0 (Or.inl ⟨?g0, ?h0⟩) (by assumption) ?r0
    case i0 => (simp only [List.getElem?_toArray, List.getElem?_cons_zero]; rfl)
    case q0 => exact fun _ _ _ h => h
    case g0 => rfl
    case h0 => (intro w hSw; (try dsimp only at hSw); go_simp <;> with_reducible rfl)
    simp only [Act.put, List.setIfInBounds_toArray, List.set_cons_zero, List.set_cons_succ]
    refine wpAnyH_take (i := 3) (oi := ?o3) (v := ?v3) ?i3 (by kernel_rfl) (by kernel_rfl) (by kernel_rfl) ?q3 (Or.inl ⟨?g3, ?h3⟩) (by assumption) ?r3
    case i3 => (simp only [List.getElem?_toArray, List.getElem?_cons_zero, List.getElem?_cons_succ]; rfl)
    case q3 => exact fun _ _ _ h => h
    case g3 => rfl
    case h3 => (intro w hSw; (try dsimp only at hSw); go_simp <;> with_reducible rfl)
    simp only [Act.put, List.setIfInBounds_toArray, List.set_cons_zero, List.set_cons_succ]
    refine wpAnyH_ready (rs := [1]) (by kernel_rfl) (by simp) ?_
    refine AllReadyH.cons (o := ?oc1) ?ic1 (fun K hK => ?kc1) AllReadyH.nil
    case ic1 => (simp only [List.getElem?_toArray, List.getElem?_cons_zero, List.getElem?_cons_succ]; rfl)
    go_simp
    refine (print_any (HE.out.below B1.out) HF.out HTL.out ((HT.out.on B1.out).up B1.out.size)).mono ?_
    rintro e w2 ⟨v2, rfl, o2, b2⟩
    have hcv2 := conv_row o2.row
    rw [HSV.out] at hcv2
    have O2 := Lib.hid o2
    have B2 := Lib.hid (B1.out.trans (b2.mono B1.out.size))
    refine hK.out _ _ trivial (fun _ => ?_)
    clear hK K hHeld o2 b2
    refine wpAnyH_strong (S' := fun w' => (convert 25 9 v2).run Tryd.prog w' = .ok (.string sv) w') (fun _ _ => trivial) _ _ _ _ ?_
    have hHeld := hcv2
    refine wpAnyH_take (i := 2) (oi := ?o2) (v := ?v2) ?i2 (by kernel_rfl) (by kernel_rfl) (by kernel_rfl) ?q2 (Or.inl ⟨?g2, ?h2⟩) (by assumption) ?r2
    case i2 => (simp only [List.getElem?_toArray, List.getElem?_cons_zero, List.getElem?_cons_succ]; rfl)
    case q2 => exact fun _ _ _ h => h
    case g2 => rfl
    case h2 => (intro w hSw; (try dsimp only at hSw); go_simp <;> with_reducible rfl)
    simp only [Act.put, List.setIfInBounds_toArray, List.set_cons_zero, List.set_cons_succ]
    refine wpAnyH_ready (rs := [4]) (by kernel_rfl) (by simp) ?_
    refine AllReadyH.cons (o := ?oc4) ?ic4 (fun K hK => ?kc4) AllReadyH.nil
    case ic4 => (simp only [List.getElem?_toArray, List.getElem?_cons_zero, List.getElem?_cons_succ]; rfl)
    go_simp
    refine (refPrint_any (HE.out.below B2.out) HF.out HTL.out).mono ?_
    rintro e w3 ⟨v3, rfl, o3, b3⟩
    have hcv3 := conv_row o3.row
    rw [HSV.out] at hcv3
    have hcv23 := conv_row (O2.out.below b3).row
    rw [HSV.out] at hcv23
    have B3 := Lib.hid (B2.out.trans (b3.mono B2.out.size))
    refine hK.out _ _ hcv23 (fun _ => ?_)
    clear hK K hHeld o3 b3 hcv2
    refine wpAnyH_strong (S' := fun w' => (convert 25 9 v3).run Tryd.prog w' = .ok (.string sv) w' ∧ (convert 25 9 v2).run Tryd.prog w' = .ok (.string sv) w') (fun _ h => h.2) _ _ _ _ ?_
    have hHeld := And.intro hcv3 hcv23
    refine wpAnyH_take (i := 5) (oi := ?o5) (v := ?v5) ?i5 (by kernel_rfl) (by kernel_rfl) (by kernel_rfl) ?q5 (Or.inl ⟨?g5, ?h5⟩) (by assumption) ?r5
    case i5 => (simp only [List.getElem?_toArray, List.getElem?_cons_zero, List.getElem?_cons_succ]; rfl)
    case q5 => exact fun _ _ _ h => h
    case g5 => rfl
    case h5 => (intro w hSw; (try dsimp only at hSw); go_simp <;> with_reducible rfl)
    simp only [Act.put, List.setIfInBounds_toArray, List.set_cons_zero, List.set_cons_succ]
    refine wpAnyH_take (i := 6) (oi := ?o6) (v := ?v6) ?i6 (by kernel_rfl) (by kernel_rfl) (by kernel_rfl) ?q6 (Or.inl ⟨?g6, ?h6⟩) (by assumption) ?r6
    case i6 => (simp only [List.getElem?_toArray, List.getElem?_cons_zero, List.getElem?_cons_succ]; rfl)
    case q6 => exact fun _ _ _ h => h
    case g6 => rfl
    case h6 => (intro w hSw; (try dsimp only at hSw); go_simp <;> with_reducible rfl)
    simp only [Act.put, List.setIfInBounds_toArray, List.set_cons_zero, List.set_cons_succ]
    refine wpAnyH_take (i := 7) (oi := ?o7) (v := ?v7) ?i7 (by kernel_rfl) (by kernel_rfl) (by kernel_rfl) ?q7 (Or.inl ⟨?g7, ?h7⟩) (by assumption) ?r7
    case i7 => (simp only [List.getElem?_toArray, List.getElem?_cons_zero, List.getElem?_cons_succ]; rfl)
    case q7 => exact fun _ _ _ h => h
    case g7 => rfl
    case h7 => (intro w hSw; (try dsimp only at hSw); go_simp <;> with_reducible rfl)
    simp only [Act.put, List.setIfInBounds_toArray, List.set_cons_zero, List.set_cons_succ]
    refine wpAnyH_done (by kernel_rfl) ?_ _
    clear hHeld hcv3 hcv23
    go_wp2
    go_ret
    exact ⟨rfl, B3.out⟩
  · have hdf : decide (Few l0) = false := decide_eq_false hfew
    clear hfew
    go_enter Tryd.func3, Tryd.ntmps3
    go_wp2_with fail
    refine (awake_any _).mono ?_
    rintro e w1 ⟨rfl, hb⟩
    have HB := Lib.hid hb
    clear hb
    go_wp2_with fail
    refine (few_any (HE.out.below HB.out)).mono ?_
    rw [hdf]
    rintro e w' ⟨rfl, rfl⟩
    go_wp2
    go_ret
    exact ⟨rfl, HB.out⟩

set_option maxRecDepth 100000 in
theorem lifted (os : Os) (started : os.Started) (H : Type) (enc : TypeId × Value → H) :
    ReturnsInHanded {} Tryd.checked os 3 .any (fun w args => (Rows.scanPrintsSpec.pre enc Tryd.prog Tryd.f3 [] false w args ∧ laidMetH Tryd.prog Rows.scanPrintsRow.laid w) ∧ sizedMet enc Tryd.prog Tryd.f3 (OpenSpec.ofChange Rows.scanPrintsSpec) false w args)
      (Rows.scanPrintsSpec.post enc Tryd.prog Tryd.f3 false true false false) := by
  refine returnsInHanded_of_change_and (C := Tryd.checked) (X := fun w _ => laidMetH Tryd.prog Rows.scanPrintsRow.laid w) (fun _ _ _ hh h => h.of_heap hh) own started (by kernel_rfl) Tryd.func3
    (ChangeSpec.witness_shaped (enc := enc) (C := Tryd.checked) (os := os) (X := fun w _ => laidMetH Tryd.prog Rows.scanPrintsRow.laid w) false (World.doorLaid Tryd.prog 24 os) #[.slice none 0 0] 8 rfl (World.shaped_of_RefB (by kernel_rfl) (by kernel_rfl)) (by kernel_rfl) (by kernel_rfl) (by kernel_rfl) (door_met os _)) ?_
  intro W base args ds gs before hval0 hW _ _ hL _
  have hval : ∀ (j : Nat) t v, Tryd.f3.params[j]? = some t → args[j]? = some v → Value.okWide Tryd.prog W .any base t v := hval0
  have hW' := hW
  obtain ⟨p, q, hA0, hV, rfl, hfz, hnd⟩ := hW
  have hA : DataW.TrodAll enc Tryd.prog W 0 (fun _ => true) true Tryd.f3.params.toList args.toList ds p := hA0
  rw [Tryd.params3] at hA hval
  obtain ⟨v0, vs0, d0, ds0, p0, q0, hargs, rfl, rfl, h0, r0⟩ := trodAll_cons hA
  obtain ⟨rfl, rfl, rfl⟩ := trodAll_nil r0
  obtain rfl : args = #[v0] := by cases args; simp_all
  obtain ⟨rfl, rfl⟩ := trodVars_none hV
  have k0 := h0
  have lt0 : ∀ x ∈ p0, x.block < W.heap.size := by obtain ⟨m, hm⟩ := k0; exact DataW.trod_lt m _ _ _ hm
  obtain ⟨a0, len0, cap0, rfl⟩ := okWide_slice Tryd.underlying22 (hval 0 22 v0 rfl rfl)
  obtain ⟨l0, e0, f0⟩ := open_lines h0
  have hT := tab_of_laid hL
  clear hA0 hval0
  refine (walk _ l0 W e0 f0 hT).mono fun e W' ⟨he, bel⟩ => ?_
  subst he
  exact ⟨_, rfl, _, _, _, [], _, [], hW', trodAll_mk1 (shut_bool Tryd.underlying4 _), (trodAll_cons_mk (Below.trod laidOut (by kernel_rfl) (of_decide_eq_true (by kernel_rfl)) k0 bel lt0) trodAll_mk0), rfl, bel.frame _, fun h => by cases h⟩

theorem over : Rows.ScanPrintsSaid :=
  OpenClaim.holds_of_wide 3 Tryd.f3 rfl rfl rfl rfl rfl rfl rfl ⟨rfl, rfl, rfl, rfl, rfl⟩ rfl rfl rfl rfl rfl (by kernel_rfl) Tryd.func3 (by kernel_rfl)
    (of_decide_eq_true (by kernel_rfl)) (by unfold Func.isWrapper; first | (rw [if_pos (by decide +kernel)]; kernel_rfl) | (rw [if_neg (by decide +kernel)]; exact ⟨rfl, rfl⟩))
    (fun os started H enc _ => lifted os started H enc)

theorem proved : Rows.ScanPrintsCardSaid :=
  Claim7.holds_tied_plain_at .later [] [.data, .data, .data] true Rows.scanPrintsCard.stood.harness false
    over (fun _ h => by cases h) (by kernel_rfl) (fun _ h => by cases h) scanPrints_row_tie rfl ⟨rfl, rfl⟩ (by kernel_rfl) rfl
    (fun f fn hf hfn => by
      obtain rfl : f = 3 := Option.some.inj ((show Tryd.prog.funcNamed Rows.scanPrintsRow.func = some 3 by kernel_rfl).symm.trans hf) |>.symm
      obtain rfl : fn = Tryd.f3 := (Option.some.inj (Tryd.func3.symm.trans hfn)).symm
      refine ⟨by kernel_rfl, fun j t ht => ?_⟩
      rw [Tryd.params3] at ht
      rcases j with _ | j
      · obtain rfl : t = 22 := by simpa using ht.symm
        exact (show Tryd.prog.wantsStandIn 22 = false by kernel_rfl)
      · simp at ht)
    (by kernel_rfl)
#print axioms proved
end Go.Proofs.YtoggniamnedepaaDoor.scanPrints
