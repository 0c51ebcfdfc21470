/- ScanAgain holds for every text, where the library's tables start as its text lays them (the card ties that); there is no further condition. -/
import Derived.Test.YtoggniamnedepaaDoorRows
import Derived.Test.YtoggniamnedepaaDoorTie
import Derived.Test.YtoggniamnedepaaDoorCards
import Derived.Test.YtoggniamnedepaaDoorLaid
import Derived.SevenTiedAt
import Derived.Test.YtoggniamnedepaaDoorLaid
namespace Go.Proofs.YtoggniamnedepaaDoor.scanAgain
open Go.ChangeShapes Go.WideShapes Go.ChangeAt Go.RowKit

theorem again_facts (l : List Int) (A : List (List Int)) (h : parse l = some A) (hl : l.length ≤ 6000) : Fits A ∧ (textOf A).length ≤ 5000000 ∧ (4096 < (textOf A).length → errOf (textOf A) = 6) ∧ (¬ 4096 < (textOf A).length → errOf (textOf A) = 0 ∧ resOf (textOf A) = A) := by
  obtain ⟨h1, h2⟩ := parse_good l A h
  have hs : ∀ x ∈ A, Small x := fun x hx => (h1 x hx).2
  have hf : Fits A := fun x hx n hn => by have := hs x hx n hn; omega
  have ht := textOf_len A (fun x hx n hn => by have := hf x hx n hn; omega)
  refine ⟨hf, by omega, fun h4 => by simp [errOf, h4], fun h4 => ?_⟩
  have hp := parse_text A hs
  rw [full_all A (fun x hx => (h1 x hx).1)] at hp
  simp [errOf, resOf, h4, hp]
theorem err_cases (l : List Int) : (errOf l = 0 ∧ ∃ A, parse l = some A ∧ resOf l = A) ∨ ((errOf l = 2 ∨ errOf l = 6) ∧ resOf l = []) := by
  unfold errOf resOf
  by_cases h : 4096 < l.length
  · simp [h]
  · cases hp : parse l with
    | none => simp [h]
    | some A => simp [h]
set_option maxRecDepth 1000000 in
set_option maxHeartbeats 1000000 in
theorem walk (v0 : Value) (l0 : List Int) (w : World) (e0 : Row w v0 (byts l0)) (hT : Tab w.heap.size w) :
    Calls Tryd.prog 5 #[v0] w fun e w' => e = .returned (.bool true) ∧ Below w.heap.size w w' := by
  have HT := Lib.hid hT
  have HE := Lib.hid e0
  obtain ⟨a, cap, rfl, hm⟩ := e0.form
  simp only [byts_len] at *
  clear hT e0 hm
  by_cases hlen : 6000 < l0.length
  · have hd : decide ((6000 : Int) < (l0.length : Int)) = true := decide_eq_true (by omega)
    go_enter Tryd.func5, Tryd.ntmps5
    go_wp2_with fail
    refine (awake_any _).mono ?_
    rintro e w1 ⟨rfl, hb⟩
    have HB := Lib.hid hb
    clear hb
    go_wp2
    go_ret
    exact ⟨rfl, HB.out⟩
  · have hd : decide ((6000 : Int) < (l0.length : Int)) = false := decide_eq_false (by omega)
    go_enter Tryd.func5, Tryd.ntmps5
    go_wp2_with fail
    refine (awake_any _).mono ?_
    rintro e w1 ⟨rfl, hb⟩
    have HB := Lib.hid hb
    clear hb
    go_wp2_with fail
    refine (lines_any (HE.out.below HB.out)).mono ?_
    rintro e w2 ⟨x, rfl, hx, b2⟩
    have B2 := Lib.hid (HB.out.trans (b2.mono HB.out.size))
    clear b2
    rcases err_cases l0 with ⟨he, A, hA, hr⟩ | ⟨he, hr⟩
    · rw [he]
      rw [hr] at hx
      obtain ⟨k1, k2, k3, k4⟩ := again_facts l0 A hA (by omega)
      have HX := Lib.hid hx
      have HF := Lib.hid k1
      have HTL := Lib.hid k2
      have HE6 := Lib.hid k3
      have HE0 := Lib.hid k4
      clear hx he hr hA k1 k2 k3 k4
      go_wp2_with fail
      refine (print_any HX.out.is HF.out HTL.out ((HT.out.on B2.out).up B2.out.size)).mono ?_
      rintro e w3 ⟨pv, rfl, hp, b3⟩
      have HP := Lib.hid hp
      obtain ⟨ap, cp, rfl⟩ := own_shape (show w3.ownsRow w2.heap.size 5 1 pv (textOf A).length (byts (textOf A)) from hp)
      have HX3 := Lib.hid (HX.out.below b3)
      have B3 := Lib.hid (B2.out.trans (b3.mono B2.out.size))
      clear hp b3
      go_wp2_with fail
      refine (lines_any HP.out.row).mono ?_
      rintro e w4 ⟨y, rfl, hy, b4⟩
      have HX4 := Lib.hid (HX3.out.below b4)
      have HP4 := Lib.hid (HP.out.below b4)
      have B4 := Lib.hid (B3.out.trans (b4.mono B3.out.size))
      clear b4
      by_cases h4 : 4096 < (textOf A).length
      · rw [HE6.out h4]
        have d4 : decide ((4096 : Int) < ((textOf A).length : Int)) = true := decide_eq_true (by omega)
        clear hy
        go_wp2
        go_ret
        exact ⟨rfl, B4.out⟩
      · obtain ⟨q1, q2⟩ := HE0.out h4
        rw [q1]
        rw [q2] at hy
        have HY := Lib.hid hy
        have d4 : decide ((4096 : Int) < ((textOf A).length : Int)) = false := decide_eq_false (by omega)
        clear hy q1 q2
        go_wp2_with fail
        refine (same_refl HX4.out.is HY.out.is).mono ?_
        rintro e w5 ⟨rfl, b5⟩
        have HY5 := Lib.hid (HY.out.below b5)
        have HP5 := Lib.hid (HP4.out.below b5)
        have B5 := Lib.hid (B4.out.trans (b5.mono B4.out.size))
        clear b5
        go_wp2_with fail
        have hcv := conv_row HP5.out.row
        have HC5 := Lib.hid (conv_row (HP5.out.below ((Below.refl _ w5).drew)).row)
        obtain ⟨sv, hsv⟩ : ∃ sv, strOfNums (textOf A) = sv := ⟨_, rfl⟩
        rw [hsv] at hcv HC5
        have HSV := Lib.hid hsv
        clear hsv
        have HY6 := Lib.hid (HY5.out.below ((Below.refl _ w5).drew))
        have HP6 := Lib.hid (HP5.out.below ((Below.refl _ w5).drew))
        have B6 := Lib.hid (B5.out.drew)
        refine wp_region_held_drew (S := fun w' => (convert 25 9 (.slice ap (textOf A).length cp)).run Tryd.prog w' = .ok (.string sv) w') (by kernel_rfl) HC5.out (fun hHeld => ?_)
        refine wpAnyH_take (i := 0) (oi := ?o0) (v := ?v0) ?i0 (by kernel_rfl) (by kernel_rfl) (by kernel_rfl) ?q0 (Or.inl ⟨?g0, ?h0⟩) (by assumption) ?r0
        case i0 => (simp only [List.getElem?_toArray, List.getElem?_cons_zero]; rfl)
        case q0 => exact fun _ _ _ h => h
        case g0 => rfl
        case h0 => (intro w hSw; (try dsimp only at hSw); go_simp <;> with_reducible rfl)
        simp only [Act.put, List.setIfInBounds_toArray, List.set_cons_zero, List.set_cons_succ]
        refine wpAnyH_take (i := 1) (oi := ?o1) (v := ?v1) ?i1 (by kernel_rfl) (by kernel_rfl) (by kernel_rfl) ?q1 (Or.inl ⟨?g1, ?h1⟩) (by assumption) ?r1
        case i1 => (simp only [List.getElem?_toArray, List.getElem?_cons_zero, List.getElem?_cons_succ]; rfl)
        case q1 => exact fun _ _ _ h => h
        case g1 => rfl
        case h1 => (intro w hSw; (try dsimp only at hSw); go_simp <;> with_reducible rfl)
        simp only [Act.put, List.setIfInBounds_toArray, List.set_cons_zero, List.set_cons_succ]
        refine wpAnyH_take (i := 2) (oi := ?o2) (v := ?v2) ?i2 (by kernel_rfl) (by kernel_rfl) (by kernel_rfl) ?q2 (Or.inl ⟨?g2, ?h2⟩) (by assumption) ?r2
        case i2 => (simp only [List.getElem?_toArray, List.getElem?_cons_zero, List.getElem?_cons_succ]; rfl)
        case q2 => exact fun _ _ _ h => h
        case g2 => rfl
        case h2 => (intro w hSw; (try dsimp only at hSw); go_simp <;> with_reducible rfl)
        simp only [Act.put, List.setIfInBounds_toArray, List.set_cons_zero, List.set_cons_succ]
        refine wpAnyH_take (i := 3) (oi := ?o3) (v := ?v3) ?i3 (by kernel_rfl) (by kernel_rfl) (by kernel_rfl) ?q3 (Or.inl ⟨?g3, ?h3⟩) (by assumption) ?r3
        case i3 => (simp only [List.getElem?_toArray, List.getElem?_cons_zero, List.getElem?_cons_succ]; rfl)
        case q3 => exact fun _ _ _ h => h
        case g3 => rfl
        case h3 => (intro w hSw; (try dsimp only at hSw); go_simp <;> with_reducible rfl)
        simp only [Act.put, List.setIfInBounds_toArray, List.set_cons_zero, List.set_cons_succ]
        refine wpAnyH_take (i := 4) (oi := ?o4) (v := ?v4) ?i4 (by kernel_rfl) (by kernel_rfl) (by kernel_rfl) ?q4 (Or.inl ⟨?g4, ?h4⟩) (by assumption) ?r4
        case i4 => (simp only [List.getElem?_toArray, List.getElem?_cons_zero, List.getElem?_cons_succ]; rfl)
        case q4 => exact fun _ _ _ h => h
        case g4 => rfl
        case h4 => (intro w hSw; (try dsimp only at hSw); go_simp <;> with_reducible rfl)
        simp only [Act.put, List.setIfInBounds_toArray, List.set_cons_zero, List.set_cons_succ]
        refine wpAnyH_take (i := 5) (oi := ?o5) (v := ?v5) ?i5 (by kernel_rfl) (by kernel_rfl) (by kernel_rfl) ?q5 (Or.inl ⟨?g5, ?h5⟩) (by assumption) ?r5
        case i5 => (simp only [List.getElem?_toArray, List.getElem?_cons_zero, List.getElem?_cons_succ]; rfl)
        case q5 => exact fun _ _ _ h => h
        case g5 => rfl
        case h5 => (intro w hSw; (try dsimp only at hSw); go_simp <;> with_reducible rfl)
        simp only [Act.put, List.setIfInBounds_toArray, List.set_cons_zero, List.set_cons_succ]
        refine wpAnyH_take (i := 6) (oi := ?o6) (v := ?v6) ?i6 (by kernel_rfl) (by kernel_rfl) (by kernel_rfl) ?q6 (Or.inl ⟨?g6, ?h6⟩) (by assumption) ?r6
        case i6 => (simp only [List.getElem?_toArray, List.getElem?_cons_zero, List.getElem?_cons_succ]; rfl)
        case q6 => exact fun _ _ _ h => h
        case g6 => rfl
        case h6 => (intro w hSw; (try dsimp only at hSw); go_simp <;> with_reducible rfl)
        simp only [Act.put, List.setIfInBounds_toArray, List.set_cons_zero, List.set_cons_succ]
        refine wpAnyH_take (i := 9) (oi := ?o9) (v := ?v9) ?i9 (by kernel_rfl) (by kernel_rfl) (by kernel_rfl) ?q9 (Or.inl ⟨?g9, ?h9⟩) (by assumption) ?r9
        case i9 => (simp only [List.getElem?_toArray, List.getElem?_cons_zero, List.getElem?_cons_succ]; rfl)
        case q9 => exact fun _ _ _ h => h
        case g9 => rfl
        case h9 => (intro w hSw; (try dsimp only at hSw); go_simp <;> with_reducible rfl)
        simp only [Act.put, List.setIfInBounds_toArray, List.set_cons_zero, List.set_cons_succ]
        refine wpAnyH_take (i := 10) (oi := ?o10) (v := ?v10) ?i10 (by kernel_rfl) (by kernel_rfl) (by kernel_rfl) ?q10 (Or.inl ⟨?g10, ?h10⟩) (by assumption) ?r10
        case i10 => (simp only [List.getElem?_toArray, List.getElem?_cons_zero, List.getElem?_cons_succ]; rfl)
        case q10 => exact fun _ _ _ h => h
        case g10 => rfl
        case h10 => (intro w hSw; (try dsimp only at hSw); go_simp <;> with_reducible rfl)
        simp only [Act.put, List.setIfInBounds_toArray, List.set_cons_zero, List.set_cons_succ]
        refine wpAnyH_ready (rs := [7]) (by kernel_rfl) (by simp) ?_
        refine AllReadyH.cons (o := ?oc) ?ic (fun K hK => ?kc) AllReadyH.nil
        case ic => (simp only [List.getElem?_toArray, List.getElem?_cons_zero, List.getElem?_cons_succ]; rfl)
        go_simp
        refine (print_any HY6.out.is HF.out HTL.out ((HT.out.on B6.out).up B6.out.size)).mono ?_
        rintro e w7 ⟨v7, rfl, o7, b7⟩
        have hcv7 := conv_row (HP6.out.below b7).row
        have hcn7 := conv_row o7.row
        rw [HSV.out] at hcv7 hcn7
        have B7 := Lib.hid (B6.out.trans (b7.mono B6.out.size))
        refine hK.out _ _ hcv7 (fun _ => ?_)
        clear hK K hHeld o7 b7
        refine wpAnyH_strong (S' := fun w' => (convert 25 9 v7).run Tryd.prog w' = .ok (.string sv) w' ∧ (convert 25 9 (.slice ap (textOf A).length cp)).run Tryd.prog w' = .ok (.string sv) w') (fun _ h => h.2) _ _ _ _ ?_
        have hHeld := And.intro hcn7 hcv7
        refine wpAnyH_take (i := 8) (oi := ?o8) (v := ?v8) ?i8 (by kernel_rfl) (by kernel_rfl) (by kernel_rfl) ?q8 (Or.inl ⟨?g8, ?h8⟩) (by assumption) ?r8
        case i8 => (simp only [List.getElem?_toArray, List.getElem?_cons_zero, List.getElem?_cons_succ]; rfl)
        case q8 => exact fun _ _ _ h => h
        case g8 => rfl
        case h8 => (intro w hSw; (try dsimp only at hSw); go_simp <;> with_reducible rfl)
        simp only [Act.put, List.setIfInBounds_toArray, List.set_cons_zero, List.set_cons_succ]
        refine wpAnyH_take (i := 11) (oi := ?o11) (v := ?v11) ?i11 (by kernel_rfl) (by kernel_rfl) (by kernel_rfl) ?q11 (Or.inl ⟨?g11, ?h11⟩) (by assumption) ?r11
        case i11 => (simp only [List.getElem?_toArray, List.getElem?_cons_zero, List.getElem?_cons_succ]; rfl)
        case q11 => exact fun _ _ _ h => h
        case g11 => rfl
        case h11 => (intro w hSw; (try dsimp only at hSw); go_simp <;> with_reducible rfl)
        simp only [Act.put, List.setIfInBounds_toArray, List.set_cons_zero, List.set_cons_succ]
        refine wpAnyH_take (i := 12) (oi := ?o12) (v := ?v12) ?i12 (by kernel_rfl) (by kernel_rfl) (by kernel_rfl) ?q12 (Or.inl ⟨?g12, ?h12⟩) (by assumption) ?r12
        case i12 => (simp only [List.getElem?_toArray, List.getElem?_cons_zero, List.getElem?_cons_succ]; rfl)
        case q12 => exact fun _ _ _ h => h
        case g12 => rfl
        case h12 => (intro w hSw; (try dsimp only at hSw); go_simp <;> with_reducible rfl)
        simp only [Act.put, List.setIfInBounds_toArray, List.set_cons_zero, List.set_cons_succ]
        refine wpAnyH_take (i := 13) (oi := ?o13) (v := ?v13) ?i13 (by kernel_rfl) (by kernel_rfl) (by kernel_rfl) ?q13 (Or.inl ⟨?g13, ?h13⟩) (by assumption) ?r13
        case i13 => (simp only [List.getElem?_toArray, List.getElem?_cons_zero, List.getElem?_cons_succ]; rfl)
        case q13 => exact fun _ _ _ h => h
        case g13 => rfl
        case h13 => (intro w hSw; (try dsimp only at hSw); go_simp <;> with_reducible rfl)
        simp only [Act.put, List.setIfInBounds_toArray, List.set_cons_zero, List.set_cons_succ]
        refine wpAnyH_done (by kernel_rfl) ?_ _
        clear hHeld hcn7 hcv7
        go_wp2
        go_ret
        exact ⟨rfl, B7.out⟩
    · rw [hr] at hx
      obtain ⟨ax, cx, rfl, _⟩ := hx.is.form
      have he2 : (errOf l0 != 0) = true := by rcases he with h | h <;> rw [h] <;> rfl
      generalize errOf l0 = ee at *
      clear hx he hr
      simp only [List.length_nil] at *
      go_wp2
      go_ret
      exact ⟨rfl, B2.out⟩

set_option maxRecDepth 100000 in
theorem lifted (os : Os) (started : os.Started) (H : Type) (enc : TypeId × Value → H) :
    ReturnsInHanded {} Tryd.checked os 5 .any (fun w args => (Rows.scanAgainSpec.pre enc Tryd.prog Tryd.f5 [] false w args ∧ laidMetH Tryd.prog Rows.scanAgainRow.laid w) ∧ sizedMet enc Tryd.prog Tryd.f5 (OpenSpec.ofChange Rows.scanAgainSpec) false w args)
      (Rows.scanAgainSpec.post enc Tryd.prog Tryd.f5 false true false false) := by
  refine returnsInHanded_of_change_and (C := Tryd.checked) (X := fun w _ => laidMetH Tryd.prog Rows.scanAgainRow.laid w) (fun _ _ _ hh h => h.of_heap hh) own started (by kernel_rfl) Tryd.func5
    (ChangeSpec.witness_shaped (enc := enc) (C := Tryd.checked) (os := os) (X := fun w _ => laidMetH Tryd.prog Rows.scanAgainRow.laid w) false (World.doorLaid Tryd.prog 24 os) #[.slice none 0 0] 8 rfl (World.shaped_of_RefB (by kernel_rfl) (by kernel_rfl)) (by kernel_rfl) (by kernel_rfl) (by kernel_rfl) (door_met os _)) ?_
  intro W base args ds gs before hval0 hW _ _ hL _
  have hval : ∀ (j : Nat) t v, Tryd.f5.params[j]? = some t → args[j]? = some v → Value.okWide Tryd.prog W .any base t v := hval0
  have hW' := hW
  obtain ⟨p, q, hA0, hV, rfl, hfz, hnd⟩ := hW
  have hA : DataW.TrodAll enc Tryd.prog W 0 (fun _ => true) true Tryd.f5.params.toList args.toList ds p := hA0
  rw [Tryd.params5] at hA hval
  obtain ⟨v0, vs0, d0, ds0, p0, q0, hargs, rfl, rfl, h0, r0⟩ := trodAll_cons hA
  obtain ⟨rfl, rfl, rfl⟩ := trodAll_nil r0
  obtain rfl : args = #[v0] := by cases args; simp_all
  obtain ⟨rfl, rfl⟩ := trodVars_none hV
  have k0 := h0
  have lt0 : ∀ x ∈ p0, x.block < W.heap.size := by obtain ⟨m, hm⟩ := k0; exact DataW.trod_lt m _ _ _ hm
  obtain ⟨a0, len0, cap0, rfl⟩ := okWide_slice Tryd.underlying25 (hval 0 25 v0 rfl rfl)
  obtain ⟨l0, e0⟩ := open_bytes h0
  have hT := tab_of_laid hL
  clear hA0 hval0
  refine (walk _ l0 W e0 hT).mono fun e W' ⟨he, bel⟩ => ?_
  subst he
  exact ⟨_, rfl, _, _, _, [], _, [], hW', trodAll_mk1 (shut_bool Tryd.underlying4 _), (trodAll_cons_mk (Below.trod laidOut (by kernel_rfl) (of_decide_eq_true (by kernel_rfl)) k0 bel lt0) trodAll_mk0), rfl, bel.frame _, fun h => by cases h⟩

theorem over : Rows.ScanAgainSaid :=
  OpenClaim.holds_of_wide 5 Tryd.f5 rfl rfl rfl rfl rfl rfl rfl ⟨rfl, rfl, rfl, rfl, rfl⟩ rfl rfl rfl rfl rfl (by kernel_rfl) Tryd.func5 (by kernel_rfl)
    (of_decide_eq_true (by kernel_rfl)) (by unfold Func.isWrapper; first | (rw [if_pos (by decide +kernel)]; kernel_rfl) | (rw [if_neg (by decide +kernel)]; exact ⟨rfl, rfl⟩))
    (fun os started H enc _ => lifted os started H enc)

theorem proved : Rows.ScanAgainCardSaid :=
  Claim7.holds_tied_plain_at .later [] [.data, .data, .data] true Rows.scanAgainCard.stood.harness false
    over (fun _ h => by cases h) (by kernel_rfl) (fun _ h => by cases h) scanAgain_row_tie rfl ⟨rfl, rfl⟩ (by kernel_rfl) rfl
    (fun f fn hf hfn => by
      obtain rfl : f = 5 := Option.some.inj ((show Tryd.prog.funcNamed Rows.scanAgainRow.func = some 5 by kernel_rfl).symm.trans hf) |>.symm
      obtain rfl : fn = Tryd.f5 := (Option.some.inj (Tryd.func5.symm.trans hfn)).symm
      refine ⟨by kernel_rfl, fun j t ht => ?_⟩
      rw [Tryd.params5] at ht
      rcases j with _ | j
      · obtain rfl : t = 25 := by simpa using ht.symm
        exact (show Tryd.prog.wantsStandIn 25 = false by kernel_rfl)
      · simp at ht)
    (by kernel_rfl)
#print axioms proved
end Go.Proofs.YtoggniamnedepaaDoor.scanAgain
