/- ScanBack holds for every list of lines of numbers of Go's int, where the library's tables start as its text lays them (the card ties that); there is no further condition. -/
import Derived.Test.YtoggniamnedepaaDoorRows
import Derived.Test.YtoggniamnedepaaDoorTie
import Derived.Test.YtoggniamnedepaaDoorCards
import Derived.Test.YtoggniamnedepaaDoorLaid
import Derived.SevenTiedAt
import Derived.Test.YtoggniamnedepaaDoorLaid
namespace Go.Proofs.YtoggniamnedepaaDoor.scanBack
open Go.ChangeShapes Go.WideShapes Go.ChangeAt Go.RowKit

def goodT (L : List (List Int)) : Prop := ∀ l ∈ L, Small l
theorem full_take (L : List (List Int)) (k : Nat) (hk : k < L.length) : full (L.take (k + 1)) = full (L.take k) ++ (if L.getD k [] = [] then [] else [L.getD k []]) := by
  have e : L.take (k + 1) = L.take k ++ [L.getD k []] := by
    rw [List.take_add_one, List.getElem?_eq_getElem hk, List.getD_eq_getElem?_getD, List.getElem?_eq_getElem hk]; rfl
  rw [e]
  unfold full
  rw [List.filter_append]
  congr 1
  generalize L.getD k [] = g
  by_cases h : g = []
  · rw [if_pos h, h]; simp
  · rw [if_neg h]; simp [h]
theorem small_take {l : List Int} {k : Nat} (hk : k < l.length) (h : Small (l.take k)) (h1 : -1000000000000 < l.getD k 0) (h2 : l.getD k 0 < 1000000000000) : Small (l.take (k + 1)) := by
  intro x hx
  rw [List.take_add_one, List.getElem?_eq_getElem hk] at hx
  simp only [List.mem_append, Option.toList_some, List.mem_singleton] at hx
  rcases hx with hx | rfl
  · exact h x hx
  · rw [List.getD_eq_getElem?_getD, List.getElem?_eq_getElem hk] at h1 h2; exact ⟨h1, h2⟩
theorem all_take {L : List (List Int)} {k : Nat} (hk : k < L.length) (h : goodT (L.take k)) (hs : Small (L.getD k [])) : goodT (L.take (k + 1)) := by
  intro x hx
  rw [List.take_add_one, List.getElem?_eq_getElem hk] at hx
  simp only [List.mem_append, Option.toList_some, List.mem_singleton] at hx
  rcases hx with hx | rfl
  · exact h x hx
  · rw [List.getD_eq_getElem?_getD, List.getElem?_eq_getElem hk] at hs; exact hs
theorem few_cnt : ∀ (L : List (List Int)), (∀ l ∈ L, l.length ≤ 100) → cnt L ≤ 100 * L.length
  | [], _ => by simp [cnt]
  | l :: L, h => by
    have := few_cnt L (fun x hx => h x (by simp [hx]))
    have := h l (by simp)
    simp [cnt]; omega
theorem few_text {L : List (List Int)} (h : Few L) (hf : Fits L) : (textOf L).length ≤ 5000000 := by
  have h1 := textOf_len L (fun l hl n hn => by have := hf l hl n hn; omega)
  have h2 := few_cnt L h.2
  have := h.1
  omega
theorem back_err {L : List (List Int)} (hs : goodT L) : (4096 < (textOf L).length → errOf (textOf L) = 6) ∧ (¬ 4096 < (textOf L).length → errOf (textOf L) = 0 ∧ resOf (textOf L) = full L) := by
  constructor
  · intro h; simp [errOf, h]
  · intro h; simp [errOf, resOf, h, parse_text L hs]
/-- Rows of lines that the law has made; the lines themselves are the caller's. -/
def OwnV (w : World) (B : Nat) (v : Value) (vs : List Value) : Prop := w.ownsRow B 27 1 v vs.length vs
theorem app_value {w : World} {ops : Array Oper} {rest : List Oper} {o : Oper} {a : Act} {Q : Exit → Act → World → Prop} (hgd : o.guard = none) (s x : Operand)
    (ho : o.op = .call { callee := .builtin .append, args := #[s, x], argTypes := #[22, 22] }) (B : Nat) (v : Value) (vs : List Value) (hs : a.eval s = v) (W : World) (lv : Value) (hW : w = W.alloc (.cells #[lv] 27)) (hown : OwnV W B v vs)
    (one : lv.oneCell' = true) (hx : a.eval x = .slice (some ⟨W.heap.size, 0, none⟩) 1 1) (hlen : vs.length ≤ 1000000) (hB : B ≤ W.heap.size)
    (h : ∀ v' w', OwnV w' B v' (vs ++ [lv]) → W.grownBy w' v.ownBlock → wpList Tryd.prog ops Q rest (a.put o.dst v') w') : wpList Tryd.prog ops Q (o :: rest) a w := by
  subst hW
  obtain ⟨i0, hi, hz0, hz1, hz2⟩ := info_parts infoInts
  refine wpList_append_own_at _ hgd s x 22 ho B 27 i0 _ 1 24 Tryd.underlying22 hi hz0 hz1 hz2 rfl (by decide) v vs.length vs hs (World.ownsRow.alloc hown _) ⟨W.heap.size, 0, none⟩ 1 1 [lv] hx rfl (cell_one_new _ _ _) (by simpa using one) (by unfold maxLen; omega) (by omega) (by simp; omega) ?_
  intro v' w' q1 q2 _ _
  refine h v' w' ?_ (grown_alloc q2)
  unfold OwnV
  rw [List.length_append]; exact q1
set_option maxRecDepth 1000000 in
set_option maxHeartbeats 1000000 in
theorem walk (v0 : Value) (l0 : List (List Int)) (w : World) (e0 : IsLL w v0 l0) (f0 : Fits l0) (hT : Tab w.heap.size w) :
    Calls Tryd.prog 4 #[v0] w fun e w' => e = .returned (.bool true) ∧ Below w.heap.size w w' := by
  have HT := Lib.hid hT
  have HE := Lib.hid e0
  have HF := Lib.hid f0
  obtain ⟨a, cap, rfl, hm⟩ := e0.form
  clear hT e0 f0 hm
  by_cases hfew : Few l0
  · have hdf : decide (Few l0) = true := decide_eq_true hfew
    have HFew := Lib.hid hfew
    have hl100 : l0.length ≤ 100 := hfew.1
    clear hfew
    go_enter Tryd.func4, Tryd.ntmps4
    go_wp2_with fail
    refine (awake_any _).mono ?_
    rintro e w1 ⟨rfl, hb⟩
    have HB := Lib.hid hb
    clear hb
    go_wp2_with fail
    refine (few_any (HE.out.below HB.out)).mono ?_
    rw [hdf]
    rintro e w' ⟨rfl, rfl⟩
    go_wp2_with fail
    go_loopw [5, 6] (fun wt i wr => ∃ (j : Nat) (vs : List Value), j ≤ l0.length ∧ i = .int .i64 j ∧ OwnV wr w.heap.size wt vs ∧ In w vs (full (l0.take j)) ∧ goodT (l0.take j) ∧ Below w.heap.size w wr ∧ vs.length ≤ j) (fun _ i _ => l0.length - (intOf i).toNat)
    case atStart => exact ⟨0, [], Nat.zero_le _, rfl, World.ownsRow_nil _ _ _ _, trivial, fun l hl => by simp at hl, HB.out, by simp⟩
    case round =>
      obtain ⟨j, vs, hj, rfl, ho, hin, hgd, hbw, hvl⟩ := hrel
      have HO := Lib.hid ho
      have HIn := Lib.hid hin
      have HG := Lib.hid hgd
      have HBW := Lib.hid hbw
      clear ho hin hgd hbw
      by_cases hlt : j < l0.length
      · obtain ⟨tb, off, a1, n1, c1, rfl, htb, hc, hn1, hx1, r1⟩ := ll_at HE.out j hlt
        have HN := Lib.hid hn1
        have HR := Lib.hid r1
        have HFT := Lib.hid (full_take l0 j hlt)
        have hm1 : n1 ≤ 9223372036854775807 := by unfold maxLen at hx1; omega
        have HC := Lib.hid hc
        clear hn1 r1 hx1 hc
        go_wp2_with fail
        go_loopw [7] (fun i wk => ∃ k : Nat, k ≤ n1 ∧ i = .int .i64 k ∧ Small ((l0.getD j []).take k) ∧ wk = wr) (fun i _ => n1 - (intOf i).toNat)
        case atStart => exact ⟨0, Nat.zero_le _, rfl, fun x hx => by simp at hx, by trivial⟩
        case round =>
          obtain ⟨k, hk, rfl, hsm, rfl⟩ := hrel
          have HSm := Lib.hid hsm
          clear hsm
          have hc := (HBW.out.cell (p := ⟨tb, off + j, none⟩) htb).trans HC.out
          by_cases hkl : k < n1
          · obtain ⟨t1, o1, rfl, e1, _⟩ := row_cell (HR.out.below HBW.out) k (by rw [ints_len, ← HN.out]; exact hkl)
            rw [ints_at _ _ (by rw [← HN.out]; exact hkl)] at e1
            obtain ⟨x, hx⟩ : ∃ x, (l0.getD j []).getD k 0 = x := ⟨_, rfl⟩
            rw [hx] at e1
            have HX := Lib.hid hx
            clear hx
            by_cases hxs : -1000000000000 < x ∧ x < 1000000000000
            · have d1 : decide (x ≤ -1000000000000) = false := decide_eq_false (by omega)
              have d2 : decide (1000000000000 ≤ x) = false := decide_eq_false (by omega)
              have HS2 := Lib.hid (small_take (by rw [← HN.out]; exact hkl) HSm.out (by rw [HX.out]; exact hxs.1) (by rw [HX.out]; exact hxs.2))
              clear hxs
              go_wp2
              go_roundw
              case rel => exact ⟨k + 1, by omega, by go_num, HS2.out, by trivial⟩
              case measure => simp [intOf]; omega
            · have key : decide (x ≤ -1000000000000) = true ∨ (decide (x ≤ -1000000000000) = false ∧ decide (1000000000000 ≤ x) = true) := by simp only [decide_eq_true_eq, decide_eq_false_iff_not]; omega
              clear hxs
              rcases key with d1 | ⟨d1, d2⟩
              all_goals
                go_wp2
                go_ret
                exact ⟨rfl, HBW.out⟩
          · obtain rfl : k = n1 := by omega
            have HSa := Lib.hid (show Small (l0.getD j []) by have h := HSm.out; rw [HN.out, List.take_length] at h; exact h)
            have HG2 := Lib.hid (all_take hlt HG.out HSa.out)
            clear hkl hk
            by_cases hk0 : k = 0
            · subst hk0
              have HF2 := Lib.hid (show full (l0.take (j + 1)) = full (l0.take j) by rw [HFT.out, if_pos (List.eq_nil_of_length_eq_zero HN.out.symm), List.append_nil])
              have b0 : decide ((0 : Int) < (0 : Int)) = false := by decide
              go_wp2
              go_roundw
              case rel => exact ⟨j + 1, vs, by omega, by go_num, HO.out, by rw [HF2.out]; exact HIn.out, HG2.out, HBW.out, by omega⟩
              case measure => simp [intOf]; omega
            · have b0 : decide ((0 : Int) < (k : Int)) = true := decide_eq_true (by omega)
              have hk1 : 0 < k := by omega
              have HF2 := Lib.hid (show full (l0.take (j + 1)) = full (l0.take j) ++ [l0.getD j []] by rw [HFT.out, if_neg (fun e => by have h := HN.out; rw [e] at h; simp at h; omega)])
              clear hk0
              go_wp2_with (first | (at_builtin; refine app_value rfl _ _ rfl w.heap.size _ vs rfl wr _ rfl HO.out rfl rfl (by omega) HBW.out.size ?_))
              intro v2 w2 o2 g2
              have O2 := Lib.hid o2
              have B2 := Lib.hid (HBW.out.trans (grown_below g2 HBW.out.size (fun k hk => (World.ownsRow.lt HO.out k hk).1)))
              clear o2 g2
              go_wp2
              go_roundw
              case rel => exact ⟨j + 1, vs ++ [.slice a1 k c1], by omega, by go_num, O2.out, by rw [HF2.out]; exact HIn.out.append ⟨HR.out, trivial⟩, HG2.out, B2.out, by simp; omega⟩
              case measure => simp [intOf]; omega
      · obtain rfl : j = l0.length := by omega
        rw [List.take_length] at HIn HG
        clear hlt hj
        have HEr := Lib.hid (back_err HG.out)
        have HTL := Lib.hid (few_text HFew.out HF.out)
        go_wp2_with fail
        refine (print_any (HE.out.below HBW.out) HF.out HTL.out ((HT.out.on HBW.out).up HBW.out.size)).mono ?_
        rintro e w2 ⟨pv, rfl, hp, b2⟩
        have HP := Lib.hid hp
        obtain ⟨ap, cp, rfl⟩ := own_shape (show w2.ownsRow wr.heap.size 5 1 pv (textOf l0).length (byts (textOf l0)) from hp)
        have HO2 := Lib.hid (own_below (show wr.ownsRow w.heap.size 27 1 u5 vs.length vs from HO.out) b2)
        have B2 := Lib.hid (HBW.out.trans (b2.mono HBW.out.size))
        clear hp b2
        go_wp2_with fail
        refine (lines_any HP.out.row).mono ?_
        rintro e w3 ⟨m, rfl, hm3, b3⟩
        have HO3 := Lib.hid (own_below HO2.out b3)
        have B3 := Lib.hid (B2.out.trans (b3.mono B2.out.size))
        clear b3
        by_cases h4 : 4096 < (textOf l0).length
        · rw [HEr.out.1 h4]
          have d4 : decide ((4096 : Int) < ((textOf l0).length : Int)) = true := decide_eq_true (by omega)
          clear hm3
          go_wp2
          go_ret
          exact ⟨rfl, B3.out⟩
        · obtain ⟨q1, q2⟩ := HEr.out.2 h4
          rw [q1]
          rw [q2] at hm3
          have HM := Lib.hid hm3
          have d4 : decide ((4096 : Int) < ((textOf l0).length : Int)) = false := decide_eq_false (by omega)
          have HW := Lib.hid (show IsLL w3 u5 (full l0) from ⟨vs, own_row HO3.out, HIn.out.below B3.out⟩)
          clear hm3 q1 q2
          go_wp2_with fail
          refine (same_refl HM.out.is HW.out).mono ?_
          rintro e w4 ⟨rfl, b4⟩
          have B4 := Lib.hid (B3.out.trans (b4.mono B3.out.size))
          clear b4
          go_wp2
          go_ret
          exact ⟨rfl, B4.out⟩
  · have hdf : decide (Few l0) = false := decide_eq_false hfew
    clear hfew
    go_enter Tryd.func4, Tryd.ntmps4
    go_wp2_with fail
    refine (awake_any _).mono ?_
    rintro e w1 ⟨rfl, hb⟩
    have HB := Lib.hid hb
    clear hb
    go_wp2_with fail
    refine (few_any (HE.out.below HB.out)).mono ?_
    rw [hdf]
    rintro e w' ⟨rfl, rfl⟩
    go_wp2
    go_ret
    exact ⟨rfl, HB.out⟩

set_option maxRecDepth 100000 in
theorem lifted (os : Os) (started : os.Started) (H : Type) (enc : TypeId × Value → H) :
    ReturnsInHanded {} Tryd.checked os 4 .any (fun w args => (Rows.scanBackSpec.pre enc Tryd.prog Tryd.f4 [] false w args ∧ laidMetH Tryd.prog Rows.scanBackRow.laid w) ∧ sizedMet enc Tryd.prog Tryd.f4 (OpenSpec.ofChange Rows.scanBackSpec) false w args)
      (Rows.scanBackSpec.post enc Tryd.prog Tryd.f4 false true false false) := by
  refine returnsInHanded_of_change_and (C := Tryd.checked) (X := fun w _ => laidMetH Tryd.prog Rows.scanBackRow.laid w) (fun _ _ _ hh h => h.of_heap hh) own started (by kernel_rfl) Tryd.func4
    (ChangeSpec.witness_shaped (enc := enc) (C := Tryd.checked) (os := os) (X := fun w _ => laidMetH Tryd.prog Rows.scanBackRow.laid w) false (World.doorLaid Tryd.prog 24 os) #[.slice none 0 0] 8 rfl (World.shaped_of_RefB (by kernel_rfl) (by kernel_rfl)) (by kernel_rfl) (by kernel_rfl) (by kernel_rfl) (door_met os _)) ?_
  intro W base args ds gs before hval0 hW _ _ hL _
  have hval : ∀ (j : Nat) t v, Tryd.f4.params[j]? = some t → args[j]? = some v → Value.okWide Tryd.prog W .any base t v := hval0
  have hW' := hW
  obtain ⟨p, q, hA0, hV, rfl, hfz, hnd⟩ := hW
  have hA : DataW.TrodAll enc Tryd.prog W 0 (fun _ => true) true Tryd.f4.params.toList args.toList ds p := hA0
  rw [Tryd.params4] at hA hval
  obtain ⟨v0, vs0, d0, ds0, p0, q0, hargs, rfl, rfl, h0, r0⟩ := trodAll_cons hA
  obtain ⟨rfl, rfl, rfl⟩ := trodAll_nil r0
  obtain rfl : args = #[v0] := by cases args; simp_all
  obtain ⟨rfl, rfl⟩ := trodVars_none hV
  have k0 := h0
  have lt0 : ∀ x ∈ p0, x.block < W.heap.size := by obtain ⟨m, hm⟩ := k0; exact DataW.trod_lt m _ _ _ hm
  obtain ⟨a0, len0, cap0, rfl⟩ := okWide_slice Tryd.underlying22 (hval 0 22 v0 rfl rfl)
  obtain ⟨l0, e0, f0⟩ := open_lines h0
  have hT := tab_of_laid hL
  clear hA0 hval0
  refine (walk _ l0 W e0 f0 hT).mono fun e W' ⟨he, bel⟩ => ?_
  subst he
  exact ⟨_, rfl, _, _, _, [], _, [], hW', trodAll_mk1 (shut_bool Tryd.underlying4 _), (trodAll_cons_mk (Below.trod laidOut (by kernel_rfl) (of_decide_eq_true (by kernel_rfl)) k0 bel lt0) trodAll_mk0), rfl, bel.frame _, fun h => by cases h⟩

theorem over : Rows.ScanBackSaid :=
  OpenClaim.holds_of_wide 4 Tryd.f4 rfl rfl rfl rfl rfl rfl rfl ⟨rfl, rfl, rfl, rfl, rfl⟩ rfl rfl rfl rfl rfl (by kernel_rfl) Tryd.func4 (by kernel_rfl)
    (of_decide_eq_true (by kernel_rfl)) (by unfold Func.isWrapper; first | (rw [if_pos (by decide +kernel)]; kernel_rfl) | (rw [if_neg (by decide +kernel)]; exact ⟨rfl, rfl⟩))
    (fun os started H enc _ => lifted os started H enc)

theorem proved : Rows.ScanBackCardSaid :=
  Claim7.holds_tied_plain_at .later [] [.data, .data, .data] true Rows.scanBackCard.stood.harness false
    over (fun _ h => by cases h) (by kernel_rfl) (fun _ h => by cases h) scanBack_row_tie rfl ⟨rfl, rfl⟩ (by kernel_rfl) rfl
    (fun f fn hf hfn => by
      obtain rfl : f = 4 := Option.some.inj ((show Tryd.prog.funcNamed Rows.scanBackRow.func = some 4 by kernel_rfl).symm.trans hf) |>.symm
      obtain rfl : fn = Tryd.f4 := (Option.some.inj (Tryd.func4.symm.trans hfn)).symm
      refine ⟨by kernel_rfl, fun j t ht => ?_⟩
      rw [Tryd.params4] at ht
      rcases j with _ | j
      · obtain rfl : t = 22 := by simpa using ht.symm
        exact (show Tryd.prog.wantsStandIn 22 = false by kernel_rfl)
      · simp at ht)
    (by kernel_rfl)
#print axioms proved
end Go.Proofs.YtoggniamnedepaaDoor.scanBack
