/- ScanSpaces holds for every text: one of at most 2000 bytes, each of whose spaces is told twice, is read the same; there is no further condition. -/
import Derived.Test.YtoggniamnedepaaRows
import Derived.Test.YtoggniamnedepaaArgs
namespace Go.Proofs.Ytoggniamnedepaa.scanSpaces
open Go.ChangeShapes Go.WideShapes Go.ChangeAt Go.RowKit

theorem err_twice (l : List Int) (h : l.length ≤ 2000) : errOf (twice l) = errOf l ∧ resOf (twice l) = resOf l := by
  have := twice_len l
  unfold errOf resOf
  rw [parse_twice]
  simp [show ¬ 4096 < (twice l).length by omega, show ¬ 4096 < l.length by omega]
theorem twice_take (l : List Int) (k : Nat) (hk : k < l.length) (c : Int) (hc : l.getD k 0 = c) : twice (l.take (k + 1)) = twice (l.take k) ++ (if c = 32 then [c, 32] else [c]) := by
  have e : l.take (k + 1) = l.take k ++ [c] := by
    rw [List.take_add_one, List.getElem?_eq_getElem hk, ← hc, List.getD_eq_getElem?_getD, List.getElem?_eq_getElem hk]; rfl
  rw [e, twice_append]
  congr 1
set_option maxRecDepth 1000000 in
set_option maxHeartbeats 1000000 in
theorem walk (v0 : Value) (l0 : List Int) (w : World) (e0 : Row w v0 (byts l0)) :
    Calls Try.prog 6 #[v0] w fun e w' => e = .returned (.bool true) ∧ Below w.heap.size w w' := by
  have HE := Lib.hid e0
  obtain ⟨a, cap, rfl, hm⟩ := e0.form
  rw [byts_len] at *
  clear e0
  by_cases hlen : 2000 < l0.length
  · have hd : decide ((2000 : Int) < (l0.length : Int)) = true := decide_eq_true (by omega)
    go_enter Try.func6, Try.ntmps6
    go_wp2_with fail
    refine (awake_any _).mono ?_
    rintro e w1 ⟨rfl, hb⟩
    have HB := Lib.hid hb
    clear hb
    go_wp2
    go_ret
    exact ⟨rfl, HB.out⟩
  · have hd : decide ((2000 : Int) < (l0.length : Int)) = false := decide_eq_false (by omega)
    go_enter Try.func6, Try.ntmps6
    go_wp2_with fail
    refine (awake_any _).mono ?_
    rintro e w1 ⟨rfl, hb⟩
    have HB := Lib.hid hb
    clear hb
    go_wp2_with fail
    go_loopw [4, 5] (fun more i wr => ∃ k : Nat, k ≤ l0.length ∧ i = .int .i64 k ∧ OwnB wr w.heap.size more (twice (l0.take k)) ∧ Below w.heap.size w wr) (fun _ i _ => l0.length - (intOf i).toNat)
    case atStart => exact ⟨0, Nat.zero_le _, rfl, ownB_nil _ _, HB.out⟩
    case round =>
      obtain ⟨k, hk, rfl, ho, hbw⟩ := hrel
      have HO := Lib.hid ho
      have HBW := Lib.hid hbw
      clear ho hbw
      by_cases hlt : k < l0.length
      · obtain ⟨tb, off, rfl, hc, htb⟩ := row_cell (HE.out.below HBW.out) k (by rw [byts_len]; exact hlt)
        rw [byts_at _ _ hlt] at hc
        obtain ⟨c, hcc⟩ : ∃ c, l0.getD k 0 = c := ⟨_, rfl⟩
        rw [hcc] at hc
        have HT := Lib.hid (twice_take l0 k hlt c hcc)
        have HCC := Lib.hid hcc
        have HL := Lib.hid (show (twice (l0.take k)).length ≤ 4000 by have := twice_len (l0.take k); rw [List.length_take] at this; omega)
        clear hcc
        go_wp2_with (first | (at_builtin; refine app_bytes rfl _ _ rfl w.heap.size _ (twice (l0.take k)) rfl (HO.out.alloc _) _ [c] rfl (row_new _ _) (by have := HL.out; simp; omega) (by have := HBW.out.size; simp; omega) ?_))
        intro v1 w2 ho2 hg2 _
        have HO2 := Lib.hid ho2
        have HB2 := Lib.hid (made_alloc HBW.out HO.out hg2)
        have hc2 := row_here (HE.out.below HB2.out) k (by rw [byts_len]; exact hlt)
        rw [byts_at _ _ hlt, HCC.out] at hc2
        clear ho2 hg2 hc
        by_cases h32 : c = 32
        · subst h32
          have HT2 := Lib.hid (show twice (l0.take (k + 1)) = twice (l0.take k) ++ [32, 32] by rw [HT.out, if_pos rfl])
          go_wp2_with (first | (at_builtin; refine app_bytes rfl _ _ rfl w.heap.size _ (twice (l0.take k) ++ [32]) rfl (HO2.out.alloc _) _ [32] rfl (row_new _ _) (by have := HL.out; simp; omega) (by have := HB2.out.size; simp; omega) ?_))
          intro v2 w3 ho3 hg3 _
          have HO3 := Lib.hid ho3
          have HB3 := Lib.hid (made_alloc HB2.out HO2.out hg3)
          clear ho3 hg3
          go_wp2
          go_roundw
          case rel => exact ⟨k + 1, by omega, by go_num, by rw [HT2.out]; exact HO3.out, HB3.out⟩
          case measure => simp [intOf]; omega
        · have hb0 : (c == 32) = false := by simpa using h32
          have HT2 := Lib.hid (show twice (l0.take (k + 1)) = twice (l0.take k) ++ [c] by rw [HT.out, if_neg h32])
          clear h32
          go_wp2
          go_roundw
          case rel => exact ⟨k + 1, by omega, by go_num, by rw [HT2.out]; exact HO2.out, HB2.out⟩
          case measure => simp [intOf]; omega
      · obtain rfl : k = l0.length := by omega
        rw [List.take_length] at HO
        have HT := Lib.hid (err_twice l0 (by omega))
        clear hlt hk
        go_wp2_with fail
        refine (lines_any (HE.out.below HBW.out)).mono ?_
        rintro e w2 ⟨x, rfl, hx, b2⟩
        have HX := Lib.hid hx
        have HB2 := Lib.hid b2
        clear hx b2
        go_wp2_with fail
        refine (lines_any (HO.out.below HB2.out).row).mono ?_
        rw [HT.out.1, HT.out.2]
        rintro e w3 ⟨y, rfl, hy, b3⟩
        have HY := Lib.hid hy
        have HB3 := Lib.hid b3
        clear hy b3
        go_wp2_with fail
        refine (same_refl (HX.out.below HB3.out).is HY.out.is).mono ?_
        rintro e w4 ⟨rfl, b4⟩
        have HB4 := Lib.hid (((HBW.out.trans (HB2.out.mono HBW.out.size)).trans (HB3.out.mono (Nat.le_trans HBW.out.size HB2.out.size))).trans (b4.mono (Nat.le_trans (Nat.le_trans HBW.out.size HB2.out.size) HB3.out.size)))
        clear b4
        go_wp2
        go_ret
        exact ⟨by simp, HB4.out⟩

set_option maxRecDepth 100000 in
theorem lifted (os : Os) (started : os.Started) (H : Type) (enc : TypeId × Value → H) :
    ReturnsInHanded {} Try.checked os 6 .any (Rows.scanSpacesSpec.pre6 enc Try.prog Try.f6 Rows.scanSpacesRow.domain false) (Rows.scanSpacesSpec.post enc Try.prog Try.f6 false true false false) := by
  refine returnsInHanded_of_change (C := Try.checked) own started (by kernel_rfl) Try.func6
    (ChangeSpec.witness6 (enc := enc) (C := Try.checked) false ⟨#[], #[.slice none 0 0], []⟩ 8 (by kernel_rfl) (by kernel_rfl) (by kernel_rfl) (by kernel_rfl)) ?_
  intro W base args ds gs before hval0 hW hcnd _
  have hval : ∀ (j : Nat) t v, Try.f6.params[j]? = some t → args[j]? = some v → Value.okWide Try.prog W .any base t v := hval0
  have hW' := hW
  obtain ⟨p, q, hA0, hV, rfl, hfz, hnd⟩ := hW
  have hA : DataW.TrodAll enc Try.prog W 0 (fun _ => true) true Try.f6.params.toList args.toList ds p := hA0
  rw [Try.params6] at hA hval
  obtain ⟨v0, vs0, d0, ds0, p0, q0, hargs, rfl, rfl, h0, r0⟩ := trodAll_cons hA
  obtain ⟨rfl, rfl, rfl⟩ := trodAll_nil r0
  obtain rfl : args = #[v0] := by cases args; simp_all
  obtain ⟨rfl, rfl⟩ := trodVars_none hV
  have k0 := h0
  have lt0 : ∀ x ∈ p0, x.block < W.heap.size := by obtain ⟨m, hm⟩ := k0; exact DataW.trod_lt m _ _ _ hm
  obtain ⟨a0, len0, cap0, rfl⟩ := okWide_slice Try.underlying22 (hval 0 22 v0 rfl rfl)
  obtain ⟨l0, e0⟩ := open_bytes h0
  clear hA0 hval0
  refine (walk _ l0 W e0).mono fun e W' ⟨he, bel⟩ => ?_
  subst he
  exact ⟨_, rfl, _, _, _, [], _, [], hW', trodAll_mk1 (shut_bool Try.underlying4 _), (trodAll_cons_mk (Below.trod laidOut (by kernel_rfl) (of_decide_eq_true (by kernel_rfl)) k0 bel lt0) trodAll_mk0), rfl, bel.frame _, fun h => by cases h⟩

theorem over : Rows.scanSpacesRow.holds Try.pinned (OpenSpec.ofChange Rows.scanSpacesSpec) :=
  OpenClaim.holds_of_wide 6 Try.f6 rfl rfl rfl rfl rfl rfl rfl ⟨rfl, rfl, rfl, rfl, rfl⟩ rfl rfl rfl rfl rfl (by kernel_rfl) Try.func6 (by kernel_rfl)
    (of_decide_eq_true (by kernel_rfl)) (by unfold Func.isWrapper; first | (rw [if_pos (by decide +kernel)]; kernel_rfl) | (rw [if_neg (by decide +kernel)]; exact ⟨rfl, rfl⟩))
    (fun os started H enc _ => lifted os started H enc)

theorem proved : Rows.ScanSpacesSaid := over
#print axioms proved
end Go.Proofs.Ytoggniamnedepaa.scanSpaces
