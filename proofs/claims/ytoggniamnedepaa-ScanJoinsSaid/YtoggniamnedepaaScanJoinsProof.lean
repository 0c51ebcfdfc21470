/- ScanJoins holds for every two texts: of at most 2000 bytes each, both with a line feed between them are read as one behind the other; there is no further condition. -/
import Derived.Test.YtoggniamnedepaaRows
import Derived.Test.YtoggniamnedepaaArgs
namespace Go.Proofs.Ytoggniamnedepaa.scanJoins
open Go.ChangeShapes Go.WideShapes Go.ChangeAt Go.RowKit

theorem err_small (l : List Int) (h : l.length ≤ 4096) : errOf l = (if (parse l).isNone then 2 else 0) ∧ resOf l = (parse l).getD [] := by
  unfold errOf resOf
  simp [show ¬ 4096 < l.length by omega]
theorem res_len (a b : List Int) (x y : List (List Int)) (ha : parse a = some x) (hb : parse b = some y) (h0 : a.length ≤ 2000) (h1 : b.length ≤ 2000) :
    (errOf a = 0 ∧ resOf a = x) ∧ (errOf b = 0 ∧ resOf b = y) ∧ errOf (a ++ [10] ++ b) = 0 ∧ resOf (a ++ [10] ++ b) = x ++ y := by
  have e : a ++ [10] ++ b = a ++ 10 :: b := by simp
  have h2 := err_small a (by omega)
  have h3 := err_small b (by omega)
  have h4 := err_small (a ++ 10 :: b) (by simp; omega)
  rw [parse_joins, ha, hb] at h4
  rw [ha] at h2
  rw [hb] at h3
  rw [e]
  simpa using ⟨h2, h3, h4⟩
theorem res_none (a b : List Int) (h : parse a = none ∨ parse b = none) (h0 : a.length ≤ 2000) (h1 : b.length ≤ 2000) :
    (errOf a = 2 ∨ (errOf a = 0 ∧ errOf b = 2)) ∧ errOf (a ++ [10] ++ b) = 2 := by
  have e : a ++ [10] ++ b = a ++ 10 :: b := by simp
  have h2 := (err_small a (by omega)).1
  have h3 := (err_small b (by omega)).1
  have h4 := (err_small (a ++ 10 :: b) (by simp; omega)).1
  rw [parse_joins] at h4
  rw [e, h4, h2, h3]
  cases ha : parse a with
  | none => simp
  | some x =>
    rw [ha] at h
    simp at h
    simp [h]
set_option maxRecDepth 1000000 in
set_option maxHeartbeats 1000000 in
theorem walk (v0 : Value) (l0 : List Int) (v1 : Value) (l1 : List Int) (w : World) (e0 : Row w v0 (byts l0)) (e1 : Row w v1 (byts l1)) :
    Calls Try.prog 4 #[v0, v1] w fun e w' => e = .returned (.bool true) ∧ Below w.heap.size w w' := by
  have HE0 := Lib.hid e0
  have HE1 := Lib.hid e1
  obtain ⟨a0, cap0, rfl, hm0⟩ := e0.form
  obtain ⟨a1, cap1, rfl, hm1⟩ := e1.form
  simp only [byts_len] at *
  clear e0 e1
  by_cases hlen : l0.length ≤ 2000 ∧ l1.length ≤ 2000
  · obtain ⟨hl0, hl1⟩ := hlen
    have hd0 : decide ((2000 : Int) < (l0.length : Int)) = false := decide_eq_false (by omega)
    have hd1 : decide ((2000 : Int) < (l1.length : Int)) = false := decide_eq_false (by omega)
    go_enter Try.func4, Try.ntmps4
    go_wp2_with fail
    refine (awake_any _).mono ?_
    rintro e w1 ⟨rfl, hb⟩
    have HB := Lib.hid hb
    clear hb
    go_wp2_with fail
    refine (lines_any (HE0.out.below HB.out)).mono ?_
    rintro e w2 ⟨x, rfl, hx, b2⟩
    have HX := Lib.hid (hx.less HB.out.size)
    have B2 := Lib.hid (HB.out.trans (b2.mono HB.out.size))
    clear hx b2
    obtain ⟨ea, hea⟩ : ∃ e, errOf l0 = e := ⟨_, rfl⟩
    rw [hea]
    have HEA := Lib.hid hea
    clear hea
    go_wp2_with fail
    refine (lines_any (HE1.out.below B2.out)).mono ?_
    rintro e w3 ⟨y, rfl, hy, b3⟩
    have HY := Lib.hid (hy.less B2.out.size)
    have B3 := Lib.hid (B2.out.trans (b3.mono B2.out.size))
    have HX3 := Lib.hid (HX.out.below b3)
    clear hy b3 HX
    obtain ⟨eb, heb⟩ : ∃ e, errOf l1 = e := ⟨_, rfl⟩
    rw [heb]
    have HEB := Lib.hid heb
    clear heb
    have R0 := Lib.hid (ownB_nil w3 w.heap.size)
    go_wp2_with (first | (at_builtin; refine app_bytes rfl _ _ rfl w.heap.size _ [] rfl R0.out _ l0 rfl (HE0.out.below B3.out) (by simp; omega) B3.out.size ?_))
    intro v1 w4 o1 g1 t1
    have O1 := Lib.hid (show OwnB w4 w.heap.size v1 l0 by simpa using o1)
    have B4 := Lib.hid (made B3.out R0.out g1)
    have HX4 := Lib.hid (HX3.out.text R0.out g1)
    have HY4 := Lib.hid (HY.out.text R0.out g1)
    clear o1 g1 t1
    go_wp2_with (first | (at_builtin; refine app_bytes rfl _ _ rfl w.heap.size _ l0 rfl (O1.out.alloc _) _ [10] rfl (row_new _ _) (by simp; omega) (by have := B4.out.size; simp; omega) ?_))
    intro v2 w5 o2 g2 t2
    have O2 := Lib.hid (show OwnB w5 w.heap.size v2 (l0 ++ [10]) by simpa using o2)
    have B5 := Lib.hid (made_alloc B4.out O1.out g2)
    have HX5 := Lib.hid ((HX4.out.alloc _).text (O1.out.alloc _) g2)
    have HY5 := Lib.hid ((HY4.out.alloc _).text (O1.out.alloc _) g2)
    clear o2 g2 t2
    go_wp2_with (first | (at_builtin; refine app_bytes rfl _ _ rfl w.heap.size _ (l0 ++ [10]) rfl O2.out _ l1 rfl (HE1.out.below B5.out) (by simp; omega) B5.out.size ?_))
    intro v3 w6 o3 g3 t3
    have O3 := Lib.hid (show OwnB w6 w.heap.size v3 (l0 ++ [10] ++ l1) by simpa using o3)
    have B6 := Lib.hid (made B5.out O2.out g3)
    have HX6 := Lib.hid (HX5.out.text O2.out g3)
    have HY6 := Lib.hid (HY5.out.text O2.out g3)
    clear o3 g3 t3 HX4 HY4 HX5 HY5
    go_wp2_with fail
    refine (lines_any O3.out.row).mono ?_
    rintro e w7 ⟨z, rfl, hz, b7⟩
    have HZ := Lib.hid hz
    have B7 := Lib.hid (B6.out.trans (b7.mono B6.out.size))
    have HX7 := Lib.hid (HX6.out.below b7)
    have HY7 := Lib.hid (HY6.out.below b7)
    have HXl := Lib.hid (HX6.out.lt)
    clear hz b7
    by_cases hn : parse l0 = none ∨ parse l1 = none
    · obtain ⟨h1, h2⟩ := res_none l0 l1 hn hl0 hl1
      rw [h2]
      rw [HEA.out, HEB.out] at h1
      clear h2 hn
      rcases h1 with rfl | ⟨rfl, rfl⟩
      all_goals
        go_wp2
        go_ret
        exact ⟨rfl, B7.out⟩
    · obtain ⟨A, hA⟩ : ∃ A, parse l0 = some A := by
        cases h : parse l0 with
        | none => exact (hn (.inl h)).elim
        | some A => exact ⟨A, rfl⟩
      obtain ⟨C, hC⟩ : ∃ C, parse l1 = some C := by
        cases h : parse l1 with
        | none => exact (hn (.inr h)).elim
        | some A => exact ⟨A, rfl⟩
      obtain ⟨⟨p1, p2⟩, ⟨p3, p4⟩, p5, p6⟩ := res_len l0 l1 A C hA hC hl0 hl1
      have HLN := Lib.hid (show A.length + C.length ≤ 1000000 by have := parse_len l0 A hA; have := parse_len l1 C hC; omega)
      rw [HEA.out] at p1
      rw [HEB.out] at p3
      subst p1
      subst p3
      rw [p5]
      rw [p2] at HX7
      rw [p4] at HY7
      rw [p6] at HZ
      clear hn hA hC p2 p4 p5 p6 HX3 HX6 HY HY6 HEA HEB
      go_wp2_with (first | (at_builtin; refine app_lines rfl _ _ rfl w.heap.size _ A rfl HX7.out _ C rfl HY7.out HLN.out B7.out.size ?_))
      intro v8 w8 o8 g8
      have O8 := Lib.hid o8
      have HZ8 := Lib.hid (HZ.out.later g8 HXl.out)
      have B8 := Lib.hid (B7.out.trans (grown_below g8 B7.out.size (OwnLL.ge HX7.out)))
      clear o8 g8
      go_wp2_with fail
      refine (same_refl O8.out.is HZ8.out.is).mono ?_
      rintro e w9 ⟨rfl, b9⟩
      have B9 := Lib.hid (B8.out.trans (b9.mono B8.out.size))
      clear b9
      go_wp2
      go_ret
      exact ⟨rfl, B9.out⟩
  · have key : decide ((2000 : Int) < (l0.length : Int)) = true ∨ (decide ((2000 : Int) < (l0.length : Int)) = false ∧ decide ((2000 : Int) < (l1.length : Int)) = true) := by
      simp only [decide_eq_true_eq, decide_eq_false_iff_not]; omega
    clear hlen
    rcases key with h0 | ⟨h0, h1⟩
    all_goals
      go_enter Try.func4, Try.ntmps4
      go_wp2_with fail
      refine (awake_any _).mono ?_
      rintro e w1 ⟨rfl, hb⟩
      have HB := Lib.hid hb
      clear hb
      go_wp2
      go_ret
      exact ⟨rfl, HB.out⟩

set_option maxRecDepth 100000 in
theorem lifted (os : Os) (started : os.Started) (H : Type) (enc : TypeId × Value → H) :
    ReturnsInHanded {} Try.checked os 4 .any (Rows.scanJoinsSpec.pre6 enc Try.prog Try.f4 Rows.scanJoinsRow.domain false) (Rows.scanJoinsSpec.post enc Try.prog Try.f4 false true false false) := by
  refine returnsInHanded_of_change (C := Try.checked) own started (by kernel_rfl) Try.func4
    (ChangeSpec.witness6 (enc := enc) (C := Try.checked) false ⟨#[], #[.slice none 0 0, .slice none 0 0], []⟩ 8 (by kernel_rfl) (by kernel_rfl) (by kernel_rfl) (by kernel_rfl)) ?_
  intro W base args ds gs before hval0 hW hcnd _
  have hval : ∀ (j : Nat) t v, Try.f4.params[j]? = some t → args[j]? = some v → Value.okWide Try.prog W .any base t v := hval0
  have hW' := hW
  obtain ⟨p, q, hA0, hV, rfl, hfz, hnd⟩ := hW
  have hA : DataW.TrodAll enc Try.prog W 0 (fun _ => true) true Try.f4.params.toList args.toList ds p := hA0
  rw [Try.params4] at hA hval
  obtain ⟨v0, vs0, d0, ds0, p0, q0, hargs, rfl, rfl, h0, r0⟩ := trodAll_cons hA
  obtain ⟨v1, vs1, d1, ds1, p1, q1, rfl, rfl, rfl, h1, r1⟩ := trodAll_cons r0
  obtain ⟨rfl, rfl, rfl⟩ := trodAll_nil r1
  obtain rfl : args = #[v0, v1] := by cases args; simp_all
  obtain ⟨rfl, rfl⟩ := trodVars_none hV
  have k0 := h0
  have lt0 : ∀ x ∈ p0, x.block < W.heap.size := by obtain ⟨m, hm⟩ := k0; exact DataW.trod_lt m _ _ _ hm
  have k1 := h1
  have lt1 : ∀ x ∈ p1, x.block < W.heap.size := by obtain ⟨m, hm⟩ := k1; exact DataW.trod_lt m _ _ _ hm
  obtain ⟨a0, len0, cap0, rfl⟩ := okWide_slice Try.underlying22 (hval 0 22 v0 rfl rfl)
  obtain ⟨l0, e0⟩ := open_bytes h0
  obtain ⟨a1, len1, cap1, rfl⟩ := okWide_slice Try.underlying22 (hval 1 22 v1 rfl rfl)
  obtain ⟨l1, e1⟩ := open_bytes h1
  clear hA0 hval0
  refine (walk _ l0 _ l1 W e0 e1).mono fun e W' ⟨he, bel⟩ => ?_
  subst he
  exact ⟨_, rfl, _, _, _, [], _, [], hW', trodAll_mk1 (shut_bool Try.underlying4 _), (trodAll_cons_mk (Below.trod laidOut (by kernel_rfl) (of_decide_eq_true (by kernel_rfl)) k0 bel lt0) (trodAll_cons_mk (Below.trod laidOut (by kernel_rfl) (of_decide_eq_true (by kernel_rfl)) k1 bel lt1) trodAll_mk0)), rfl, bel.frame _, fun h => by cases h⟩

theorem over : Rows.scanJoinsRow.holds Try.pinned (OpenSpec.ofChange Rows.scanJoinsSpec) :=
  OpenClaim.holds_of_wide 4 Try.f4 rfl rfl rfl rfl rfl rfl rfl ⟨rfl, rfl, rfl, rfl, rfl⟩ rfl rfl rfl rfl rfl (by kernel_rfl) Try.func4 (by kernel_rfl)
    (of_decide_eq_true (by kernel_rfl)) (by unfold Func.isWrapper; first | (rw [if_pos (by decide +kernel)]; kernel_rfl) | (rw [if_neg (by decide +kernel)]; exact ⟨rfl, rfl⟩))
    (fun os started H enc _ => lifted os started H enc)

theorem proved : Rows.ScanJoinsSaid := over
#print axioms proved
end Go.Proofs.Ytoggniamnedepaa.scanJoins
