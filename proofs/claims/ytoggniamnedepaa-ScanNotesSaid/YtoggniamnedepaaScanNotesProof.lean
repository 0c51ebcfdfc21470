/- ScanNotes holds for every three texts: of at most 1000 bytes each, what stands behind a # up to a line feed does not matter to what is read; there is no further condition. -/
import Derived.Test.YtoggniamnedepaaRows
import Derived.Test.YtoggniamnedepaaArgs
namespace Go.Proofs.Ytoggniamnedepaa.scanNotes
open Go.ChangeShapes Go.WideShapes Go.ChangeAt Go.RowKit

theorem err_notes (h n t : List Int) (hh : h.length ≤ 1000) (hn : n.length ≤ 1000) (ht : t.length ≤ 1000) (h10 : ∀ c ∈ n, c ≠ 10) :
    errOf (h ++ [35] ++ n ++ [10] ++ t) = errOf (h ++ [35] ++ [10] ++ t) ∧ resOf (h ++ [35] ++ n ++ [10] ++ t) = resOf (h ++ [35] ++ [10] ++ t) := by
  have e1 : h ++ [35] ++ n ++ [10] ++ t = h ++ 35 :: (n ++ 10 :: t) := by simp
  have e2 : h ++ [35] ++ [10] ++ t = h ++ 35 :: 10 :: t := by simp
  rw [e1, e2]
  unfold errOf resOf
  rw [parse_notes h n t h10]
  simp [show ¬ 4096 < h.length + (n.length + (t.length + 1) + 1) by omega, show ¬ 4096 < h.length + (t.length + 1 + 1) by omega]
theorem none_take {n : List Int} {k : Nat} (hk : k < n.length) (h : ∀ c ∈ n.take k, c ≠ 10) (hc : n.getD k 0 ≠ 10) : ∀ c ∈ n.take (k + 1), c ≠ 10 := by
  intro c hx
  rw [List.take_add_one, List.getElem?_eq_getElem hk] at hx
  simp only [List.mem_append, Option.toList_some, List.mem_singleton] at hx
  rcases hx with hx | rfl
  · exact h c hx
  · rw [List.getD_eq_getElem?_getD, List.getElem?_eq_getElem hk] at hc; exact hc
set_option maxRecDepth 1000000 in
set_option maxHeartbeats 1000000 in
theorem walk (v0 : Value) (l0 : List Int) (v1 : Value) (l1 : List Int) (v2 : Value) (l2 : List Int) (w : World) (e0 : Row w v0 (byts l0)) (e1 : Row w v1 (byts l1)) (e2 : Row w v2 (byts l2)) :
    Calls Try.prog 5 #[v0, v1, v2] w fun e w' => e = .returned (.bool true) ∧ Below w.heap.size w w' := by
  have HE0 := Lib.hid e0
  have HE1 := Lib.hid e1
  have HE2 := Lib.hid e2
  obtain ⟨a0, cap0, rfl, hm0⟩ := e0.form
  obtain ⟨a1, cap1, rfl, hm1⟩ := e1.form
  obtain ⟨a2, cap2, rfl, hm2⟩ := e2.form
  simp only [byts_len] at *
  clear e0 e1 e2
  by_cases hlen : l0.length ≤ 1000 ∧ l1.length ≤ 1000 ∧ l2.length ≤ 1000
  · obtain ⟨hl0, hl1, hl2⟩ := hlen
    have hd0 : decide ((1000 : Int) < (l0.length : Int)) = false := decide_eq_false (by omega)
    have hd1 : decide ((1000 : Int) < (l1.length : Int)) = false := decide_eq_false (by omega)
    have hd2 : decide ((1000 : Int) < (l2.length : Int)) = false := decide_eq_false (by omega)
    go_enter Try.func5, Try.ntmps5
    go_wp2_with fail
    refine (awake_any _).mono ?_
    rintro e w1 ⟨rfl, hb⟩
    have HB := Lib.hid hb
    clear hb
    go_wp2_with fail
    go_loopw [8] (fun i wr => ∃ k : Nat, k ≤ l1.length ∧ i = .int .i64 k ∧ (∀ c ∈ l1.take k, c ≠ 10) ∧ wr = w1) (fun i _ => l1.length - (intOf i).toNat)
    case atStart => exact ⟨0, Nat.zero_le _, rfl, by simp, rfl⟩
    case round =>
      obtain ⟨k, hk, rfl, h10, rfl⟩ := hrel
      have H10 := Lib.hid h10
      clear h10
      by_cases hlt : k < l1.length
      · obtain ⟨tb, off, rfl, hc, htb⟩ := row_cell (HE1.out.below HB.out) k (by rw [byts_len]; exact hlt)
        rw [byts_at _ _ hlt] at hc
        obtain ⟨c, hcc⟩ : ∃ c, l1.getD k 0 = c := ⟨_, rfl⟩
        rw [hcc] at hc
        have HCC := Lib.hid hcc
        clear hcc
        by_cases hten : c = 10
        · have hb0 : (c == 10) = true := by simpa using hten
          clear hten
          go_wp2
          go_ret
          exact ⟨rfl, HB.out⟩
        · have hb0 : (c == 10) = false := by simpa using hten
          have HN := Lib.hid (none_take hlt H10.out (by rw [HCC.out]; exact hten))
          clear hten
          go_wp2
          go_roundw
          case rel => exact ⟨k + 1, by omega, by go_num, HN.out, by trivial⟩
          case measure => simp [intOf]; omega
      · obtain rfl : k = l1.length := by omega
        rw [List.take_length] at H10
        clear hlt hk
        have HEQ := Lib.hid (err_notes l0 l1 l2 hl0 hl1 hl2 H10.out)
        have r0 := ownB_nil wr w.heap.size
        have R0 := Lib.hid r0
        clear r0
        go_wp2_with (first | (at_builtin; refine app_bytes rfl _ _ rfl w.heap.size _ [] rfl R0.out _ l0 rfl (HE0.out.below HB.out) (by simp; omega) HB.out.size ?_))
        intro v1 w2 o1 g1 t1
        have O1 := Lib.hid (show OwnB w2 w.heap.size v1 (l0) by simpa using o1)
        have B1 := Lib.hid (made HB.out R0.out g1)
        clear o1 g1 t1
        go_wp2_with (first | (at_builtin; refine app_bytes rfl _ _ rfl w.heap.size _ l0 rfl (O1.out.alloc _) _ [35] rfl (row_new _ _) (by simp; omega) (by have := B1.out.size; simp; omega) ?_))
        intro v2 w3 o2 g2 t2
        have O2 := Lib.hid (show OwnB w3 w.heap.size v2 (l0 ++ [35]) by simpa using o2)
        have B2 := Lib.hid (made_alloc B1.out O1.out g2)
        clear o2 g2 t2
        have R3 := Lib.hid (ownB_nil w3 w.heap.size)
        go_wp2_with (first | (at_builtin; refine app_bytes rfl _ _ rfl w.heap.size _ [] rfl R3.out _ (l0 ++ [35]) rfl O2.out.row (by simp; omega) B2.out.size ?_))
        intro v3 w4 o3 g3 t3
        have O3 := Lib.hid (show OwnB w4 w.heap.size v3 (l0 ++ [35]) by simpa using o3)
        have B3 := Lib.hid (made B2.out R3.out g3)
        have O2b := Lib.hid (O2.out.kept g3 (by cases v2.ownBlock <;> simp [Value.ownBlock]))
        have A3 := Lib.hid (show v3.ownBlock = none ∨ v3.ownBlock ≠ v2.ownBlock from apart_new O2.out t3)
        clear o3 g3 t3
        go_wp2_with (first | (at_builtin; refine app_bytes rfl _ _ rfl w.heap.size _ (l0 ++ [35]) rfl O2b.out _ l1 rfl (HE1.out.below B3.out) (by simp; omega) B3.out.size ?_))
        intro v4 w5 o4 g4 t4
        have O4 := Lib.hid (show OwnB w5 w.heap.size v4 (l0 ++ [35] ++ l1) by simpa using o4)
        have B4 := Lib.hid (made B3.out O2b.out g4)
        have O3b := Lib.hid (O3.out.kept g4 A3.out)
        have A4 := Lib.hid (apart_grow O3.out A3.out (Nat.le_refl _) t4)
        clear o4 g4 t4
        go_wp2_with (first | (at_builtin; refine app_bytes rfl _ _ rfl w.heap.size _ (l0 ++ [35] ++ l1) rfl (O4.out.alloc _) _ [10] rfl (row_new _ _) (by simp; omega) (by have := B4.out.size; simp; omega) ?_))
        intro v5 w6 o5 g5 t5
        have O5 := Lib.hid (show OwnB w6 w.heap.size v5 (l0 ++ [35] ++ l1 ++ [10]) by simpa using o5)
        have B5 := Lib.hid (made_alloc B4.out O4.out g5)
        have O3c := Lib.hid ((O3b.out.alloc _).kept g5 A4.out)
        have A5 := Lib.hid (apart_grow O3b.out A4.out (Nat.le_succ _) t5)
        clear o5 g5 t5
        go_wp2_with (first | (at_builtin; refine app_bytes rfl _ _ rfl w.heap.size _ (l0 ++ [35] ++ l1 ++ [10]) rfl O5.out _ l2 rfl (HE2.out.below B5.out) (by simp; omega) B5.out.size ?_))
        intro v6 w7 o6 g6 t6
        have O6 := Lib.hid (show OwnB w7 w.heap.size v6 (l0 ++ [35] ++ l1 ++ [10] ++ l2) by simpa using o6)
        have B6 := Lib.hid (made B5.out O5.out g6)
        have O3d := Lib.hid (O3c.out.kept g6 A5.out)
        have A6 := Lib.hid (apart_swap (apart_grow O3c.out A5.out (Nat.le_refl _) t6))
        clear o6 g6 t6
        go_wp2_with (first | (at_builtin; refine app_bytes rfl _ _ rfl w.heap.size _ (l0 ++ [35]) rfl (O3d.out.alloc _) _ [10] rfl (row_new _ _) (by simp; omega) (by have := B6.out.size; simp; omega) ?_))
        intro v7 w8 o7 g7 t7
        have O7 := Lib.hid (show OwnB w8 w.heap.size v7 (l0 ++ [35] ++ [10]) by simpa using o7)
        have B7 := Lib.hid (made_alloc B6.out O3d.out g7)
        have O6b := Lib.hid ((O6.out.alloc _).kept g7 A6.out)
        have A7 := Lib.hid (apart_grow O6.out A6.out (Nat.le_succ _) t7)
        clear o7 g7 t7
        go_wp2_with (first | (at_builtin; refine app_bytes rfl _ _ rfl w.heap.size _ (l0 ++ [35] ++ [10]) rfl O7.out _ l2 rfl (HE2.out.below B7.out) (by simp; omega) B7.out.size ?_))
        intro v8 w9 o8 g8 t8
        have O8 := Lib.hid (show OwnB w9 w.heap.size v8 (l0 ++ [35] ++ [10] ++ l2) by simpa using o8)
        have B8 := Lib.hid (made B7.out O7.out g8)
        have O6c := Lib.hid (O6b.out.kept g8 A7.out)
        clear o8 g8 t8
        go_wp2_with fail
        refine (lines_any O6c.out.row).mono ?_
        rintro e w10 ⟨x, rfl, hx, b2⟩
        have HX := Lib.hid hx
        have B9 := Lib.hid b2
        clear hx b2
        rw [HEQ.out.1]
        go_wp2_with fail
        refine (lines_any (O8.out.below B9.out).row).mono ?_
        rintro e w11 ⟨y, rfl, hy, b3⟩
        have HY := Lib.hid hy
        have B10 := Lib.hid b3
        clear hy b3
        go_wp2_with fail
        refine (same_refl (HX.out.below B10.out).is (by rw [HEQ.out.2]; exact HY.out.is)).mono ?_
        rintro e w12 ⟨rfl, b4⟩
        have B11 := Lib.hid (((B8.out.trans (B9.out.mono B8.out.size)).trans (B10.out.mono (Nat.le_trans B8.out.size B9.out.size))).trans (b4.mono (Nat.le_trans (Nat.le_trans B8.out.size B9.out.size) B10.out.size)))
        clear b4
        go_wp2
        go_ret
        exact ⟨by simp, B11.out⟩
  · have key : decide ((1000 : Int) < (l0.length : Int)) = true ∨ (decide ((1000 : Int) < (l0.length : Int)) = false ∧ decide ((1000 : Int) < (l1.length : Int)) = true) ∨ (decide ((1000 : Int) < (l0.length : Int)) = false ∧ decide ((1000 : Int) < (l1.length : Int)) = false ∧ decide ((1000 : Int) < (l2.length : Int)) = true) := by
      simp only [decide_eq_true_eq, decide_eq_false_iff_not]; omega
    clear hlen
    rcases key with h0 | ⟨h0, h1⟩ | ⟨h0, h1, h2⟩
    all_goals
      go_enter Try.func5, Try.ntmps5
      go_wp2_with fail
      refine (awake_any _).mono ?_
      rintro e w1 ⟨rfl, hb⟩
      have HB := Lib.hid hb
      clear hb
      go_wp2
      go_ret
      exact ⟨rfl, HB.out⟩

set_option maxRecDepth 100000 in
theorem lifted (os : Os) (started : os.Started) (H : Type) (enc : TypeId × Value → H) :
    ReturnsInHanded {} Try.checked os 5 .any (Rows.scanNotesSpec.pre6 enc Try.prog Try.f5 Rows.scanNotesRow.domain false) (Rows.scanNotesSpec.post enc Try.prog Try.f5 false true false false) := by
  refine returnsInHanded_of_change (C := Try.checked) own started (by kernel_rfl) Try.func5
    (ChangeSpec.witness6 (enc := enc) (C := Try.checked) false ⟨#[], #[.slice none 0 0, .slice none 0 0, .slice none 0 0], []⟩ 8 (by kernel_rfl) (by kernel_rfl) (by kernel_rfl) (by kernel_rfl)) ?_
  intro W base args ds gs before hval0 hW hcnd _
  have hval : ∀ (j : Nat) t v, Try.f5.params[j]? = some t → args[j]? = some v → Value.okWide Try.prog W .any base t v := hval0
  have hW' := hW
  obtain ⟨p, q, hA0, hV, rfl, hfz, hnd⟩ := hW
  have hA : DataW.TrodAll enc Try.prog W 0 (fun _ => true) true Try.f5.params.toList args.toList ds p := hA0
  rw [Try.params5] at hA hval
  obtain ⟨v0, vs0, d0, ds0, p0, q0, hargs, rfl, rfl, h0, r0⟩ := trodAll_cons hA
  obtain ⟨v1, vs1, d1, ds1, p1, q1, rfl, rfl, rfl, h1, r1⟩ := trodAll_cons r0
  obtain ⟨v2, vs2, d2, ds2, p2, q2, rfl, rfl, rfl, h2, r2⟩ := trodAll_cons r1
  obtain ⟨rfl, rfl, rfl⟩ := trodAll_nil r2
  obtain rfl : args = #[v0, v1, v2] := by cases args; simp_all
  obtain ⟨rfl, rfl⟩ := trodVars_none hV
  have k0 := h0
  have lt0 : ∀ x ∈ p0, x.block < W.heap.size := by obtain ⟨m, hm⟩ := k0; exact DataW.trod_lt m _ _ _ hm
  have k1 := h1
  have lt1 : ∀ x ∈ p1, x.block < W.heap.size := by obtain ⟨m, hm⟩ := k1; exact DataW.trod_lt m _ _ _ hm
  have k2 := h2
  have lt2 : ∀ x ∈ p2, x.block < W.heap.size := by obtain ⟨m, hm⟩ := k2; exact DataW.trod_lt m _ _ _ hm
  obtain ⟨a0, len0, cap0, rfl⟩ := okWide_slice Try.underlying22 (hval 0 22 v0 rfl rfl)
  obtain ⟨l0, e0⟩ := open_bytes h0
  obtain ⟨a1, len1, cap1, rfl⟩ := okWide_slice Try.underlying22 (hval 1 22 v1 rfl rfl)
  obtain ⟨l1, e1⟩ := open_bytes h1
  obtain ⟨a2, len2, cap2, rfl⟩ := okWide_slice Try.underlying22 (hval 2 22 v2 rfl rfl)
  obtain ⟨l2, e2⟩ := open_bytes h2
  clear hA0 hval0
  refine (walk _ l0 _ l1 _ l2 W e0 e1 e2).mono fun e W' ⟨he, bel⟩ => ?_
  subst he
  exact ⟨_, rfl, _, _, _, [], _, [], hW', trodAll_mk1 (shut_bool Try.underlying4 _), (trodAll_cons_mk (Below.trod laidOut (by kernel_rfl) (of_decide_eq_true (by kernel_rfl)) k0 bel lt0) (trodAll_cons_mk (Below.trod laidOut (by kernel_rfl) (of_decide_eq_true (by kernel_rfl)) k1 bel lt1) (trodAll_cons_mk (Below.trod laidOut (by kernel_rfl) (of_decide_eq_true (by kernel_rfl)) k2 bel lt2) trodAll_mk0))), rfl, bel.frame _, fun h => by cases h⟩

theorem over : Rows.scanNotesRow.holds Try.pinned (OpenSpec.ofChange Rows.scanNotesSpec) :=
  OpenClaim.holds_of_wide 5 Try.f5 rfl rfl rfl rfl rfl rfl rfl ⟨rfl, rfl, rfl, rfl, rfl⟩ rfl rfl rfl rfl rfl (by kernel_rfl) Try.func5 (by kernel_rfl)
    (of_decide_eq_true (by kernel_rfl)) (by unfold Func.isWrapper; first | (rw [if_pos (by decide +kernel)]; kernel_rfl) | (rw [if_neg (by decide +kernel)]; exact ⟨rfl, rfl⟩))
    (fun os started H enc _ => lifted os started H enc)

theorem proved : Rows.ScanNotesSaid := over
#print axioms proved
end Go.Proofs.Ytoggniamnedepaa.scanNotes
