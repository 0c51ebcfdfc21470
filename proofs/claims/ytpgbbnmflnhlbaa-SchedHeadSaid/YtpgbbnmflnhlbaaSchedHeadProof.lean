/- SchedHead holds for every instance and every two lists of stops; there is no further condition. -/
import Derived.Test.YtpgbbnmflnhlbaaOrd
import Derived.Test.YtpgbbnmflnhlbaaRows
import Derived.Test.YtpgbbnmflnhlbaaXTSched
namespace Go.Proofs.Ytpgbbnmflnhlbaa.schedHead
open Go.ChangeShapes Go.WideShapes Go.ChangeAt Go.RowKit

set_option maxRecDepth 1000000 in
set_option maxHeartbeats 4000000 in
theorem walk (I0 : Ins) (v0 : Value) (v1 : Value) (l1 : List Int) (v2 : Value) (l2 : List Int) (w : World) (e0 : SRow w v0 I0.l) (e1 : Row w v1 (ints l1)) (e2 : Row w v2 (ints l2)) :
    Calls Try.prog 11 #[insV I0 v0, v1, v2] w fun e w' => e = .returned (.bool true) ∧ Below w.heap.size w w' := by
  have HE := Lib.hid e0
  have HR := Lib.hid e1
  have HQ := Lib.hid e2
  obtain ⟨a, cap, rfl, hm, _⟩ := e0.form
  obtain ⟨a1, cap1, rfl, hm1⟩ := e1.form
  obtain ⟨a2, cap2, rfl, hm2⟩ := e2.form
  simp only [ints_len] at *
  have hx0 : I0.l.length ≤ 9223372036854775807 := by unfold maxLen at hm; omega
  have hx1 : l1.length ≤ 9223372036854775807 := by unfold maxLen at hm1; omega
  have hx2 : l2.length ≤ 9223372036854775807 := by unfold maxLen at hm2; omega
  clear e0 e1 e2 hm hm1 hm2
  unfold insV
  go_enter Try.func11, Try.ntmps11
  go_wp2_with fail
  change Calls _ _ _ (w.alloc (boxI I0 (.slice a I0.l.length cap))) _
  have HB0 := Lib.hid ((Below.refl _ w).alloc (Nat.le_refl _) (boxI I0 (.slice a I0.l.length cap)))
  have HXB := Lib.hid (ybox_new w I0 (.slice a I0.l.length cap))
  generalize w.alloc (boxI I0 (.slice a I0.l.length cap)) = W at *
  refine (tawake_any _).mono ?_
  rintro e w1 ⟨rfl, hb⟩
  have HB1 := Lib.hid (HB0.out.trans (hb.mono HB0.out.size))
  have HX1 := Lib.hid ((show YBox W w.heap.size I0 (.slice a I0.l.length cap) from HXB.out).later hb)
  clear hb
  obtain ⟨c0, c1, c2, c3⟩ := HX1.out.cells
  by_cases q1 : (100 : Int) < (I0.l.length : Int)
  · have d1 := decide_eq_true q1
    clear q1
    go_wp2
    go_ret
    exact ⟨rfl, HB1.out⟩
  have d1 := decide_eq_false q1
  by_cases q2 : (100 : Int) < (l1.length : Int)
  · have d2 := decide_eq_true q2
    clear q1 q2
    go_wp2
    go_ret
    exact ⟨rfl, HB1.out⟩
  have d2 := decide_eq_false q2
  by_cases q3 : (100 : Int) < (l2.length : Int)
  · have d3 := decide_eq_true q3
    clear q1 q2 q3
    go_wp2
    go_ret
    exact ⟨rfl, HB1.out⟩
  have d3 := decide_eq_false q3
  have hl1 : l1.length ≤ 100 := by omega
  have hl2 : l2.length ≤ 100 := by omega
  clear q1 q2 q3
  go_wp2_with fail
  change Calls _ _ #[insV I0 (.slice a I0.l.length cap), .slice a1 l1.length cap1] _ _
  refine (times_any (HE.out.below HB1.out) (HR.out.below HB1.out)).mono ?_
  rintro e w2 ⟨u, rfl, _, hb⟩
  have HB2 := Lib.hid (HB1.out.trans (hb.mono HB1.out.size))
  have HX2 := Lib.hid (HX1.out.later hb)
  clear hb c0 c1 c2 c3
  obtain ⟨c0, c1, c2, c3⟩ := HX2.out.cells
  obtain ⟨er, her⟩ : ∃ er, errT I0 l1 = er := ⟨_, rfl⟩
  have HER := Lib.hid her
  rw [her]
  clear her d1 d2 d3
  go_wp2_with (at_builtin; refine app_ints rfl _ _ rfl w.heap.size (.slice none 0 0) [] rfl (World.ownsRow_nil _ _ _ _) _ l1 rfl (HR.out.below HB2.out) (by simp; omega) HB2.out.size ?_)
  intro v3 w3 own3 grow3 at3
  have HO3 := Lib.hid (show OwnI w3 w.heap.size v3 l1 by simpa using own3)
  have HB3 := Lib.hid (HB2.out.trans ((grown_below grow3 (Nat.le_refl _) (fun q hq => by simp [Value.ownBlock] at hq)).mono HB2.out.size))
  have HX3 := Lib.hid (HX2.out.later (grown_below grow3 (Nat.le_refl _) (fun q hq => by simp [Value.ownBlock] at hq)))
  have hn3 := Lib.hid (show ∀ q, v3.ownBlock = some q → w2.heap.size ≤ q from fun q hq => by
    rcases at3 with e | e
    · rw [hq] at e; simp [Value.ownBlock] at e
    · rw [hq] at e; simp at e; omega)
  clear own3 grow3 at3 c0 c1 c2 c3
  go_wp2_with (at_builtin; refine app_ints rfl _ _ rfl w.heap.size v3 l1 rfl HO3.out _ l2 rfl (HQ.out.below HB3.out) (by omega) HB3.out.size ?_)
  intro v4 w4 own4 grow4 _
  obtain ⟨L, hL⟩ : ∃ L, l1 ++ l2 = L := ⟨_, rfl⟩
  have HLL := Lib.hid hL
  rw [hL] at own4
  clear hL
  have HO4 := Lib.hid own4
  have HB4 := Lib.hid (HB3.out.grown grow4 HB3.out.size (fun q hq => by have := hn3.out q hq; have := HB2.out.size; omega))
  have HX4 := Lib.hid (show YBox w4 w.heap.size I0 (.slice a I0.l.length cap) from by
    have hlt2 : w.heap.size < w2.heap.size := HX2.out.lt
    unfold YBox
    rw [grow4.block _ HX3.out.lt (fun e => by have := hn3.out _ e.symm; omega)]
    exact HX3.out)
  obtain ⟨b4, cap4, rfl⟩ := own4.shape
  clear own4 grow4
  obtain ⟨c0, c1, c2, c3⟩ := HX4.out.cells
  go_wp2_with fail
  change Calls _ _ #[insV I0 (.slice a I0.l.length cap), _] _ _
  refine (times_any (HE.out.below HB4.out) HO4.out.row).mono ?_
  rintro e w5 ⟨u5, rfl, _, hb⟩
  have HB5 := Lib.hid (HB4.out.trans (hb.mono HB4.out.size))
  clear hb c0 c1 c2 c3
  obtain ⟨fr, hfr⟩ : ∃ fr, errT I0 L = fr := ⟨_, rfl⟩
  have HFR := Lib.hid (show errT I0 (l1 ++ l2) = fr by rw [HLL.out]; exact hfr)
  rw [hfr]
  clear hfr
  by_cases h : er = 1 ∨ er = 5 ∨ er = 6
  · have hfe : fr = er := by rw [← HFR.out, ← HER.out]; exact head_same (by rw [HER.out]; exact h)
    subst hfe
    rcases h with rfl | rfl | rfl
    all_goals
      go_wp2
      go_ret
      exact ⟨rfl, HB5.out⟩
  have k1 : (er == 1) = false := by simp; omega
  have k2 : (er == 5) = false := by simp; omega
  have k3 : (er == 6) = false := by simp; omega
  clear h
  by_cases h0 : er = 0
  · subst h0
    by_cases hz : l2 = []
    · subst hz
      have hf0 : fr = 0 := by rw [← HFR.out, List.append_nil, HER.out]
      subst hf0
      go_wp2
      go_ret
      exact ⟨rfl, HB5.out⟩
    · have hp : (0 : Int) < (l2.length : Int) := by have := List.length_pos_iff.2 hz; omega
      have d4 := decide_eq_true hp
      have d5 : decide (0 < l2.length) = true := decide_eq_true (List.length_pos_iff.2 hz)
      clear hz hp
      by_cases hf : fr = 0
      · have k4 : (fr == 0) = true := by simp [hf]
        clear hf
        go_wp2
        go_ret
        exact ⟨rfl, HB5.out⟩
      · have k4 : (fr == 0) = false := by simp [hf]
        clear hf
        go_wp2
        go_ret
        exact ⟨rfl, HB5.out⟩
  · have k4 : (er != 0) = true := by simp [h0]
    clear h0
    go_wp2
    go_ret
    exact ⟨rfl, HB5.out⟩

set_option maxRecDepth 100000 in
theorem lifted (os : Os) (started : os.Started) (H : Type) (enc : TypeId × Value → H) :
    ReturnsInHanded {} Try.checked os 11 .any (Rows.schedHeadSpec.pre6 enc Try.prog Try.f11 Rows.schedHeadRow.domain false) (Rows.schedHeadSpec.post enc Try.prog Try.f11 false true false false) := by
  refine returnsInHanded_of_change (C := Try.checked) own started (by kernel_rfl) Try.func11
    (ChangeSpec.witness6 (enc := enc) (C := Try.checked) false ⟨#[], #[.agg #[.int .i64 0, .int .i64 0, .int .i64 0, .slice none 0 0], .slice none 0 0, .slice none 0 0], []⟩ 8 (by kernel_rfl) (by kernel_rfl) (by kernel_rfl) (by kernel_rfl)) ?_
  intro W base args ds gs before hval0 hW hcnd _
  have hval : ∀ (j : Nat) t v, Try.f11.params[j]? = some t → args[j]? = some v → Value.okWide Try.prog W .any base t v := hval0
  have hW' := hW
  obtain ⟨p, q, hA0, hV, rfl, hfz, hnd⟩ := hW
  have hA : DataW.TrodAll enc Try.prog W 0 (fun _ => true) true Try.f11.params.toList args.toList ds p := hA0
  rw [Try.params11] at hA hval
  obtain ⟨v0, vs0, d0, ds0, p0, q0, hargs, rfl, rfl, h0, r0⟩ := trodAll_cons hA
  obtain ⟨v1, vs1, d1, ds1, p1, q1, rfl, rfl, rfl, h1, r1⟩ := trodAll_cons r0
  obtain ⟨v2, vs2, d2, ds2, p2, q2, rfl, rfl, rfl, h2, r2⟩ := trodAll_cons r1
  obtain ⟨rfl, rfl, rfl⟩ := trodAll_nil r2
  obtain rfl : args = #[v0, v1, v2] := by cases args; simp_all
  obtain ⟨rfl, rfl⟩ := trodVars_none hV
  have k0 := h0
  have lt0 : ∀ x ∈ p0, x.block < W.heap.size := by obtain ⟨m, hm⟩ := k0; exact DataW.trod_lt m _ _ _ hm
  have k1 := h1
  have lt1 : ∀ x ∈ p1, x.block < W.heap.size := by obtain ⟨m, hm⟩ := k1; exact DataW.trod_lt m _ _ _ hm
  have k2 := h2
  have lt2 : ∀ x ∈ p2, x.block < W.heap.size := by obtain ⟨m, hm⟩ := k2; exact DataW.trod_lt m _ _ _ hm
  obtain ⟨I0, u0, rfl, e0, _⟩ := open_inst (hval 0 26 v0 rfl rfl) h0
  obtain ⟨a1, len1, cap1, rfl⟩ := okWide_slice Try.underlying32 (hval 1 32 v1 rfl rfl)
  obtain ⟨l1, e1, _⟩ := open_row h1
  obtain ⟨a2, len2, cap2, rfl⟩ := okWide_slice Try.underlying32 (hval 2 32 v2 rfl rfl)
  obtain ⟨l2, e2, _⟩ := open_row h2
  clear hA0 hval0
  refine (walk I0 _ _ l1 _ l2 W e0 e1 e2).mono fun e W' ⟨he, bel⟩ => ?_
  subst he
  exact ⟨_, rfl, _, _, _, [], _, [], hW', trodAll_mk1 (shut_bool Try.underlying4 _), (trodAll_cons_mk (Below.trod laidOut (by kernel_rfl) (of_decide_eq_true (by kernel_rfl)) k0 bel lt0) (trodAll_cons_mk (Below.trod laidOut (by kernel_rfl) (of_decide_eq_true (by kernel_rfl)) k1 bel lt1) (trodAll_cons_mk (Below.trod laidOut (by kernel_rfl) (of_decide_eq_true (by kernel_rfl)) k2 bel lt2) trodAll_mk0))), rfl, bel.frame _, fun h => by cases h⟩

theorem over : Rows.schedHeadRow.holds Try.pinned (OpenSpec.ofChange Rows.schedHeadSpec) :=
  OpenClaim.holds_of_wide 11 Try.f11 rfl rfl rfl rfl rfl rfl rfl ⟨rfl, rfl, rfl, rfl, rfl⟩ rfl rfl rfl rfl rfl (by kernel_rfl) Try.func11 (by show joinedFacts Try.checked.prog _ _ _ _ = true; unfold joinedFacts; rw [ord_may, ord_lifts, ord_make]; kernel_rfl)
    (of_decide_eq_true (by kernel_rfl)) (by unfold Func.isWrapper; first | (rw [if_pos (by decide +kernel)]; kernel_rfl) | (rw [if_neg (by decide +kernel)]; exact ⟨rfl, rfl⟩))
    (fun os started H enc _ => lifted os started H enc)

theorem proved : Rows.SchedHeadSaid := over
#print axioms proved
end Go.Proofs.Ytpgbbnmflnhlbaa.schedHead
