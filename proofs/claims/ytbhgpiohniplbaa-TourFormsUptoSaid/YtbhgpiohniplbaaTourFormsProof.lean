/- A 0 more at the beginning, at the end, or beside another one, makes a tour none: where what is handed in is of bulk at most 1048576. -/
import Derived.Test.YtbhgpiohniplbaaRows
import Derived.Test.YtbhgpiohniplbaaUAwake
import Derived.Test.YtbhgpiohniplbaaVArgs
import Derived.Test.YtbhgpiohniplbaaXPMat
namespace Go.Proofs.Ytbhgpiohniplbaa.tourForms
open Go.ChangeShapes Go.WideShapes Go.ChangeAt Go.RowKit

theorem own_zero (w : World) : OwnI (w.alloc (.cells #[.int .i64 0] 3)) w.heap.size (.slice (some ⟨w.heap.size, 0, none⟩) 1 1) [0] :=
  ⟨rfl, .inr ⟨w.heap.size, 1, #[.int .i64 0], rfl, Nat.le_refl _, heap_alloc_new w _, Nat.le_refl _, by simp [maxLen], rfl, rfl⟩⟩
set_option maxRecDepth 1000000 in
set_option maxHeartbeats 4000000 in
theorem walk (v0 : Value) (l0 : List Int) (a1 : Int) (w : World) (e0 : Row w v0 (ints l0)) (bulk : l0.length ≤ 1048576) :
    Calls Try.prog 8 #[v0, .int .i64 a1] w fun e w' => e = .returned (.bool true) ∧ Below w.heap.size w w' := by
  have HP := Lib.hid e0
  obtain ⟨ta, tc, rfl, hm⟩ := e0.form
  rw [ints_len] at *
  have hm1 : l0.length ≤ 9223372036854775807 := by omega
  clear e0 hm
  go_enter Try.func8, Try.ntmps8
  go_wp2_with fail
  refine (uawake_any _).mono ?_
  rintro e w1 ⟨rfl, hb⟩
  have HB1 := Lib.hid hb
  clear hb
  go_wp2_with fail
  refine (split_any (HP.out.below HB1.out) bulk).mono ?_
  rintro e w2 ⟨u, rfl, hu, hb⟩
  obtain ⟨L, hL⟩ : ∃ L, splitR l0 = L := ⟨_, rfl⟩
  obtain ⟨er, her⟩ : ∃ er, splitE l0 = er := ⟨_, rfl⟩
  rw [hL] at hu
  rw [her]
  obtain ⟨ua, uc, rfl⟩ := hu.shape
  generalize L.length = ul at *
  have HB3 := Lib.hid ((HB1.out.trans (hb.mono HB1.out.size)).alloc (HB1.out.trans (hb.mono HB1.out.size)).size (.cells #[.slice ua ul uc] 24))
  clear hu hb hL her
  unfold planV
  go_upto_region 3 with fail
  generalize w2.alloc (.cells #[.slice ua ul uc] 24) = w3 at *
  generalize w2.heap.size = N1 at *
  by_cases h1 : 200 < l0.length
  · have h1b : (200 : Int) < (l0.length : Int) := by omega
    go_wp2
    go_ret
    exact ⟨rfl, HB3.out⟩
  have h1b : ¬ (200 : Int) < (l0.length : Int) := by omega
  by_cases h2 : l0.length = 0
  · have h2b : ((l0.length : Int) == 0) = true := by rw [h2]; rfl
    clear h2
    go_wp2
    go_ret
    exact ⟨rfl, HB3.out⟩
  have h2b : ((l0.length : Int) == 0) = false := beq_eq_false_iff_ne.2 (by omega)
  by_cases h3 : er = 0
  case neg =>
    have h3b : (er != 0) = true := by simp [h3]
    clear h3
    go_wp2
    go_ret
    exact ⟨rfl, HB3.out⟩
  have h3b : (er != 0) = false := by simp [h3]
  clear h3
  by_cases h4 : a1 < 0
  · go_wp2
    go_ret
    exact ⟨rfl, HB3.out⟩
  by_cases h5 : (l0.length : Int) ≤ a1
  · go_wp2
    go_ret
    exact ⟨rfl, HB3.out⟩
  obtain ⟨k, rfl⟩ : ∃ k : Nat, a1 = (k : Int) := ⟨a1.toNat, by omega⟩
  have hk : k < l0.length := by omega
  have HZ1 := Lib.hid (zero_ahead l0)
  have HZ2 := Lib.hid (zero_behind l0)
  go_wp2_with (first | (at_builtin; refine app_ints rfl _ _ rfl w3.heap.size _ [0] rfl (own_zero w3) _ l0 rfl ((HP.out.below HB3.out).below ((Below.refl w3.heap.size w3).alloc (Nat.le_refl _) _)) (by simp; omega) (by simp) ?_))
  intro v4 w4 own4 grown4 _
  have HA4 := Lib.hid (show OwnI w4 w3.heap.size v4 (0 :: l0) by simpa using own4)
  have HB4 := Lib.hid ((HB3.out.alloc HB3.out.size (.cells #[.int .i64 0] 3)).grown grown4 (by have := HB3.out.size; simp; omega) (fun q hq => by have := HB3.out.size; simp [Value.ownBlock] at hq; omega))
  clear own4 grown4
  go_wp2_with (first | (at_builtin; refine app_ints rfl _ _ rfl w4.heap.size _ [] rfl (ownI_nil _ _) _ l0 rfl (HP.out.below HB4.out) (by simp; omega) (Nat.le_refl _) ?_))
  intro v5 w5 own5 grown5 _
  have HC5 := Lib.hid (show OwnI w5 w4.heap.size v5 l0 by simpa using own5)
  have Hb5 := Lib.hid ((Below.refl w4.heap.size w4).grown grown5 (Nat.le_refl _) (fun q hq => by cases hq))
  clear own5 grown5
  go_wp2_with (first | (at_builtin; refine app_ints rfl _ _ rfl w4.heap.size _ l0 rfl (HC5.out.alloc _) _ [0] rfl (row_newi _ _) (by simp; omega) (by have := Hb5.out.size; simp; omega) ?_))
  intro v6 w6 own6 grown6 _
  have HC6 := Lib.hid own6
  have Hb6 := Lib.hid (madei Hb5.out HC5.out grown6)
  have HA6 := Lib.hid (HA4.out.below Hb6.out)
  have HB6 := Lib.hid (HB4.out.trans (Hb6.out.mono HB4.out.size))
  clear own6 grown6 HA4 HC5 HB4 Hb5 Hb6
  go_wp2_with fail
  refine (split_any HA6.out.row (by simp; omega)).mono ?_
  rw [HZ1.out]
  rintro e w7 ⟨u, rfl, hu, hb⟩
  obtain ⟨pa, pc, rfl⟩ := hu.shape
  generalize (splitR (0 :: l0)).length = pl at *
  have hn := (Below.refl w7.heap.size w7).alloc (Nat.le_refl _) (.cells #[.slice pa pl pc] 24)
  have HC8 := Lib.hid ((HC6.out.below hb).below hn)
  have HB8 := Lib.hid ((HB6.out.trans (hb.mono HB6.out.size)).alloc (HB6.out.trans (hb.mono HB6.out.size)).size (.cells #[.slice pa pl pc] 24))
  clear hu hb hn HC6 HA6 HB6
  unfold planV
  go_upto_region 8 with fail
  generalize w7.alloc (.cells #[.slice pa pl pc] 24) = w8 at *
  generalize w7.heap.size = N2 at *
  go_wp2_with fail
  refine (split_any HC8.out.row (by simp; omega)).mono ?_
  rw [HZ2.out]
  rintro e w9 ⟨u, rfl, hu, hb⟩
  obtain ⟨qa, qc, rfl⟩ := hu.shape
  generalize (splitR (l0 ++ [0])).length = ql at *
  have HB10 := Lib.hid ((HB8.out.trans (hb.mono HB8.out.size)).alloc (HB8.out.trans (hb.mono HB8.out.size)).size (.cells #[.slice qa ql qc] 24))
  clear hu hb HC8 HB8 HZ1 HZ2
  unfold planV
  go_upto_region 9 with fail
  generalize w9.alloc (.cells #[.slice qa ql qc] 24) = w10 at *
  generalize w9.heap.size = N3 at *
  have hr := HP.out.below HB10.out
  obtain ⟨b1, o1, c1, he1, hc1, _, _⟩ := row_at (p := k) hr (by rw [ints_len]; exact hk)
  rw [ints_at l0 k hk] at hc1
  simp only [ints_len, Value.slice.injEq, true_and] at he1
  obtain ⟨rfl, rfl⟩ := he1
  have hcap : l0.length ≤ tc := by obtain ⟨_, a, c, h1, h2, _⟩ := hr; simp [ints_len] at h1 h2; omega
  have HT := Lib.hid (hr.head k (by omega))
  have htl := HP.out.tail k (by omega) _ rfl
  rw [if_neg (by omega)] at htl
  have HTL := Lib.hid htl
  have HZ3 := Lib.hid (fun h => zero_beside (t := l0) hk h)
  have ij1 : (k : Int) ≤ (l0.length : Int) := by omega
  have ij2 : (k : Int) < (l0.length : Int) := by omega
  have ij4 : (l0.length : Int) ≤ (tc : Int) := by omega
  have ij6 : (k : Int) ≤ (tc : Int) := by omega
  clear hr htl
  generalize l0.getD k 0 = x at *
  by_cases hx : x = 0
  case neg =>
    have hxb : (x != 0) = true := by simp [hx]
    clear hx
    go_wp2
    go_ret
    exact ⟨rfl, HB10.out⟩
  have hxb : (x != 0) = false := by simp [hx]
  have HZ := Lib.hid (HZ3.out hx)
  clear hx HZ3
  go_wp2_with (first | (at_builtin; refine app_ints rfl _ _ rfl w10.heap.size _ [] rfl (ownI_nil _ _) _ (l0.take k) rfl HT.out (by rw [List.length_take]; simp; omega) (Nat.le_refl _) ?_))
  intro v11 w11 own grown _
  have HO11 := Lib.hid (show OwnI w11 w10.heap.size v11 (l0.take k) by simpa using own)
  have Hb11 := Lib.hid ((Below.refl w10.heap.size w10).grown grown (Nat.le_refl _) (fun q hq => by cases hq))
  clear own grown
  go_wp2_with (first | (at_builtin; refine app_ints rfl _ _ rfl w10.heap.size _ (l0.take k) rfl (HO11.out.alloc _) _ [0] rfl (row_newi _ _) (by rw [List.length_take]; simp; omega) (by have := Hb11.out.size; simp; omega) ?_))
  intro v12 w12 own grown _
  have HO12 := Lib.hid own
  have Hb12 := Lib.hid (madei Hb11.out HO11.out grown)
  have HB12 := Lib.hid (HB10.out.trans (Hb12.out.mono HB10.out.size))
  clear own grown
  go_wp2_with (first | (at_builtin; refine app_ints rfl _ _ rfl w10.heap.size _ (l0.take k ++ [0]) rfl HO12.out _ (l0.drop k) rfl (HTL.out.below HB12.out) (by rw [List.length_append, List.length_take, List.length_drop]; simp; omega) Hb12.out.size ?_))
  intro v13 w13 own grown _
  have HO13 := Lib.hid (show OwnI w13 w10.heap.size v13 (l0.take k ++ 0 :: l0.drop k) by simpa using own)
  have Hb13 := Lib.hid (Hb12.out.grown grown Hb12.out.size (fun q hq => (World.ownsRow.lt HO12.out q hq).1))
  have HB13 := Lib.hid (HB10.out.trans (Hb13.out.mono HB10.out.size))
  clear own grown
  go_wp2_with fail
  refine (split_any HO13.out.row (by rw [List.length_append, List.length_take, List.length_cons, List.length_drop]; omega)).mono ?_
  rw [HZ.out]
  rintro e w14 ⟨u, rfl, hu, hb⟩
  have HB14 := Lib.hid (HB13.out.trans (hb.mono HB13.out.size))
  have HB15 := Lib.hid (HB14.out.alloc HB14.out.size (.cells #[u] 24))
  obtain ⟨ra, rc, rfl⟩ := hu.shape
  clear hu hb
  unfold planV
  generalize (splitR (l0.take k ++ 0 :: l0.drop k)).length = rl at *
  go_wp2
  go_ret
  exact ⟨rfl, HB15.out⟩

set_option maxRecDepth 100000 in
theorem lifted (os : Os) (started : os.Started) (H : Type) (enc : TypeId × Value → H) (F : Stop.Interp) :
    ReturnsInHanded {} Try.checked os 8 .any ((Rows.OpenSpec.upto Rows.tourFormsSpec).pre6 enc Try.prog Try.f8 Rows.tourFormsUptoRow.domain false) (((Rows.OpenSpec.upto Rows.tourFormsSpec).at F).post enc Try.prog Try.f8 false true false false) := by
  refine returnsInHanded_of_cond (C := Try.checked) (s := Rows.OpenSpec.upto Rows.tourFormsSpec) (k := Rows.uptoSmall) rfl own started (by kernel_rfl) Try.func8
    (OpenSpec.witness (enc := enc) (C := Try.checked) (s := Rows.OpenSpec.upto Rows.tourFormsSpec) (k := Rows.uptoSmall) rfl false ⟨#[], #[.slice none 0 0, .int .i64 0], []⟩ 8 (by kernel_rfl) (by kernel_rfl) (by kernel_rfl)
      (x := ([.nil, .lit (.int .i64 0)], [], [])) (by kernel_rfl) rfl (by kernel_rfl)) ?_
  intro W base args ds gs before hval0 hW hcnd hk _
  have hval : ∀ (j : Nat) t v, Try.f8.params[j]? = some t → args[j]? = some v → Value.okWide Try.prog W .any base t v := hval0
  have hW' := hW
  obtain ⟨p, q, hA0, hV, rfl, hfz, hnd⟩ := hW
  have hA : DataW.TrodAll enc Try.prog W 0 (fun _ => true) true Try.f8.params.toList args.toList ds p := hA0
  rw [Try.params8] at hA hval
  obtain ⟨v0, vs0, d0, ds0, p0, q0, hargs, rfl, rfl, h0, r0⟩ := trodAll_cons hA
  obtain ⟨v1, vs1, d1, ds1, p1, q1, rfl, rfl, rfl, h1, r1⟩ := trodAll_cons r0
  obtain ⟨rfl, rfl, rfl⟩ := trodAll_nil r1
  obtain rfl : args = #[v0, v1] := by cases args; simp_all
  obtain ⟨rfl, rfl⟩ := trodVars_none hV
  have k0 := h0
  have lt0 : ∀ x ∈ p0, x.block < W.heap.size := by obtain ⟨m, hm⟩ := k0; exact DataW.trod_lt m _ _ _ hm
  have k1 := h1
  have lt1 : ∀ x ∈ p1, x.block < W.heap.size := by obtain ⟨m, hm⟩ := k1; exact DataW.trod_lt m _ _ _ hm
  obtain ⟨a0, len0, cap0, rfl⟩ := okWide_slice Try.underlying28 (hval 0 28 v0 rfl rfl)
  obtain ⟨l0, e0, _⟩ := uopen_row h0
  obtain ⟨a1, rfl, rfl, rfl, i1⟩ := open_int Try.underlying3 (hval 1 3 v1 rfl rfl) h1
  clear hA0 hval0
  refine (walk _ l0 a1 W e0 (row_bulk k0 e0 hk)).mono fun e W' ⟨he, bel⟩ => ?_
  subst he
  exact ⟨_, rfl, _, _, _, [], _, [], hW', trodAll_mk1 (shut_bool Try.underlying4 _), (trodAll_cons_mk (Below.trod laidOut (by kernel_rfl) (of_decide_eq_true (by kernel_rfl)) k0 bel lt0) (trodAll_cons_mk (Below.trod laidOut (by kernel_rfl) (of_decide_eq_true (by kernel_rfl)) k1 bel lt1) trodAll_mk0)), rfl, bel.frame _, fun h => by cases h⟩

theorem over : Rows.tourFormsUptoRow.holds Try.pinned (Rows.OpenSpec.upto Rows.tourFormsSpec) :=
  OpenClaim.holds_of_cond 8 Try.f8 rfl rfl rfl rfl rfl rfl rfl ⟨rfl, rfl, rfl, rfl, rfl⟩ rfl rfl rfl rfl rfl (by kernel_rfl) Try.func8 (by kernel_rfl)
    (of_decide_eq_true (by kernel_rfl)) (by unfold Func.isWrapper; first | (rw [if_pos (by decide +kernel)]; kernel_rfl) | (rw [if_neg (by decide +kernel)]; exact ⟨rfl, rfl⟩))
    (fun os started H enc _ F => lifted os started H enc F)

theorem proved : Rows.TourFormsUptoSaid := over
#print axioms proved
end Go.Proofs.Ytbhgpiohniplbaa.tourForms
