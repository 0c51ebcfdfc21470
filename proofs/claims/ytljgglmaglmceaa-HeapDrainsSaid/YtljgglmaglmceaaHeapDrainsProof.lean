/- HeapDrains holds for every order, every list of entries and every entry; there is no further condition. -/
import Derived.Test.YtljgglmaglmceaaRows
import Derived.Test.YtljgglmaglmceaaDrain
namespace Go.Proofs.Ytljgglmaglmceaa.heapDrains
open Go.ChangeShapes Go.WideShapes Go.ChangeAt Go.RowKit

set_option maxRecDepth 1000000 in
set_option maxHeartbeats 1000000 in
theorem walk (a0 : Int) (a1 : Option Addr) (len1 cap1 : Nat) (l1 : List Ent) (x2 : Ent) (w : World) (hl1 : l1.length = len1) (e1 : IsEnts w a1 l1) :
    Calls Try.prog 4 #[.int .i64 a0, .slice a1 len1 cap1, entV x2] w fun e w' => e = .returned (.bool true) ∧ Below w.heap.size w w' := by
  subst hl1
  have HE := Lib.hid e1
  clear e1
  unfold entV
  by_cases hlen : l1.length ≤ 200
  · have hd2 : decide ((200 : Int) < (l1.length : Int)) = false := decide_eq_false (by omega)
    go_enter Try.func4, Try.ntmps4
    go_wp2_with fail
    have HB0 := Lib.hid ((Below.refl _ w).alloc (Nat.le_refl _) (boxOf x2))
    have HN := Lib.hid (heap_alloc_new w (boxOf x2))
    change Calls _ _ _ (w.alloc (boxOf x2)) _
    generalize w.alloc (boxOf x2) = w1 at *
    obtain ⟨N, hN⟩ : ∃ N, w.heap.size = N := ⟨_, rfl⟩
    rw [hN] at HN ⊢
    have HNe := Lib.hid hN
    clear hN
    refine (awake_any _).mono ?_
    rintro e w2 ⟨rfl, hb⟩
    have HB := Lib.hid (HB0.out.trans (hb.mono HB0.out.size))
    have HN2 := Lib.hid ((hb.block N (Array.getElem?_eq_some_iff.1 HN.out).1).trans HN.out)
    clear hb
    go_wp2_with fail
    refine (new_any _ _).mono ?_
    rintro e w3 ⟨rfl, rfl⟩
    have HL := Lib.hid (filled_new (l := l1) HB.out a0 HN2.out)
    generalize w2.alloc (.cells #[.int .i64 a0, .slice none 0 0] 48) = w3 at *
    generalize w2.heap.size = b at *
    have hq := equal24
    have hgd := guard24
    go_wp2_with fail
    go_loopw [9, 10] (fun n i wr => ∃ k : Nat, k ≤ l1.length ∧ i = .int .i64 k ∧ n = .int .i64 ((l1.take k).count x2 : Nat) ∧ Filled w wr b a0 l1 x2 N k) (fun _ i _ => l1.length - (intOf i).toNat)
    case atStart => exact ⟨0, Nat.zero_le _, rfl, rfl, HL.out⟩
    case round =>
      obtain ⟨k, hk, rfl, rfl, hg⟩ := hrel
      have HG := Lib.hid hg
      clear hg
      by_cases hlt : k < l1.length
      · rcases (ents_later HE.out (live_base HG.out.live)).2 with h0 | ⟨ba, off, rfl, hc⟩
        · rw [h0] at hlt; simp at hlt
        · obtain ⟨c0, c1, c2⟩ := hc k hlt
          clear hc
          have HX := Lib.hid (take_count l1 k hlt x2)
          have hcl := count_le (l1.take k) x2
          have hcl2 := List.length_take_le k l1
          obtain ⟨x, hx⟩ : ∃ x, nth l1 k = x := ⟨_, rfl⟩
          rw [hx] at c0 c1 c2
          rw [hx] at HX
          have HXk := Lib.hid hx
          clear hx
          go_wp2_with fail
          refine (live_put HG.out.live x (by rw [List.length_take]; omega)).mono ?_
          rintro e w4 ⟨rfl, h4, s4⟩
          rw [← HXk.out] at h4
          have H4 := Lib.hid (filled_put HG.out hlt h4 s4)
          clear h4 s4 c0 c1 c2
          rcases (ents_later HE.out (live_base H4.out.live)).2 with h0 | ⟨ba', off', hab, hc⟩
          · rw [h0] at hlt; simp at hlt
          obtain ⟨rfl, rfl⟩ : ba' = ba ∧ off' = off := by simp at hab; exact ⟨hab.1.symm, hab.2.symm⟩
          obtain ⟨c0, c1, c2⟩ := hc k hlt
          rw [HXk.out] at c0 c1 c2
          clear hc hab
          obtain ⟨d0, d1, d2⟩ := box_cells H4.out.one
          by_cases hxx : x = x2
          · have hxe : eq3 x.b x.d x.n x2.b x2.d x2.n = true := by rw [eq3_ent]; exact decide_eq_true hxx
            have HXX := Lib.hid hxx
            clear hxx
            go_wp2_with fail
            go_quiet (fail)
            go_wp2
            go_roundw
            case rel =>
              refine ⟨k + 1, by omega, by go_num, ?_, filled_below H4.out (below_drewN (Below.refl _ _) _)⟩
              rw [HX.out, if_pos HXX.out]; go_num
            case measure => simp [intOf]; omega
          · have hxe : eq3 x.b x.d x.n x2.b x2.d x2.n = false := by rw [eq3_ent]; exact decide_eq_false hxx
            have HXX := Lib.hid hxx
            clear hxx
            go_wp2_with fail
            go_quiet (fail)
            go_wp2
            go_roundw
            case rel =>
              refine ⟨k + 1, by omega, by go_num, ?_, filled_below H4.out (below_drewN (Below.refl _ _) _)⟩
              rw [HX.out, if_neg HXX.out]; rfl
            case measure => simp [intOf]; omega
      · obtain rfl : k = l1.length := by omega
        have HD0 : Hid (Drained w (wr.alloc (.cells #[.int .i64 0, .int .i64 0, .int .i64 0] 24)) b a0 l1 x2 N wr.heap.size 0) := Lib.hid (drained_start HG.out)
        have hNM : N ≠ wr.heap.size := Nat.ne_of_lt (live_lt HG.out.live N rfl)
        have hMw : w.heap.size ≤ wr.heap.size := (live_base HG.out.live).size
        rw [List.take_length]
        go_wp2_with fail
        generalize wr.alloc (.cells #[.int .i64 0, .int .i64 0, .int .i64 0] 24) = w5 at *
        generalize wr.heap.size = M at *
        have HNM := Lib.hid hNM
        have HMw := Lib.hid hMw
        clear hNM hMw
        go_loopw [9, 12] (fun n i wr => ∃ k : Nat, k ≤ l1.length ∧ i = .int .i64 k ∧ n = .int .i64 ((rem a0 l1 k).count x2 : Nat) ∧ Drained w wr b a0 l1 x2 N M k) (fun _ i _ => l1.length - (intOf i).toNat)
        case atStart => exact ⟨0, Nat.zero_le _, rfl, rfl, HD0.out⟩
        case round =>
          obtain ⟨k, hk2, rfl, rfl, hg⟩ := hrel
          have HD := Lib.hid hg
          clear hg
          by_cases hlt2 : k < l1.length
          · have hll := rem_len a0 l1 k hk2
            have HRL := Lib.hid hll
            clear hll
            go_wp2_with fail
            refine (live_take HD.out.live (rem_some a0 l1 k hlt2) (by rw [HRL.out]; omega)).mono ?_
            rintro e w6 ⟨rfl, h6, s6⟩
            have H6 := Lib.hid (drained_take HD.out h6 s6)
            have hN6 := live_lt h6 N (.inl rfl)
            have hM6 := live_lt h6 M (.inr rfl)
            obtain ⟨d0, d1, d2⟩ := box_cells ((s6 N (.inl rfl)).trans HD.out.one)
            obtain ⟨m0, m1, m2⟩ := box_cells ((s6 M (.inr rfl)).trans HD.out.last)
            have mf := box_free ((s6 M (.inr rfl)).trans HD.out.last)
            have HD6 := Lib.hid (drained_next HD.out h6 s6 HNM.out HMw.out (.cells #[.int .i64 (first a0 (rem a0 l1 k)).b, .int .i64 (first a0 (rem a0 l1 k)).d, .int .i64 (first a0 (rem a0 l1 k)).n] 24))
            clear h6 s6
            have HC := Lib.hid (rem_count a0 l1 k hlt2 x2)
            have HO := Lib.hid (rem_order a0 l1 k)
            have hcl := count_le (rem a0 l1 k) x2
            rw [HRL.out] at hcl
            obtain ⟨f, hf⟩ : ∃ f, first a0 (rem a0 l1 k) = f := ⟨_, rfl⟩
            rw [hf] at HC HO HD6
            have HF := Lib.hid hf
            have H7 : Hid (Took w (w6.alloc (.cells #[.int .i64 f.b, .int .i64 f.d, .int .i64 f.n] 24)) b a0 l1 x2 N M w6.heap.size k) := by rw [hf] at H6; exact H6
            rw [hf]
            clear hf H6
            generalize hy : lastOf a0 l1 k = y at *
            have HY := Lib.hid hy
            clear hy
            rcases Nat.eq_zero_or_pos k with hk0 | hk0
            · have e0 : decide ((0 : Int) < (k : Int)) = false := decide_eq_false (by omega)
              have e1 : decide (0 < k) = false := decide_eq_false (by omega)
              by_cases hxx : f = x2
              · have hxe : eq3 f.b f.d f.n x2.b x2.d x2.n = true := by rw [eq3_ent]; exact decide_eq_true hxx
                have HCC := Lib.hid (show (rem a0 l1 k).count x2 = (rem a0 l1 (k + 1)).count x2 + 1 by have := HC.out; rw [if_pos hxx] at this; exact this)
                clear hxx hk0
                go_wp2
                go_roundw
                case rel =>
                  refine ⟨k + 1, by omega, by go_num, ?_, HD6.out⟩
                  rw [HCC.out]; congr 1; omega
                case measure => simp [intOf]; omega
              · have hxe : eq3 f.b f.d f.n x2.b x2.d x2.n = false := by rw [eq3_ent]; exact decide_eq_false hxx
                have HCC := Lib.hid (show (rem a0 l1 k).count x2 = (rem a0 l1 (k + 1)).count x2 by have := HC.out; rw [if_neg hxx] at this; exact this)
                clear hxx hk0
                go_wp2
                go_roundw
                case rel => exact ⟨k + 1, by omega, by go_num, by rw [HCC.out], HD6.out⟩
                case measure => simp [intOf]; omega
            · have e0 : decide ((0 : Int) < (k : Int)) = true := decide_eq_true (by omega)
              have e1 : decide (0 < k) = true := decide_eq_true (by omega)
              have HLt := Lib.hid (show lt a0 f y = false from HO.out hk0 hlt2)
              clear hk0
              go_wp2_with fail
              refine (less_any a0 f y _).mono ?_
              rw [HLt.out]
              rintro e w8 ⟨rfl, hb⟩
              have H8 := Lib.hid (took_below H7.out hb)
              clear hb d0 d1 d2 m0 m1 m2 mf
              obtain ⟨d0, d1, d2⟩ := box_cells H8.out.one
              obtain ⟨m0, m1, m2⟩ := box_cells H8.out.last
              have mf := box_free H8.out.last
              obtain ⟨g0, g1, g2⟩ := box_cells H8.out.this
              rw [HF.out] at g0 g1 g2
              have HD8 := took_last H8.out HNM.out HMw.out
              rw [HF.out] at HD8
              have HD9 := Lib.hid HD8
              clear HD8
              generalize w6.heap.size = E at *
              by_cases hxx : f = x2
              · have hxe : eq3 f.b f.d f.n x2.b x2.d x2.n = true := by rw [eq3_ent]; exact decide_eq_true hxx
                have HCC := Lib.hid (show (rem a0 l1 k).count x2 = (rem a0 l1 (k + 1)).count x2 + 1 by have := HC.out; rw [if_pos hxx] at this; exact this)
                clear hxx
                go_wp2
                go_roundw
                case rel =>
                  refine ⟨k + 1, by omega, by go_num, ?_, HD9.out⟩
                  rw [HCC.out]; congr 1; omega
                case measure => simp [intOf]; omega
              · have hxe : eq3 f.b f.d f.n x2.b x2.d x2.n = false := by rw [eq3_ent]; exact decide_eq_false hxx
                have HCC := Lib.hid (show (rem a0 l1 k).count x2 = (rem a0 l1 (k + 1)).count x2 by have := HC.out; rw [if_neg hxx] at this; exact this)
                clear hxx
                go_wp2
                go_roundw
                case rel => exact ⟨k + 1, by omega, by go_num, by rw [HCC.out], HD9.out⟩
                case measure => simp [intOf]; omega
          · obtain rfl : k = l1.length := by omega
            have HL2 := Lib.hid HD.out.live
            rw [rem_none] at HL2
            rw [rem_none]
            go_wp2_with fail
            refine (live_take_none HL2.out).mono ?_
            rintro e w6 ⟨rfl, h6, -⟩
            have H6 := Lib.hid (live_alloc h6 (.cells #[.int .i64 0, .int .i64 0, .int .i64 0] 24) noBlock (fun _ e => e.elim))
            clear h6
            go_wp2_with fail
            refine (live_len H6.out).mono ?_
            rintro e w7 ⟨rfl, rfl⟩
            go_wp2_with fail
            refine (live_least H6.out (by simp)).mono ?_
            rintro e w7 ⟨rfl, h7, -⟩
            have H7 := Lib.hid (live_base h7)
            clear h7
            have hmn : minB [] = 1152921504606846976 := rfl
            go_wp2
            go_ret
            exact ⟨rfl, H7.out⟩
  · have hd2 : decide ((200 : Int) < (l1.length : Int)) = true := decide_eq_true (by omega)
    go_enter Try.func4, Try.ntmps4
    go_wp2_with fail
    have HB0 := Lib.hid ((Below.refl _ w).alloc (Nat.le_refl _) (boxOf x2))
    change Calls _ _ _ (w.alloc (boxOf x2)) _
    refine (awake_any _).mono ?_
    rintro e w2 ⟨rfl, hb⟩
    have HB := Lib.hid (HB0.out.trans (hb.mono HB0.out.size))
    clear hb
    go_wp2_with fail
    refine (new_any _ _).mono ?_
    rintro e w3 ⟨rfl, rfl⟩
    go_wp2
    go_ret
    exact ⟨rfl, HB.out.alloc HB.out.size _⟩

set_option maxRecDepth 100000 in
theorem lifted (os : Os) (started : os.Started) (H : Type) (enc : TypeId × Value → H) :
    ReturnsInHanded {} Try.checked os 4 .any (Rows.heapDrainsSpec.pre6 enc Try.prog Try.f4 Rows.heapDrainsRow.domain false) (Rows.heapDrainsSpec.post enc Try.prog Try.f4 false true false false) := by
  refine returnsInHanded_of_change (C := Try.checked) own started (by kernel_rfl) Try.func4
    (ChangeSpec.witness6 (enc := enc) (C := Try.checked) false ⟨#[], #[.int .i64 0, .slice none 0 0, .agg #[.int .i64 0, .int .i64 0, .int .i64 0]], []⟩ 8 (by kernel_rfl) (by kernel_rfl) (by kernel_rfl) (by kernel_rfl)) ?_
  intro W base args ds gs before hval0 hW hcnd _
  have hval : ∀ (j : Nat) t v, Try.f4.params[j]? = some t → args[j]? = some v → Value.okWide Try.prog W .any base t v := hval0
  have hW' := hW
  obtain ⟨p, q, hA0, hV, rfl, hfz, hnd⟩ := hW
  have hA : DataW.TrodAll enc Try.prog W 0 (fun _ => true) true Try.f4.params.toList args.toList ds p := hA0
  rw [Try.params4] at hA hval
  obtain ⟨v0, vs0, d0, ds0, p0, q0, hargs, rfl, rfl, h0, r0⟩ := trodAll_cons hA
  obtain ⟨v1, vs1, d1, ds1, p1, q1, rfl, rfl, rfl, h1, r1⟩ := trodAll_cons r0
  obtain ⟨v2, vs2, d2, ds2, p2, q2, rfl, rfl, rfl, h2, r2⟩ := trodAll_cons r1
  obtain ⟨rfl, rfl, rfl⟩ := trodAll_nil r2
  obtain rfl : args = #[v0, v1, v2] := by cases args; simp_all
  obtain ⟨rfl, rfl⟩ := trodVars_none hV
  have k0 := h0
  have lt0 : ∀ x ∈ p0, x.block < W.heap.size := by obtain ⟨m, hm⟩ := k0; exact DataW.trod_lt m _ _ _ hm
  have k1 := h1
  have lt1 : ∀ x ∈ p1, x.block < W.heap.size := by obtain ⟨m, hm⟩ := k1; exact DataW.trod_lt m _ _ _ hm
  have k2 := h2
  have lt2 : ∀ x ∈ p2, x.block < W.heap.size := by obtain ⟨m, hm⟩ := k2; exact DataW.trod_lt m _ _ _ hm
  obtain ⟨a0, rfl, rfl, rfl, _⟩ := open_int Try.underlying3 (hval 0 3 v0 rfl rfl) h0
  obtain ⟨a1, len1, cap1, rfl⟩ := okWide_slice Try.underlying29 (hval 1 29 v1 rfl rfl)
  obtain ⟨l1, hl1, e1⟩ := open_ents h1
  obtain ⟨x2, rfl⟩ := open_ent (hval 2 24 v2 rfl rfl) h2
  clear hA0 hval0
  refine (walk a0 a1 len1 cap1 l1 x2 W hl1 e1).mono fun e W' ⟨he, bel⟩ => ?_
  subst he
  exact ⟨_, rfl, _, _, _, [], _, [], hW', trodAll_mk1 (shut_bool Try.underlying4 _), (trodAll_cons_mk (Below.trod laidOut (by kernel_rfl) (of_decide_eq_true (by kernel_rfl)) k0 bel lt0) (trodAll_cons_mk (Below.trod laidOut (by kernel_rfl) (of_decide_eq_true (by kernel_rfl)) k1 bel lt1) (trodAll_cons_mk (Below.trod laidOut (by kernel_rfl) (of_decide_eq_true (by kernel_rfl)) k2 bel lt2) trodAll_mk0))), rfl, bel.frame _, fun h => by cases h⟩

theorem over : Rows.heapDrainsRow.holds Try.pinned (OpenSpec.ofChange Rows.heapDrainsSpec) :=
  OpenClaim.holds_of_wide 4 Try.f4 rfl rfl rfl rfl rfl rfl rfl ⟨rfl, rfl, rfl, rfl, rfl⟩ rfl rfl rfl rfl rfl (by kernel_rfl) Try.func4 (by kernel_rfl)
    (of_decide_eq_true (by kernel_rfl)) (by unfold Func.isWrapper; first | (rw [if_pos (by decide +kernel)]; kernel_rfl) | (rw [if_neg (by decide +kernel)]; exact ⟨rfl, rfl⟩))
    (fun os started H enc _ => lifted os started H enc)

theorem proved : Rows.HeapDrainsSaid := over
#print axioms proved
end Go.Proofs.Ytljgglmaglmceaa.heapDrains
