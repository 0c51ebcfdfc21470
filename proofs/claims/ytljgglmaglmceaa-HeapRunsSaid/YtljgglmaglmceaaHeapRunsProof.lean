/- HeapRuns holds for every order, every list of what is done, and any two entries; there is no further condition. -/
import Derived.Test.YtljgglmaglmceaaRows
import Derived.Test.YtljgglmaglmceaaRun
import Derived.Deep.RegionHeld3
namespace Go.Proofs.Ytljgglmaglmceaa.heapRuns
open Go.ChangeShapes Go.WideShapes Go.ChangeAt Go.RowKit

theorem eq3_self (x : Ent) : eq3 x.b x.d x.n x.b x.d x.n = true := by rw [eq3_ent]; exact decide_eq_true rfl
/-- The two boxes that the law begins with. -/
theorem boxes (w : World) (x y : Ent) : Below w.heap.size w ((w.alloc (boxOf x)).alloc (boxOf y)) ∧ ((w.alloc (boxOf x)).alloc (boxOf y)).heap[w.heap.size]? = some (boxOf x) ∧ ((w.alloc (boxOf x)).alloc (boxOf y)).heap[w.heap.size + 1]? = some (boxOf y) := by
  have e1 : (w.alloc (boxOf x)).heap.size = w.heap.size + 1 := by simp
  refine ⟨((Below.refl _ _).alloc (Nat.le_refl _) _).alloc (by omega) _, ?_, ?_⟩
  · rw [Below.heap_alloc _ _ _ (by omega)]; exact heap_alloc_new w _
  · rw [← e1]; exact heap_alloc_new (w.alloc (boxOf x)) _
theorem run_new {w w2 : World} {o : Int} {x y : Ent} {N M : Nat} (hb : Below w.heap.size w w2) (h1 : w2.heap[N]? = some (boxOf x)) (h2 : w2.heap[M]? = some (boxOf y)) :
    Running w ((w2.alloc (.cells #[.int .i64 o, .slice none 0 0] 48)).alloc (.cells #[.int .i64 o, .slice none 0 0] 31)) w2.heap.size (w2.heap.size + 1) o [] x y N M := by
  have l1 : N < w2.heap.size := (Array.getElem?_eq_some_iff.1 h1).1
  have l2 : M < w2.heap.size := (Array.getElem?_eq_some_iff.1 h2).1
  have e : (w2.alloc (.cells #[.int .i64 o, .slice none 0 0] 48)).heap.size = w2.heap.size + 1 := by simp
  refine ⟨hx_new hb o (fun k hk => by rcases hk with h | h <;> omega), ?_, ?_⟩
  · rw [Below.heap_alloc _ _ _ (by omega), Below.heap_alloc _ _ _ l1]; exact h1
  · rw [Below.heap_alloc _ _ _ (by omega), Below.heap_alloc _ _ _ l2]; exact h2
/-- Two blocks, and one more. -/
def three (N M X : Nat) : Nat → Prop := fun k => two N M k ∨ k = X

set_option maxRecDepth 1000000 in
set_option maxHeartbeats 1000000 in
theorem walk (a0 : Int) (a1 : Option Addr) (len1 cap1 : Nat) (l1 : List (Int × Ent)) (x2 : Ent) (x3 : Ent) (w : World) (hl1 : l1.length = len1) (e1 : IsOps w a1 l1) :
    Calls Try.prog 3 #[.int .i64 a0, .slice a1 len1 cap1, entV x2, entV x3] w fun e w' => e = .returned (.bool true) ∧ Below w.heap.size w w' := by
  subst hl1
  have HE := Lib.hid e1
  clear e1
  unfold entV
  obtain ⟨hb0, hbN, hbM⟩ := boxes w x2 x3
  have HB0 := Lib.hid hb0
  have BN := Lib.hid hbN
  have BM := Lib.hid hbM
  clear hb0 hbN hbM
  have hq := equal24
  have hgd := guard24
  by_cases hlen : l1.length ≤ 200
  · have hd2 : decide ((200 : Int) < (l1.length : Int)) = false := decide_eq_false (by omega)
    go_enter Try.func3, Try.ntmps3
    go_wp2_with fail
    change Calls _ _ _ ((w.alloc (boxOf x2)).alloc (boxOf x3)) _
    generalize (w.alloc (boxOf x2)).alloc (boxOf x3) = w1 at *
    generalize w.heap.size + 1 = M at BM ⊢
    generalize hN : w.heap.size = N at BN ⊢
    clear hN
    refine (awake_any _).mono ?_
    rintro e w2 ⟨rfl, hb⟩
    have HB := Lib.hid (HB0.out.trans (hb.mono HB0.out.size))
    have BN2 := Lib.hid ((hb.block N (Array.getElem?_eq_some_iff.1 BN.out).1).trans BN.out)
    have BM2 := Lib.hid ((hb.block M (Array.getElem?_eq_some_iff.1 BM.out).1).trans BM.out)
    clear hb
    go_wp2_with fail
    refine (new_any _ _).mono ?_
    rintro e w3 ⟨rfl, rfl⟩
    have HL := Lib.hid (run_new (o := a0) HB.out BN2.out BM2.out)
    go_wp2_with fail
    generalize (w2.alloc (.cells #[.int .i64 a0, .slice none 0 0] 48)).alloc (.cells #[.int .i64 a0, .slice none 0 0] 31) = w4 at *
    generalize w2.heap.size + 1 = c at *
    generalize w2.heap.size = b at *
    go_loopw [12] (fun i wr => ∃ k : Nat, k ≤ l1.length ∧ i = .int .i64 k ∧ Running w wr b c a0 (st a0 l1 k) x2 x3 N M) (fun i _ => l1.length - (intOf i).toNat)
    case atStart => exact ⟨0, Nat.zero_le _, rfl, HL.out⟩
    case round =>
      obtain ⟨k, hk, rfl, hg⟩ := hrel
      have HG := Lib.hid hg
      clear hg
      by_cases hlt : k < l1.length
      · rcases (ops_later HE.out (hx_base HG.out.both)).2 with h0 | ⟨ba, off, rfl, hc⟩
        · rw [h0] at hlt; simp at hlt
        obtain ⟨c0, c1, c2, c3⟩ := hc k hlt
        clear hc
        have hsl := st_len a0 l1 k
        have HSt := Lib.hid (show st a0 l1 (k + 1) = if (opAt l1 k).1 = 0 then (opAt l1 k).2 :: st a0 l1 k else left a0 (st a0 l1 k) from rfl)
        obtain ⟨kd, hkd⟩ : ∃ kd, (opAt l1 k).1 = kd := ⟨_, rfl⟩
        obtain ⟨x, hx⟩ : ∃ x, (opAt l1 k).2 = x := ⟨_, rfl⟩
        rw [hkd] at c0
        rw [hx] at c1 c2 c3
        rw [hkd, hx] at HSt
        have HKd := Lib.hid hkd
        have HX2 := Lib.hid hx
        clear hkd hx
        have htri : kd = 0 ∨ (¬ kd = 0 ∧ st a0 l1 k = []) ∨ (¬ kd = 0 ∧ st a0 l1 k ≠ []) := by
          by_cases h1 : kd = 0
          · exact .inl h1
          · by_cases h2 : st a0 l1 k = []
            · exact .inr (.inl ⟨h1, h2⟩)
            · exact .inr (.inr ⟨h1, h2⟩)
        refine Or.elim htri (fun h1 => ?pa) (fun h => Or.elim h (fun h => ?pb) (fun h => ?pc))
        case' pa =>
          clear htri
          have hk0 : (kd == 0) = true := by simpa using h1
          have HK := Lib.hid h1
          clear h1
          rw [if_pos HK.out] at HSt
          go_wp2_with fail
          refine (hx_put HG.out.both x (by omega)).mono ?_
          rintro e w5 ⟨rfl, h5, s5⟩
          have H5 := Lib.hid h5
          have S5 := Lib.hid s5
          clear h5 s5 c0 c1 c2 c3
          rcases (ops_later HE.out (hx_base H5.out)).2 with h0 | ⟨ba', off', hab, hc⟩
          · rw [h0] at hlt; simp at hlt
          obtain ⟨rfl, rfl⟩ : ba' = ba ∧ off' = off := by simp at hab; exact ⟨hab.1.symm, hab.2.symm⟩
          obtain ⟨c0, c1, c2, c3⟩ := hc k hlt
          rw [HX2.out] at c1 c2 c3
          clear hc hab
          go_wp2_with fail
          refine (hx_rput H5.out x (by omega)).mono ?_
          rintro e w9 ⟨rfl, h6, s6⟩
          have HR := Lib.hid (running_same HG.out h6 (same_trans S5.out s6))
          rw [← HSt.out] at HR
          clear h6 s6 S5 H5 c0 c1 c2 c3 hk0
          go_wp2_with fail
        case' pb =>
          clear htri
          rename_i hh
          clear hh
          obtain ⟨h1, h2⟩ := h
          have hk0 : (kd == 0) = false := by simpa using h1
          have HK := Lib.hid h1
          have H2 := Lib.hid h2
          clear h1 h2
          rw [if_neg HK.out, H2.out, left_nil] at HSt
          have HG2 := Lib.hid (show HX w wr b c a0 [] [] (two N M) by have := HG.out.both; rw [H2.out] at this; exact this)
          go_wp2_with fail
          refine (hx_none HG2.out).mono ?_
          rintro e w5 ⟨rfl, h5, s5⟩
          have H5 := Lib.hid (hx_alloc h5 (.cells #[.int .i64 0, .int .i64 0, .int .i64 0] 24) (three N M w5.heap.size) (fun _ e => e))
          have S5 := Lib.hid (same_trans s5 (same_alloc (.cells #[.int .i64 0, .int .i64 0, .int .i64 0] 24) (hx_lt h5)))
          have HXn := Lib.hid (heap_alloc_new w5 (.cells #[.int .i64 0, .int .i64 0, .int .i64 0] 24))
          clear h5 s5
          go_wp2_with fail
          refine (hx_rnone H5.out).mono ?_
          rintro e w6 ⟨rfl, h6, s6⟩
          obtain ⟨d0, d1, d2⟩ := block_ent ((s6 _ (.inr rfl)).trans HXn.out)
          have hXl := hx_lt h6 _ (.inr rfl)
          have h7 := hx_alloc h6 (.cells #[.int .i64 0, .int .i64 0, .int .i64 0] 24) (two N M) (fun _ e => .inl (.inl e))
          have s7 := same_trans (same_trans S5.out (same_less s6 (fun _ e => .inl e))) (same_alloc (.cells #[.int .i64 0, .int .i64 0, .int .i64 0] 24) (fun k hk => hx_lt h6 k (.inl hk)))
          have HR := Lib.hid (running_same HG.out h7 s7)
          rw [← HSt.out] at HR
          clear h6 s6 h7 s7 S5 H5
          generalize w5.heap.size = X at *
          have hfe : eq3 0 0 0 0 0 0 = true := by decide
          clear HXn c0 c1 c2 c3
          go_wp2_with fail
          generalize w6.alloc (.cells #[.int .i64 0, .int .i64 0, .int .i64 0] 24) = w9 at *
          clear hfe d0 d1 d2 hXl hk0
        case' pc =>
          clear htri
          rename_i hh
          clear hh
          obtain ⟨h1, h2⟩ := h
          have hk0 : (kd == 0) = false := by simpa using h1
          have HK := Lib.hid h1
          have H2 := Lib.hid h2
          clear h1 h2
          rw [if_neg HK.out] at HSt
          go_wp2_with fail
          refine (hx_take HG.out.both H2.out (by omega)).mono ?_
          obtain ⟨f, hf⟩ : ∃ f, first a0 (st a0 l1 k) = f := ⟨_, rfl⟩
          rw [hf]
          have HF := Lib.hid hf
          clear hf
          have hfe := eq3_self f
          rintro e w5 ⟨rfl, h5, s5⟩
          have H5 := Lib.hid (hx_alloc h5 (.cells #[.int .i64 f.b, .int .i64 f.d, .int .i64 f.n] 24) (three N M w5.heap.size) (fun _ e => e))
          have S5 := Lib.hid (same_trans s5 (same_alloc (.cells #[.int .i64 f.b, .int .i64 f.d, .int .i64 f.n] 24) (hx_lt h5)))
          have HXn := Lib.hid (heap_alloc_new w5 (.cells #[.int .i64 f.b, .int .i64 f.d, .int .i64 f.n] 24))
          clear h5 s5
          go_wp2_with fail
          refine (hx_rtake H5.out H2.out (by omega)).mono ?_
          rw [HF.out]
          rintro e w6 ⟨rfl, h6, s6⟩
          obtain ⟨d0, d1, d2⟩ := block_ent ((s6 _ (.inr rfl)).trans HXn.out)
          have hXl := hx_lt h6 _ (.inr rfl)
          have h7 := hx_alloc h6 (.cells #[.int .i64 f.b, .int .i64 f.d, .int .i64 f.n] 24) (two N M) (fun _ e => .inl (.inl e))
          have s7 := same_trans (same_trans S5.out (same_less s6 (fun _ e => .inl e))) (same_alloc (.cells #[.int .i64 f.b, .int .i64 f.d, .int .i64 f.n] 24) (fun k hk => hx_lt h6 k (.inl hk)))
          have HR := Lib.hid (running_same HG.out h7 s7)
          rw [← HSt.out] at HR
          clear h6 s6 h7 s7 S5 H5 HXn c0 c1 c2 c3
          generalize w5.heap.size = X at *
          go_wp2_with fail
          generalize w6.alloc (.cells #[.int .i64 f.b, .int .i64 f.d, .int .i64 f.n] 24) = w9 at *
          clear hfe d0 d1 d2 hXl hk0
        all_goals
          have hs9 := st_len a0 l1 (k + 1)
          generalize hmm : st a0 l1 (k + 1) = mm at HR hs9
          have HMM := Lib.hid hmm
          clear hmm HSt
          obtain ⟨ra, rc, hri, hcl⟩ := hx_items HR.out.both
          have hcl2 : c < w9.drew.heap.size := hcl
          have HR2 := Lib.hid (running_below HR.out ((Below.refl _ w9).drew))
          have hmn : mm.length ≤ 1000 := by omega
          go_region_held3 (fun w' => w'.cell? ⟨c, 1, none⟩ = some (.slice ra mm.length rc))
            (first
              | go_keep
              | (rw [hb.cell (p := ⟨c, 1, none⟩) hcl2]; assumption))
            ((first
              | (go_at_call 15; refine (hx_len HR2.out.both).mono ?_; rintro e w' ⟨rfl, rfl⟩)
              | (go_at_call 16; refine (hx_least HR2.out.both hmn).mono ?_; rintro e w10 ⟨rfl, hb⟩)
              | (go_at_call 17; refine (hx_rleast (hx_below HR2.out.both hb).1 hmn).mono ?_; rintro e w' ⟨rfl, rfl⟩)))
          have HR3 := Lib.hid (running_below HR2.out hb)
          rw [← HMM.out] at HR3
          clear hb
          go_wp2
          go_roundw
          case rel => exact ⟨k + 1, by omega, by go_num, HR3.out⟩
          case measure => simp [intOf]; omega
      · obtain ⟨c0, c1, c2⟩ := box_cells HG.out.one
        obtain ⟨d0, d1, d2⟩ := box_cells HG.out.other
        have hNl := hx_lt HG.out.both N (.inl rfl)
        have hMl := hx_lt HG.out.both M (.inr rfl)
        have hNl2 : N < wr.drew.heap.size := hNl
        have hMl2 : M < wr.drew.heap.size := hMl
        have HBs := Lib.hid (hx_base HG.out.both)
        go_wp2_with fail
        go_region_held3 (fun w' => w'.cell? ⟨N, 0, none⟩ = some (.int .i64 x2.b) ∧ w'.cell? ⟨N, 1, none⟩ = some (.int .i64 x2.d) ∧ w'.cell? ⟨N, 2, none⟩ = some (.int .i64 x2.n) ∧ w'.cell? ⟨M, 0, none⟩ = some (.int .i64 x3.b) ∧ w'.cell? ⟨M, 1, none⟩ = some (.int .i64 x3.d) ∧ w'.cell? ⟨M, 2, none⟩ = some (.int .i64 x3.n))
          (first
            | go_keep
            | (go_split_ands
               refine ⟨?_, ?_, ?_, ?_, ?_, ?_⟩
               · (rw [hb.cell (p := ⟨N, 0, none⟩) hNl2]; assumption)
               · (rw [hb.cell (p := ⟨N, 1, none⟩) hNl2]; assumption)
               · (rw [hb.cell (p := ⟨N, 2, none⟩) hNl2]; assumption)
               · (rw [hb.cell (p := ⟨M, 0, none⟩) hMl2]; assumption)
               · (rw [hb.cell (p := ⟨M, 1, none⟩) hMl2]; assumption)
               · (rw [hb.cell (p := ⟨M, 2, none⟩) hMl2]; assumption))
            | (go_split_ands
               refine ⟨?_, ?_, ?_, ?_, ?_, ?_⟩
               · (rw [hb2.cell (p := ⟨N, 0, none⟩) (Nat.lt_of_lt_of_le hNl2 hb.size)]; assumption)
               · (rw [hb2.cell (p := ⟨N, 1, none⟩) (Nat.lt_of_lt_of_le hNl2 hb.size)]; assumption)
               · (rw [hb2.cell (p := ⟨N, 2, none⟩) (Nat.lt_of_lt_of_le hNl2 hb.size)]; assumption)
               · (rw [hb2.cell (p := ⟨M, 0, none⟩) (Nat.lt_of_lt_of_le hMl2 hb.size)]; assumption)
               · (rw [hb2.cell (p := ⟨M, 1, none⟩) (Nat.lt_of_lt_of_le hMl2 hb.size)]; assumption)
               · (rw [hb2.cell (p := ⟨M, 2, none⟩) (Nat.lt_of_lt_of_le hMl2 hb.size)]; assumption)))
          ((first
            | (go_at_call 18; refine (less_any a0 x2 x3 _).mono ?_; rintro e w10 ⟨rfl, hb⟩)
            | (go_at_call 19; refine (rless_any a0 x2 x3 _).mono ?_; rintro e w11 ⟨rfl, hb2⟩)))
        have HB9 := Lib.hid (HBs.out.trans (((Below.refl _ wr).drew.trans (hb.trans (hb2.mono hb.size))).mono HBs.out.size))
        clear hb hb2
        go_wp2
        go_ret
        exact ⟨by simp, HB9.out⟩
  · have hd2 : decide ((200 : Int) < (l1.length : Int)) = true := decide_eq_true (by omega)
    go_enter Try.func3, Try.ntmps3
    go_wp2_with fail
    change Calls _ _ _ ((w.alloc (boxOf x2)).alloc (boxOf x3)) _
    generalize (w.alloc (boxOf x2)).alloc (boxOf x3) = w1 at *
    refine (awake_any _).mono ?_
    rintro e w2 ⟨rfl, hb⟩
    have HB := Lib.hid (HB0.out.trans (hb.mono HB0.out.size))
    clear hb
    go_wp2_with fail
    refine (new_any _ _).mono ?_
    rintro e w3 ⟨rfl, rfl⟩
    go_wp2
    go_ret
    exact ⟨rfl, HB.out.alloc HB.out.size _⟩

set_option maxRecDepth 100000 in
theorem lifted (os : Os) (started : os.Started) (H : Type) (enc : TypeId × Value → H) :
    ReturnsInHanded {} Try.checked os 3 .any (Rows.heapRunsSpec.pre6 enc Try.prog Try.f3 Rows.heapRunsRow.domain false) (Rows.heapRunsSpec.post enc Try.prog Try.f3 false true false false) := by
  refine returnsInHanded_of_change (C := Try.checked) own started (by kernel_rfl) Try.func3
    (ChangeSpec.witness6 (enc := enc) (C := Try.checked) false ⟨#[], #[.int .i64 0, .slice none 0 0, .agg #[.int .i64 0, .int .i64 0, .int .i64 0], .agg #[.int .i64 0, .int .i64 0, .int .i64 0]], []⟩ 8 (by kernel_rfl) (by kernel_rfl) (by kernel_rfl) (by kernel_rfl)) ?_
  intro W base args ds gs before hval0 hW hcnd _
  have hval : ∀ (j : Nat) t v, Try.f3.params[j]? = some t → args[j]? = some v → Value.okWide Try.prog W .any base t v := hval0
  have hW' := hW
  obtain ⟨p, q, hA0, hV, rfl, hfz, hnd⟩ := hW
  have hA : DataW.TrodAll enc Try.prog W 0 (fun _ => true) true Try.f3.params.toList args.toList ds p := hA0
  rw [Try.params3] at hA hval
  obtain ⟨v0, vs0, d0, ds0, p0, q0, hargs, rfl, rfl, h0, r0⟩ := trodAll_cons hA
  obtain ⟨v1, vs1, d1, ds1, p1, q1, rfl, rfl, rfl, h1, r1⟩ := trodAll_cons r0
  obtain ⟨v2, vs2, d2, ds2, p2, q2, rfl, rfl, rfl, h2, r2⟩ := trodAll_cons r1
  obtain ⟨v3, vs3, d3, ds3, p3, q3, rfl, rfl, rfl, h3, r3⟩ := trodAll_cons r2
  obtain ⟨rfl, rfl, rfl⟩ := trodAll_nil r3
  obtain rfl : args = #[v0, v1, v2, v3] := by cases args; simp_all
  obtain ⟨rfl, rfl⟩ := trodVars_none hV
  have k0 := h0
  have lt0 : ∀ x ∈ p0, x.block < W.heap.size := by obtain ⟨m, hm⟩ := k0; exact DataW.trod_lt m _ _ _ hm
  have k1 := h1
  have lt1 : ∀ x ∈ p1, x.block < W.heap.size := by obtain ⟨m, hm⟩ := k1; exact DataW.trod_lt m _ _ _ hm
  have k2 := h2
  have lt2 : ∀ x ∈ p2, x.block < W.heap.size := by obtain ⟨m, hm⟩ := k2; exact DataW.trod_lt m _ _ _ hm
  have k3 := h3
  have lt3 : ∀ x ∈ p3, x.block < W.heap.size := by obtain ⟨m, hm⟩ := k3; exact DataW.trod_lt m _ _ _ hm
  obtain ⟨a0, rfl, rfl, rfl, _⟩ := open_int Try.underlying3 (hval 0 3 v0 rfl rfl) h0
  obtain ⟨a1, len1, cap1, rfl⟩ := okWide_slice Try.underlying22 (hval 1 22 v1 rfl rfl)
  obtain ⟨l1, hl1, e1⟩ := open_ops h1
  obtain ⟨x2, rfl⟩ := open_ent (hval 2 24 v2 rfl rfl) h2
  obtain ⟨x3, rfl⟩ := open_ent (hval 3 24 v3 rfl rfl) h3
  clear hA0 hval0
  refine (walk a0 a1 len1 cap1 l1 x2 x3 W hl1 e1).mono fun e W' ⟨he, bel⟩ => ?_
  subst he
  exact ⟨_, rfl, _, _, _, [], _, [], hW', trodAll_mk1 (shut_bool Try.underlying4 _), (trodAll_cons_mk (Below.trod laidOut (by kernel_rfl) (of_decide_eq_true (by kernel_rfl)) k0 bel lt0) (trodAll_cons_mk (Below.trod laidOut (by kernel_rfl) (of_decide_eq_true (by kernel_rfl)) k1 bel lt1) (trodAll_cons_mk (Below.trod laidOut (by kernel_rfl) (of_decide_eq_true (by kernel_rfl)) k2 bel lt2) (trodAll_cons_mk (Below.trod laidOut (by kernel_rfl) (of_decide_eq_true (by kernel_rfl)) k3 bel lt3) trodAll_mk0)))), rfl, bel.frame _, fun h => by cases h⟩

theorem over : Rows.heapRunsRow.holds Try.pinned (OpenSpec.ofChange Rows.heapRunsSpec) :=
  OpenClaim.holds_of_wide 3 Try.f3 rfl rfl rfl rfl rfl rfl rfl ⟨rfl, rfl, rfl, rfl, rfl⟩ rfl rfl rfl rfl rfl (by kernel_rfl) Try.func3 (by kernel_rfl)
    (of_decide_eq_true (by kernel_rfl)) (by unfold Func.isWrapper; first | (rw [if_pos (by decide +kernel)]; kernel_rfl) | (rw [if_neg (by decide +kernel)]; exact ⟨rfl, rfl⟩))
    (fun os started H enc _ => lifted os started H enc)

theorem proved : Rows.HeapRunsSaid := over
#print axioms proved
end Go.Proofs.Ytljgglmaglmceaa.heapRuns
