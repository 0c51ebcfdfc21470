/- HeapMore holds for every order and any two lists of entries; there is no further condition. -/
import Derived.Test.YtljgglmaglmceaaRows
import Derived.Test.YtljgglmaglmceaaTwo
namespace Go.Proofs.Ytljgglmaglmceaa.heapMore
open Go.ChangeShapes Go.WideShapes Go.ChangeAt Go.RowKit

theorem drop_perm (l m : List Ent) (k : Nat) (h : k < m.length) : (nth m (m.length - 1 - k) :: (l ++ m.drop (m.length - k))).Perm (l ++ m.drop (m.length - (k + 1))) := by
  have e : m.drop (m.length - (k + 1)) = nth m (m.length - 1 - k) :: m.drop (m.length - k) := by
    rw [List.drop_eq_getElem_cons (by omega), nth_eq _ _ (by omega)]
    congr 1
    · congr 1; omega
    · congr 1; omega
  rw [e]
  exact List.perm_middle.symm
theorem more_perm (l m : List Ent) (k : Nat) (h : k < l.length) : (nth l k :: (m ++ l.take k)).Perm (m ++ l.take (k + 1)) := by
  rw [take_snoc l k h, ← List.append_assoc]
  exact (List.perm_append_singleton _ _).symm
theorem rem_over (o : Int) (l : List Ent) : rem o l (l.length + 1) = [] := by
  show left o (rem o l l.length) = []
  rw [rem_none]; rfl
theorem eq3_self (x : Ent) : eq3 x.b x.d x.n x.b x.d x.n = true := by rw [eq3_ent]; exact decide_eq_true rfl

set_option maxRecDepth 1000000 in
set_option maxHeartbeats 4000000 in
theorem walk (a0 : Int) (a1 : Option Addr) (len1 cap1 : Nat) (l1 : List Ent) (a2 : Option Addr) (len2 cap2 : Nat) (l2 : List Ent) (w : World) (hl1 : l1.length = len1) (e1 : IsEnts w a1 l1) (hl2 : l2.length = len2) (e2 : IsEnts w a2 l2) :
    Calls Try.prog 7 #[.int .i64 a0, .slice a1 len1 cap1, .slice a2 len2 cap2] w fun e w' => e = .returned (.bool true) ∧ Below w.heap.size w w' := by
  subst hl1
  subst hl2
  have HE1 := Lib.hid e1
  have HE2 := Lib.hid e2
  clear e1 e2
  have hq := equal24
  have hgd := guard24
  by_cases hlen : l1.length ≤ 100 ∧ l2.length ≤ 100
  · obtain ⟨hlA, hlB⟩ := hlen
    have hd1 : decide ((100 : Int) < (l1.length : Int)) = false := decide_eq_false (by omega)
    have hd2 : decide ((100 : Int) < (l2.length : Int)) = false := decide_eq_false (by omega)
    go_enter Try.func7, Try.ntmps7
    go_wp2_with fail
    refine (awake_any _).mono ?_
    rintro e w1 ⟨rfl, hb⟩
    have HB := Lib.hid hb
    clear hb
    go_wp2_with fail
    refine (new_any _ _).mono ?_
    rintro e w2 ⟨rfl, rfl⟩
    go_wp2_with fail
    refine (new_any _ _).mono ?_
    rintro e w2 ⟨rfl, rfl⟩
    have HL := Lib.hid (hh_new HB.out a0)
    have hsz : (w1.alloc (.cells #[.int .i64 a0, .slice none 0 0] 48)).heap.size = w1.heap.size + 1 := by simp
    rw [hsz]
    clear hsz
    generalize (w1.alloc (.cells #[.int .i64 a0, .slice none 0 0] 48)).alloc (.cells #[.int .i64 a0, .slice none 0 0] 48) = w3 at *
    generalize w1.heap.size + 1 = c at *
    generalize w1.heap.size = b at *
    go_wp2_with fail
    go_loopw [10] (fun i wr => ∃ k : Nat, k ≤ l1.length ∧ i = .int .i64 k ∧ HH w wr b c a0 (l1.take k) [] noBlock) (fun i _ => l1.length - (intOf i).toNat)
    case atStart => exact ⟨0, Nat.zero_le _, rfl, HL.out⟩
    case round =>
      obtain ⟨k, hk, rfl, hg⟩ := hrel
      have HG := Lib.hid hg
      clear hg
      by_cases hlt : k < l1.length
      · rcases (ents_later HE1.out (hh_base HG.out)).2 with h0 | ⟨ba, off, rfl, hc⟩
        · rw [h0] at hlt; simp at hlt
        · obtain ⟨c0, c1, c2⟩ := hc k hlt
          clear hc
          have HP := Lib.hid (take_perm l1 k hlt)
          generalize nth l1 k = x at *
          go_wp2_with fail
          refine (hh_put HG.out x (by rw [List.length_take]; omega)).mono ?_
          rintro e w4 ⟨rfl, h4, -⟩
          have H4 := Lib.hid (hh_perm h4 HP.out (.refl _))
          clear h4
          go_wp2
          go_roundw
          case rel => exact ⟨k + 1, by omega, by go_num, H4.out⟩
          case measure => simp [intOf]; omega
      · obtain rfl : k = l1.length := by omega
        rw [List.take_length] at HG
        clear hlt hk
        by_cases hne : l1 = []
        case' pos =>
          have HG2 := Lib.hid (show HH w wr b c a0 [] [] noBlock by have := HG.out; rw [hne] at this; exact this)
          have HNE := Lib.hid hne
          clear hne
          go_wp2_with fail
          refine (hh_none HG2.out).mono ?_
          rintro e w4 ⟨rfl, h4, -⟩
          have H5 := Lib.hid (show HH w (w4.alloc (.cells #[.int .i64 0, .int .i64 0, .int .i64 0] 24)) b c a0 l1 [] noBlock by have := hh_alloc h4 (.cells #[.int .i64 0, .int .i64 0, .int .i64 0] 24) noBlock (fun _ e => e.elim); rw [HNE.out]; exact this)
          clear h4
          go_wp2_with fail
          generalize w4.alloc (.cells #[.int .i64 0, .int .i64 0, .int .i64 0] 24) = w5 at *
        case' neg =>
          have HNE := Lib.hid hne
          clear hne
          go_wp2_with fail
          refine (hh_take HG.out HNE.out (by omega)).mono ?_
          have HLP := Lib.hid (left_perm a0 l1 HNE.out).symm
          have HLL := Lib.hid (left_len a0 l1 HNE.out)
          generalize first a0 l1 = f at *
          rintro e w4 ⟨rfl, h4, -⟩
          have H4 := Lib.hid (hh_alloc h4 (.cells #[.int .i64 f.b, .int .i64 f.d, .int .i64 f.n] 24) noBlock (fun _ e => e.elim))
          clear h4
          go_wp2_with fail
          refine (hh_put H4.out f (by rw [HLL.out]; omega)).mono ?_
          rintro e w5 ⟨rfl, h5, -⟩
          have H5 := Lib.hid (hh_perm h5 HLP.out (.refl _))
          clear h5 HLP HLL H4
          go_wp2_with fail
        all_goals
          clear HNE
          have HS2 := Lib.hid (show HH w w5 b c a0 (l1 ++ l2.drop (l2.length - 0)) (l2.take 0) noBlock by simpa using H5.out)
          go_loopw [13] (fun i wr => ∃ k : Nat, k ≤ l2.length ∧ i = .int .i64 k ∧ HH w wr b c a0 (l1 ++ l2.drop (l2.length - k)) (l2.take k) noBlock) (fun i _ => l2.length - (intOf i).toNat)
          case atStart => exact ⟨0, Nat.zero_le _, rfl, HS2.out⟩
          case round =>
            obtain ⟨k, hk, rfl, hg⟩ := hrel
            have HG3 := Lib.hid hg
            clear hg
            by_cases hlt : k < l2.length
            · rcases (ents_later HE2.out (hh_base HG3.out)).2 with h0 | ⟨ba, off, rfl, hc⟩
              · rw [h0] at hlt; simp at hlt
              · obtain ⟨c0, c1, c2⟩ := hc (l2.length - 1 - k) (by omega)
                clear hc
                have HP := Lib.hid (drop_perm l1 l2 k hlt)
                have HP2 := Lib.hid (take_perm l2 k hlt)
                generalize nth l2 (l2.length - 1 - k) = x at *
                have i1 : IntKind.i64.wrap ((l2.length : Int) - 1) = (l2.length : Int) - 1 := IntWalk.i64_in _ (by omega)
                have i2 : IntKind.i64.wrap ((l2.length : Int) - 1 - (k : Int)) = (l2.length : Int) - 1 - (k : Int) := IntWalk.i64_in _ (by omega)
                have i3 : (0 : Int) ≤ (l2.length : Int) - 1 - (k : Int) := by omega
                have i4 : (l2.length : Int) - 1 - (k : Int) < (l2.length : Int) := by omega
                have i5 : ((l2.length : Int) - 1 - (k : Int)).toNat = l2.length - 1 - k := by omega
                go_wp2_with fail
                refine (hh_put HG3.out x (by rw [List.length_append, List.length_drop]; omega)).mono ?_
                rintro e w6 ⟨rfl, h6, -⟩
                have H6 := Lib.hid (hh_perm h6 HP.out (.refl _))
                clear h6 c0 c1 c2 i1 i2 i3 i4 i5
                rcases (ents_later HE2.out (hh_base H6.out)).2 with h0 | ⟨ba', off', hab, hc⟩
                · rw [h0] at hlt; simp at hlt
                obtain ⟨rfl, rfl⟩ : ba' = ba ∧ off' = off := by simp at hab; exact ⟨hab.1.symm, hab.2.symm⟩
                obtain ⟨c0, c1, c2⟩ := hc k hlt
                clear hc hab
                generalize nth l2 k = y at *
                go_wp2_with fail
                refine (hh_put2 H6.out y (by rw [List.length_take]; omega)).mono ?_
                rintro e w7 ⟨rfl, h7, -⟩
                have H7 := Lib.hid (hh_perm h7 (.refl _) HP2.out)
                clear h7
                go_wp2
                go_roundw
                case rel => exact ⟨k + 1, by omega, by go_num, H7.out⟩
                case measure => simp [intOf]; omega
            · obtain rfl : k = l2.length := by omega
              have HS3 := Lib.hid (show HH w wr b c a0 (l1 ++ l2) (l2 ++ l1.take 0) noBlock by have := HG3.out; simpa using this)
              clear HG3 hlt hk HS2 H5
              go_wp2_with fail
              go_loopw [14] (fun i wr => ∃ k : Nat, k ≤ l1.length ∧ i = .int .i64 k ∧ HH w wr b c a0 (l1 ++ l2) (l2 ++ l1.take k) noBlock) (fun i _ => l1.length - (intOf i).toNat)
              case atStart => exact ⟨0, Nat.zero_le _, rfl, HS3.out⟩
              case round =>
                obtain ⟨k, hk, rfl, hg⟩ := hrel
                have HG4 := Lib.hid hg
                clear hg
                by_cases hlt : k < l1.length
                · rcases (ents_later HE1.out (hh_base HG4.out)).2 with h0 | ⟨ba, off, rfl, hc⟩
                  · rw [h0] at hlt; simp at hlt
                  · obtain ⟨c0, c1, c2⟩ := hc k hlt
                    clear hc
                    have HP := Lib.hid (more_perm l1 l2 k hlt)
                    generalize nth l1 k = x at *
                    go_wp2_with fail
                    refine (hh_put2 HG4.out x (by rw [List.length_append, List.length_take]; omega)).mono ?_
                    rintro e w6 ⟨rfl, h6, -⟩
                    have H6 := Lib.hid (hh_perm h6 (.refl _) HP.out)
                    clear h6
                    go_wp2
                    go_roundw
                    case rel => exact ⟨k + 1, by omega, by go_num, H6.out⟩
                    case measure => simp [intOf]; omega
                · obtain rfl : k = l1.length := by omega
                  have HS4 := Lib.hid (show HH w wr b c a0 (l1 ++ l2) (l1 ++ l2) noBlock by have := HG4.out; rw [List.take_length] at this; exact hh_perm this (.refl _) List.perm_append_comm)
                  have hml : (l1 ++ l2).length = l1.length + l2.length := by simp
                  have HML := Lib.hid hml
                  clear hml HG4 hlt hk HS3
                  generalize l1 ++ l2 = m at *
                  go_wp2_with fail
                  go_loopw [15] (fun i wr => ∃ k : Nat, k ≤ l1.length + l2.length + 1 ∧ i = .int .i64 k ∧ HH w wr b c a0 (rem a0 m k) (rem a0 m k) noBlock) (fun i _ => l1.length + l2.length + 1 - (intOf i).toNat)
                  case atStart => exact ⟨0, Nat.zero_le _, rfl, HS4.out⟩
                  case round =>
                    obtain ⟨k, hk, rfl, hg⟩ := hrel
                    have HG5 := Lib.hid hg
                    clear hg
                    by_cases hle : k ≤ l1.length + l2.length
                    · by_cases hlt : k < l1.length + l2.length
                      · have HRS := Lib.hid (rem_some a0 m k (by rw [HML.out]; exact hlt))
                        have HRL := Lib.hid (rem_len a0 m k (by rw [HML.out]; exact hle))
                        rw [HML.out] at HRL
                        go_wp2_with fail
                        refine (hh_take HG5.out HRS.out (by rw [HRL.out]; omega)).mono ?_
                        obtain ⟨f, hf⟩ : ∃ f, first a0 (rem a0 m k) = f := ⟨_, rfl⟩
                        rw [hf]
                        have HF := Lib.hid hf
                        clear hf
                        have hfe := eq3_self f
                        rintro e w6 ⟨rfl, h6, -⟩
                        have H6 := Lib.hid (hh_alloc h6 (.cells #[.int .i64 f.b, .int .i64 f.d, .int .i64 f.n] 24) (· = w6.heap.size) (fun _ e => .inr e))
                        have HX := Lib.hid (heap_alloc_new w6 (.cells #[.int .i64 f.b, .int .i64 f.d, .int .i64 f.n] 24))
                        clear h6
                        go_wp2_with fail
                        refine (hh_take2 H6.out HRS.out (by rw [HRL.out]; omega)).mono ?_
                        rw [HF.out]
                        rintro e w7 ⟨rfl, h7, s7⟩
                        obtain ⟨d0, d1, d2⟩ := block_ent ((s7 _ rfl).trans HX.out)
                        have hXl := hh_lt h7 _ rfl
                        have H7 := Lib.hid (hh_alloc h7 (.cells #[.int .i64 f.b, .int .i64 f.d, .int .i64 f.n] 24) noBlock (fun _ e => e.elim))
                        clear h7 s7
                        generalize w6.heap.size = X at *
                        go_wp2
                        go_roundw
                        case rel => exact ⟨k + 1, by omega, by go_num, H7.out⟩
                        case measure => simp [intOf]; omega
                      · obtain rfl : k = l1.length + l2.length := by omega
                        have HN := Lib.hid (show HH w wr b c a0 [] [] noBlock by have := HG5.out; rw [← HML.out, rem_none] at this; exact this)
                        have HO := Lib.hid (rem_over a0 m)
                        rw [HML.out] at HO
                        have hfe := eq3_self ⟨0, 0, 0⟩
                        have hle2 : decide ((l1.length : Int) + (l2.length : Int) ≤ (l1.length : Int) + (l2.length : Int)) = true := decide_eq_true (Int.le_refl _)
                        clear HG5
                        go_wp2_with fail
                        refine (hh_none HN.out).mono ?_
                        rintro e w6 ⟨rfl, h6, -⟩
                        have H6 := Lib.hid (hh_alloc h6 (.cells #[.int .i64 0, .int .i64 0, .int .i64 0] 24) (· = w6.heap.size) (fun _ e => .inr e))
                        have HX := Lib.hid (heap_alloc_new w6 (.cells #[.int .i64 0, .int .i64 0, .int .i64 0] 24))
                        clear h6
                        go_wp2_with fail
                        refine (hh_none2 H6.out).mono ?_
                        rintro e w7 ⟨rfl, h7, s7⟩
                        obtain ⟨d0, d1, d2⟩ := block_ent ((s7 _ rfl).trans HX.out)
                        have hXl := hh_lt h7 _ rfl
                        have H7 := Lib.hid (hh_alloc h7 (.cells #[.int .i64 0, .int .i64 0, .int .i64 0] 24) noBlock (fun _ e => e.elim))
                        clear h7 s7
                        generalize w6.heap.size = X at *
                        go_wp2
                        go_roundw
                        case rel => exact ⟨l1.length + l2.length + 1, by omega, by go_num, by rw [HO.out]; exact H7.out⟩
                        case measure => simp [intOf]; omega
                    · have hgt : decide ((k : Int) ≤ (l1.length : Int) + (l2.length : Int)) = false := decide_eq_false (by omega)
                      go_wp2
                      go_ret
                      exact ⟨rfl, hh_base HG5.out⟩
  · go_enter Try.func7, Try.ntmps7
    go_wp2_with fail
    refine (awake_any _).mono ?_
    rintro e w1 ⟨rfl, hb⟩
    have HB := Lib.hid hb
    clear hb
    go_wp2_with fail
    refine (new_any _ _).mono ?_
    rintro e w2 ⟨rfl, rfl⟩
    go_wp2_with fail
    refine (new_any _ _).mono ?_
    rintro e w2 ⟨rfl, rfl⟩
    have HB2 := Lib.hid ((HB.out.alloc HB.out.size (.cells #[.int .i64 a0, .slice none 0 0] 48)).alloc (by have := HB.out.size; simp; omega) (.cells #[.int .i64 a0, .slice none 0 0] 48))
    by_cases hl : 100 < l1.length
    · have hd1 : decide ((100 : Int) < (l1.length : Int)) = true := decide_eq_true (by omega)
      go_wp2
      go_ret
      exact ⟨rfl, HB2.out⟩
    · have hd1 : decide ((100 : Int) < (l1.length : Int)) = false := decide_eq_false (by omega)
      have hd2 : decide ((100 : Int) < (l2.length : Int)) = true := decide_eq_true (by omega)
      go_wp2
      go_ret
      exact ⟨rfl, HB2.out⟩

set_option maxRecDepth 100000 in
theorem lifted (os : Os) (started : os.Started) (H : Type) (enc : TypeId × Value → H) :
    ReturnsInHanded {} Try.checked os 7 .any (Rows.heapMoreSpec.pre6 enc Try.prog Try.f7 Rows.heapMoreRow.domain false) (Rows.heapMoreSpec.post enc Try.prog Try.f7 false true false false) := by
  refine returnsInHanded_of_change (C := Try.checked) own started (by kernel_rfl) Try.func7
    (ChangeSpec.witness6 (enc := enc) (C := Try.checked) false ⟨#[], #[.int .i64 0, .slice none 0 0, .slice none 0 0], []⟩ 8 (by kernel_rfl) (by kernel_rfl) (by kernel_rfl) (by kernel_rfl)) ?_
  intro W base args ds gs before hval0 hW hcnd _
  have hval : ∀ (j : Nat) t v, Try.f7.params[j]? = some t → args[j]? = some v → Value.okWide Try.prog W .any base t v := hval0
  have hW' := hW
  obtain ⟨p, q, hA0, hV, rfl, hfz, hnd⟩ := hW
  have hA : DataW.TrodAll enc Try.prog W 0 (fun _ => true) true Try.f7.params.toList args.toList ds p := hA0
  rw [Try.params7] at hA hval
  obtain ⟨v0, vs0, d0, ds0, p0, q0, hargs, rfl, rfl, h0, r0⟩ := trodAll_cons hA
  obtain ⟨v1, vs1, d1, ds1, p1, q1, rfl, rfl, rfl, h1, r1⟩ := trodAll_cons r0
  obtain ⟨v2, vs2, d2, ds2, p2, q2, rfl, rfl, rfl, h2, r2⟩ := trodAll_cons r1
  obtain ⟨rfl, rfl, rfl⟩ := trodAll_nil r2
  obtain rfl : args = #[v0, v1, v2] := by cases args; simp_all
  obtain ⟨rfl, rfl⟩ := trodVars_none hV
  have k0 := h0
  have lt0 : ∀ x ∈ p0, x.block < W.heap.size := by obtain ⟨m, hm⟩ := k0; exact DataW.trod_lt m _ _ _ hm
  have k1 := h1
  have lt1 : ∀ x ∈ p1, x.block < W.heap.size := by obtain ⟨m, hm⟩ := k1; exact DataW.trod_lt m _ _ _ hm
  have k2 := h2
  have lt2 : ∀ x ∈ p2, x.block < W.heap.size := by obtain ⟨m, hm⟩ := k2; exact DataW.trod_lt m _ _ _ hm
  obtain ⟨a0, rfl, rfl, rfl, _⟩ := open_int Try.underlying3 (hval 0 3 v0 rfl rfl) h0
  obtain ⟨a1, len1, cap1, rfl⟩ := okWide_slice Try.underlying29 (hval 1 29 v1 rfl rfl)
  obtain ⟨l1, hl1, e1⟩ := open_ents h1
  obtain ⟨a2, len2, cap2, rfl⟩ := okWide_slice Try.underlying29 (hval 2 29 v2 rfl rfl)
  obtain ⟨l2, hl2, e2⟩ := open_ents h2
  clear hA0 hval0
  refine (walk a0 a1 len1 cap1 l1 a2 len2 cap2 l2 W hl1 e1 hl2 e2).mono fun e W' ⟨he, bel⟩ => ?_
  subst he
  exact ⟨_, rfl, _, _, _, [], _, [], hW', trodAll_mk1 (shut_bool Try.underlying4 _), (trodAll_cons_mk (Below.trod laidOut (by kernel_rfl) (of_decide_eq_true (by kernel_rfl)) k0 bel lt0) (trodAll_cons_mk (Below.trod laidOut (by kernel_rfl) (of_decide_eq_true (by kernel_rfl)) k1 bel lt1) (trodAll_cons_mk (Below.trod laidOut (by kernel_rfl) (of_decide_eq_true (by kernel_rfl)) k2 bel lt2) trodAll_mk0))), rfl, bel.frame _, fun h => by cases h⟩

theorem over : Rows.heapMoreRow.holds Try.pinned (OpenSpec.ofChange Rows.heapMoreSpec) :=
  OpenClaim.holds_of_wide 7 Try.f7 rfl rfl rfl rfl rfl rfl rfl ⟨rfl, rfl, rfl, rfl, rfl⟩ rfl rfl rfl rfl rfl (by kernel_rfl) Try.func7 (by kernel_rfl)
    (of_decide_eq_true (by kernel_rfl)) (by unfold Func.isWrapper; first | (rw [if_pos (by decide +kernel)]; kernel_rfl) | (rw [if_neg (by decide +kernel)]; exact ⟨rfl, rfl⟩))
    (fun os started H enc _ => lifted os started H enc)

theorem proved : Rows.HeapMoreSaid := over
#print axioms proved
end Go.Proofs.Ytljgglmaglmceaa.heapMore
