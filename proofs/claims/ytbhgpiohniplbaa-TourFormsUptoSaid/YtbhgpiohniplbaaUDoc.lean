/- What the document's Split answers. -/
import Derived.Test.YtbhgpiohniplbaaUSplit
namespace Go.Proofs.Ytbhgpiohniplbaa
open Go.ChangeShapes Go.WideShapes Go.ChangeAt Go.RowKit

theorem bad_low {t : List Int} {i : Nat} (h : t.getD i 0 < 0) : badAt t i = true := by unfold badAt; rw [decide_eq_true h]; rfl
theorem bad_zero {t : List Int} {i : Nat} (h : t.getD i 0 = 0) (h2 : i = 0 ∨ i = t.length - 1 ∨ t.getD (i - 1) 0 = 0) : badAt t i = true := by
  unfold badAt
  rw [Bool.or_eq_true, Bool.and_eq_true, Bool.or_eq_true, Bool.or_eq_true, decide_eq_true_eq, decide_eq_true_eq, decide_eq_true_eq, decide_eq_true_eq, decide_eq_true_eq]
  refine .inr ⟨h, ?_⟩
  rcases h2 with h2 | h2 | h2
  · exact .inl (.inl h2)
  · exact .inl (.inr h2)
  · exact .inr h2
theorem bad_not {t : List Int} {i : Nat} (h : ¬ t.getD i 0 < 0) (h2 : t.getD i 0 = 0 → i ≠ 0 ∧ i ≠ t.length - 1 ∧ t.getD (i - 1) 0 ≠ 0) : badAt t i = false := by
  unfold badAt
  by_cases h0 : t.getD i 0 = 0
  · obtain ⟨a, b, c⟩ := h2 h0
    rw [decide_eq_false h, decide_eq_false a, decide_eq_false b, decide_eq_false c]; simp
  · rw [decide_eq_false h, decide_eq_false h0]; simp
theorem form_bad {t : List Int} {i : Nat} (hi : i < t.length) (h : badAt t i = true) : ¬ FormT t := fun hF => by rw [hF i hi] at h; cases h
def cutS (t : List Int) (i : Nat) : List (List Int) × List Int := if i ≤ t.length then cutP (t.take i) else (cutL t, [])
theorem cutS_zero (t : List Int) : cutS t 0 = ([], []) := by unfold cutS; rw [if_pos (Nat.zero_le _)]; rfl
theorem take_snocI {t : List Int} {i : Nat} (h : i < t.length) : t.take (i + 1) = t.take i ++ [t.getD i 0] := by
  rw [List.take_add_one, List.getD_eq_getElem?_getD, List.getElem?_eq_getElem h]; rfl
theorem cutS_on {t : List Int} {i : Nat} (hi : i < t.length) (hx : 0 < t.getD i 0) : cutS t (i + 1) = ((cutS t i).1, (cutS t i).2 ++ [t.getD i 0]) := by
  unfold cutS
  rw [if_pos (by omega), if_pos (by omega), take_snocI hi, cutP_snoc]
  unfold cutStep; rw [if_pos hx]
theorem cutS_push {t : List Int} {i : Nat} (hi : i < t.length) (hx : ¬ 0 < t.getD i 0) : cutS t (i + 1) = ((cutS t i).1 ++ [(cutS t i).2], []) := by
  unfold cutS
  rw [if_pos (by omega), if_pos (by omega), take_snocI hi, cutP_snoc]
  unfold cutStep; rw [if_neg hx]
theorem cutS_last (t : List Int) : cutS t (t.length + 1) = ((cutS t t.length).1 ++ [(cutS t t.length).2], []) := by
  unfold cutS
  rw [if_neg (by omega), if_pos (Nat.le_refl _), List.take_length]; rfl
theorem cutS_end (t : List Int) : (cutS t (t.length + 1)).1 = cutL t := by unfold cutS; rw [if_neg (by omega)]
theorem cutP_len (t : List Int) : (cutP t).1.length + (cutP t).2.length ≤ t.length := by
  refine snoc_ind (P := fun t => (cutP t).1.length + (cutP t).2.length ≤ t.length) (Nat.le_refl _) ?_ t
  intro t x h
  rw [cutP_snoc]
  unfold cutStep
  by_cases hx : 0 < x
  · rw [if_pos hx]; simp; omega
  · rw [if_neg hx]; simp; omega
theorem cutS_len (t : List Int) (i : Nat) : (cutS t i).1.length ≤ t.length + 1 ∧ (cutS t i).2.length ≤ t.length := by
  unfold cutS
  by_cases hi : i ≤ t.length
  · rw [if_pos hi]
    have := cutP_len (t.take i)
    rw [List.length_take] at this
    omega
  · rw [if_neg hi]
    have := cutP_len t
    unfold cutL
    rw [List.length_append]
    simp
    omega
set_option maxRecDepth 1000000 in
set_option maxHeartbeats 8000000 in
theorem dsplit_any {w : World} {v : Value} {t : List Int} (h : Row w v (ints t)) (hlen : t.length ≤ 1000) :
    Calls Try.prog 15 #[v] w fun e w' => ∃ u, e = .returned (.tuple #[planV u, .int .i64 (splitE t)]) ∧ OwnLL w' w.heap.size u (splitR t) ∧ Below w.heap.size w w' := by
  have hb1 := (Below.refl w.heap.size w).alloc (Nat.le_refl _) (.cells #[.slice none 0 0] 24)
  have hb2 := hb1.alloc hb1.size (.cells #[.slice none 0 0] 24)
  have HB0 := Lib.hid hb2
  have H := Lib.hid (h.below hb2)
  have HP := Lib.hid ((pbox_new w (.slice none 0 0)).later ((Below.refl _ _).alloc (Nat.le_refl _) (.cells #[.slice none 0 0] 24)))
  have hz := pbox_new (w.alloc (.cells #[.slice none 0 0] 24)) (.slice none 0 0)
  rw [show (w.alloc (.cells #[.slice none 0 0] 24)).heap.size = w.heap.size + 1 by simp] at hz
  have HZ := Lib.hid hz
  have HSZ := Lib.hid (show ((w.alloc (.cells #[.slice none 0 0] 24)).alloc (.cells #[.slice none 0 0] 24)).heap.size = w.heap.size + 2 by simp)
  obtain ⟨ta, tc, rfl, _⟩ := h.form
  rw [ints_len] at *
  clear h hb1 hb2 hz
  unfold planV
  go_enter Try.func15, Try.ntmps15
  go_upto_region 2 with fail
  generalize (w.alloc (.cells #[.slice none 0 0] 24)).alloc (.cells #[.slice none 0 0] 24) = W at *
  have NB := Lib.hid (show ∀ (wr : World) (e : Int) (L : List (List Int)), e = splitE t → L = splitR t → Below W.heap.size W wr → L = [] → ∃ u, Ending.returned (.tuple #[.agg #[.slice none 0 0], .int .i64 e]) = .returned (.tuple #[.agg #[u], .int .i64 (splitE t)]) ∧ OwnLL (wr.setCell ⟨w.heap.size, 0, none⟩ (.slice none 0 0)) w.heap.size u (splitR t) ∧ Below w.heap.size w (wr.setCell ⟨w.heap.size, 0, none⟩ (.slice none 0 0)) from by
    intro wr e L h1 h2 hb h3
    refine ⟨.slice none 0 0, by rw [h1], by rw [← h2, h3]; exact ownLL_nil _ _, (HB0.out.trans (hb.mono HB0.out.size)).setCell (p := ⟨w.heap.size, 0, none⟩) (Nat.le_refl _) _⟩)
  by_cases h0 : t = []
  · have HE := Lib.hid split_nil
    rw [← h0] at HE
    have hl0 : ((t.length : Int) == 0) = true := by rw [h0]; rfl
    have z0 := HP.out.cell
    have f0 := HP.out.free 0
    have z1 := HZ.out.cell
    clear h0
    go_wp2
    refine bodyPost_ret (v := .tuple #[.agg #[.slice none 0 0], .int .i64 0]) (by simp [results, Try.results15, go_sem, z0]) rfl ?_
    exact NB.out W _ _ HE.out.1.symm HE.out.2.symm (Below.refl _ _) rfl
  · have hl0 : ((t.length : Int) == 0) = false := by simpa using h0
    have H0 := Lib.hid h0
    clear h0
    go_wp2_with fail
    go_loop [5] (fun i => ∃ k : Nat, k ≤ t.length ∧ i = .int .i64 k ∧ ∀ i, i < k → badAt t i = false) (fun i => t.length - (intOf i).toNat)
    case atStart => exact ⟨0, Nat.zero_le _, rfl, fun i hi => absurd hi (Nat.not_lt_zero i)⟩
    case round =>
      obtain ⟨k, hk, rfl, hp⟩ := hrel
      have HPK := Lib.hid hp
      clear hp
      by_cases hlt : k < t.length
      · have hlt2 : (k : Int) < (t.length : Int) := by omega
        obtain ⟨b1, o1, c1, he1, hc1, _, _⟩ := row_at (p := k) H.out (by rw [ints_len]; exact hlt)
        rw [ints_at t k hlt] at hc1
        simp only [ints_len, Value.slice.injEq, true_and] at he1
        obtain ⟨rfl, rfl⟩ := he1
        have HBad := Lib.hid (fun h => split_form H0.out (form_bad hlt h))
        have HLow := Lib.hid (fun h => bad_low (t := t) (i := k) h)
        have HZero := Lib.hid (fun h h2 => bad_zero (t := t) (i := k) h h2)
        have HNot := Lib.hid (fun h h2 => bad_not (t := t) (i := k) h h2)
        have HNext := Lib.hid (show badAt t k = false → ∀ i, i < k + 1 → badAt t i = false from fun h i hi => by
          by_cases he : i = k
          · rw [he]; exact h
          · exact HPK.out i (by omega))
        have hc2 : k ≠ 0 → W.cell? ⟨b1, o1 + (k - 1), none⟩ = some (.int .i64 (t.getD (k - 1) 0)) := fun hk0 => by
          obtain ⟨b2, o2, c2, he2, hc2, _, _⟩ := row_at (p := k - 1) H.out (by rw [ints_len]; omega)
          rw [ints_at t (k - 1) (by omega)] at hc2
          simp only [ints_len, Value.slice.injEq, Option.some.injEq, Addr.mk.injEq, true_and, and_true] at he2
          obtain ⟨⟨rfl, rfl⟩, rfl⟩ := he2
          exact hc2
        have HC2 := Lib.hid hc2
        clear hc2
        generalize t.getD k 0 = x at *
        by_cases h1 : x < 0
        · have HE := Lib.hid (HBad.out (HLow.out h1))
          have z0 := HP.out.cell
          have f0 := HP.out.free 0
          have z1 := HZ.out.cell
          go_wp2
          refine bodyPost_ret (v := .tuple #[.agg #[.slice none 0 0], .int .i64 2]) (by simp [results, Try.results15, go_sem, z0]) rfl ?_
          exact NB.out W _ _ HE.out.1.symm HE.out.2.symm (Below.refl _ _) rfl
        · by_cases h2 : x = 0
          · have h2b : (x == 0) = true := by simp [h2]
            by_cases h3 : k = 0
            · have h3b : ((k : Int) == 0) = true := by simp [h3]
              have HE := Lib.hid (HBad.out (HZero.out h2 (.inl h3)))
              have z0 := HP.out.cell
              have f0 := HP.out.free 0
              have z1 := HZ.out.cell
              clear h2 h3
              go_wp2
              refine bodyPost_ret (v := .tuple #[.agg #[.slice none 0 0], .int .i64 2]) (by simp [results, Try.results15, go_sem, z0]) rfl ?_
              exact NB.out W _ _ HE.out.1.symm HE.out.2.symm (Below.refl _ _) rfl
            · have h3b : ((k : Int) == 0) = false := by simp [h3]
              have ij0 : IntKind.i64.wrap ((t.length : Int) - 1) = ((t.length - 1 : Nat) : Int) := by rw [IntWalk.i64_in _ (by omega)]; omega
              have ij1 : IntKind.i64.wrap ((k : Int) - 1) = ((k - 1 : Nat) : Int) := by rw [IntWalk.i64_in _ (by omega)]; omega
              by_cases h4 : k = t.length - 1
              · have h4b : ((k : Int) == ((t.length - 1 : Nat) : Int)) = true := by rw [h4]; exact beq_self_eq_true _
                have HE := Lib.hid (HBad.out (HZero.out h2 (.inr (.inl h4))))
                have z0 := HP.out.cell
                have f0 := HP.out.free 0
                have z1 := HZ.out.cell
                generalize t.length - 1 = m1 at *
                clear h2 h3 h4
                go_wp2
                refine bodyPost_ret (v := .tuple #[.agg #[.slice none 0 0], .int .i64 2]) (by simp [results, Try.results15, go_sem, z0]) rfl ?_
                exact NB.out W _ _ HE.out.1.symm HE.out.2.symm (Below.refl _ _) rfl
              · have h4b : ((k : Int) == ((t.length - 1 : Nat) : Int)) = false := beq_eq_false_iff_ne.2 (by omega)
                have hc2 := HC2.out h3
                have ij2 : ((k - 1 : Nat) : Int) < (t.length : Int) := by omega
                have HYZ := Lib.hid (show t.getD (k - 1) 0 = 0 → badAt t k = true from fun h => HZero.out h2 (.inr (.inr h)))
                have HYN := Lib.hid (show t.getD (k - 1) 0 ≠ 0 → badAt t k = false from fun h => HNot.out h1 (fun _ => ⟨h3, h4, h⟩))
                generalize t.getD (k - 1) 0 = y at *
                obtain ⟨j, hj⟩ : ∃ j, k - 1 = j := ⟨_, rfl⟩
                rw [hj] at hc2 ij1 ij2
                obtain ⟨m1, hm1⟩ : ∃ m1, t.length - 1 = m1 := ⟨_, rfl⟩
                rw [hm1] at h4b ij0
                clear h2 h3 h4 hj hm1
                by_cases h5 : y = 0
                · have h5b : (y == 0) = true := by simp [h5]
                  have HE := Lib.hid (HBad.out (HYZ.out h5))
                  have z0 := HP.out.cell
                  have f0 := HP.out.free 0
                  have z1 := HZ.out.cell
                  clear h5
                  go_wp2
                  refine bodyPost_ret (v := .tuple #[.agg #[.slice none 0 0], .int .i64 2]) (by simp [results, Try.results15, go_sem, z0]) rfl ?_
                  exact NB.out W _ _ HE.out.1.symm HE.out.2.symm (Below.refl _ _) rfl
                · have h5b : (y == 0) = false := by simp [h5]
                  have HN := Lib.hid (HNext.out (HYN.out h5))
                  clear h5
                  go_wp2_with fail
                  go_round
                  case rel => exact ⟨k + 1, by omega, by go_num, HN.out⟩
                  case measure => simp [intOf]; omega
          · have h2b : (x == 0) = false := by simp [h2]
            have HN := Lib.hid (HNext.out (HNot.out h1 (fun h => absurd h h2)))
            clear h2
            go_wp2_with fail
            go_round
            case rel => exact ⟨k + 1, by omega, by go_num, HN.out⟩
            case measure => simp [intOf]; omega
      · obtain rfl : k = t.length := by omega
        have hl2 : ¬ (t.length : Int) < (t.length : Int) := by omega
        have HFm := Lib.hid (show FormT t from HPK.out)
        clear hlt hk HPK
        go_wp2_with fail
        go_loopw [6, 7, 8] (fun rv cv i wr => ∃ (k : Nat) (wb : World), k ≤ t.length + 1 ∧ i = .int .i64 k ∧ OwnLL wb W.heap.size rv (cutS t k).1 ∧ OwnI wr wb.heap.size cv (cutS t k).2 ∧ Below W.heap.size W wb ∧ Below wb.heap.size wb wr) (fun _ _ i _ => t.length + 1 - (intOf i).toNat)
        case atStart => exact ⟨0, W, Nat.zero_le _, rfl, by rw [cutS_zero]; exact ownLL_nil _ _, by rw [cutS_zero]; exact ownI_nil _ _, Below.refl _ _, Below.refl _ _⟩
        case round =>
          obtain ⟨k, wb, hk, rfl, ho, hi, hb1, hb2⟩ := hrel
          have HO := Lib.hid ho
          have HI := Lib.hid hi
          have HB1 := Lib.hid hb1
          have HB2 := Lib.hid hb2
          have HB := Lib.hid (hb1.trans (hb2.mono hb1.size))
          have HOr := Lib.hid (ho.below hb2)
          have HIr := Lib.hid (show OwnI wr W.heap.size u7 (cutS t k).2 from own_less hi hb1.size)
          have HSL := Lib.hid (cutS_len t k)
          have hr := H.out.below HB.out
          clear ho hi hb1 hb2
          by_cases hlt : k < t.length
          · have hlt2 : (k : Int) < (t.length : Int) := by omega
            have hle2 : (k : Int) ≤ (t.length : Int) := by omega
            obtain ⟨b1, o1, c1, he1, hc1, _, _⟩ := row_at (p := k) hr (by rw [ints_len]; exact hlt)
            rw [ints_at t k hlt] at hc1
            simp only [ints_len, Value.slice.injEq, true_and] at he1
            obtain ⟨rfl, rfl⟩ := he1
            have HON := Lib.hid (fun h => cutS_on hlt h)
            have HPU := Lib.hid (fun h => cutS_push hlt h)
            generalize t.getD k 0 = x at *
            have hs1 : (cutS t k).1.length ≤ 1000000 := by have := HSL.out; omega
            have hs2 : (cutS t k).2.length ≤ 1000000 := by have := HSL.out; omega
            by_cases hx : 0 < x
            · have HC := Lib.hid (HON.out hx)
              clear HON HPU
              go_wp2_with (first | (at_builtin; refine app_ints rfl _ _ rfl wb.heap.size _ _ rfl (HI.out.alloc _) _ [x] rfl (row_newi _ _) (by simp; omega) (by have := HB2.out.size; simp; omega) ?_))
              intro v3 w3 own grown _
              have HI3 := Lib.hid own
              have HB3 := Lib.hid (madei HB2.out HI.out grown)
              clear own grown hc1 hr
              go_wp2_with fail
              go_roundw
              case rel => exact ⟨k + 1, wb, by omega, by go_num, by rw [HC.out]; exact HO.out, by rw [HC.out]; exact HI3.out, HB1.out, HB3.out⟩
              case measure => simp [intOf]; omega
            · have HC := Lib.hid (HPU.out hx)
              clear HON HPU
              obtain ⟨ca, cc, rfl⟩ := HIr.out.shape
              generalize cutS t k = S at *
              obtain ⟨cl, hcl⟩ : ∃ cl, S.2.length = cl := ⟨_, rfl⟩
              rw [hcl] at HIr HI ⊢
              clear hcl hs2
              go_wp2_with (first | (at_builtin; refine app_line rfl _ _ rfl W.heap.size _ _ rfl wr _ rfl HOr.out _ rfl HIr.out hs1 HB.out.size ?_))
              intro v3 w3 own grown
              have HO3 := Lib.hid own
              have HB3 := Lib.hid (madeL HB.out HOr.out grown)
              clear own grown hc1 hr
              go_wp2_with fail
              go_roundw
              case rel => exact ⟨k + 1, w3, by omega, by go_num, by rw [HC.out]; exact HO3.out, by rw [HC.out]; exact ownI_nil _ _, HB3.out, Below.refl _ _⟩
              case measure => simp [intOf]; omega
          · by_cases hke : k = t.length
            · subst hke
              have hlt2 : ¬ (t.length : Int) < (t.length : Int) := by omega
              have hle2 : (t.length : Int) ≤ (t.length : Int) := by omega
              have HC := Lib.hid (cutS_last t)
              have hs1 : (cutS t t.length).1.length ≤ 1000000 := by have := HSL.out; omega
              obtain ⟨ca, cc, rfl⟩ := HIr.out.shape
              generalize cutS t t.length = S at *
              obtain ⟨cl, hcl⟩ : ∃ cl, S.2.length = cl := ⟨_, rfl⟩
              rw [hcl] at HIr HI ⊢
              clear hcl hr hlt
              go_wp2_with (first | (at_builtin; refine app_line rfl _ _ rfl W.heap.size _ _ rfl wr _ rfl HOr.out _ rfl HIr.out hs1 HB.out.size ?_))
              intro v3 w3 own grown
              have HO3 := Lib.hid own
              have HB3 := Lib.hid (madeL HB.out HOr.out grown)
              clear own grown
              go_wp2_with fail
              go_roundw
              case rel => exact ⟨t.length + 1, w3, by omega, by go_num, by rw [HC.out]; exact HO3.out, by rw [HC.out]; exact ownI_nil _ _, HB3.out, Below.refl _ _⟩
              case measure => simp [intOf]
            · obtain rfl : k = t.length + 1 := by omega
              have hle2 : ¬ (((t.length + 1 : Nat) : Int)) ≤ (t.length : Int) := by omega
              have HU := Lib.hid (show OwnLL wr W.heap.size u6 (cutL t) by rw [← cutS_end]; exact HOr.out)
              have HF := Lib.hid ((form_iff H0.out).1 HFm.out).2
              clear HO HI HOr HIr HSL hke hlt hk hr HB1 HB2
              obtain ⟨ua, uc, rfl⟩ := HU.out.shape
              have hcl1 : (cutL t).length ≤ 9223372036854775807 := by have := (cutS_len t (t.length + 1)).1; rw [cutS_end] at this; omega
              obtain ⟨L, hL⟩ : ∃ L, cutL t = L := ⟨_, rfl⟩
              rw [hL] at HU HF hcl1 ⊢
              have HLL := Lib.hid hL
              have HRIS := Lib.hid (show (RiseL L → splitE t = 0 ∧ splitR t = L) ∧ (¬ RiseL L → splitE t = 8 ∧ splitR t = []) by
                rw [← hL]
                exact ⟨fun h => split_fine H0.out HFm.out h, fun h => split_order H0.out HFm.out h⟩)
              clear hL
              obtain ⟨wo, hwo⟩ : ∃ wo, wo = wr := ⟨_, rfl⟩
              subst hwo
              go_wp2_with fail
              go_loopw [9] (fun i wr => ∃ k : Nat, 1 ≤ k ∧ i = .int .i64 k ∧ (∀ i, i + 1 < k → i + 1 < L.length → key (L.getD i []) < key (L.getD (i + 1) [])) ∧ Below wo.heap.size wo wr) (fun i _ => L.length - (intOf i).toNat)
              case atStart => exact ⟨1, Nat.le_refl _, rfl, fun i hi => by omega, Below.refl _ _⟩
              case round =>
                obtain ⟨k, hk, rfl, hp, hbw⟩ := hrel
                have HPk := Lib.hid hp
                have HBW := Lib.hid hbw
                have HBA := Lib.hid (HB.out.trans (hbw.mono HB.out.size))
                have z0 := (HP.out.below (M := W.heap.size) (by have := HSZ.out; omega) HBA.out).cell
                have f0 := (HP.out.below (M := W.heap.size) (by have := HSZ.out; omega) HBA.out).free 0
                have z1 := (HZ.out.below (M := W.heap.size) (by have := HSZ.out; omega) HBA.out).cell
                clear hp hbw
                by_cases hlt : k < L.length
                · have hlt2 : (k : Int) < (L.length : Int) := by omega
                  have hk1 : k - 1 < L.length := by omega
                  have hll := HU.out.is.below HBW.out
                  obtain ⟨b1, o1, a1, n1, c1, rfl, _, hc1, hn1, _, hw1⟩ := ll_at hll k hlt
                  obtain ⟨b2, o2, a2, n2, c2, he2, _, hc2, hn2, _, hw2⟩ := ll_at hll (k - 1) hk1
                  simp only [Option.some.injEq, Addr.mk.injEq, and_true] at he2
                  obtain ⟨rfl, rfl⟩ := he2
                  obtain ⟨d1, p1, rfl, hd1, rfl, hp1⟩ := key_row hw1 (HF.out.at hlt)
                  obtain ⟨d2, p2, rfl, hd2, rfl, hp2⟩ := key_row hw2 (HF.out.at hk1)
                  have HN := Lib.hid (show key (L.getD (k - 1) []) < key (L.getD k []) → (∀ i, i + 1 < k + 1 → i + 1 < L.length → key (L.getD i []) < key (L.getD (i + 1) [])) from fun h i hi hil => rise_next (fun i hi => HPk.out i hi (by omega)) (by omega) h i hi)
                  have HBd := Lib.hid (fun h => HRIS.out.2 (rise_bad hlt (by omega) h))
                  generalize key (L.getD k []) = x at *
                  generalize key (L.getD (k - 1) []) = y at *
                  have ij0 : IntKind.i64.wrap ((k : Int) - 1) = ((k - 1 : Nat) : Int) := by rw [IntWalk.i64_in _ (by omega)]; omega
                  have ij1 : ((k - 1 : Nat) : Int) < (L.length : Int) := by omega
                  generalize (L.getD k []).length = m1 at *
                  generalize (L.getD (k - 1) []).length = m2 at *
                  obtain ⟨j, hj⟩ : ∃ j, k - 1 = j := ⟨_, rfl⟩
                  rw [hj] at hc2 ij0 ij1
                  clear hll hw1 hw2 hj hk1
                  by_cases hxy : x ≤ y
                  · have HD := Lib.hid (HBd.out hxy)
                    clear HBd HN
                    go_wp2_with fail
                    go_quiet (fail)
                    have HB2 := Lib.hid (below_drewN HBA.out nq)
                    have z0 := (HP.out.below (M := W.heap.size) (by have := HSZ.out; omega) HB2.out).cell
                    have f0 := (HP.out.below (M := W.heap.size) (by have := HSZ.out; omega) HB2.out).free 0
                    have z1 := (HZ.out.below (M := W.heap.size) (by have := HSZ.out; omega) HB2.out).cell
                    clear hc1 hc2 hd1 hd2
                    generalize wr.drewN nq = w2 at *
                    go_wp2
                    refine bodyPost_ret (v := .tuple #[.agg #[.slice none 0 0], .int .i64 8]) (by simp [results, Try.results15, go_sem, z0]) rfl ?_
                    exact NB.out w2 _ _ HD.out.1.symm HD.out.2.symm HB2.out rfl
                  · have HN2 := Lib.hid (HN.out (by omega))
                    clear HBd HN
                    go_wp2_with fail
                    go_quiet (fail)
                    have HB2 := Lib.hid (below_drewN HBW.out nq)
                    clear hc1 hc2 hd1 hd2 z0 f0 z1
                    generalize wr.drewN nq = w2 at *
                    go_wp2_with fail
                    go_roundw
                    case rel => exact ⟨k + 1, by omega, by go_num, HN2.out, HB2.out⟩
                    case measure => simp [intOf]; omega
                · have hl2 : ¬ (k : Int) < (L.length : Int) := by omega
                  have HD := Lib.hid (HRIS.out.1 (fun i hi => HPk.out i (by omega) hi))
                  have HUr := Lib.hid (HU.out.below HBW.out)
                  generalize L.length = un at *
                  have hgr : wr.grownBy (wr.setCell ⟨w.heap.size, 0, none⟩ (.slice ua un uc)) (some w.heap.size) := ⟨rfl, rfl, rfl, by simp [World.setCell], fun k _ hk => heap_setCell_other wr ⟨w.heap.size, 0, none⟩ k _ (fun e => hk (by rw [e]))⟩
                  have HO4 := Lib.hid ((HUr.out.later hgr (fun g hg => by simp at hg; have := HSZ.out; omega)).less (B' := w.heap.size) (by have := HSZ.out; omega))
                  have HB4 := Lib.hid ((HB0.out.trans (HBA.out.mono HB0.out.size)).setCell (p := ⟨w.heap.size, 0, none⟩) (Nat.le_refl _) (.slice ua un uc))
                  clear hgr hlt
                  go_wp2
                  refine bodyPost_ret (v := .tuple #[.agg #[.slice ua un uc], .int .i64 0]) (by simp [results, Try.results15, go_sem, z0]) rfl ?_
                  exact ⟨_, by rw [HD.out.1], by rw [HD.out.2]; exact HO4.out, HB4.out⟩
end Go.Proofs.Ytbhgpiohniplbaa
