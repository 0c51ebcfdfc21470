/- What the document's own Matrix and Near answer. -/
import Derived.Test.YtpgbbnmflnhlbaaPNear
namespace Go.Proofs.Ytpgbbnmflnhlbaa
open Go.ChangeShapes Go.WideShapes Go.ChangeAt Go.RowKit

theorem rowF_take (l : List Stp) (t : Stp) (k : Nat) (hk : k < l.length) : (rowF l t).take (k + 1) = (rowF l t).take k ++ [farF t (nth l k)] := by
  have hl := rowF_len l t
  have := rowF_at l t k hk
  rw [List.getD_eq_getElem?_getD] at this
  rw [List.take_add_one]
  rw [List.getElem?_eq_getElem (by omega)] at this ⊢
  simp only [Option.getD_some] at this
  rw [this]; rfl
theorem matF_take (l : List Stp) (k : Nat) (hk : k < l.length) : (matF l).take (k + 1) = (matF l).take k ++ [rowF l (nth l k)] := by
  have hl := matF_len l
  have := matF_at l k hk
  rw [List.getD_eq_getElem?_getD] at this
  rw [List.take_add_one]
  rw [List.getElem?_eq_getElem (by omega)] at this ⊢
  simp only [Option.getD_some] at this
  rw [this]; rfl
set_option maxRecDepth 1000000 in
set_option maxHeartbeats 1000000 in
theorem rmatrix_any {w : World} {v : Value} {I : Ins} (h : SRow w v I.l) :
    Calls Try.prog 34 #[insV I v] w fun e w' => ∃ u, e = .returned u ∧ OwnLL w' w.heap.size u (matI I) ∧ Below w.heap.size w w' := by
  have H := Lib.hid h
  obtain ⟨ad, cap, rfl, hm, _⟩ := h.form
  have hm1 : I.l.length ≤ 9223372036854775807 := by unfold maxLen at hm; omega
  clear h hm
  unfold insV
  go_enter Try.func34, Try.ntmps34
  go_wp2_with fail
  change Calls _ _ #[insV I (.slice ad I.l.length cap)] (w.alloc (boxI I (.slice ad I.l.length cap))) _
  have HB0 := Lib.hid ((Below.refl _ w).alloc (Nat.le_refl _) (boxI I (.slice ad I.l.length cap)))
  have HS0 := Lib.hid (holds_box w I (.slice ad I.l.length cap))
  have hW : (w.alloc (boxI I (.slice ad I.l.length cap))).heap.size = w.heap.size + 1 := by simp
  generalize w.alloc (boxI I (.slice ad I.l.length cap)) = W at *
  refine (rmay_any (H.out.below HB0.out)).mono ?_
  rintro e w1 ⟨rfl, hb⟩
  have hsz1 : w.heap.size + 1 ≤ w1.heap.size := by have := hb.size; omega
  have HB1 := Lib.hid (show Below (w.heap.size + 1) W w1 from hb.mono (by omega))
  clear hb
  cases hmy : mayB I
  · have HM := Lib.hid (show matI I = [] by unfold matI; rw [hmy]; rfl)
    have HBB := Lib.hid (HB0.out.trans (HB1.out.mono (by omega)))
    clear hmy
    go_wp2
    go_ret
    exact ⟨_, rfl, by rw [HM.out]; exact ownLL_nil _ _, HBB.out⟩
  have HM := Lib.hid (show matI I = matF I.l by unfold matI; rw [hmy]; rfl)
  have hl33 := (pmay_len hmy).2
  clear hmy
  go_wp2_with fail
  go_loopw [4, 5] (fun u i wr => ∃ k : Nat, k ≤ I.l.length ∧ i = .int .i64 k ∧ OwnLL wr (w.heap.size + 1) u ((matF I.l).take k) ∧ Below (w.heap.size + 1) W wr) (fun _ i _ => I.l.length - (intOf i).toNat)
  case atStart => exact ⟨0, Nat.zero_le _, rfl, by rw [List.take_zero]; exact ownLL_nil _ _, HB1.out⟩
  case round =>
    obtain ⟨i, hi, rfl, hon, hbw⟩ := hrel
    have HON := Lib.hid hon
    have HBW := Lib.hid hbw
    have HBB := Lib.hid (HB0.out.trans (hbw.mono (Nat.le_succ _)))
    have hsz : w.heap.size + 1 ≤ wr.heap.size := by have := hbw.size; omega
    have b3 : wr.cell? ⟨w.heap.size, 3, none⟩ = some (.slice ad I.l.length cap) := (hbw.cell (p := ⟨w.heap.size, 3, none⟩) (by show w.heap.size < _; omega)).trans HS0.out.2.2.2.1
    clear hon hbw
    by_cases hlt : i < I.l.length
    · obtain ⟨tb, off, rfl, hat, htb⟩ := srow_at H.out i hlt
      have HAT := Lib.hid hat
      have HT := Lib.hid (matF_take I.l i hlt)
      have hLL : ((matF I.l).take i).length ≤ 1000000 := by rw [List.length_take, matF_len]; omega
      generalize (matF I.l).take i = A at *
      clear hat
      obtain ⟨wo, hwo⟩ : ∃ wo, wo = wr := ⟨_, rfl⟩
      subst hwo
      have hltT : (i : Int) < (I.l.length : Int) := by omega
      go_wp2_with fail
      go_loopw [6, 7] (fun u j wk => ∃ k : Nat, k ≤ I.l.length ∧ j = .int .i64 k ∧ OwnI wk wo.heap.size u ((rowF I.l (nth I.l i)).take k) ∧ Below wo.heap.size wo wk) (fun _ j _ => I.l.length - (intOf j).toNat)
      case atStart => exact ⟨0, Nat.zero_le _, rfl, by rw [List.take_zero]; exact ownI_nil _ _, Below.refl _ _⟩
      case round =>
        obtain ⟨k, hk, rfl, hok, hbk⟩ := hrel
        have HOK := Lib.hid hok
        have HBK := Lib.hid hbk
        have hszk := hbk.size
        have d3 : wr.cell? ⟨w.heap.size, 3, none⟩ = some (.slice (some ⟨tb, off, none⟩) I.l.length cap) := (hbk.cell (p := ⟨w.heap.size, 3, none⟩) (by show w.heap.size < _; omega)).trans b3
        clear hok hbk
        by_cases hkl : k < I.l.length
        · have hat2 := srow_here H.out k hkl
          have HRT := Lib.hid (rowF_take I.l (nth I.l i) k hkl)
          have hyl : ((rowF I.l (nth I.l i)).take k).length ≤ 1000000 := by rw [List.length_take, rowF_len]; omega
          generalize (rowF I.l (nth I.l i)).take k = ys at *
          have HBx := Lib.hid (HBB.out.trans (HBK.out.mono (by omega)))
          have HS1 := Lib.hid (show Holds ((⟨w.heap.size, 3, none⟩, .slice (some ⟨tb, off, none⟩) I.l.length cap) :: (cellsS tb (off + i * 6) (nth I.l i) ++ cellsS tb (off + k * 6) (nth I.l k))) wr.drew from
            ⟨d3, Holds.app.2 ⟨(HAT.out.below htb HBx.out).holds, (hat2.below htb HBx.out).holds⟩⟩)
          have hlt1 := Lib.hid (show Lows wr.drew.heap.size ((⟨w.heap.size, 3, none⟩, .slice (some ⟨tb, off, none⟩) I.l.length cap) :: (cellsS tb (off + i * 6) (nth I.l i) ++ cellsS tb (off + k * 6) (nth I.l k))) from
            ⟨by show w.heap.size < wr.heap.size; omega, Lows.app (lows_S (by show tb < wr.heap.size; omega)) (lows_S (by show tb < wr.heap.size; omega))⟩)
          have HLO := Lib.hid (show Lows wo.heap.size ((⟨w.heap.size, 3, none⟩, .slice (some ⟨tb, off, none⟩) I.l.length cap) :: (cellsS tb (off + i * 6) (nth I.l i) ++ cellsS tb (off + k * 6) (nth I.l k))) from
            ⟨by show w.heap.size < wo.heap.size; omega, Lows.app (lows_S (by omega)) (lows_S (by omega))⟩)
          have hkT : (k : Int) < (I.l.length : Int) := by omega
          generalize nth I.l i = s at *
          generalize nth I.l k = t at *
          obtain ⟨ua, uc, rfl⟩ := HOK.out.shape
          clear hat2 b3
          go_wp2_with fail
          clear d3
          refine wp_region_held_drew (S := Holds ((⟨w.heap.size, 3, none⟩, .slice (some ⟨tb, off, none⟩) I.l.length cap) :: (cellsS tb (off + i * 6) s ++ cellsS tb (off + k * 6) t))) (by kernel_rfl) HS1.out (fun hSn => ?_)
          have hlt := hlt1
          have HSX := HS0
          clear HS0
          have HS0 := HS1
          clear HS1
          have Bc := Lib.hid (Below.refl wr.drew.heap.size wr.drew)
          simp only [cellsS, List.cons_append, List.nil_append] at *
          refine tks [0, 1, 2, 3, 4, 5, 6, 7, 8, 9, 10] 11 rfl (by kernel_rfl) (fun _ _ _ _ h => h) (by assumption) (fun KT hKT => ?_)
          iterate 11 (refine tkT (by (simp only [gA, gB, gC]; rfl)) (by rfl) (by (intro w hSw; (simp only [Holds] at hSw); go_simp <;> with_reducible rfl)) ?_; simp only [Act.put, pA, pB, pC])
          refine hKT _ ?_
          clear KT hKT
          refine wpAnyH_ready (rs := [11]) (by kernel_rfl) (by simp) ?_
          refine AllReadyH.cons (o := ?oz40) ?iz40 (fun K hK => ?kz40) AllReadyH.nil
          case iz40 => (simp only [List.getElem?_toArray, List.getElem?_cons_zero, List.getElem?_cons_succ]; rfl)
          go_simp
          change Calls _ _ #[stopV s, stopV t] _ _
          refine (rfar_any s t _).mono ?_
          rintro e w2 ⟨rfl, hb⟩
          refine held_more hK HS0.out hlt (Bc.out.trans (hb.mono Bc.out.size)) (fun Bc hSn => ?_)
          clear hb hK
          refine wpAnyH_ready (rs := [12]) (by kernel_rfl) (by simp) ?_
          refine AllReadyH.cons (o := ?oz41) ?iz41 (fun K hK => ?kz41) AllReadyH.nil
          case iz41 => (simp only [List.getElem?_toArray, List.getElem?_cons_zero, List.getElem?_cons_succ]; rfl)
          go_simp
          refine held_more hK HS0.out hlt (Bc.out.alloc Bc.out.size _) (fun Bc hSn => ?_)
          refine wpAnyH_ready (rs := [13]) (by kernel_rfl) (by simp) ?_
          refine (AllReadyH.cons (o := ?oz42) ?iz42 (fun K hK => ?kz42) AllReadyH.nil)
          case iz42 => (simp only [List.getElem?_toArray, List.getElem?_cons_zero, List.getElem?_cons_succ]; rfl)
          simp only [Act.put, List.setIfInBounds_toArray, List.set_cons_zero, List.set_cons_succ]
          rw [if_pos (by rfl)]
          have HBC := Lib.hid (((Below.refl wo.heap.size wr).drew.mono (Nat.le_refl _)).trans (Bc.out.mono hszk))
          have HOC := Lib.hid ((HOK.out.below ((Below.refl _ wr).drew)).below Bc.out)
          refine wp_app_int _ _ (by rfl) wo.heap.size _ ys (by rfl) HOC.out _ (farF s t) (by rfl) (by go_simp) hyl (HBK.out.trans HBC.out).size ?_
          intro v' w5 hown hgrow
          have HN := Lib.hid hown
          have HB5 := Lib.hid ((HBK.out.trans HBC.out).trans (grown_below hgrow (HBK.out.trans HBC.out).size (fun q hq => (World.ownsRow.lt HOC.out q hq).1)))
          refine hK.out _ _ (Holds.grown hgrow (HBK.out.trans HBC.out).size (fun q hq => (World.ownsRow.lt HOC.out q hq).1) hSn HLO.out) (fun hSn => ?_)
          clear hown hgrow hK
          refine tks [14] 1 rfl (by kernel_rfl) (fun _ _ _ _ h => h) (by assumption) (fun KT hKT => ?_)
          refine tkT (by (simp only [gA, gB, gC]; rfl)) (by rfl) (by (intro w hSw; (simp only [Holds] at hSw); go_simp <;> with_reducible rfl)) ?_
          simp only [Act.put, pA, pB, pC]
          refine hKT _ ?_
          clear KT hKT
          refine wpAnyH_done (by kernel_rfl) ?_ _
          go_wp2
          go_roundw
          case rel => exact ⟨k + 1, by omega, by go_num, by rw [HRT.out]; exact HN.out, HB5.out⟩
          case measure => simp [intOf]; omega
        · obtain rfl : k = I.l.length := by omega
          have hR : (rowF I.l (nth I.l i)).take I.l.length = rowF I.l (nth I.l i) := by rw [List.take_of_length_le (by rw [rowF_len]; exact Nat.le_refl _)]
          rw [hR] at HOK
          generalize rowF I.l (nth I.l i) = rw0 at *
          have HONk := Lib.hid (HON.out.below HBK.out)
          have HOKk := Lib.hid (HOK.out.less (show w.heap.size + 1 ≤ wo.heap.size by omega))
          have hszw : w.heap.size + 1 ≤ wr.heap.size := by omega
          obtain ⟨ua, uc, rfl⟩ := HOKk.out.shape
          obtain ⟨oa, oc, rfl⟩ := HONk.out.shape
          clear hkl hk hR b3
          go_wp2_with (first | (at_builtin; refine app_line rfl _ _ rfl (w.heap.size + 1) _ A rfl wr _ rfl HONk.out rw0 rfl HOKk.out hLL hszw ?_))
          intro v' w' hown hgrow
          have HN := Lib.hid hown
          have HBN := Lib.hid (HBW.out.trans (HBK.out.mono hsz |>.trans (grown_below hgrow (by omega) (fun q hq => HONk.out.ge q hq))))
          clear hown hgrow
          go_wp2
          go_roundw
          case rel => exact ⟨i + 1, by omega, by go_num, by rw [HT.out]; exact HN.out, HBN.out⟩
          case measure => simp [intOf]; omega
    · obtain rfl : i = I.l.length := by omega
      rw [List.take_of_length_le (by rw [matF_len]; exact Nat.le_refl _)] at HON
      clear hlt hi
      go_wp2
      go_ret
      exact ⟨_, rfl, by rw [HM.out]; exact HON.out.less (Nat.le_succ _), HBB.out⟩
/-! ### The document's Near -/
def colL (M : List (List Int)) (k : Nat) : List Int := M.map (fun r => r.getD k 0)
theorem colL_len (M : List (List Int)) (k : Nat) : (colL M k).length = M.length := by simp [colL]
theorem colL_at (M : List (List Int)) (k i : Nat) (hi : i < M.length) : (colL M k).getD i 0 = (M.getD i []).getD k 0 := by
  unfold colL
  rw [List.getD_eq_getElem?_getD, List.getElem?_map, List.getD_eq_getElem?_getD (l := M), List.getElem?_eq_getElem hi]
  rfl
theorem colF (l : List Stp) (k : Nat) (hk : k < l.length) : colL (matF l) k = (matF l).getD k [] := by
  rw [matF_at l k hk]
  apply List.ext_getElem
  · rw [colL_len, matF_len, rowF_len]
  · intro i h1 h2
    rw [colL_len, matF_len] at h1
    have a := colL_at (matF l) k i (by rw [matF_len]; exact h1)
    rw [matF_at l i h1, rowF_at l _ k hk, farF_comm, ← rowF_at l _ i h1, List.getD_eq_getElem?_getD, List.getD_eq_getElem?_getD, List.getElem?_eq_getElem (by rw [colL_len, matF_len]; exact h1), List.getElem?_eq_getElem h2] at a
    simpa using a
/-- What has been seen of a row, less the one at its own place. -/
def seen (c : List Int) (i k : Nat) : List Int := (c.take i).eraseIdx k
theorem seen_skip (c : List Int) (k : Nat) (hk : k < c.length) : seen c (k + 1) k = seen c k k := by
  unfold seen
  have hl : (c.take k).length = k := by rw [List.length_take]; omega
  have e : (c.take k ++ [c[k]]).eraseIdx k = c.take k := by
    rw [List.eraseIdx_append_of_length_le (by omega), hl, Nat.sub_self]; simp
  rw [List.take_add_one, List.getElem?_eq_getElem hk, show (some c[k]).toList = [c[k]] from rfl, e, List.eraseIdx_of_length_le (by omega)]
theorem seen_next (c : List Int) (i k : Nat) (hi : i < c.length) (hn : i ≠ k) : seen c (i + 1) k = seen c i k ++ [c.getD i 0] := by
  unfold seen
  have hl : (c.take i).length = i := by rw [List.length_take]; omega
  rw [List.take_add_one, List.getElem?_eq_getElem hi, List.getD_eq_getElem?_getD, List.getElem?_eq_getElem hi]
  simp only [Option.toList_some, Option.getD_some]
  by_cases h : k < i
  · rw [List.eraseIdx_append_of_lt_length (by omega)]
  · rw [List.eraseIdx_append_of_length_le (by omega), hl, List.eraseIdx_of_length_le (l := c.take i) (by omega), List.eraseIdx_of_length_le (l := [c[i]]) (by simp; omega)]
theorem seen_none (c : List Int) (i k : Nat) (hi : i ≤ c.length) (h : i = 0 ∨ k = 0 ∧ i = 1) : seen c i k = [] := by
  unfold seen
  apply List.eq_nil_of_length_eq_zero
  rw [List.length_eraseIdx, List.length_take, Nat.min_eq_left hi]
  split <;> omega
theorem seen_some (c : List Int) (i k : Nat) (hi : i ≤ c.length) (h0 : i ≠ 0) (h : k ≠ 0 ∨ i ≠ 1) (hn : i ≠ k) : ∃ a r, seen c i k = a :: r := by
  have : (seen c i k).length ≠ 0 := by
    unfold seen
    rw [List.length_eraseIdx, List.length_take, Nat.min_eq_left hi]
    split <;> omega
  match h1 : seen c i k with
  | [] => rw [h1] at this; simp at this
  | a :: r => exact ⟨a, r, rfl⟩
theorem seen_all (c : List Int) (k : Nat) : seen c c.length k = c.eraseIdx k := by unfold seen; rw [List.take_length]
theorem least_first (c : List Int) (i k : Nat) (hi : i < c.length) (hn : i ≠ k) (h : i = 0 ∨ k = 0 ∧ i = 1) : leastL (seen c (i + 1) k) = c.getD i 0 := by
  rw [seen_next c i k hi hn, seen_none c i k (by omega) h]; rfl
theorem least_more (c : List Int) (i k : Nat) (hi : i < c.length) (h0 : i ≠ 0) (h : k ≠ 0 ∨ i ≠ 1) (hn : i ≠ k) : leastL (seen c (i + 1) k) = min (leastL (seen c i k)) (c.getD i 0) := by
  obtain ⟨a, r, e⟩ := seen_some c i k (by omega) h0 h hn
  rw [seen_next c i k hi hn, e]
  exact leastL_snoc a r _
theorem nearK_col (l : List Stp) (k : Nat) (hk : k < l.length) : nearK (matF l) (k + 1) = nearK (matF l) k ++ [leastL ((colL (matF l) k).eraseIdx k)] := by
  rw [nearK_next, colF l k hk]
set_option maxRecDepth 1000000 in
set_option maxHeartbeats 1000000 in
theorem rnear_any {w : World} {v : Value} {I : Ins} (h : SRow w v I.l) :
    Calls Try.prog 37 #[insV I v] w fun e w' => ∃ u, e = .returned u ∧ OwnI w' w.heap.size u (nearM (matI I)) ∧ Below w.heap.size w w' := by
  have H := Lib.hid h
  obtain ⟨ad, cap, rfl, hm, _⟩ := h.form
  clear h hm
  unfold insV
  go_enter Try.func37, Try.ntmps37
  go_wp2_with fail
  change Calls _ _ #[insV I (.slice ad I.l.length cap)] (w.alloc (boxI I (.slice ad I.l.length cap))) _
  have HB0 := Lib.hid ((Below.refl _ w).alloc (Nat.le_refl _) (boxI I (.slice ad I.l.length cap)))
  generalize w.alloc (boxI I (.slice ad I.l.length cap)) = W at *
  refine (rmatrix_any (H.out.below HB0.out)).mono ?_
  rintro e w1 ⟨mv, rfl, hl, hb⟩
  have HBA := Lib.hid (HB0.out.trans (hb.mono HB0.out.size))
  have HMM := Lib.hid (show (matI I).length ≤ 1000 ∧ (∀ i, i < (matI I).length → ((matI I).getD i []).length = (matI I).length) ∧ ∀ k, k < (matI I).length → nearK (matI I) (k + 1) = nearK (matI I) k ++ [leastL ((colL (matI I) k).eraseIdx k)] by
    unfold matI
    split
    · next hm =>
      have := (pmay_len hm).2
      rw [matF_len]
      exact ⟨by omega, fun i hi => by rw [matF_at _ _ hi, rowF_len], fun k hk => nearK_col _ _ hk⟩
    · exact ⟨by simp, fun i hi => by simp at hi, fun i hi => by simp at hi⟩)
  obtain ⟨M, hME⟩ : ∃ M, matI I = M := ⟨_, rfl⟩
  rw [hME] at HMM hl
  have HME := Lib.hid hME
  clear hME
  obtain ⟨ma, mc, rfl⟩ := hl.shape
  have HL := Lib.hid hl.is
  have hm1 : M.length ≤ 9223372036854775807 := by have := HMM.out.1; omega
  clear hb hl
  go_wp2_with fail
  go_loopw [4, 5] (fun u i wr => ∃ k : Nat, k ≤ M.length ∧ i = .int .i64 k ∧ OwnI wr w1.heap.size u (nearK M k) ∧ Below w1.heap.size w1 wr) (fun _ i _ => M.length - (intOf i).toNat)
  case atStart => exact ⟨0, Nat.zero_le _, rfl, ownI_nil _ _, Below.refl _ _⟩
  case round =>
    obtain ⟨k, hk, rfl, hon, hbw⟩ := hrel
    have HON := Lib.hid hon
    have HBW := Lib.hid hbw
    clear hon hbw
    by_cases hlt : k < M.length
    · have HNX := Lib.hid (HMM.out.2.2 k hlt)
      have hyl : (nearK M k).length ≤ 1000000 := by rw [nearK_len]; have := HMM.out.1; omega
      have hcl := colL_len M k
      have HCA := Lib.hid (colL_at M k)
      generalize nearK M k = ys at *
      generalize colL M k = c at *
      have HCL := Lib.hid hcl
      have hltT : (k : Int) < (M.length : Int) := by omega
      obtain ⟨wo, hwo⟩ : ∃ wo, wo = wr := ⟨_, rfl⟩
      subst hwo
      clear hcl
      go_wp2_with fail
      go_loopw [6, 7] (fun m j wk => ∃ i : Nat, i ≤ M.length ∧ j = .int .i64 i ∧ m = .int .i64 (leastL (seen c i k)) ∧ Below wo.heap.size wo wk) (fun _ j _ => M.length - (intOf j).toNat)
      case atStart => exact ⟨0, Nat.zero_le _, rfl, by rw [seen_none c 0 k (Nat.zero_le _) (.inl rfl)]; rfl, Below.refl _ _⟩
      case round =>
        obtain ⟨i, hi, rfl, rfl, hbk⟩ := hrel
        have HBK := Lib.hid hbk
        have HBx := Lib.hid (HBW.out.trans (hbk.mono HBW.out.size))
        clear hbk
        by_cases hil : i < M.length
        · obtain ⟨ta, oa, a1, n1, c1, rfl, hta, ca, hn1, hx1, r1⟩ := ll_at (HL.out.below HBx.out) i hil
          have hlr := HMM.out.2.1 i hil
          have HX := Lib.hid (HCA.out i hil)
          generalize M.getD i [] = r at *
          obtain ⟨b, off, he, hcell, _⟩ := row_cell r1 k (by rw [ints_len]; omega)
          subst he
          rw [ints_at _ _ (by omega)] at hcell
          obtain ⟨x, hx⟩ : ∃ x, r.getD k 0 = x := ⟨_, rfl⟩
          rw [hx] at hcell HX
          have hn2 : n1 = M.length := by omega
          subst hn2
          have HIK := Lib.hid hlt
          clear hx hlr hn1 hx1 r1
          obtain ⟨m, hmm⟩ : ∃ m, leastL (seen c i k) = m := ⟨_, rfl⟩
          have HCI := Lib.hid (show i < c.length by rw [HCL.out]; exact hil)
          by_cases ek : i = k
          · have HS := Lib.hid (show leastL (seen c (i + 1) k) = m by rw [← hmm]; subst ek; rw [seen_skip c i HCI.out])
            have p1 : ((i : Int) != (k : Int)) = false := by simp [ek]
            rw [hmm]
            clear ek hmm
            go_wp2
            go_roundw
            case rel => exact ⟨i + 1, by omega, by go_num, by rw [HS.out], HBK.out⟩
            case measure => simp [intOf]; omega
          have p1 : ((i : Int) != (k : Int)) = true := by simp; omega
          by_cases e0 : i = 0
          · have HS := Lib.hid (show leastL (seen c (i + 1) k) = x by rw [least_first c i k HCI.out ek (.inl e0)]; exact HX.out)
            have p2 : ((i : Int) == 0) = true := by simp [e0]
            rw [hmm]
            clear ek hmm e0
            go_wp2
            go_roundw
            case rel => exact ⟨i + 1, by omega, by go_num, by rw [HS.out], HBK.out⟩
            case measure => simp [intOf]; omega
          have p2 : ((i : Int) == 0) = false := by simp [e0]
          by_cases e1 : k = 0 ∧ i = 1
          · have HS := Lib.hid (show leastL (seen c (i + 1) k) = x by rw [least_first c i k HCI.out ek (.inr e1)]; exact HX.out)
            have p3 : ((k : Int) == 0) = true := by simp [e1.1]
            have p4 : ((i : Int) == 1) = true := by simp [e1.2]
            rw [hmm]
            clear ek hmm e0 e1
            go_wp2
            go_roundw
            case rel => exact ⟨i + 1, by omega, by go_num, by rw [HS.out], HBK.out⟩
            case measure => simp [intOf]; omega
          have HMN := Lib.hid (show leastL (seen c (i + 1) k) = min m x by rw [least_more c i k HCI.out e0 (by omega) ek, hmm, HX.out])
          by_cases e2 : x < m
          · have HS := Lib.hid (show leastL (seen c (i + 1) k) = x by rw [HMN.out]; omega)
            have p5 : decide (x < m) = true := decide_eq_true e2
            rw [hmm]
            by_cases e3 : k = 0
            · have p3 : ((k : Int) == 0) = true := by simp [e3]
              have p4 : ((i : Int) == 1) = false := by simp; omega
              clear ek hmm e0 e1 e2 e3
              go_wp2
              go_roundw
              case rel => exact ⟨i + 1, by omega, by go_num, by rw [HS.out], HBK.out⟩
              case measure => simp [intOf]; omega
            · have p3 : ((k : Int) == 0) = false := by simp [e3]
              clear ek hmm e0 e1 e2 e3
              go_wp2
              go_roundw
              case rel => exact ⟨i + 1, by omega, by go_num, by rw [HS.out], HBK.out⟩
              case measure => simp [intOf]; omega
          · have HS := Lib.hid (show leastL (seen c (i + 1) k) = m by rw [HMN.out]; omega)
            have p5 : decide (x < m) = false := decide_eq_false e2
            rw [hmm]
            by_cases e3 : k = 0
            · have p3 : ((k : Int) == 0) = true := by simp [e3]
              have p4 : ((i : Int) == 1) = false := by simp; omega
              clear ek hmm e0 e1 e2 e3
              go_wp2
              go_roundw
              case rel => exact ⟨i + 1, by omega, by go_num, by rw [HS.out], HBK.out⟩
              case measure => simp [intOf]; omega
            · have p3 : ((k : Int) == 0) = false := by simp [e3]
              clear ek hmm e0 e1 e2 e3
              go_wp2
              go_roundw
              case rel => exact ⟨i + 1, by omega, by go_num, by rw [HS.out], HBK.out⟩
              case measure => simp [intOf]; omega
        · obtain rfl : i = M.length := by omega
          have HS := Lib.hid (show leastL (seen c M.length k) = leastL (c.eraseIdx k) by rw [← HCL.out, seen_all])
          rw [HS.out]
          generalize leastL (c.eraseIdx k) = x at *
          have HOx := Lib.hid (HON.out.below HBK.out)
          obtain ⟨ua, uc, rfl⟩ := HOx.out.shape
          clear hil hi
          go_wp2_with (first | (at_builtin; refine app_ints rfl _ _ rfl w1.heap.size _ ys rfl (HOx.out.alloc _) _ [x] rfl (row_newi _ _) (by simp; omega) (by have := HBx.out.size; simp; omega) ?_))
          intro v' w' hown hgrow _
          have HN := Lib.hid hown
          have HBN := Lib.hid (HBx.out.trans (grown_below (grown_alloc hgrow) HBx.out.size (fun q hq => (World.ownsRow.lt HOx.out q hq).1)))
          clear hown hgrow
          go_wp2
          go_roundw
          case rel => exact ⟨k + 1, by omega, by go_num, by rw [HNX.out]; exact HN.out, HBN.out⟩
          case measure => simp [intOf]; omega
    · obtain rfl : k = M.length := by omega
      clear hlt hk
      go_wp2
      go_ret
      exact ⟨_, rfl, by rw [HME.out]; exact HON.out.less HBA.out.size, HBA.out.trans (HBW.out.mono HBA.out.size)⟩
end Go.Proofs.Ytpgbbnmflnhlbaa
