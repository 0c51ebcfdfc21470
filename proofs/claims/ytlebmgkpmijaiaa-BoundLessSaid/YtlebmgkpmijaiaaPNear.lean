/- What plane's Near answers. -/
import Derived.Test.YtlebmgkpmijaiaaXPMat
namespace Go.Proofs.Ytlebmgkpmijaiaa
open Go.ChangeShapes Go.WideShapes Go.ChangeAt Go.RowKit

/-- Of each row the least, less the one at its own place. -/
def nearK (M : List (List Int)) (k : Nat) : List Int := (List.range k).map (fun i => leastL ((M.getD i []).eraseIdx i))
def nearM (M : List (List Int)) : List Int := nearK M M.length
theorem nearK_next (M : List (List Int)) (k : Nat) : nearK M (k + 1) = nearK M k ++ [leastL ((M.getD k []).eraseIdx k)] := by
  unfold nearK; rw [List.range_succ, List.map_append]; rfl
theorem nearK_len (M : List (List Int)) (k : Nat) : (nearK M k).length = k := by simp [nearK]
theorem erase_two (l : List Int) (k : Nat) : [l.take k, l.drop (k + 1)].flatten = l.eraseIdx k := by
  rw [List.eraseIdx_eq_take_drop_succ]; simp
/-- One number put behind numbers that a call has made, at a step of a drawn region. -/
theorem wp_app_int {w : World} {o : Oper} {a : Act} {K : Act → World → Prop} {Q : Exit → Act → World → Prop} (s x : Operand)
    (ho : o.op = .call { callee := .builtin .append, args := #[s, x], argTypes := #[28, 28] }) (B : Nat) (v : Value) (ys : List Int) (hs : a.eval s = v) (hown : OwnI w B v ys)
    (g : Nat) (n : Int) (hx : a.eval x = .slice (some ⟨g, 0, none⟩) 1 1) (hg : w.cell? ⟨g, 0, none⟩ = some (.int .i64 n)) (hlen : ys.length ≤ 1000000) (hB : B ≤ w.heap.size)
    (h : ∀ v' w', OwnI w' B v' (ys ++ [n]) → w.grownBy w' v.ownBlock → K (a.put o.dst v') w') : o.wp Try.prog a w K Q := by
  obtain ⟨i0, hi, hz0, hz1, hz2⟩ := info_parts infoInt
  refine wp_append_lies w s x 28 ho B 3 i0 _ 1 8 Try.underlying28 hi hz0 hz1 hz2 rfl (by decide) v ys.length (ints ys) hs hown ⟨g, 0, none⟩ 1 1 [.int .i64 n] hx rfl ?_ (by simp [Value.oneCell']) (by decide) (by unfold maxLen; omega) (by omega) hB _ rfl ?_
  · intro j u hj
    match j with
    | 0 => simp at hj; subst hj; rw [add_off]; exact hg
    | j + 1 => simp at hj
  · intro g' cap w' h1 h2 _ _
    refine h _ w' ?_ h2
    unfold OwnI
    rw [List.length_append, show ints (ys ++ [n]) = ints ys ++ [.int .i64 n] by simp [ints]]
    exact h1
set_option maxRecDepth 1000000 in
set_option maxHeartbeats 1000000 in
theorem near_any {w : World} {v : Value} {I : Ins} (h : SRow w v I.l) :
    Calls Try.prog 24 #[insV I v] w fun e w' => ∃ u, e = .returned u ∧ OwnI w' w.heap.size u (nearM (matI I)) ∧ Below w.heap.size w w' := by
  have H := Lib.hid h
  obtain ⟨ad, cap, rfl, hm, _⟩ := h.form
  clear h hm
  unfold insV
  go_enter Try.func24, Try.ntmps24
  go_wp2_with fail
  change Calls _ _ #[insV I (.slice ad I.l.length cap)] (w.alloc (boxI I (.slice ad I.l.length cap))) _
  have HB0 := Lib.hid ((Below.refl _ w).alloc (Nat.le_refl _) (boxI I (.slice ad I.l.length cap)))
  generalize w.alloc (boxI I (.slice ad I.l.length cap)) = W at *
  refine (matrix_any (H.out.below HB0.out)).mono ?_
  rintro e w1 ⟨mv, rfl, hl, hb⟩
  have HBA := Lib.hid (HB0.out.trans (hb.mono HB0.out.size))
  have HMM := Lib.hid (show (matI I).length ≤ 1000 ∧ ∀ i, i < (matI I).length → ((matI I).getD i []).length = (matI I).length by
    unfold matI
    split
    · next hm =>
      have := (pmay_len hm).2
      rw [matF_len]
      exact ⟨by omega, fun i hi => by rw [matF_at _ _ hi, rowF_len]⟩
    · exact ⟨by simp, fun i hi => by simp at hi⟩)
  obtain ⟨M, hME⟩ : ∃ M, matI I = M := ⟨_, rfl⟩
  rw [hME] at HMM hl
  have HME := Lib.hid hME
  clear hME
  obtain ⟨ma, mc, rfl⟩ := hl.shape
  have HL := Lib.hid hl.is
  have hm1 : M.length ≤ 9223372036854775807 := by have := HMM.out.1; omega
  clear hb hl
  go_wp2_with fail
  go_loopw [3, 9] (fun u i wr => ∃ k : Nat, k ≤ M.length ∧ i = .int .i64 k ∧ OwnI wr w1.heap.size u (nearK M k) ∧ Below w1.heap.size w1 wr) (fun _ i _ => M.length - (intOf i).toNat)
  case atStart => exact ⟨0, Nat.zero_le _, rfl, ownI_nil _ _, Below.refl _ _⟩
  case round =>
    obtain ⟨k, hk, rfl, hon, hbw⟩ := hrel
    have HON := Lib.hid hon
    have HBW := Lib.hid hbw
    clear hon hbw
    by_cases hlt : k < M.length
    · obtain ⟨ta, oa, a1, n1, c1, rfl, hta, ca, hn1, hx1, r1⟩ := ll_at (HL.out.below HBW.out) k hlt
      have HNX := Lib.hid (nearK_next M k)
      have hlr := HMM.out.2 k hlt
      have hM := HMM.out.1
      have hys := nearK_len M k
      generalize nearK M k = ys at *
      generalize M.getD k [] = r at *
      obtain ⟨b, off, he, _⟩ := row_cell r1 0 (by rw [ints_len]; omega)
      subst he
      have HR := Lib.hid r1
      have hn2 : n1 = M.length := by omega
      have hyl : ys.length ≤ 1000000 := by omega
      have hc1 : M.length ≤ c1 := by obtain ⟨_, _, _, hv, hc, _⟩ := r1; simp at hv; rw [ints_len] at hc; omega
      have ij1 : (k : Int) ≤ (c1 : Int) := by omega
      have ij2 : (k : Int) + 1 ≤ (M.length : Int) := by omega
      have ij3 : (0 : Int) ≤ (k : Int) + 1 := by omega
      have ij4 : (M.length : Int) ≤ (c1 : Int) := by omega
      have ij0 : IntKind.i64.wrap ((k : Int) + 1) = (k : Int) + 1 := IntWalk.i64_in _ (by omega)
      have ij5 : ((k : Int) + 1).toNat = k + 1 := by omega
      have HLR := Lib.hid hlr
      obtain ⟨ua, uc, rfl⟩ := HON.out.shape
      subst hn2
      clear r1 hx1 hn1 hlr hys hM
      go_wp2_with fail
      have HBD := Lib.hid (HBW.out.trans ((Below.refl _ wr).drew.mono HBW.out.size))
      refine wp_region_held_drew (S := Holds []) (by kernel_rfl) trivial (fun hSn => ?_)
      have HS0 := Lib.hid (show Holds [] wr.drew from trivial)
      have hlt0 := Lib.hid (show Lows wr.drew.heap.size [] from trivial)
      have hlt := hlt0
      have Bc := Lib.hid (Below.refl wr.drew.heap.size wr.drew)
      refine tks [0, 1, 2, 3, 4, 5, 6, 7] 8 rfl (by kernel_rfl) (fun _ _ _ _ h => h) (by assumption) (fun KT hKT => ?_)
      iterate 8 (refine tkT (by (simp only [gA, gB, gC]; rfl)) (by rfl) (by (intro w hSw; (simp only [Holds] at hSw); go_simp <;> with_reducible rfl)) ?_; simp only [Act.put, pA, pB, pC])
      refine hKT _ ?_
      clear KT hKT
      refine wpAnyH_ready (rs := [8]) (by kernel_rfl) (by simp) ?_
      refine AllReadyH.cons (o := ?oz1) ?iz1 (fun K hK => ?kz1) AllReadyH.nil
      case iz1 => (simp only [List.getElem?_toArray, List.getElem?_cons_zero, List.getElem?_cons_succ]; rfl)
      go_simp
      refine held_more hK HS0.out hlt (Bc.out.alloc Bc.out.size _) (fun Bc hSn => ?_)
      refine wpAnyH_ready (rs := [9]) (by kernel_rfl) (by simp) ?_
      refine AllReadyH.cons (o := ?oz2) ?iz2 (fun K hK => ?kz2) AllReadyH.nil
      case iz2 => (simp only [List.getElem?_toArray, List.getElem?_cons_zero, List.getElem?_cons_succ]; rfl)
      go_simp
      have HRd := Lib.hid (HR.out.below (((Below.refl _ wr).drew)))
      refine (concat_any (isLL_two _ _ _ (r.take k) (r.drop (k + 1)) (HRd.out.head k (by have := HLR.out; omega)) (by
        have := HRd.out.tail (k + 1) (by have := HLR.out; omega) _ rfl
        rw [HLR.out] at this
        exact this)) (by rw [erase_two]; have := List.length_eraseIdx_le r k; have := HLR.out; have := HMM.out.1; omega)).mono ?_
      rw [erase_two]
      rintro e w2 ⟨z, rfl, hz, hb⟩
      refine held_more hK HS0.out hlt (Bc.out.trans (hb.mono Bc.out.size)) (fun Bc hSn => ?_)
      have HZ := Lib.hid hz.row
      clear hb hz hK
      refine wpAnyH_ready (rs := [10]) (by kernel_rfl) (by simp) ?_
      refine AllReadyH.cons (o := ?oz3) ?iz3 (fun K hK => ?kz3) AllReadyH.nil
      case iz3 => (simp only [List.getElem?_toArray, List.getElem?_cons_zero, List.getElem?_cons_succ]; rfl)
      go_simp
      refine (least_any HZ.out).mono ?_
      rintro e w3 ⟨rfl, rfl⟩
      refine held_more hK HS0.out hlt Bc.out (fun Bc hSn => ?_)
      clear hK
      refine wpAnyH_ready (rs := [11]) (by kernel_rfl) (by simp) ?_
      refine AllReadyH.cons (o := ?oz4) ?iz4 (fun K hK => ?kz4) AllReadyH.nil
      case iz4 => (simp only [List.getElem?_toArray, List.getElem?_cons_zero, List.getElem?_cons_succ]; rfl)
      go_simp
      refine held_more hK HS0.out hlt (Bc.out.alloc Bc.out.size _) (fun Bc hSn => ?_)
      refine wpAnyH_ready (rs := [12]) (by kernel_rfl) (by simp) ?_
      refine (AllReadyH.cons (o := ?oz5) ?iz5 (fun K hK => ?kz5) AllReadyH.nil)
      case iz5 => (simp only [List.getElem?_toArray, List.getElem?_cons_zero, List.getElem?_cons_succ]; rfl)
      simp only [Act.put, List.setIfInBounds_toArray, List.set_cons_zero, List.set_cons_succ]
      rw [if_pos (by rfl)]
      have HBC := Lib.hid (HBD.out.trans (Bc.out.mono HBD.out.size))
      have HOC := Lib.hid ((HON.out.below ((Below.refl _ wr).drew)).below Bc.out)
      refine wp_app_int _ _ (by rfl) w1.heap.size _ ys (by rfl) HOC.out _ (leastL (r.eraseIdx k)) (by rfl) (by go_simp) hyl HBC.out.size ?_
      intro v' w5 hown hgrow
      have HN := Lib.hid hown
      have HB5 := Lib.hid (HBC.out.trans (grown_below hgrow HBC.out.size (fun q hq => (World.ownsRow.lt HOC.out q hq).1)))
      refine hK.out _ _ trivial (fun hSn => ?_)
      clear hown hgrow hK
      refine tks [13] 1 rfl (by kernel_rfl) (fun _ _ _ _ h => h) (by assumption) (fun KT hKT => ?_)
      refine tkT (by (simp only [gA, gB, gC]; rfl)) (by rfl) (by (intro w hSw; (simp only [Holds] at hSw); go_simp <;> with_reducible rfl)) ?_
      simp only [Act.put, pA, pB, pC]
      refine hKT _ ?_
      clear KT hKT
      refine wpAnyH_done (by kernel_rfl) ?_ _
      go_wp2
      go_roundw
      case rel => exact ⟨k + 1, by omega, by go_num, by rw [HNX.out]; exact HN.out, HB5.out⟩
      case measure => simp [intOf]; omega
    · obtain rfl : k = M.length := by omega
      clear hlt hk
      go_wp2
      go_ret
      exact ⟨_, rfl, by rw [HME.out]; exact HON.out.less HBA.out.size, HBA.out.trans (HBW.out.mono HBA.out.size)⟩
end Go.Proofs.Ytlebmgkpmijaiaa
