/- What the document's many and Cost answer. -/
import Derived.Test.YtpdeffpmfbplnaaDoorXVD
import Derived.Test.YtpdeffpmfbplnaaDoorTRef
namespace Go.Proofs.YtpdeffpmfbplnaaDoor
open Go.ChangeShapes Go.WideShapes Go.ChangeAt Go.RowKit

theorem worldP_facts (w : World) (u : Value) : (w.alloc (boxP u)).heap[w.heap.size]? = some (.cells #[u] 27 (0, 0)) ∧ (w.alloc (boxP u)).cell? ⟨w.heap.size, 0, none⟩ = some u ∧ Below w.heap.size w (w.alloc (boxP u)) := by
  have h1 := heap_alloc_new w (boxP u)
  exact ⟨h1, by rw [cell_of_row _ _ _ _ _ _ h1]; rfl, (Below.refl w.heap.size w).alloc (Nat.le_refl _) _⟩
theorem count_le (i : Int) (A Z L : List Int) (h : L = A ++ Z) : A.count i ≤ L.length := by
  have := List.count_le_length (a := i) (l := A)
  rw [h, List.length_append]; omega
set_option maxRecDepth 1000000 in
set_option maxHeartbeats 4000000 in
theorem many_any {w : World} {u : Value} {L : List (List Int)} (i : Int) (hr : IsLL w u L) (hlen : L.flatten.length ≤ 1000000) :
    Calls Tryd.prog 31 #[planV u, .int .i64 i] w fun e w' => e = .returned (.int .i64 ((L.flatten.count i : Nat) : Int)) ∧ Below w.heap.size w w' := by
  obtain ⟨la, lc, rfl, hlm⟩ := hr.form
  have hlm1 : L.length ≤ 9223372036854775807 := by unfold maxLen at hlm; omega
  obtain ⟨_, hx, hb⟩ := worldP_facts w (.slice la L.length lc)
  have H := Lib.hid (hr.below hb)
  have HB := Lib.hid hb
  clear hr hlm hb
  unfold planV
  go_enter Tryd.func31, Tryd.ntmps31
  go_upto_region 1 with fail
  change Code.wp _ _ _ _ (w.alloc (boxP (.slice la L.length lc)))
  generalize w.alloc (boxP (.slice la L.length lc)) = W at *
  go_wp2_with fail
  go_loop [5, 6] (fun c k => ∃ (n : Nat), n ≤ L.length ∧ k = .int .i64 n ∧ c = .int .i64 (((L.take n).flatten.count i : Nat) : Int)) (fun _ k => L.length - (intOf k).toNat)
  case atStart => exact ⟨0, Nat.zero_le _, rfl, by simp⟩
  case round =>
    obtain ⟨n, hn, rfl, rfl⟩ := hrel
    by_cases hlt : n < L.length
    · have hlt2 : (n : Int) < (L.length : Int) := by omega
      obtain ⟨tb, off, a1, n1, c1, rfl, htb, hc, hn1, hm1, hrow⟩ := ll_at H.out n hlt
      have HRow := Lib.hid hrow
      have HT := Lib.hid (take_getD hlt)
      have HP := Lib.hid (fun j => pre_flat L n j hlt)
      generalize L.getD n [] = l at *
      subst hn1
      have hm2 : l.length ≤ 9223372036854775807 := by unfold maxLen at hm1; omega
      clear hm1 hrow htb
      go_wp2_with fail
      go_loop [5, 7] (fun c k => ∃ (j : Nat), j ≤ l.length ∧ k = .int .i64 j ∧ c = .int .i64 ((((L.take n).flatten ++ l.take j).count i : Nat) : Int)) (fun _ k => l.length - (intOf k).toNat)
      case atStart => exact ⟨0, Nat.zero_le _, rfl, by simp⟩
      case round =>
        obtain ⟨j, hj, rfl, rfl⟩ := hrel
        by_cases hjl : j < l.length
        · have hjl2 : (j : Int) < (l.length : Int) := by omega
          obtain ⟨rb, ro, rc, he, hcell, _, _⟩ := row_at (p := j) HRow.out (by rw [ints_len]; exact hjl)
          rw [ints_at l j hjl] at hcell
          simp only [ints_len, Value.slice.injEq, true_and] at he
          obtain ⟨rfl, rfl⟩ := he
          have htj : l.take (j + 1) = l.take j ++ [l.getD j 0] := take_snoc hjl
          obtain ⟨Z, hZ⟩ := HP.out j
          have hcb := count_le i _ _ _ hZ
          have HTJ := Lib.hid htj
          generalize hcv : (((L.take n).flatten ++ l.take j).count i) = cv at *
          have HCV := Lib.hid hcv
          have hcb2 : cv ≤ 1000000 := by omega
          generalize l.getD j 0 = x at *
          clear hZ htj hcv hcb
          by_cases hxi : x = i
          · have hxb : (x == i) = true := by simpa using hxi
            have HXI := Lib.hid hxi
            clear hxi
            have e1 : IntKind.i64.wrap ((cv : Int) + 1) = (cv : Int) + 1 := IntWalk.i64_in _ (by omega)
            go_wp2
            go_round
            case rel => exact ⟨j + 1, by omega, by go_num, by rw [HTJ.out, ← List.append_assoc, List.count_append, HCV.out, HXI.out]; simp⟩
            case measure => simp [intOf]; omega
          · have hxb : (x == i) = false := by simpa using hxi
            have HXI := Lib.hid hxi
            clear hxi
            go_wp2
            go_round
            case rel => exact ⟨j + 1, by omega, by go_num, by rw [HTJ.out, ← List.append_assoc, List.count_append, HCV.out, List.count_eq_zero.2 (by simpa using fun e => HXI.out e.symm)]; rfl⟩
            case measure => simp [intOf]; omega
        · obtain rfl : j = l.length := by omega
          have hjl2 : ¬ (l.length : Int) < (l.length : Int) := by omega
          go_wp2_with fail
          go_round
          case rel => exact ⟨n + 1, by omega, by go_num, by rw [HT.out, flat_snoc, List.take_length]⟩
          case measure => simp [intOf]; omega
    · obtain rfl : n = L.length := by omega
      have hl2 : ¬ (L.length : Int) < (L.length : Int) := by omega
      go_wp2
      go_ret
      exact ⟨rfl, HB.out⟩
/-- Who is told twice. -/
theorem tog_twice {p : Int} {D : List Int} {i : Int} (h : 1 < D.count i) : togE p D = 5 := togE_twice (fun hn => by have := List.nodup_iff_count.1 hn i; omega)
theorem tog_once {D : List Int} {n : Nat} (hr : ∀ i ∈ D, 1 ≤ i ∧ i ≤ (n : Int)) (h : ∀ i : Int, 1 ≤ i → i ≤ n → ¬ 1 < D.count i) : D.Nodup := by
  rw [List.nodup_iff_count]
  intro a
  by_cases ha : a ∈ D
  · have := hr a ha; have := h a this.1 this.2; omega
  · rw [List.count_eq_zero.2 ha]; omega
set_option maxRecDepth 1000000 in
set_option maxHeartbeats 4000000 in
theorem dcost_any {w : World} {v u : Value} {I : Ins} {L : List (List Int)} (hv : SRow w v I.l) (hr : IsLL w u L) (hfl : L.flatten.length ≤ 1000000) (hrl : ∀ l ∈ L, l.length ≤ 1000) :
    Calls Tryd.prog 13 #[insV I v, planV u] w fun e w' => e = .returned (.tuple #[.int .i64 (costN I L), .int .i64 (costE I L)]) ∧ Below w.heap.size w w' := by
  have H := Lib.hid hr
  have HV := Lib.hid hv
  have HRL := Lib.hid (show ∀ k, k < L.length → (L.getD k []).length ≤ 1000 from fun k hk => by
    rw [List.getD_eq_getElem?_getD, List.getElem?_eq_getElem hk]; exact hrl _ (List.getElem_mem hk))
  obtain ⟨ad, cap, rfl, _⟩ := hv.form
  obtain ⟨la, lc, rfl, hlm⟩ := hr.form
  have hlm1 : L.length ≤ 9223372036854775807 := by unfold maxLen at hlm; omega
  obtain ⟨hy, hx, hb, hsz⟩ := worldC_facts w I (.slice ad I.l.length cap) (.slice la L.length lc)
  have HY := Lib.hid hy
  have HX := Lib.hid hx
  have HB := Lib.hid hb
  have HSZ := Lib.hid hsz
  obtain ⟨c0, c1, c2, c3⟩ := hy.cells
  clear hr hv hlm hy hx hb hsz hrl
  unfold insV planV
  go_enter Tryd.func13, Tryd.ntmps13
  go_upto_region 1 with fail
  change Code.wp _ _ _ _ (worldC w I (.slice ad I.l.length cap) (.slice la L.length lc))
  generalize worldC w I (.slice ad I.l.length cap) (.slice la L.length lc) = W at *
  go_wp2_with fail
  change Calls _ _ #[insV I (.slice ad I.l.length cap)] _ _
  refine (rmay_any (HV.out.below HB.out)).mono ?_
  rintro e w1 ⟨rfl, hb⟩
  have HB1 := Lib.hid (HB.out.trans (hb.mono HB.out.size))
  have HY1 := Lib.hid (HY.out.later hb)
  have HX1 := Lib.hid (show w1.heap[w.heap.size + 1]? = some (.cells #[.slice la L.length lc] 27 (0, 0)) by rw [hb.block _ (by have := HSZ.out; omega)]; exact HX.out)
  have HSZ1 := Lib.hid (show w.heap.size + 2 ≤ w1.heap.size by have := HSZ.out; have := hb.size; omega)
  clear hb c0 c1 c2 c3
  cases hmay : mayB I with
  | false =>
    have HE := Lib.hid (show costE I L = 1 by unfold costE; rw [if_pos hmay])
    have HN := Lib.hid (show costN I L = 0 by unfold costN; rw [if_neg (by rw [HE.out]; simp)])
    go_wp2
    refine bodyPost_ret (v := .tuple #[.int .i64 0, .int .i64 1]) (by simp [results, Tryd.results13, go_sem]) rfl ?_
    exact ⟨by rw [HE.out, HN.out], HB1.out⟩
  | true =>
    have HMAY := Lib.hid hmay
    have HFI := Lib.hid (fine_of hmay)
    have HCC := Lib.hid ((inb_iff _ _ _).1 ((may_iff I).1 hmay).2.1)
    clear hmay
    obtain ⟨c0, c1, c2, c3⟩ := HY1.out.cells
    have x0 : w1.cell? ⟨w.heap.size + 1, 0, none⟩ = some (.slice la L.length lc) := by rw [cell_of_row w1 _ 0 _ _ _ HX1.out]; rfl
    by_cases hc : I.c < L.length
    · have HE := Lib.hid (show costE I L = 6 by unfold costE; rw [if_neg (by rw [HMAY.out]; simp), if_pos hc])
      have HN := Lib.hid (show costN I L = 0 by unfold costN; rw [if_neg (by rw [HE.out]; simp)])
      go_wp2
      refine bodyPost_ret (v := .tuple #[.int .i64 0, .int .i64 6]) (by simp [results, Tryd.results13, go_sem]) rfl ?_
      exact ⟨by rw [HE.out, HN.out], HB1.out⟩
    · have HC := Lib.hid hc
      go_wp2_with fail
      clear c0 c1 c2 c3 x0
      go_loopw [7, 8] (fun cs i wr => ∃ (k : Nat), k ≤ L.length ∧ i = .int .i64 k ∧ cs = .int .i64 (farS I (L.take k)) ∧ firstE I (L.take k) = 0 ∧ Below w.heap.size w wr ∧ Below (w.heap.size + 2) w1 wr) (fun _ i _ => L.length - (intOf i).toNat)
      case atStart => exact ⟨0, Nat.zero_le _, rfl, rfl, rfl, HB1.out, Below.refl _ _⟩
      case round =>
        obtain ⟨k, hk, rfl, rfl, hfe, hbw, hbw1⟩ := hrel
        have HFE := Lib.hid hfe
        have HBW := Lib.hid hbw
        have HBW1 := Lib.hid hbw1
        have HYr := Lib.hid (HY1.out.below (M := w.heap.size + 2) (by omega) hbw1)
        have HXr := Lib.hid (show wr.heap[w.heap.size + 1]? = some (.cells #[.slice la L.length lc] 27 (0, 0)) by rw [hbw1.block _ (by omega)]; exact HX1.out)
        have hszr : w.heap.size + 2 ≤ wr.heap.size := by have := HSZ1.out; have := hbw1.size; omega
        have hk8 : L.length ≤ 8 := by have := HC.out; have := HCC.out; omega
        have hfb := farS_bds _ hfe
        have hkl : (L.take k).length ≤ 8 := by rw [List.length_take]; omega
        obtain ⟨c0, c1, c2, c3⟩ := HYr.out.cells
        have x0 : wr.cell? ⟨w.heap.size + 1, 0, none⟩ = some (.slice la L.length lc) := by rw [cell_of_row wr _ 0 _ _ _ HXr.out]; rfl
        by_cases hlt : k < L.length
        · have hlt2 : (k : Int) < (L.length : Int) := by omega
          obtain ⟨tb, off, a1, n1, d1, rfl, htb, hcw, hn1, hm1, hrow⟩ := ll_at H.out k hlt
          have hcl := (hbw.cell (p := ⟨tb, off + k, none⟩) htb).trans hcw
          have HRow := Lib.hid (hrow.below hbw)
          have HLl := Lib.hid (HRL.out k hlt)
          have HT := Lib.hid (take_getD hlt)
          have HS := Lib.hid (show firstE I (L.take (k + 1)) ≠ 0 → firstE I L = firstE I (L.take (k + 1)) from fun h => by
            have := firstE_stays I (L.drop (k + 1)) (L.take (k + 1)) h
            rwa [List.take_append_drop] at this)
          generalize L.getD k [] = l at *
          subst hn1
          have htr : tb < wr.heap.size := by have := hbw.size; omega
          clear hfe hbw hbw1 hcw hm1 hrow htb
          by_cases hle : l = []
          · have hl0 : (l.length : Int) = 0 := by rw [hle]; rfl
            have h1 : errR I l = 1 := by unfold errR; rw [if_pos hle]
            have HE := Lib.hid (show costE I L = 1 by
              have h2 : firstE I (L.take (k + 1)) = 1 := by rw [HT.out, firstE_snoc, if_pos HFE.out, h1]
              have h3 := HS.out (by rw [h2]; simp)
              unfold costE
              rw [if_neg (by rw [HMAY.out]; simp), if_neg (by have := HC.out; omega), h3, h2, if_pos (by simp)])
            have HN := Lib.hid (show costN I L = 0 by unfold costN; rw [if_neg (by rw [HE.out]; simp)])
            go_wp2
            refine bodyPost_ret (v := .tuple #[.int .i64 0, .int .i64 1]) (by simp [results, Tryd.results13, go_sem]) rfl ?_
            exact ⟨by rw [HE.out, HN.out], HBW.out⟩
          · have hl0 : ¬ (l.length : Int) = 0 := by have := List.length_pos_iff.2 hle; omega
            have HER := Lib.hid (show errR I l = errT I l by unfold errR; rw [if_neg hle])
            go_wp2_with fail
            have HS0 := Lib.hid (show Holds (cellsI w.heap.size I (.slice ad I.l.length cap) ++ [(⟨w.heap.size + 1, 0, none⟩, .slice (some ⟨tb, off, none⟩) L.length lc), (⟨tb, off + k, none⟩, .slice a1 l.length d1)]) wr.drew from Holds.app.2 ⟨⟨c0, c1, c2, c3, trivial⟩, x0, hcl, trivial⟩)
            have hlt := Lib.hid (show Lows wr.drew.heap.size (cellsI w.heap.size I (.slice ad I.l.length cap) ++ [(⟨w.heap.size + 1, 0, none⟩, .slice (some ⟨tb, off, none⟩) L.length lc), (⟨tb, off + k, none⟩, .slice a1 l.length d1)]) from ⟨by show w.heap.size < wr.heap.size; omega, by show w.heap.size < wr.heap.size; omega, by show w.heap.size < wr.heap.size; omega, by show w.heap.size < wr.heap.size; omega, by show w.heap.size + 1 < wr.heap.size; omega, htr, trivial⟩)
            clear c0 c1 c2 c3 x0 hcl
            refine wp_region_held_drew (S := Holds (cellsI w.heap.size I (.slice ad I.l.length cap) ++ [(⟨w.heap.size + 1, 0, none⟩, .slice (some ⟨tb, off, none⟩) L.length lc), (⟨tb, off + k, none⟩, .slice a1 l.length d1)])) (by kernel_rfl) HS0.out (fun hSn => ?_)
            have Bc := Lib.hid (Below.refl wr.drew.heap.size wr.drew)
            simp only [cellsI, List.cons_append, List.nil_append] at HS0 hlt hSn ⊢
            refine tks [0, 1, 2, 3, 4, 5] 6 rfl (by kernel_rfl) (fun _ _ _ _ h => h) (by assumption) (fun KT hKT => ?_)
            iterate 6 (refine tkT (by (simp only [gA, gB, gC]; rfl)) (by rfl) (by (intro w hSw; (simp only [Holds] at hSw); go_simp <;> with_reducible rfl)) ?_; simp only [Act.put, pA, pB, pC])
            refine hKT _ ?_
            clear KT hKT
            refine wpAnyH_ready (rs := [6]) (by kernel_rfl) (by simp) ?_
            refine AllReadyH.cons (o := ?oz159) ?iz159 (fun K hK => ?kz159) AllReadyH.nil
            case iz159 => (simp only [List.getElem?_toArray, List.getElem?_cons_zero, List.getElem?_cons_succ]; rfl)
            go_simp
            change Calls _ _ #[insV I (.slice ad I.l.length cap), _] _ _
            refine (rtimes_any ((HV.out.below HBW.out).below ((Below.refl wr.heap.size wr).drew.trans Bc.out)) (HRow.out.below ((Below.refl wr.heap.size wr).drew.trans Bc.out)) HLl.out).mono ?_
            rintro e w2 ⟨tu, rfl, _, hb⟩
            refine held_more hK HS0.out hlt (Bc.out.trans (hb.mono Bc.out.size)) (fun Bc hSn => ?_)
            clear hb hK
            refine tks [7, 8, 9, 10, 11, 12, 13] 7 rfl (by kernel_rfl) (fun _ _ _ _ h => h) (by assumption) (fun KT hKT => ?_)
            iterate 7 (refine tkT (by (simp only [gA, gB, gC]; rfl)) (by rfl) (by (intro w hSw; (simp only [Holds] at hSw); go_simp <;> with_reducible rfl)) ?_; simp only [Act.put, pA, pB, pC])
            refine hKT _ ?_
            clear KT hKT
            refine wpAnyH_done (by kernel_rfl) ?_ _
            have HB2 := Lib.hid (HBW.out.trans (((Below.refl wr.heap.size wr).drew.trans Bc.out).mono HBW.out.size))
            have HB21 := Lib.hid (HBW1.out.trans (((Below.refl wr.heap.size wr).drew.trans Bc.out).mono hszr))
            clear HS0 hlt hSn Bc
            rw [← HER.out]
            by_cases he : errR I l = 0
            · have hfb2 := far_bds (errR_zero he).2
              rw [he]
              have e2 : IntKind.i64.wrap (farS I (L.take k) + farT I l) = farS I (L.take k) + farT I l := IntWalk.i64_in _ (by omega)
              have HE1 := Lib.hid he
              clear he
              go_wp2_with fail
              go_roundw
              case rel => exact ⟨k + 1, by omega, by go_num, by rw [HT.out, farS_snoc], by rw [HT.out, firstE_snoc, if_pos HFE.out]; exact HE1.out, HB2.out, HB21.out⟩
              case measure => simp [intOf]; omega
            · have HE1 := Lib.hid (show firstE I L = errR I l by
                have h1 : firstE I (L.take (k + 1)) = errR I l := by rw [HT.out, firstE_snoc, if_pos HFE.out]
                rw [HS.out (by rw [h1]; exact he), h1])
              have HE := Lib.hid (show costE I L = errR I l by unfold costE; rw [if_neg (by rw [HMAY.out]; simp), if_neg (by have := HC.out; omega), HE1.out, if_pos he])
              have HN := Lib.hid (show costN I L = 0 by unfold costN; rw [if_neg (by rw [HE.out]; exact he)])
              generalize errR I l = er at *
              have heb : (er != 0) = true := by simpa using he
              go_wp2
              refine bodyPost_ret (v := .tuple #[.int .i64 0, .int .i64 er]) (by simp [results, Tryd.results13, go_sem]) rfl ?_
              exact ⟨by rw [HE.out, HN.out], HB2.out⟩
        · obtain rfl : k = L.length := by omega
          have hl2 : ¬ (L.length : Int) < (L.length : Int) := by omega
          have HF := Lib.hid (show firstE I L = 0 by have := HFE.out; rwa [List.take_length] at this)
          have HE := Lib.hid (costE_of HMAY.out (by have := HC.out; omega) HF.out)
          have HG := Lib.hid (flat_rng HF.out)
          obtain ⟨pn, hpn⟩ : ∃ pn : Nat, (pn : Int) = I.p := ⟨I.p.toNat, by have := HFI.out.p0; omega⟩
          have HPN := Lib.hid hpn
          have hp16 : pn ≤ 16 := by have := HFI.out.p1; omega
          clear hfe hbw hbw1 hpn c0 c1 c2 c3
          go_wp2_with fail
          clear x0
          obtain ⟨wo, hwo⟩ : ∃ wo, wo = wr := ⟨_, rfl⟩
          subst hwo
          go_loopw [12] (fun i wr => ∃ (j : Nat), 1 ≤ j ∧ j ≤ 2 * pn + 1 ∧ i = .int .i64 j ∧ (∀ x : Int, 1 ≤ x → x < j → ¬ 1 < L.flatten.count x) ∧ Below w.heap.size w wr ∧ Below (w.heap.size + 2) w1 wr) (fun i _ => 100 - (intOf i).toNat)
          case atStart => exact ⟨1, by omega, by omega, rfl, fun x h1 h2 => by omega, HBW.out, HBW1.out⟩
          case round =>
            obtain ⟨j, hj1, hj2, rfl, hall, hbw, hbw1⟩ := hrel
            have HBW2 := Lib.hid hbw
            have HBW12 := Lib.hid hbw1
            have HALL := Lib.hid hall
            have HYr2 := Lib.hid (HY1.out.below (M := w.heap.size + 2) (by omega) hbw1)
            have HXr2 := Lib.hid (show wr.heap[w.heap.size + 1]? = some (.cells #[.slice la L.length lc] 27 (0, 0)) by rw [hbw1.block _ (by omega)]; exact HX1.out)
            obtain ⟨c0, c1, c2, c3⟩ := HYr2.out.cells
            have x0 : wr.cell? ⟨w.heap.size + 1, 0, none⟩ = some (.slice la L.length lc) := by rw [cell_of_row wr _ 0 _ _ _ HXr2.out]; rfl
            have e1 : IntKind.i64.wrap (2 * I.p) = 2 * I.p := by have := HPN.out; exact IntWalk.i64_in _ (by omega)
            clear hall hbw hbw1
            by_cases hj : j ≤ 2 * pn
            · have hj3 : (j : Int) ≤ 2 * I.p := by have := HPN.out; omega
              have HM := Lib.hid (many_any (w := wr) (j : Int) (H.out.below HBW2.out) hfl)
              go_wp2_with fail
              change Calls _ _ #[planV (.slice la L.length lc), _] _ _
              refine HM.out.mono ?_
              rintro e w2 ⟨rfl, hb⟩
              have HB2 := Lib.hid (HBW2.out.trans (hb.mono HBW2.out.size))
              have HB21 := Lib.hid (HBW12.out.trans (hb.mono (by have := HBW12.out.size; have := HSZ1.out; omega)))
              obtain ⟨cn, hcn⟩ : ∃ cn, L.flatten.count (j : Int) = cn := ⟨_, rfl⟩
              rw [hcn]
              have HCN := Lib.hid hcn
              clear hb hcn HM c0 c1 c2 c3 x0
              by_cases hc1 : 1 < cn
              · have hc2 : (1 : Int) < (cn : Int) := by omega
                have HE5 := Lib.hid (show costE I L = 5 by rw [HE.out]; exact tog_twice (i := (j : Int)) (by rw [HCN.out]; exact hc1))
                have HN := Lib.hid (show costN I L = 0 by unfold costN; rw [if_neg (by rw [HE5.out]; simp)])
                go_wp2
                refine bodyPost_ret (v := .tuple #[.int .i64 0, .int .i64 5]) (by simp [results, Tryd.results13, go_sem]) rfl ?_
                exact ⟨by rw [HE5.out, HN.out], HB2.out⟩
              · have hc2 : ¬ (1 : Int) < (cn : Int) := by omega
                go_wp2_with fail
                go_roundw
                case rel => exact ⟨j + 1, by omega, by omega, by go_num, fun x h1 h2 => by
                  by_cases hx : x = (j : Int)
                  · rw [hx, HCN.out]; exact hc1
                  · exact HALL.out x h1 (by omega), HB2.out, HB21.out⟩
                case measure => simp [intOf]; omega
            · have hj3 : ¬ (j : Int) ≤ 2 * I.p := by have := HPN.out; omega
              have HND := Lib.hid (show L.flatten.Nodup from tog_once (n := 2 * pn) (fun i hi => by have := HG.out i hi; have := HPN.out; omega) (fun i h1 h2 => HALL.out i h1 (by omega)))
              clear HALL
              go_wp2_with fail
              clear c0 c1 c2 c3 x0
              obtain ⟨wo2, hwo2⟩ : ∃ wo2, wo2 = wr := ⟨_, rfl⟩
              subst hwo2
              go_loopw [13] (fun i wr => ∃ (j : Nat), 1 ≤ j ∧ j ≤ 2 * pn + 1 ∧ i = .int .i64 j ∧ (∀ x : Int, 1 ≤ x → x < j → x ∈ L.flatten) ∧ Below w.heap.size w wr ∧ Below (w.heap.size + 2) w1 wr) (fun i _ => 100 - (intOf i).toNat)
              case atStart => exact ⟨1, by omega, by omega, rfl, fun x h1 h2 => by omega, HBW2.out, HBW12.out⟩
              case round =>
                obtain ⟨j, hj1, hj2, rfl, hall, hbw, hbw1⟩ := hrel
                have HBW3 := Lib.hid hbw
                have HBW13 := Lib.hid hbw1
                have HALL := Lib.hid hall
                have HYr3 := Lib.hid (HY1.out.below (M := w.heap.size + 2) (by omega) hbw1)
                have HXr3 := Lib.hid (show wr.heap[w.heap.size + 1]? = some (.cells #[.slice la L.length lc] 27 (0, 0)) by rw [hbw1.block _ (by omega)]; exact HX1.out)
                obtain ⟨c0, c1, c2, c3⟩ := HYr3.out.cells
                have x0 : wr.cell? ⟨w.heap.size + 1, 0, none⟩ = some (.slice la L.length lc) := by rw [cell_of_row wr _ 0 _ _ _ HXr3.out]; rfl
                clear hall hbw hbw1 hj hj3
                by_cases hj : j ≤ 2 * pn
                · have hj3 : (j : Int) ≤ 2 * I.p := by have := HPN.out; omega
                  have HM := Lib.hid (many_any (w := wr) (j : Int) (H.out.below HBW3.out) hfl)
                  go_wp2_with fail
                  change Calls _ _ #[planV (.slice la L.length lc), _] _ _
                  refine HM.out.mono ?_
                  rintro e w2 ⟨rfl, hb⟩
                  have HB2 := Lib.hid (HBW3.out.trans (hb.mono HBW3.out.size))
                  have HB21 := Lib.hid (HBW13.out.trans (hb.mono (by have := HBW13.out.size; have := HSZ1.out; omega)))
                  obtain ⟨cn, hcn⟩ : ∃ cn, L.flatten.count (j : Int) = cn := ⟨_, rfl⟩
                  rw [hcn]
                  have HCN := Lib.hid hcn
                  clear hb hcn HM c0 c1 c2 c3 x0
                  by_cases hc1 : cn = 0
                  · have HE4 := Lib.hid (show costE I L = 4 by
                      rw [HE.out]
                      refine togE_none HND.out ?_
                      have h1 := rng_miss (n := 2 * pn) HND.out (fun i hi => by have := HG.out i hi; have := HPN.out; omega) (i := (j : Int)) (by omega) (by omega) (List.count_eq_zero.1 (by rw [HCN.out]; exact hc1))
                      have := HPN.out
                      omega)
                    have HN := Lib.hid (show costN I L = 0 by unfold costN; rw [if_neg (by rw [HE4.out]; simp)])
                    subst hc1
                    go_wp2
                    refine bodyPost_ret (v := .tuple #[.int .i64 0, .int .i64 4]) (by simp [results, Tryd.results13, go_sem]) rfl ?_
                    exact ⟨by rw [HE4.out, HN.out], HB2.out⟩
                  · have hc2 : ((cn : Int) == 0) = false := by simp; exact hc1
                    have HIN := Lib.hid (show (j : Int) ∈ L.flatten from List.count_pos_iff.1 (by rw [HCN.out]; omega))
                    clear hc1
                    go_wp2_with fail
                    go_roundw
                    case rel => exact ⟨j + 1, by omega, by omega, by go_num, fun x h1 h2 => by
                      by_cases hx : x = (j : Int)
                      · rw [hx]; exact HIN.out
                      · exact HALL.out x h1 (by omega), HB2.out, HB21.out⟩
                    case measure => simp [intOf]; omega
                · have hj3 : ¬ (j : Int) ≤ 2 * I.p := by have := HPN.out; omega
                  have HE0 := Lib.hid (show costE I L = 0 by
                    rw [HE.out]
                    refine togE_ok HND.out ?_
                    have h1 := rng_full (n := 2 * pn) (D := L.flatten) (fun i h1 h2 => HALL.out i h1 (by omega))
                    have := HPN.out
                    omega)
                  have HN := Lib.hid (costN_ok HE0.out)
                  go_wp2
                  refine bodyPost_ret (v := .tuple #[.int .i64 (farS I L), .int .i64 0]) (by simp [results, Tryd.results13, go_sem]) rfl ?_
                  exact ⟨by rw [HE0.out, HN.out], HBW3.out⟩
end Go.Proofs.YtpdeffpmfbplnaaDoor
