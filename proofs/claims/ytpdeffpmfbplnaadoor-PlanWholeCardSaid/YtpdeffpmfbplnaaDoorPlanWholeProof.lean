/- A plan that may be has each stop once, no more routes than cars, none of which is empty, and each of which may be; and costs what these go: for every instance and every plan (the law answers true at once for more than 100 stops, 40 routes, 100 stops of a route). -/
import Derived.Test.YtpdeffpmfbplnaaDoorRows
import Derived.Test.YtpdeffpmfbplnaaDoorTie
import Derived.Test.YtpdeffpmfbplnaaDoorCards
import Derived.Test.YtpdeffpmfbplnaaDoorXPrint
import Derived.SevenTiedAt
import Derived.Test.YtpdeffpmfbplnaaDoorVBools
namespace Go.Proofs.YtpdeffpmfbplnaaDoor.planWhole
open Go.ChangeShapes Go.WideShapes Go.ChangeAt Go.RowKit

theorem whole_len {I : Ins} {L : List (List Int)} (h : costE I L = 0) : (L.flatten.length : Int) = 2 * I.p := by
  obtain ⟨h1, _, h3, h4, h5⟩ := costE_ok h
  have hr := flat_rng h3
  have hp := (fine_of h1).p0
  have := rng_len (n := (2 * I.p).toNat) h4 (fun i hi => by have := hr i hi; omega)
  omega
set_option maxRecDepth 1000000 in
set_option maxHeartbeats 4000000 in
theorem walk (I0 : Ins) (v0 : Value) (v1 : Value) (l1 : List (List Int)) (w : World) (e0 : SRow w v0 I0.l) (e1 : IsLL w v1 l1) (hT : Tab w.heap.size w) :
    Calls Tryd.prog 7 #[insV I0 v0, planV v1] w fun e w' => e = .returned (.bool true) ∧ Below w.heap.size w w' := by
  have HT := Lib.hid hT
  have HE := Lib.hid e0
  have HP := Lib.hid e1
  obtain ⟨ad, cap, rfl, hm, _⟩ := e0.form
  obtain ⟨la, lc, rfl, hlm⟩ := e1.form
  have hm1 : I0.l.length ≤ 9223372036854775807 := by unfold maxLen at hm; omega
  have hlm1 : l1.length ≤ 9223372036854775807 := by unfold maxLen at hlm; omega
  obtain ⟨hy, hx, hb, hsz⟩ := worldC_facts w I0 (.slice ad I0.l.length cap) (.slice la l1.length lc)
  have HY := Lib.hid hy
  have HX := Lib.hid hx
  have HB := Lib.hid hb
  have HSZ := Lib.hid hsz
  clear hT e0 e1 hm hlm hy hx hb hsz
  unfold insV planV
  go_enter Tryd.func7, Tryd.ntmps7
  go_upto_region 1 with fail
  change Code.wp _ _ _ _ (worldC w I0 (.slice ad I0.l.length cap) (.slice la l1.length lc))
  generalize worldC w I0 (.slice ad I0.l.length cap) (.slice la l1.length lc) = W at *
  go_wp2_with fail
  refine (vawake_any ((HT.out.on HB.out).up HB.out.size)).mono ?_
  rintro e w1 ⟨rfl, hb⟩
  have HB1 := Lib.hid (HB.out.trans (hb.mono HB.out.size))
  have HY1 := Lib.hid (HY.out.later hb)
  have HX1 := Lib.hid (show w1.heap[w.heap.size + 1]? = some (.cells #[.slice la l1.length lc] 27 (0, 0)) by rw [hb.block _ (by have := HSZ.out; omega)]; exact HX.out)
  have HSZ1 := Lib.hid (show w.heap.size + 2 ≤ w1.heap.size by have := HSZ.out; have := hb.size; omega)
  have x0 : w1.cell? ⟨w.heap.size + 1, 0, none⟩ = some (.slice la l1.length lc) := by rw [cell_of_row w1 _ 0 _ _ _ HX1.out]; rfl
  clear hb
  go_wp2_with fail
  change Calls _ _ #[planV (.slice la l1.length lc)] _ _
  refine (vfew_any (HP.out.below HB1.out)).mono ?_
  rintro e w2 ⟨rfl, hb⟩
  have HB2 := Lib.hid (HB1.out.trans (hb.mono HB1.out.size))
  have HY2 := Lib.hid (HY1.out.later hb)
  have HX2 := Lib.hid (show w2.heap[w.heap.size + 1]? = some (.cells #[.slice la l1.length lc] 27 (0, 0)) by rw [hb.block _ (by have := HSZ1.out; omega)]; exact HX1.out)
  have HSZ2 := Lib.hid (show w.heap.size + 2 ≤ w2.heap.size by have := HSZ1.out; have := hb.size; omega)
  clear hb x0
  obtain ⟨c0, c1, c2, c3⟩ := HY2.out.cells
  have x0 : w2.cell? ⟨w.heap.size + 1, 0, none⟩ = some (.slice la l1.length lc) := by rw [cell_of_row w2 _ 0 _ _ _ HX2.out]; rfl
  obtain ⟨few, hfew⟩ : ∃ few, decide (FewP l1) = few := ⟨_, rfl⟩
  rw [hfew]
  clear hfew
  go_wp2_with fail
  change Calls _ _ #[insV I0 (.slice ad I0.l.length cap), planV (.slice la l1.length lc)] _ _
  refine (cost_any (HE.out.below HB2.out) (HP.out.below HB2.out)).mono ?_
  rintro e w3 ⟨rfl, hb⟩
  have HB3 := Lib.hid (HB2.out.trans (hb.mono HB2.out.size))
  have HY3 := Lib.hid (HY2.out.later hb)
  have HX3 := Lib.hid (show w3.heap[w.heap.size + 1]? = some (.cells #[.slice la l1.length lc] 27 (0, 0)) by rw [hb.block _ (by have := HSZ2.out; omega)]; exact HX2.out)
  have HSZ3 := Lib.hid (show w.heap.size + 2 ≤ w3.heap.size by have := HSZ2.out; have := hb.size; omega)
  clear hb x0 c0 c1 c2 c3
  obtain ⟨c0, c1, c2, c3⟩ := HY3.out.cells
  have x0 : w3.cell? ⟨w.heap.size + 1, 0, none⟩ = some (.slice la l1.length lc) := by rw [cell_of_row w3 _ 0 _ _ _ HX3.out]; rfl
  cases few with
  | false =>
    generalize costN I0 l1 = cn
    generalize costE I0 l1 = ce
    go_wp2
    go_ret
    exact ⟨rfl, HB3.out⟩
  | true =>
    by_cases hlen : 100 < I0.l.length
    · have hlen2 : (100 : Int) < (I0.l.length : Int) := by omega
      generalize costN I0 l1 = cn
      generalize costE I0 l1 = ce
      go_wp2
      go_ret
      exact ⟨rfl, HB3.out⟩
    · have hlen2 : ¬ (100 : Int) < (I0.l.length : Int) := by omega
      obtain ⟨ce, hce⟩ : ∃ ce, costE I0 l1 = ce := ⟨_, rfl⟩
      rw [hce]
      by_cases hce0 : ce = 0
      · have hc0 : costE I0 l1 = 0 := by rw [hce, hce0]
        have HC := Lib.hid (costE_ok hc0)
        have HN := Lib.hid (costN_ok hc0)
        have HWL := Lib.hid (whole_len hc0)
        have HFI := Lib.hid (fine_of (costE_ok hc0).1)
        have hcar := (inb_iff _ _ _).1 ((may_iff I0).1 (costE_ok hc0).1).2.1
        have hk8 : l1.length ≤ 8 := by have := (costE_ok hc0).2.1; omega
        rw [HN.out]
        clear hce hc0
        subst hce0
        have hI6 : I0.l.length ≤ 1000000 := by omega
        go_wp2_with (first | (at_make; refine make_bools rfl _ _ rfl w3.heap.size I0.l.length rfl rfl hI6 (Nat.le_refl _) ?_))
        intro w4 hown hgr
        have HB4 := Lib.hid (HB3.out.grown hgr HB3.out.size (fun k hk => by cases hk))
        have HB43 := Lib.hid ((Below.refl w3.heap.size w3).grown hgr (Nat.le_refl _) (fun k hk => by cases hk))
        have HOW := Lib.hid hown
        have HY4 := Lib.hid (HY3.out.below (M := w.heap.size + 2) (by omega) (HB43.out.mono HSZ3.out))
        have HX4 := Lib.hid (show w4.heap[w.heap.size + 1]? = some (.cells #[.slice la l1.length lc] 27 (0, 0)) by rw [HB43.out.block _ (by have := HSZ3.out; omega)]; exact HX3.out)
        have hFL := HFI.out.len
        have hP0 := HFI.out.p0
        have hP1 := HFI.out.p1
        have HNL := Lib.hid hFL
        clear hown hgr x0 c0 c1 c2 c3 hFL
        generalize w3.heap.size = g at *
        go_wp2_with fail
        go_loopw [9, 10, 12] (fun av sv kv wr => ∃ (k : Nat) (D0 : List Int), k ≤ l1.length ∧ kv = .int .i64 k ∧ av = .int .i64 (farS I0 (l1.take k)) ∧ D0 = (l1.take k).flatten ∧ sv = .int .i64 (D0.length : Int) ∧ wr.ownsRow g 4 1 (.slice (some ⟨g, 0, none⟩) I0.l.length I0.l.length) I0.l.length (inD I0.l.length D0) ∧ Below w.heap.size w wr ∧ Below (w.heap.size + 2) w4 wr) (fun _ _ kv _ => l1.length - (intOf kv).toNat)
        case atStart => exact ⟨0, [], Nat.zero_le _, rfl, rfl, rfl, rfl, HOW.out, HB4.out, Below.refl _ _⟩
        case round =>
          obtain ⟨k, D0, hk, rfl, rfl, hD0, rfl, hown, hbw, hbw1⟩ := hrel
          have HD0 := Lib.hid hD0
          clear hD0
          have HBW := Lib.hid hbw
          have HBW1 := Lib.hid hbw1
          have HOWr := Lib.hid hown
          have HYr := Lib.hid (HY4.out.below (M := w.heap.size + 2) (by omega) hbw1)
          have HXr := Lib.hid (show wr.heap[w.heap.size + 1]? = some (.cells #[.slice la l1.length lc] 27 (0, 0)) by rw [hbw1.block _ (by omega)]; exact HX4.out)
          have hszr : w.heap.size + 2 ≤ wr.heap.size := by have := HYr.out.lt; have := (World.ownsRow.lt hown g rfl).2; have := HSZ3.out; omega
          obtain ⟨c0, c1, c2, c3⟩ := HYr.out.cells
          have x0 : wr.cell? ⟨w.heap.size + 1, 0, none⟩ = some (.slice la l1.length lc) := by rw [cell_of_row wr _ 0 _ _ _ HXr.out]; rfl
          have hfe := firstE_take HC.out.2.2.1 k
          have hfb := farS_bds _ hfe
          have hkl : (l1.take k).length ≤ 8 := by rw [List.length_take]; omega
          by_cases hlt : k < l1.length
          · have hlt2 : (k : Int) < (l1.length : Int) := by omega
            obtain ⟨tb, off, a1, n1, d1, rfl, htb, hcw, hn1, hmx, hrow⟩ := ll_at HP.out k hlt
            have hcl := (hbw.cell (p := ⟨tb, off + k, none⟩) htb).trans hcw
            have HCW := Lib.hid hcw
            have HRow0 := Lib.hid hrow
            have HTk := Lib.hid (take_getD hlt)
            have HPF := Lib.hid (fun j => pre_flat l1 k j hlt)
            have hmem : l1.getD k [] ∈ l1 := by rw [List.getD_eq_getElem?_getD, List.getElem?_eq_getElem hlt]; exact List.getElem_mem hlt
            have herr := errR_zero ((firstE_zero I0 l1).1 HC.out.2.2.1 _ hmem)
            generalize l1.getD k [] = l at *
            subst hn1
            have hm2 : l.length ≤ 9223372036854775807 := by unfold maxLen at hmx; omega
            have htr : tb < wr.heap.size := by have := hbw.size; omega
            have hfar := far_bds herr.2
            have HER := Lib.hid herr
            have HTB := Lib.hid htb
            clear hbw hbw1 hcw hmx hrow htb hmem herr hown
            go_wp2_with fail
            have HS0 := Lib.hid (show Holds (cellsI w.heap.size I0 (.slice ad I0.l.length cap) ++ [(⟨w.heap.size + 1, 0, none⟩, .slice (some ⟨tb, off, none⟩) l1.length lc), (⟨tb, off + k, none⟩, .slice a1 l.length d1)]) wr.drew from Holds.app.2 ⟨⟨c0, c1, c2, c3, trivial⟩, x0, hcl, trivial⟩)
            have hlt := Lib.hid (show Lows wr.drew.heap.size (cellsI w.heap.size I0 (.slice ad I0.l.length cap) ++ [(⟨w.heap.size + 1, 0, none⟩, .slice (some ⟨tb, off, none⟩) l1.length lc), (⟨tb, off + k, none⟩, .slice a1 l.length d1)]) from ⟨by show w.heap.size < wr.heap.size; omega, by show w.heap.size < wr.heap.size; omega, by show w.heap.size < wr.heap.size; omega, by show w.heap.size < wr.heap.size; omega, by show w.heap.size + 1 < wr.heap.size; omega, htr, trivial⟩)
            clear c0 c1 c2 c3 x0 hcl
            refine wp_region_held_drew (S := Holds (cellsI w.heap.size I0 (.slice ad I0.l.length cap) ++ [(⟨w.heap.size + 1, 0, none⟩, .slice (some ⟨tb, off, none⟩) l1.length lc), (⟨tb, off + k, none⟩, .slice a1 l.length d1)])) (by kernel_rfl) HS0.out (fun hSn => ?_)
            have Bc := Lib.hid (Below.refl wr.drew.heap.size wr.drew)
            simp only [cellsI, List.cons_append, List.nil_append] at HS0 hlt hSn ⊢
            refine tks [0, 1, 2, 3, 4, 5] 6 rfl (by kernel_rfl) (fun _ _ _ _ h => h) (by assumption) (fun KT hKT => ?_)
            iterate 6 (refine tkT (by (simp only [gA, gB, gC]; rfl)) (by rfl) (by (intro w hSw; (simp only [Holds] at hSw); go_simp <;> with_reducible rfl)) ?_; simp only [Act.put, pA, pB, pC])
            refine hKT _ ?_
            clear KT hKT
            refine wpAnyH_ready (rs := [6]) (by kernel_rfl) (by simp) ?_
            refine AllReadyH.cons (o := ?oz181) ?iz181 (fun K hK => ?kz181) AllReadyH.nil
            case iz181 => (simp only [List.getElem?_toArray, List.getElem?_cons_zero, List.getElem?_cons_succ]; rfl)
            go_simp
            change Calls _ _ #[insV I0 (.slice ad I0.l.length cap), _] _ _
            refine (times_any ((HE.out.below HBW.out).below ((Below.refl wr.heap.size wr).drew.trans Bc.out)) ((HRow0.out.below HBW.out).below ((Below.refl wr.heap.size wr).drew.trans Bc.out))).mono ?_
            rintro e w5 ⟨tu, rfl, _, hb⟩
            refine held_more hK HS0.out hlt (Bc.out.trans (hb.mono Bc.out.size)) (fun Bc hSn => ?_)
            clear hb hK
            refine tks [7, 8, 9, 10, 11, 12, 13] 7 rfl (by kernel_rfl) (fun _ _ _ _ h => h) (by assumption) (fun KT hKT => ?_)
            iterate 7 (refine tkT (by (simp only [gA, gB, gC]; rfl)) (by rfl) (by (intro w hSw; (simp only [Holds] at hSw); go_simp <;> with_reducible rfl)) ?_; simp only [Act.put, pA, pB, pC])
            refine hKT _ ?_
            clear KT hKT
            refine wpAnyH_done (by kernel_rfl) ?_ _
            have HB5r := Lib.hid ((Below.refl wr.heap.size wr).drew.trans Bc.out)
            have HB5 := Lib.hid (HBW.out.trans (HB5r.out.mono HBW.out.size))
            have HB51 := Lib.hid (HBW1.out.trans (HB5r.out.mono hszr))
            have HOW5 := Lib.hid (own_below HOWr.out HB5r.out)
            have HY5 := Lib.hid (HYr.out.later HB5r.out)
            have HX5 := Lib.hid (show w5.heap[w.heap.size + 1]? = some (.cells #[.slice (some ⟨tb, off, none⟩) l1.length lc] 27 (0, 0)) by rw [HB5r.out.block _ (by omega)]; exact HXr.out)
            clear HS0 hlt hSn Bc
            obtain ⟨c0, c1, c2, c3⟩ := HY5.out.cells
            have x0 : w5.cell? ⟨w.heap.size + 1, 0, none⟩ = some (.slice (some ⟨tb, off, none⟩) l1.length lc) := by rw [cell_of_row w5 _ 0 _ _ _ HX5.out]; rfl
            have hcl := (HB5.out.cell (p := ⟨tb, off + k, none⟩) HTB.out).trans HCW.out
            have he0 := HER.out.2
            rw [he0]
            have hl0 : ((l.length : Int) == 0) = false := by simpa using HER.out.1
            have e2 : IntKind.i64.wrap (farS I0 (l1.take k) + farT I0 l) = farS I0 (l1.take k) + farT I0 l := IntWalk.i64_in _ (by omega)
            clear he0
            go_wp2_with fail
            clear x0 hcl c0 c1 c2 c3
            obtain ⟨wo, hwo⟩ : ∃ wo, wo = w5 := ⟨_, rfl⟩
            subst hwo
            go_loopw [10, 16] (fun sv jv wr => ∃ (j : Nat) (D : List Int), j ≤ l.length ∧ jv = .int .i64 j ∧ D = D0 ++ l.take j ∧ sv = .int .i64 (D.length : Int) ∧ wr.ownsRow g 4 1 (.slice (some ⟨g, 0, none⟩) I0.l.length I0.l.length) I0.l.length (inD I0.l.length D) ∧ Below w.heap.size w wr ∧ Below (w.heap.size + 2) w4 wr) (fun _ jv _ => l.length - (intOf jv).toNat)
            case atStart => exact ⟨0, D0, Nat.zero_le _, rfl, by simp, rfl, HOW5.out, HB5.out, HB51.out⟩
            case round =>
              obtain ⟨j, D, hj, rfl, hD, rfl, hown, hbw, hbw1⟩ := hrel
              have HBW6 := Lib.hid hbw
              have HBW61 := Lib.hid hbw1
              have HOW6 := Lib.hid hown
              have HD := Lib.hid hD
              have HX6 := Lib.hid (show wr.heap[w.heap.size + 1]? = some (.cells #[.slice (some ⟨tb, off, none⟩) l1.length lc] 27 (0, 0)) by rw [hbw1.block _ (by omega)]; exact HX4.out)
              have x0 : wr.cell? ⟨w.heap.size + 1, 0, none⟩ = some (.slice (some ⟨tb, off, none⟩) l1.length lc) := by rw [cell_of_row wr _ 0 _ _ _ HX6.out]; rfl
              have hcl := (hbw.cell (p := ⟨tb, off + k, none⟩) HTB.out).trans HCW.out
              have hrow := HRow0.out.below hbw
              clear hD
              by_cases hjl : j < l.length
              · have hjl2 : (j : Int) < (l.length : Int) := by omega
                obtain ⟨rb, ro, rc, he, hcell, _, _⟩ := row_at (p := j) hrow (by rw [ints_len]; exact hjl)
                rw [ints_at l j hjl] at hcell
                simp only [ints_len, Value.slice.injEq, true_and] at he
                obtain ⟨rfl, rfl⟩ := he
                obtain ⟨Z, hZ⟩ := HPF.out (j + 1)
                have htj : l.take (j + 1) = l.take j ++ [l.getD j 0] := take_snoc hjl
                rw [htj, ← HD0.out, ← List.append_assoc, ← HD.out] at hZ
                have hin := flat_rng HC.out.2.2.1 (l.getD j 0) (by rw [hZ]; simp)
                have hnd := nodup_pre hZ HC.out.2.2.2.1
                have hlz := congrArg List.length hZ
                simp only [List.length_append, List.length_singleton] at hlz
                have hwl := HWL.out
                have hDb : D.length ≤ 1000 := by omega
                obtain ⟨m, hmv⟩ : ∃ m : Nat, l.getD j 0 = (m : Int) := ⟨(l.getD j 0).toNat, by omega⟩
                rw [hmv] at hcell hin hnd
                have hnm : (m : Int) ∉ D := fun h => (List.nodup_append.1 hnd).2.2 (m : Int) h (m : Int) (by simp) rfl
                have hmn : m < I0.l.length := by have := HNL.out; omega
                have hb := hown.cellAt m (by omega)
                rw [inD_at _ _ _ hmn, decide_eq_false hnm] at hb
                have hf := hown.frozenAt m
                have HST := Lib.hid (hown.stored m (.bool true)).1
                have HTJ := Lib.hid htj
                have HMV := Lib.hid hmv
                have hm1' : ¬ (m : Int) < 1 := by omega
                have hgw := (World.ownsRow.lt hown g rfl).1
                have HB7 := Lib.hid (hbw.setCell (p := ⟨g, m, none⟩) (by show w.heap.size ≤ g; have := HSZ3.out; omega) (.bool true))
                have HB71 := Lib.hid (hbw1.setCell (p := ⟨g, m, none⟩) (by show w.heap.size + 2 ≤ g; exact HSZ3.out) (.bool true))
                clear hZ htj hmv hnd hlz hwl hnm hown hbw hbw1 hrow
                go_wp2_with fail
                go_roundw
                case rel => exact ⟨j + 1, D ++ [(m : Int)], by omega, by go_num, by rw [HTJ.out, HD.out, HMV.out]; simp, by simp only [List.length_append, List.length_singleton]; go_num, by rw [← inD_snoc]; exact HST.out, HB7.out, HB71.out⟩
                case measure => simp [intOf]; omega
              · obtain rfl : j = l.length := by omega
                have hjl2 : ¬ (l.length : Int) < (l.length : Int) := by omega
                have HDE := Lib.hid (show D = (l1.take (k + 1)).flatten by rw [HTk.out, HD.out, HD0.out, List.take_length]; simp)
                clear hown hbw hbw1 hrow
                go_wp2_with fail
                go_roundw
                case rel => exact ⟨k + 1, D, by omega, by go_num, by rw [HTk.out, farS_snoc], HDE.out, rfl, HOW6.out, HBW6.out, HBW61.out⟩
                case measure => simp [intOf]; omega
          · obtain rfl : k = l1.length := by omega
            have hl2 : ¬ (l1.length : Int) < (l1.length : Int) := by omega
            have HALL := Lib.hid (show farS I0 (l1.take l1.length) = farS I0 l1 by rw [List.take_length])
            have HST := Lib.hid (show (D0.length : Int) = 2 * I0.p by rw [HD0.out, List.take_length]; exact HWL.out)
            have e2 : IntKind.i64.wrap (2 * I0.p) = 2 * I0.p := IntWalk.i64_in _ (by omega)
            have hlc : (l1.length : Int) ≤ I0.c := HC.out.2.1
            rw [HALL.out, HST.out]
            clear hown hbw hbw1
            go_wp2
            go_ret
            exact ⟨by simp, HBW.out⟩
      · have hce1 : (ce != 0) = true := by simpa using hce0
        generalize costN I0 l1 = cn
        clear hce
        go_wp2
        go_ret
        exact ⟨rfl, HB3.out⟩

set_option maxRecDepth 100000 in
theorem lifted (os : Os) (started : os.Started) (H : Type) (enc : TypeId × Value → H) :
    ReturnsInHanded {} Tryd.checked os 7 .any (fun w args => (Rows.planWholeSpec.pre enc Tryd.prog Tryd.f7 [] false w args ∧ laidMetH Tryd.prog Rows.planWholeRow.laid w) ∧ sizedMet enc Tryd.prog Tryd.f7 (OpenSpec.ofChange Rows.planWholeSpec) false w args)
      (Rows.planWholeSpec.post enc Tryd.prog Tryd.f7 false true false false) := by
  refine returnsInHanded_of_change_and (C := Tryd.checked) (X := fun w _ => laidMetH Tryd.prog Rows.planWholeRow.laid w) (fun _ _ _ hh h => h.of_heap hh) own started (by kernel_rfl) Tryd.func7
    (ChangeSpec.witness_shaped (enc := enc) (C := Tryd.checked) (os := os) (X := fun w _ => laidMetH Tryd.prog Rows.planWholeRow.laid w) false (World.doorLaid Tryd.prog 24 os) #[.agg #[.int .i64 0, .int .i64 0, .int .i64 0, .slice none 0 0], .agg #[.slice none 0 0]] 8 rfl (World.shaped_of_RefB (by kernel_rfl) (by kernel_rfl)) (by kernel_rfl) (by kernel_rfl) (by kernel_rfl) (door_met os _)) ?_
  intro W base args ds gs before hval0 hW _ _ hL _
  have hval : ∀ (j : Nat) t v, Tryd.f7.params[j]? = some t → args[j]? = some v → Value.okWide Tryd.prog W .any base t v := hval0
  have hW' := hW
  obtain ⟨p, q, hA0, hV, rfl, hfz, hnd⟩ := hW
  have hA : DataW.TrodAll enc Tryd.prog W 0 (fun _ => true) true Tryd.f7.params.toList args.toList ds p := hA0
  rw [Tryd.params7] at hA hval
  obtain ⟨v0, vs0, d0, ds0, p0, q0, hargs, rfl, rfl, h0, r0⟩ := trodAll_cons hA
  obtain ⟨v1, vs1, d1, ds1, p1, q1, rfl, rfl, rfl, h1, r1⟩ := trodAll_cons r0
  obtain ⟨rfl, rfl, rfl⟩ := trodAll_nil r1
  obtain rfl : args = #[v0, v1] := by cases args; simp_all
  obtain ⟨rfl, rfl⟩ := trodVars_none hV
  have k0 := h0
  have lt0 : ∀ x ∈ p0, x.block < W.heap.size := by obtain ⟨m, hm⟩ := k0; exact DataW.trod_lt m _ _ _ hm
  have k1 := h1
  have lt1 : ∀ x ∈ p1, x.block < W.heap.size := by obtain ⟨m, hm⟩ := k1; exact DataW.trod_lt m _ _ _ hm
  obtain ⟨I0, u0, rfl, e0, _⟩ := open_inst (hval 0 24 v0 rfl rfl) h0
  obtain ⟨u1, l1, rfl, e1, _⟩ := open_plan (hval 1 27 v1 rfl rfl) h1
  have hT := tab_of_laid hL
  clear hA0 hval0
  refine (walk I0 _ _ l1 W e0 e1 hT).mono fun e W' ⟨he, bel⟩ => ?_
  subst he
  exact ⟨_, rfl, _, _, _, [], _, [], hW', trodAll_mk1 (shut_bool Tryd.underlying4 _), (trodAll_cons_mk (Below.trod laidOut (by kernel_rfl) (of_decide_eq_true (by kernel_rfl)) k0 bel lt0) (trodAll_cons_mk (Below.trod laidOut (by kernel_rfl) (of_decide_eq_true (by kernel_rfl)) k1 bel lt1) trodAll_mk0)), rfl, bel.frame _, fun h => by cases h⟩

theorem over : Rows.PlanWholeSaid :=
  OpenClaim.holds_of_wide 7 Tryd.f7 rfl rfl rfl rfl rfl rfl rfl ⟨rfl, rfl, rfl, rfl, rfl⟩ rfl rfl rfl rfl rfl (by kernel_rfl) Tryd.func7 (by kernel_rfl)
    (of_decide_eq_true (by kernel_rfl)) (by unfold Func.isWrapper; first | (rw [if_pos (by decide +kernel)]; kernel_rfl) | (rw [if_neg (by decide +kernel)]; exact ⟨rfl, rfl⟩))
    (fun os started H enc _ => lifted os started H enc)

theorem proved : Rows.PlanWholeCardSaid :=
  Claim7.holds_tied_plain_at .later [] [.data, .data, .data] true Rows.planWholeCard.stood.harness false
    over (fun _ h => by cases h) (by kernel_rfl) (fun _ h => by cases h) planWhole_row_tie rfl ⟨rfl, rfl⟩ (by kernel_rfl) rfl
    (fun f fn hf hfn => by
      obtain rfl : f = 7 := Option.some.inj ((show Tryd.prog.funcNamed Rows.planWholeRow.func = some 7 by kernel_rfl).symm.trans hf) |>.symm
      obtain rfl : fn = Tryd.f7 := (Option.some.inj (Tryd.func7.symm.trans hfn)).symm
      refine ⟨by kernel_rfl, fun j t ht => ?_⟩
      rw [Tryd.params7] at ht
      rcases j with _ | _ | j
      · obtain rfl : t = 24 := by simpa using ht.symm
        exact (show Tryd.prog.wantsStandIn 24 = false by kernel_rfl)
      · obtain rfl : t = 27 := by simpa using ht.symm
        exact (show Tryd.prog.wantsStandIn 27 = false by kernel_rfl)
      · simp at ht)
    (by kernel_rfl)
#print axioms proved
end Go.Proofs.YtpdeffpmfbplnaaDoor.planWhole
