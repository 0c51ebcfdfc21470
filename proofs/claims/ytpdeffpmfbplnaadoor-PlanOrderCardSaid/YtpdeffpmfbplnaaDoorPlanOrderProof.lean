/- Routes in the opposite order cost the same, are the same plan, and are printed the same, if no two begin with the same stop: for every instance and every plan (the law answers true at once for more than 100 stops, 40 routes, 100 stops of a route). -/
import Derived.Test.YtpdeffpmfbplnaaDoorXVD
import Derived.Test.YtpdeffpmfbplnaaDoorVAwake
import Derived.Test.YtpdeffpmfbplnaaDoorVSameP
import Derived.Test.YtpdeffpmfbplnaaDoorXVB
import Derived.Test.YtpdeffpmfbplnaaDoorRows
import Derived.Test.YtpdeffpmfbplnaaDoorTie
import Derived.Test.YtpdeffpmfbplnaaDoorCards
import Derived.Test.YtpdeffpmfbplnaaDoorXPrint
import Derived.SevenTiedAt
import Derived.Test.YtpdeffpmfbplnaaDoorVVals
import Derived.Deep.CutRange
namespace Go.Proofs.YtpdeffpmfbplnaaDoor.planOrder
open Go.ChangeShapes Go.WideShapes Go.ChangeAt Go.RowKit

set_option maxRecDepth 1000000 in
set_option maxHeartbeats 4000000 in
theorem walk (I0 : Ins) (v0 : Value) (v1 : Value) (l1 : List (List Int)) (w : World) (e0 : SRow w v0 I0.l) (e1 : IsLL w v1 l1) (f1 : Fits l1) (hT : Tab w.heap.size w) :
    Calls Tryd.prog 6 #[insV I0 v0, planV v1] w fun e w' => e = .returned (.bool true) ∧ Below w.heap.size w w' := by
  have HT := Lib.hid hT
  have HE := Lib.hid e0
  have HP := Lib.hid e1
  have HF := Lib.hid f1
  obtain ⟨ad, cap, rfl, hm, _⟩ := e0.form
  obtain ⟨la, lc, rfl, hlm⟩ := e1.form
  have hm1 : I0.l.length ≤ 9223372036854775807 := by unfold maxLen at hm; omega
  have hlm1 : l1.length ≤ 9223372036854775807 := by unfold maxLen at hlm; omega
  obtain ⟨hy, hx, hb, hsz⟩ := worldC_facts w I0 (.slice ad I0.l.length cap) (.slice la l1.length lc)
  have HY := Lib.hid hy
  have HX := Lib.hid (show PBox _ _ _ from hx)
  have HB := Lib.hid hb
  have HSZ := Lib.hid hsz
  clear hT e0 e1 f1 hm hlm hy hx hb hsz
  unfold insV planV
  go_enter Tryd.func6, Tryd.ntmps6
  go_upto_region 1 with fail
  change Code.wp _ _ _ _ (worldC w I0 (.slice ad I0.l.length cap) (.slice la l1.length lc))
  generalize worldC w I0 (.slice ad I0.l.length cap) (.slice la l1.length lc) = W at *
  go_wp2_with fail
  refine (vawake_any ((HT.out.on HB.out).up HB.out.size)).mono ?_
  rintro e w1 ⟨rfl, hb⟩
  have HB1 := Lib.hid (HB.out.trans (hb.mono HB.out.size))
  have HY1 := Lib.hid (HY.out.later hb)
  have HX1 := Lib.hid (HX.out.later hb)
  have HSZ1 := Lib.hid (show w.heap.size + 2 ≤ w1.heap.size by have := HSZ.out; have := hb.size; omega)
  have x0 := HX1.out.cell
  clear hb
  go_wp2_with fail
  change Calls _ _ #[planV (.slice la l1.length lc)] _ _
  refine (vfew_any (HP.out.below HB1.out)).mono ?_
  rintro e w2 ⟨rfl, hb⟩
  have HB2 := Lib.hid (HB1.out.trans (hb.mono HB1.out.size))
  have HY2 := Lib.hid (HY1.out.later hb)
  have HX2 := Lib.hid (HX1.out.later hb)
  have HSZ2 := Lib.hid (show w.heap.size + 2 ≤ w2.heap.size by have := HSZ1.out; have := hb.size; omega)
  clear hb x0
  obtain ⟨c0, c1, c2, c3⟩ := HY2.out.cells
  have x0 := HX2.out.cell
  by_cases hfew : FewP l1
  · have hdf : decide (FewP l1) = true := decide_eq_true hfew
    have HW := Lib.hid hfew
    rw [hdf]
    clear hdf hfew
    by_cases hlen : 100 < I0.l.length
    · have hlen2 : (100 : Int) < (I0.l.length : Int) := by omega
      go_wp2
      go_ret
      exact ⟨rfl, HB2.out⟩
    · have hlen2 : ¬ (100 : Int) < (I0.l.length : Int) := by omega
      have HBq := (Below.refl w2.heap.size w2).alloc (Nat.le_refl _) (.cells #[.slice none 0 0] 27)
      have HB4 := Lib.hid (HB2.out.alloc HB2.out.size (.cells #[.slice none 0 0] 27))
      have HY4 := Lib.hid (HY2.out.later HBq)
      have HX4 := Lib.hid (HX2.out.later HBq)
      have HXQ := Lib.hid (pbox_new w2 (.slice none 0 0))
      have hnx : w.heap.size + 1 < w2.heap.size := HX2.out.lt
      have hsz4 : (w2.alloc (.cells #[.slice none 0 0] 27)).heap.size = w2.heap.size + 1 := by simp
      clear HBq x0
      go_upto_region 6 with fail
      clear c0 c1 c2 c3
      generalize w2.alloc (.cells #[.slice none 0 0] 27) = W4 at *
      have hszw2 : w.heap.size ≤ w2.heap.size := HB2.out.size
      generalize w2.heap.size = NQ at *
      go_wp2_with fail
      go_loopw [8] (fun kv wr => ∃ (k : Nat) (qv : Value) (vs : List Value), k ≤ l1.length ∧ kv = .int .i64 k ∧ PBox wr NQ qv ∧ OwnV wr (NQ + 1) qv vs ∧ vs.length = k ∧ In w vs (l1.reverse.take k) ∧ (∀ i, i < k → ∀ j, j < i → l1.getD i [] ≠ [] → l1.getD j [] ≠ [] → key (l1.getD i []) ≠ key (l1.getD j [])) ∧ Below w.heap.size w wr ∧ Below NQ W4 wr) (fun kv _ => l1.length - (intOf kv).toNat)
      case atStart => exact ⟨0, .slice none 0 0, [], Nat.zero_le _, rfl, HXQ.out, ownV_nil _ _, rfl, trivial, fun i hi => by omega, HB4.out, Below.refl _ _⟩
      case round =>
        obtain ⟨k, qv, vs, hk, rfl, hxq, hov, hvl, hin, hds, hbw, hbw1⟩ := hrel
        have HXq := Lib.hid hxq
        have HOV := Lib.hid hov
        have HIN := Lib.hid hin
        have HDS := Lib.hid hds
        have HBr := Lib.hid hbw
        have HBr1 := Lib.hid hbw1
        have HYr := Lib.hid (HY4.out.below (M := NQ) (by omega) hbw1)
        have HXr := Lib.hid (HX4.out.below (M := NQ) (by omega) hbw1)
        have hlq := hxq.lt
        have x0 := HXr.out.cell
        by_cases hlt : k < l1.length
        · have hlt2 : (k : Int) < (l1.length : Int) := by omega
          obtain ⟨ri, hri⟩ : ∃ ri, ri = l1.length - 1 - k := ⟨_, rfl⟩
          have hrl : ri < l1.length := by omega
          obtain ⟨tb, off, a1, n1, d1, hpe, htb, hcw, hn1, hmx, hrow⟩ := ll_at HP.out ri hrl
          obtain rfl := hpe
          have hcl := (hbw.cell (p := ⟨tb, off + ri, none⟩) htb).trans hcw
          have HRT := Lib.hid (show l1.reverse.take (k + 1) = l1.reverse.take k ++ [l1.getD ri []] by rw [hri]; exact rev_take hlt)
          have HRow := Lib.hid hrow
          have e1 : IntKind.i64.wrap ((l1.length : Int) - 1) = ((l1.length - 1 : Nat) : Int) := by rw [IntWalk.i64_in _ (by omega)]; omega
          have e2 : IntKind.i64.wrap (((l1.length - 1 : Nat) : Int) - (k : Int)) = (ri : Int) := by rw [IntWalk.i64_in _ (by omega)]; omega
          obtain ⟨p1, hp1⟩ : ∃ p1, l1.length - 1 = p1 := ⟨_, rfl⟩
          rw [hp1] at e1 e2
          have htq : tb < NQ := by omega
          have hvs : vs.length ≤ 1000000 := by have := HW.out.1; omega
          have HVL := Lib.hid hvl
          clear hxq hov hin hds hbw hbw1 hri hrow hn1 hmx hp1 hvl
          go_wp2_with fail
          have HS0 := Lib.hid (show Holds [((⟨w.heap.size + 1, 0, none⟩ : Addr), Value.slice (some ⟨tb, off, none⟩) l1.length lc), (⟨tb, off + ri, none⟩, .slice a1 n1 d1)] wr.drew from ⟨x0, hcl, trivial⟩)
          have hltq := Lib.hid (show Lows NQ [((⟨w.heap.size + 1, 0, none⟩ : Addr), Value.slice (some ⟨tb, off, none⟩) l1.length lc), (⟨tb, off + ri, none⟩, .slice a1 n1 d1)] from ⟨hnx, htq, trivial⟩)
          have hlt := Lib.hid (show Lows wr.drew.heap.size [((⟨w.heap.size + 1, 0, none⟩ : Addr), Value.slice (some ⟨tb, off, none⟩) l1.length lc), (⟨tb, off + ri, none⟩, .slice a1 n1 d1)] from ⟨by show w.heap.size + 1 < wr.heap.size; omega, by show tb < wr.heap.size; omega, trivial⟩)
          clear x0 hcl
          refine wp_region_held_drew (S := Holds [((⟨w.heap.size + 1, 0, none⟩ : Addr), Value.slice (some ⟨tb, off, none⟩) l1.length lc), (⟨tb, off + ri, none⟩, .slice a1 n1 d1)]) (by kernel_rfl) HS0.out (fun hSn => ?_)
          have Bc := Lib.hid (Below.refl wr.drew.heap.size wr.drew)
          have HXD := Lib.hid (show PBox wr.drew NQ qv from HXq.out.later ((Below.refl _ _).drew))
          have HOD := Lib.hid (show OwnV wr.drew (NQ + 1) qv vs from HOV.out.below ((Below.refl _ _).drew))
          have hdsz : wr.drew.heap.size = wr.heap.size := rfl
          refine tks [0, 2, 3, 4, 5, 6, 7, 8, 9, 10, 11] 11 rfl (by kernel_rfl) (fun _ _ _ _ h => h) (by assumption) (fun KT hKT => ?_)
          iterate 11 (refine tkT (by (simp only [gA, gB, gC]; rfl)) (by rfl) (by (intro w hSw; (simp only [Holds] at hSw); go_simp <;> with_reducible rfl)) ?_; simp only [Act.put, pA, pB, pC])
          refine hKT _ ?_
          clear KT hKT
          refine wpAnyH_ready (rs := [1, 12]) (by kernel_rfl) (by simp) ?_
          refine (AllReadyH.cons (o := ?oz1) ?iz1 (fun K hK => ?kz1) (AllReadyH.cons (o := ?oz2) ?iz2 (fun K hK => ?kz2) AllReadyH.nil))
          case iz1 => (simp only [List.getElem?_toArray, List.getElem?_cons_zero, List.getElem?_cons_succ]; rfl)
          case iz2 => (simp only [List.getElem?_toArray, List.getElem?_cons_zero, List.getElem?_cons_succ]; rfl)
          · have q0 := HXD.out.cell
            go_simp
            refine held_more hK HS0.out hlt Bc.out (fun Bc hSn => ?_)
            refine wpAnyH_ready (rs := [12]) (by kernel_rfl) (by simp) ?_
            refine AllReadyH.cons (o := ?oz3) ?iz3 (fun K hK => ?kz3) AllReadyH.nil
            case iz3 => (simp only [List.getElem?_toArray, List.getElem?_cons_zero, List.getElem?_cons_succ]; rfl)
            go_simp
            refine held_more hK HS0.out hlt (Bc.out.alloc Bc.out.size _) (fun Bc hSn => ?_)
            refine wpAnyH_ready (rs := [13]) (by kernel_rfl) (by simp) ?_
            refine (AllReadyH.cons (o := ?oz4) ?iz4 (fun K hK => ?kz4) AllReadyH.nil)
            case iz4 => (simp only [List.getElem?_toArray, List.getElem?_cons_zero, List.getElem?_cons_succ]; rfl)
            simp only [Act.put, List.setIfInBounds_toArray, List.set_cons_zero, List.set_cons_succ]
            rw [if_pos (by rfl)]
            refine wp_app_val _ _ (by rfl) (NQ + 1) qv vs (by rfl) (HOD.out.below ((Below.refl wr.drew.heap.size wr.drew).alloc (Nat.le_refl _) (.cells #[.slice a1 n1 d1] 42))) wr.heap.size (.slice a1 n1 d1) (by rfl) (show (wr.drew.alloc (.cells #[.slice a1 n1 d1] 42)).cell? ⟨wr.drew.heap.size, 0, none⟩ = some (.slice a1 n1 d1) by rw [cell_of_row _ _ _ _ _ _ (heap_alloc_new wr.drew (.cells #[.slice a1 n1 d1] 42))]; rfl) rfl hvs (by simp; omega) ?_
            intro gg cq w5 hown hgrow
            have hrq : ∀ q, qv.ownBlock = some q → NQ ≤ q := fun q hq => by have := HOV.out.ge q hq; omega
            have HOV5 := Lib.hid (hown.set NQ (Nat.lt_succ_self _) (.slice (some ⟨gg, 0, none⟩) (vs.length + 1) cq))
            have HXq5 := Lib.hid (show PBox (w5.setCell ⟨NQ, 0, none⟩ (.slice (some ⟨gg, 0, none⟩) (vs.length + 1) cq)) NQ (.slice (some ⟨gg, 0, none⟩) (vs.length + 1) cq) from PBox.stored (v := qv) (by
              have h1 := (HXD.out.later ((Below.refl wr.drew.heap.size wr.drew).alloc (Nat.le_refl _) (.cells #[.slice a1 n1 d1] 42)))
              unfold PBox at h1 ⊢
              rw [hgrow.block NQ (by simp; omega) (fun e => by have := HOV.out.ge NQ e.symm; omega)]
              exact h1) _)
            have HBA := Lib.hid ((((Below.refl NQ wr).drew).alloc (by show NQ ≤ wr.heap.size; omega) (.cells #[.slice a1 n1 d1] 42)).grown hgrow (by simp; omega) (fun q hq => hrq q hq))
            have HBA5 := Lib.hid (HBA.out.setCell (p := ⟨NQ, 0, none⟩) (Nat.le_refl _) (.slice (some ⟨gg, 0, none⟩) (vs.length + 1) cq))
            have hSn5 := Holds.grown hgrow (by simp; omega) hrq hSn hltq.out
            have hcq : ∃ z, w5.cell? ⟨NQ, 0, none⟩ = some z := by
              have h1 := (HXD.out.later ((Below.refl wr.drew.heap.size wr.drew).alloc (Nat.le_refl _) (.cells #[.slice a1 n1 d1] 42)))
              have h2 : PBox w5 NQ qv := by
                unfold PBox at h1 ⊢
                rw [hgrow.block NQ (by simp; omega) (fun e => by have := HOV.out.ge NQ e.symm; omega)]
                exact h1
              exact ⟨_, h2.cell⟩
            have hfq : w5.frozen? ⟨NQ, 0, none⟩ = false := by
              have h1 := (HXD.out.later ((Below.refl wr.drew.heap.size wr.drew).alloc (Nat.le_refl _) (.cells #[.slice a1 n1 d1] 42)))
              have h2 : PBox w5 NQ qv := by
                unfold PBox at h1 ⊢
                rw [hgrow.block NQ (by simp; omega) (fun e => by have := HOV.out.ge NQ e.symm; omega)]
                exact h1
              exact h2.free 0
            obtain ⟨zq, hzq⟩ := hcq
            refine hK.out _ _ hSn5 (fun hSn => ?_)
            clear hown hgrow hK q0
            refine tks [14] 1 rfl (by kernel_rfl) (fun _ _ _ _ h => h) (by assumption) (fun KT hKT => ?_)
            refine tkT (by (simp only [gA, gB, gC]; rfl)) (by rfl) (by (intro w hSw; (simp only [Holds] at hSw); go_simp <;> with_reducible rfl)) ?_
            simp only [Act.put, pA, pB, pC]
            refine hKT _ ?_
            clear KT hKT
            refine wpAnyH_ready (rs := [15]) (by kernel_rfl) (by simp) ?_
            refine (AllReadyH.cons (o := ?oz5) ?iz5 (fun K hK => ?kz5) AllReadyH.nil)
            case iz5 => (simp only [List.getElem?_toArray, List.getElem?_cons_zero, List.getElem?_cons_succ]; rfl)
            go_simp
            refine hK.out _ _ (Holds.set (Nat.le_refl _) hSn hltq.out) (fun hSn => ?_)
            refine wpAnyH_done (by kernel_rfl) ?_ _
            clear hSn hSn5 HS0 hlt hltq Bc hzq hfq
            generalize w5.setCell ⟨NQ, 0, none⟩ (.slice (some ⟨gg, 0, none⟩) (vs.length + 1) cq) = w7 at *
            have HB7 := Lib.hid (HBr.out.trans (HBA5.out.mono hszw2))
            have HB71 := Lib.hid (HBr1.out.trans HBA5.out)
            have HIN7 := Lib.hid (show In w (vs ++ [.slice a1 n1 d1]) (l1.reverse.take (k + 1)) by rw [HRT.out]; exact HIN.out.snoc HRow.out)
            have hlq7 : NQ < w7.heap.size := HXq5.out.lt
            have HX7 := Lib.hid (HX4.out.below (M := NQ) hnx HB71.out)
            go_wp2_with fail
            obtain ⟨wo, hwo⟩ : ∃ wo, wo = w7 := ⟨_, rfl⟩
            subst hwo
            go_loopw [9] (fun jv wx => ∃ (j : Nat), j ≤ k ∧ jv = .int .i64 j ∧ (∀ i, i < j → l1.getD k [] ≠ [] → l1.getD i [] ≠ [] → key (l1.getD k []) ≠ key (l1.getD i [])) ∧ Below wo.heap.size wo wx) (fun jv _ => k - (intOf jv).toNat)
            case atStart => exact ⟨0, Nat.zero_le _, rfl, fun i hi => by omega, Below.refl _ _⟩
            case round =>
              obtain ⟨j, hj, rfl, hdj, hbj⟩ := hrel
              have HDJ := Lib.hid hdj
              have HBJ := Lib.hid hbj
              have HBJw := Lib.hid (HB7.out.trans (hbj.mono HB7.out.size))
              have HXj := Lib.hid (HX7.out.later hbj)
              clear hdj hbj
              by_cases hjk : j < k
              · have hjk2 : (j : Int) < (k : Int) := by omega
                have x0 := HXj.out.cell
                obtain ⟨tb2, off2, a2, n2, d2, hpe2, _, hcl2, hn2, hmx2, hrow2⟩ := ll_at (HP.out.below HBJw.out) k (by omega)
                simp only [Option.some.injEq, Addr.mk.injEq, and_true] at hpe2
                obtain ⟨rfl, rfl⟩ := hpe2
                obtain ⟨tb3, off3, a3, n3, d3, hpe3, _, hcl3, hn3, hmx3, hrow3⟩ := ll_at (HP.out.below HBJw.out) j (by omega)
                simp only [Option.some.injEq, Addr.mk.injEq, and_true] at hpe3
                obtain ⟨rfl, rfl⟩ := hpe3
                have hm2 : n2 ≤ 9223372036854775807 := by unfold maxLen at hmx2; omega
                have hm3 : n3 ≤ 9223372036854775807 := by unfold maxLen at hmx3; omega
                have hjl2 : (j : Int) < (l1.length : Int) := by omega
                have HNX := Lib.hid (show (l1.getD k [] ≠ [] → l1.getD j [] ≠ [] → key (l1.getD k []) ≠ key (l1.getD j [])) → ∀ i, i < j + 1 → l1.getD k [] ≠ [] → l1.getD i [] ≠ [] → key (l1.getD k []) ≠ key (l1.getD i []) from fun h i hi => by
                  by_cases hij : i = j
                  · rw [hij]; exact h
                  · exact HDJ.out i (by omega))
                by_cases he2 : l1.getD k [] = []
                · have hz2 : ¬ (0 : Int) < (n2 : Int) := by rw [hn2, he2]; simp
                  have hz2d : decide (0 < n2) = false := by rw [hn2, he2]; rfl
                  have HN2 := Lib.hid (HNX.out (fun h => absurd he2 h))
                  clear hrow2 hrow3 hn2 hn3 hmx2 hmx3 he2 HNX
                  go_wp2_with fail
                  go_quiet (fail)
                  have HBQ := Lib.hid (below_drewN HBJ.out nq)
                  clear hcl2 hcl3 x0
                  generalize wr.drewN nq = w8 at *
                  go_wp2_with fail
                  go_roundw
                  case rel => exact ⟨j + 1, by omega, by go_num, HN2.out, HBQ.out⟩
                  case measure => simp [intOf]; omega
                · have hp2 : 0 < n2 := by rw [hn2]; exact List.length_pos_iff.2 he2
                  have hz2 : (0 : Int) < (n2 : Int) := by omega
                  have hz2d : decide (0 < n2) = true := decide_eq_true hp2
                  by_cases he3 : l1.getD j [] = []
                  · have hz3 : ¬ (0 : Int) < (n3 : Int) := by rw [hn3, he3]; simp
                    have hz3d : decide (0 < n3) = false := by rw [hn3, he3]; rfl
                    have HN2 := Lib.hid (HNX.out (fun _ h => absurd he3 h))
                    clear hrow2 hrow3 hn2 hn3 hmx2 hmx3 he2 he3 HNX
                    go_wp2_with fail
                    go_quiet (fail)
                    have HBQ := Lib.hid (below_drewN HBJ.out nq)
                    clear hcl2 hcl3 x0
                    generalize wr.drewN nq = w8 at *
                    go_wp2_with fail
                    go_roundw
                    case rel => exact ⟨j + 1, by omega, by go_num, HN2.out, HBQ.out⟩
                    case measure => simp [intOf]; omega
                  · have hp3 : 0 < n3 := by rw [hn3]; exact List.length_pos_iff.2 he3
                    have hz3 : (0 : Int) < (n3 : Int) := by omega
                    have hz3d : decide (0 < n3) = true := decide_eq_true hp3
                    obtain ⟨rb2, ro2, rc2, hs2, hcell2, _, _⟩ := row_at (p := 0) hrow2 (by rw [ints_len]; omega)
                    obtain ⟨rb3, ro3, rc3, hs3, hcell3, _, _⟩ := row_at (p := 0) hrow3 (by rw [ints_len]; omega)
                    rw [ints_at _ 0 (by omega), Nat.add_zero] at hcell2 hcell3
                    have hk2 : (l1.getD k []).getD 0 0 = key (l1.getD k []) := rfl
                    have hk3 : (l1.getD j []).getD 0 0 = key (l1.getD j []) := rfl
                    rw [hk2] at hcell2
                    rw [hk3] at hcell3
                    simp only [Value.slice.injEq] at hs2 hs3
                    obtain ⟨rfl, hsn2, rfl⟩ := hs2
                    obtain ⟨rfl, hsn3, rfl⟩ := hs3
                    clear hsn2 hsn3
                    by_cases hkk : key (l1.getD k []) = key (l1.getD j [])
                    · have hkb : (key (l1.getD k []) == key (l1.getD j [])) = true := by simpa using hkk
                      generalize key (l1.getD k []) = kx2 at *
                      generalize key (l1.getD j []) = kx3 at *
                      clear hrow2 hrow3 hn2 hn3 hmx2 hmx3 he2 he3 HNX hkk hk2 hk3
                      go_wp2_with fail
                      go_quiet (fail)
                      have HBE := Lib.hid (below_drewN HBJw.out nq)
                      go_wp2
                      go_ret
                      exact ⟨rfl, HBE.out⟩
                    · have hkb : (key (l1.getD k []) == key (l1.getD j [])) = false := by simpa using hkk
                      have HN2 := Lib.hid (HNX.out (fun _ _ => hkk))
                      clear HNX HDJ
                      obtain ⟨kx2, hkx2⟩ : ∃ x, key (l1.getD k []) = x := ⟨_, rfl⟩
                      obtain ⟨kx3, hkx3⟩ : ∃ x, key (l1.getD j []) = x := ⟨_, rfl⟩
                      rw [hkx2] at hcell2 hkb
                      rw [hkx3] at hcell3 hkb
                      clear hrow2 hrow3 hn2 hn3 hmx2 hmx3 he2 he3 hkk hk2 hk3 hkx2 hkx3
                      go_wp2_with fail
                      go_quiet (fail)
                      have HBQ := Lib.hid (below_drewN HBJ.out nq)
                      clear hcl2 hcl3 x0
                      generalize wr.drewN nq = w8 at *
                      go_wp2_with fail
                      go_roundw
                      case rel => exact ⟨j + 1, by omega, by go_num, HN2.out, HBQ.out⟩
                      case measure => simp [intOf]; omega
              · obtain rfl : j = k := by omega
                have hjk2 : ¬ (j : Int) < (j : Int) := by omega
                have HDS7 := Lib.hid (show ∀ i, i < j + 1 → ∀ i2, i2 < i → l1.getD i [] ≠ [] → l1.getD i2 [] ≠ [] → key (l1.getD i []) ≠ key (l1.getD i2 []) from fun i hi i2 hi2 => by
                  by_cases hij : i = j
                  · rw [hij]; exact HDJ.out i2 (by omega)
                  · exact HDS.out i (by omega) i2 hi2)
                have HXq9 := Lib.hid (HXq5.out.later HBJ.out)
                have HOV9 := Lib.hid (HOV5.out.below HBJ.out)
                have HB91 := Lib.hid (HB71.out.trans (HBJ.out.mono (by omega)))
                have HVL9 := Lib.hid (show (vs ++ [Value.slice a1 n1 d1]).length = j + 1 by have := HVL.out; simp; omega)
                go_wp2_with fail
                go_roundw
                case rel => exact ⟨j + 1, _, _, by omega, by go_num, HXq9.out, HOV9.out, HVL9.out, HIN7.out, HDS7.out, HBJw.out, HB91.out⟩
                case measure => simp [intOf]; omega
          · go_simp
            refine held_more hK HS0.out hlt (Bc.out.alloc Bc.out.size _) (fun Bc hSn => ?_)
            have q0 : (wr.alloc (.cells #[.slice a1 n1 d1] 42)).drew.cell? ⟨NQ, 0, none⟩ = some qv := (HXD.out.later ((Below.refl wr.drew.heap.size wr.drew).alloc (Nat.le_refl _) (.cells #[.slice a1 n1 d1] 42))).cell
            refine wpAnyH_ready (rs := [1]) (by kernel_rfl) (by simp) ?_
            refine (AllReadyH.cons (o := ?oz6) ?iz6 (fun K hK => ?kz6) AllReadyH.nil)
            case iz6 => (simp only [List.getElem?_toArray, List.getElem?_cons_zero, List.getElem?_cons_succ]; rfl)
            go_simp
            refine held_more hK HS0.out hlt Bc.out (fun Bc hSn => ?_)
            refine wpAnyH_ready (rs := [13]) (by kernel_rfl) (by simp) ?_
            refine (AllReadyH.cons (o := ?oz7) ?iz7 (fun K hK => ?kz7) AllReadyH.nil)
            case iz7 => (simp only [List.getElem?_toArray, List.getElem?_cons_zero, List.getElem?_cons_succ]; rfl)
            simp only [Act.put, List.setIfInBounds_toArray, List.set_cons_zero, List.set_cons_succ]
            rw [if_pos (by rfl)]
            refine wp_app_val _ _ (by rfl) (NQ + 1) qv vs (by rfl) (HOD.out.below ((Below.refl wr.drew.heap.size wr.drew).alloc (Nat.le_refl _) (.cells #[.slice a1 n1 d1] 42))) wr.heap.size (.slice a1 n1 d1) (by rfl) (show (wr.drew.alloc (.cells #[.slice a1 n1 d1] 42)).cell? ⟨wr.drew.heap.size, 0, none⟩ = some (.slice a1 n1 d1) by rw [cell_of_row _ _ _ _ _ _ (heap_alloc_new wr.drew (.cells #[.slice a1 n1 d1] 42))]; rfl) rfl hvs (by simp; omega) ?_
            intro gg cq w5 hown hgrow
            have hrq : ∀ q, qv.ownBlock = some q → NQ ≤ q := fun q hq => by have := HOV.out.ge q hq; omega
            have HOV5 := Lib.hid (hown.set NQ (Nat.lt_succ_self _) (.slice (some ⟨gg, 0, none⟩) (vs.length + 1) cq))
            have HXq5 := Lib.hid (show PBox (w5.setCell ⟨NQ, 0, none⟩ (.slice (some ⟨gg, 0, none⟩) (vs.length + 1) cq)) NQ (.slice (some ⟨gg, 0, none⟩) (vs.length + 1) cq) from PBox.stored (v := qv) (by
              have h1 := (HXD.out.later ((Below.refl wr.drew.heap.size wr.drew).alloc (Nat.le_refl _) (.cells #[.slice a1 n1 d1] 42)))
              unfold PBox at h1 ⊢
              rw [hgrow.block NQ (by simp; omega) (fun e => by have := HOV.out.ge NQ e.symm; omega)]
              exact h1) _)
            have HBA := Lib.hid ((((Below.refl NQ wr).drew).alloc (by show NQ ≤ wr.heap.size; omega) (.cells #[.slice a1 n1 d1] 42)).grown hgrow (by simp; omega) (fun q hq => hrq q hq))
            have HBA5 := Lib.hid (HBA.out.setCell (p := ⟨NQ, 0, none⟩) (Nat.le_refl _) (.slice (some ⟨gg, 0, none⟩) (vs.length + 1) cq))
            have hSn5 := Holds.grown hgrow (by simp; omega) hrq hSn hltq.out
            have hcq : ∃ z, w5.cell? ⟨NQ, 0, none⟩ = some z := by
              have h1 := (HXD.out.later ((Below.refl wr.drew.heap.size wr.drew).alloc (Nat.le_refl _) (.cells #[.slice a1 n1 d1] 42)))
              have h2 : PBox w5 NQ qv := by
                unfold PBox at h1 ⊢
                rw [hgrow.block NQ (by simp; omega) (fun e => by have := HOV.out.ge NQ e.symm; omega)]
                exact h1
              exact ⟨_, h2.cell⟩
            have hfq : w5.frozen? ⟨NQ, 0, none⟩ = false := by
              have h1 := (HXD.out.later ((Below.refl wr.drew.heap.size wr.drew).alloc (Nat.le_refl _) (.cells #[.slice a1 n1 d1] 42)))
              have h2 : PBox w5 NQ qv := by
                unfold PBox at h1 ⊢
                rw [hgrow.block NQ (by simp; omega) (fun e => by have := HOV.out.ge NQ e.symm; omega)]
                exact h1
              exact h2.free 0
            obtain ⟨zq, hzq⟩ := hcq
            refine hK.out _ _ hSn5 (fun hSn => ?_)
            clear hown hgrow hK q0
            refine tks [14] 1 rfl (by kernel_rfl) (fun _ _ _ _ h => h) (by assumption) (fun KT hKT => ?_)
            refine tkT (by (simp only [gA, gB, gC]; rfl)) (by rfl) (by (intro w hSw; (simp only [Holds] at hSw); go_simp <;> with_reducible rfl)) ?_
            simp only [Act.put, pA, pB, pC]
            refine hKT _ ?_
            clear KT hKT
            refine wpAnyH_ready (rs := [15]) (by kernel_rfl) (by simp) ?_
            refine (AllReadyH.cons (o := ?oz8) ?iz8 (fun K hK => ?kz8) AllReadyH.nil)
            case iz8 => (simp only [List.getElem?_toArray, List.getElem?_cons_zero, List.getElem?_cons_succ]; rfl)
            go_simp
            refine hK.out _ _ (Holds.set (Nat.le_refl _) hSn hltq.out) (fun hSn => ?_)
            refine wpAnyH_done (by kernel_rfl) ?_ _
            clear hSn hSn5 HS0 hlt hltq Bc hzq hfq
            generalize w5.setCell ⟨NQ, 0, none⟩ (.slice (some ⟨gg, 0, none⟩) (vs.length + 1) cq) = w7 at *
            have HB7 := Lib.hid (HBr.out.trans (HBA5.out.mono hszw2))
            have HB71 := Lib.hid (HBr1.out.trans HBA5.out)
            have HIN7 := Lib.hid (show In w (vs ++ [.slice a1 n1 d1]) (l1.reverse.take (k + 1)) by rw [HRT.out]; exact HIN.out.snoc HRow.out)
            have hlq7 : NQ < w7.heap.size := HXq5.out.lt
            have HX7 := Lib.hid (HX4.out.below (M := NQ) hnx HB71.out)
            go_wp2_with fail
            obtain ⟨wo, hwo⟩ : ∃ wo, wo = w7 := ⟨_, rfl⟩
            subst hwo
            go_loopw [9] (fun jv wx => ∃ (j : Nat), j ≤ k ∧ jv = .int .i64 j ∧ (∀ i, i < j → l1.getD k [] ≠ [] → l1.getD i [] ≠ [] → key (l1.getD k []) ≠ key (l1.getD i [])) ∧ Below wo.heap.size wo wx) (fun jv _ => k - (intOf jv).toNat)
            case atStart => exact ⟨0, Nat.zero_le _, rfl, fun i hi => by omega, Below.refl _ _⟩
            case round =>
              obtain ⟨j, hj, rfl, hdj, hbj⟩ := hrel
              have HDJ := Lib.hid hdj
              have HBJ := Lib.hid hbj
              have HBJw := Lib.hid (HB7.out.trans (hbj.mono HB7.out.size))
              have HXj := Lib.hid (HX7.out.later hbj)
              clear hdj hbj
              by_cases hjk : j < k
              · have hjk2 : (j : Int) < (k : Int) := by omega
                have x0 := HXj.out.cell
                obtain ⟨tb2, off2, a2, n2, d2, hpe2, _, hcl2, hn2, hmx2, hrow2⟩ := ll_at (HP.out.below HBJw.out) k (by omega)
                simp only [Option.some.injEq, Addr.mk.injEq, and_true] at hpe2
                obtain ⟨rfl, rfl⟩ := hpe2
                obtain ⟨tb3, off3, a3, n3, d3, hpe3, _, hcl3, hn3, hmx3, hrow3⟩ := ll_at (HP.out.below HBJw.out) j (by omega)
                simp only [Option.some.injEq, Addr.mk.injEq, and_true] at hpe3
                obtain ⟨rfl, rfl⟩ := hpe3
                have hm2 : n2 ≤ 9223372036854775807 := by unfold maxLen at hmx2; omega
                have hm3 : n3 ≤ 9223372036854775807 := by unfold maxLen at hmx3; omega
                have hjl2 : (j : Int) < (l1.length : Int) := by omega
                have HNX := Lib.hid (show (l1.getD k [] ≠ [] → l1.getD j [] ≠ [] → key (l1.getD k []) ≠ key (l1.getD j [])) → ∀ i, i < j + 1 → l1.getD k [] ≠ [] → l1.getD i [] ≠ [] → key (l1.getD k []) ≠ key (l1.getD i []) from fun h i hi => by
                  by_cases hij : i = j
                  · rw [hij]; exact h
                  · exact HDJ.out i (by omega))
                by_cases he2 : l1.getD k [] = []
                · have hz2 : ¬ (0 : Int) < (n2 : Int) := by rw [hn2, he2]; simp
                  have hz2d : decide (0 < n2) = false := by rw [hn2, he2]; rfl
                  have HN2 := Lib.hid (HNX.out (fun h => absurd he2 h))
                  clear hrow2 hrow3 hn2 hn3 hmx2 hmx3 he2 HNX
                  go_wp2_with fail
                  go_quiet (fail)
                  have HBQ := Lib.hid (below_drewN HBJ.out nq)
                  clear hcl2 hcl3 x0
                  generalize wr.drewN nq = w8 at *
                  go_wp2_with fail
                  go_roundw
                  case rel => exact ⟨j + 1, by omega, by go_num, HN2.out, HBQ.out⟩
                  case measure => simp [intOf]; omega
                · have hp2 : 0 < n2 := by rw [hn2]; exact List.length_pos_iff.2 he2
                  have hz2 : (0 : Int) < (n2 : Int) := by omega
                  have hz2d : decide (0 < n2) = true := decide_eq_true hp2
                  by_cases he3 : l1.getD j [] = []
                  · have hz3 : ¬ (0 : Int) < (n3 : Int) := by rw [hn3, he3]; simp
                    have hz3d : decide (0 < n3) = false := by rw [hn3, he3]; rfl
                    have HN2 := Lib.hid (HNX.out (fun _ h => absurd he3 h))
                    clear hrow2 hrow3 hn2 hn3 hmx2 hmx3 he2 he3 HNX
                    go_wp2_with fail
                    go_quiet (fail)
                    have HBQ := Lib.hid (below_drewN HBJ.out nq)
                    clear hcl2 hcl3 x0
                    generalize wr.drewN nq = w8 at *
                    go_wp2_with fail
                    go_roundw
                    case rel => exact ⟨j + 1, by omega, by go_num, HN2.out, HBQ.out⟩
                    case measure => simp [intOf]; omega
                  · have hp3 : 0 < n3 := by rw [hn3]; exact List.length_pos_iff.2 he3
                    have hz3 : (0 : Int) < (n3 : Int) := by omega
                    have hz3d : decide (0 < n3) = true := decide_eq_true hp3
                    obtain ⟨rb2, ro2, rc2, hs2, hcell2, _, _⟩ := row_at (p := 0) hrow2 (by rw [ints_len]; omega)
                    obtain ⟨rb3, ro3, rc3, hs3, hcell3, _, _⟩ := row_at (p := 0) hrow3 (by rw [ints_len]; omega)
                    rw [ints_at _ 0 (by omega), Nat.add_zero] at hcell2 hcell3
                    have hk2 : (l1.getD k []).getD 0 0 = key (l1.getD k []) := rfl
                    have hk3 : (l1.getD j []).getD 0 0 = key (l1.getD j []) := rfl
                    rw [hk2] at hcell2
                    rw [hk3] at hcell3
                    simp only [Value.slice.injEq] at hs2 hs3
                    obtain ⟨rfl, hsn2, rfl⟩ := hs2
                    obtain ⟨rfl, hsn3, rfl⟩ := hs3
                    clear hsn2 hsn3
                    by_cases hkk : key (l1.getD k []) = key (l1.getD j [])
                    · have hkb : (key (l1.getD k []) == key (l1.getD j [])) = true := by simpa using hkk
                      generalize key (l1.getD k []) = kx2 at *
                      generalize key (l1.getD j []) = kx3 at *
                      clear hrow2 hrow3 hn2 hn3 hmx2 hmx3 he2 he3 HNX hkk hk2 hk3
                      go_wp2_with fail
                      go_quiet (fail)
                      have HBE := Lib.hid (below_drewN HBJw.out nq)
                      go_wp2
                      go_ret
                      exact ⟨rfl, HBE.out⟩
                    · have hkb : (key (l1.getD k []) == key (l1.getD j [])) = false := by simpa using hkk
                      have HN2 := Lib.hid (HNX.out (fun _ _ => hkk))
                      clear HNX HDJ
                      obtain ⟨kx2, hkx2⟩ : ∃ x, key (l1.getD k []) = x := ⟨_, rfl⟩
                      obtain ⟨kx3, hkx3⟩ : ∃ x, key (l1.getD j []) = x := ⟨_, rfl⟩
                      rw [hkx2] at hcell2 hkb
                      rw [hkx3] at hcell3 hkb
                      clear hrow2 hrow3 hn2 hn3 hmx2 hmx3 he2 he3 hkk hk2 hk3 hkx2 hkx3
                      go_wp2_with fail
                      go_quiet (fail)
                      have HBQ := Lib.hid (below_drewN HBJ.out nq)
                      clear hcl2 hcl3 x0
                      generalize wr.drewN nq = w8 at *
                      go_wp2_with fail
                      go_roundw
                      case rel => exact ⟨j + 1, by omega, by go_num, HN2.out, HBQ.out⟩
                      case measure => simp [intOf]; omega
              · obtain rfl : j = k := by omega
                have hjk2 : ¬ (j : Int) < (j : Int) := by omega
                have HDS7 := Lib.hid (show ∀ i, i < j + 1 → ∀ i2, i2 < i → l1.getD i [] ≠ [] → l1.getD i2 [] ≠ [] → key (l1.getD i []) ≠ key (l1.getD i2 []) from fun i hi i2 hi2 => by
                  by_cases hij : i = j
                  · rw [hij]; exact HDJ.out i2 (by omega)
                  · exact HDS.out i (by omega) i2 hi2)
                have HXq9 := Lib.hid (HXq5.out.later HBJ.out)
                have HOV9 := Lib.hid (HOV5.out.below HBJ.out)
                have HB91 := Lib.hid (HB71.out.trans (HBJ.out.mono (by omega)))
                have HVL9 := Lib.hid (show (vs ++ [Value.slice a1 n1 d1]).length = j + 1 by have := HVL.out; simp; omega)
                go_wp2_with fail
                go_roundw
                case rel => exact ⟨j + 1, _, _, by omega, by go_num, HXq9.out, HOV9.out, HVL9.out, HIN7.out, HDS7.out, HBJw.out, HB91.out⟩
                case measure => simp [intOf]; omega
        · obtain rfl : k = l1.length := by omega
          have hl2 : ¬ (l1.length : Int) < (l1.length : Int) := by omega
          obtain ⟨M, hM⟩ : ∃ M, l1.reverse = M := ⟨_, rfl⟩
          have HQw := Lib.hid (show In w vs M by have := HIN.out; rw [List.take_of_length_le (by simp)] at this; rwa [hM] at this)
          have HMW := Lib.hid (show FewP M by rw [← hM]; exact few_rev HW.out)
          have HMFi := Lib.hid (show Fits M by rw [← hM]; exact fits_rev HF.out)
          have HOO := Lib.hid (show ordL l1 = ordL M by rw [← hM]; exact (ord_rev HDS.out).symm)
          have HCO := Lib.hid (show (costE I0 M = 0 ↔ costE I0 l1 = 0) ∧ costN I0 M = costN I0 l1 by rw [← hM]; exact cost_rev)
          have hMl : M.length = l1.length := by rw [← hM]; simp
          obtain ⟨c0, c1, c2, c3⟩ := HYr.out.cells
          clear hxq hov hin hds hbw hbw1 hM hlt
          go_wp2_with fail
          change Calls _ _ #[insV I0 (.slice ad I0.l.length cap), planV (.slice la l1.length lc)] _ _
          refine (cost_any (HE.out.below HBr.out) (HP.out.below HBr.out)).mono ?_
          rintro e w5 ⟨rfl, hb⟩
          have HB5 := Lib.hid (HBr.out.trans (hb.mono HBr.out.size))
          have HY5 := Lib.hid (HYr.out.later hb)
          have HX5 := Lib.hid (HXr.out.later hb)
          have HXQ5 := Lib.hid (HXq.out.later hb)
          have HQ5 := Lib.hid (HOV.out.below hb)
          obtain ⟨qa, qc, rfl⟩ : ∃ a c, qv = .slice a vs.length c := own_shape (show wr.ownsRow _ 42 1 qv vs.length vs from HOV.out)
          rw [hvl] at HXQ5 HQ5
          clear hb x0 c0 c1 c2 c3
          obtain ⟨c0, c1, c2, c3⟩ := HY5.out.cells
          have q0 := HXQ5.out.cell
          go_wp2_with fail
          change Calls _ _ #[insV I0 (.slice ad I0.l.length cap), planV (.slice qa l1.length qc)] _ _
          refine (cost_any (HE.out.below HB5.out) (HQ5.out.lines (HQw.out.below HB5.out))).mono ?_
          rintro e w6 ⟨rfl, hb⟩
          have HB6 := Lib.hid (HB5.out.trans (hb.mono HB5.out.size))
          have HX6 := Lib.hid (HX5.out.later hb)
          have HXQ6 := Lib.hid (HXQ5.out.later hb)
          have HQ6 := Lib.hid (HQ5.out.below hb)
          clear hb c0 c1 c2 c3 q0
          obtain ⟨ce, hce⟩ : ∃ ce, costE I0 l1 = ce := ⟨_, rfl⟩
          obtain ⟨cn, hcn⟩ : ∃ cn, costN I0 l1 = cn := ⟨_, rfl⟩
          obtain ⟨de, hde⟩ : ∃ de, costE I0 M = de := ⟨_, rfl⟩
          obtain ⟨dn, hdn⟩ : ∃ dn, costN I0 M = dn := ⟨_, rfl⟩
          rw [hce, hcn, hde, hdn] at HCO
          rw [hce, hcn, hde, hdn]
          clear hce hcn hde hdn
          obtain ⟨hcd, rfl⟩ := HCO.out
          have hnn : (dn == dn) = true := by simp
          by_cases h0 : ce = 0
          · have h1 := hcd.2 h0
            clear hcd HCO
            subst h0 h1
            go_upto_region 17 with fail
            have hlx := HX6.out.lt
            have hlq6 := HXQ6.out.lt
            have x0 := HX6.out.cell
            have q0 := HXQ6.out.cell
            have HS0 := Lib.hid (show Holds [((⟨NQ, 0, none⟩ : Addr), Value.slice qa l1.length qc), (⟨w.heap.size + 1, 0, none⟩, .slice la l1.length lc)] w6.drew from ⟨q0, x0, trivial⟩)
            have hlt := Lib.hid (show Lows w6.drew.heap.size [((⟨NQ, 0, none⟩ : Addr), Value.slice qa l1.length qc), (⟨w.heap.size + 1, 0, none⟩, .slice la l1.length lc)] from ⟨hlq6, hlx, trivial⟩)
            have HBd := Lib.hid (HB6.out.trans ((Below.refl w.heap.size w6).drew))
            have HQd := Lib.hid (HQ6.out.below ((Below.refl w6.heap.size w6).drew))
            obtain ⟨sv, hsv⟩ : ∃ sv, strOfNums (textOf (ordL M)) = sv := ⟨_, rfl⟩
            have HSV := Lib.hid hsv
            clear x0 q0 hsv
            refine wp_region_held_drew (S := Holds [((⟨NQ, 0, none⟩ : Addr), Value.slice qa l1.length qc), (⟨w.heap.size + 1, 0, none⟩, .slice la l1.length lc)]) (by kernel_rfl) HS0.out (fun hSn => ?_)
            have Bc := Lib.hid (Below.refl w6.drew.heap.size w6.drew)
            refine tks [0, 1, 2, 3, 4, 5, 6, 7, 8, 9, 10, 11, 12] 13 rfl (by kernel_rfl) (fun _ _ _ _ h => h) (by assumption) (fun KT hKT => ?_)
            iterate 13 (refine tkT (by (simp only [gA, gB, gC]; rfl)) (by rfl) (by (intro w hSw; (simp only [Holds] at hSw); go_simp <;> with_reducible rfl)) ?_; simp only [Act.put, pA, pB, pC])
            refine hKT _ ?_
            clear KT hKT
            refine wpAnyH_ready (rs := [13]) (by kernel_rfl) (by simp) ?_
            refine AllReadyH.cons (o := ?oz9) ?iz9 (fun K hK => ?kz9) AllReadyH.nil
            case iz9 => (simp only [List.getElem?_toArray, List.getElem?_cons_zero, List.getElem?_cons_succ]; rfl)
            go_simp
            change Calls _ _ #[planV (.slice la l1.length lc), planV (.slice qa l1.length qc)] _ _
            refine (vsame_any (HP.out.below (HBd.out.trans (Bc.out.mono HB6.out.size))) ((HQd.out.below Bc.out).lines (HQw.out.below (HBd.out.trans (Bc.out.mono HB6.out.size)))) HW.out HMW.out).mono ?_
            rw [HOO.out, decide_eq_true rfl]
            rintro e w7 ⟨rfl, hb⟩
            refine held_more hK HS0.out hlt (Bc.out.trans (hb.mono Bc.out.size)) (fun Bc hSn => ?_)
            clear hb hK
            refine tks [14, 15] 2 rfl (by kernel_rfl) (fun _ _ _ _ h => h) (by assumption) (fun KT hKT => ?_)
            iterate 2 (refine tkT (by (simp only [gA, gB, gC]; rfl)) (by rfl) (by (intro w hSw; (simp only [Holds] at hSw); go_simp <;> with_reducible rfl)) ?_; simp only [Act.put, pA, pB, pC])
            refine hKT _ ?_
            clear KT hKT
            refine tks [16, 19] 2 rfl (by kernel_rfl) (fun _ _ _ _ h => h) (by assumption) (fun KT hKT => ?_)
            iterate 2 (refine tkT (by (simp only [gA, gB, gC]; rfl)) (by rfl) (by (intro w hSw; (simp only [Holds] at hSw); go_simp <;> with_reducible rfl)) ?_; simp only [Act.put, pA, pB, pC])
            refine hKT _ ?_
            clear KT hKT
            refine wpAnyH_ready (rs := [17]) (by kernel_rfl) (by simp) ?_
            refine AllReadyH.cons (o := ?oz10) ?iz10 (fun K hK => ?kz10) AllReadyH.nil
            case iz10 => (simp only [List.getElem?_toArray, List.getElem?_cons_zero, List.getElem?_cons_succ]; rfl)
            go_simp
            change Calls _ _ #[planV (.slice la l1.length lc)] _ _
            refine (vprint_any (HP.out.below (HBd.out.trans (Bc.out.mono HB6.out.size))) HW.out HF.out ((HT.out.on (HBd.out.trans (Bc.out.mono HB6.out.size))).up (HBd.out.trans (Bc.out.mono HB6.out.size)).size)).mono ?_
            rw [HOO.out]
            rintro e w8 ⟨t1, rfl, ht1, hb⟩
            have hcv := conv_row ht1.row
            rw [HSV.out] at hcv
            have HT1 := Lib.hid ht1
            refine held_more hK HS0.out hlt (Bc.out.trans (hb.mono Bc.out.size)) (fun Bc hSn => ?_)
            clear hb hK ht1
            refine wpAnyH_strong (S' := fun w' => Holds [((⟨NQ, 0, none⟩ : Addr), Value.slice qa l1.length qc), (⟨w.heap.size + 1, 0, none⟩, .slice la l1.length lc)] w' ∧ (convert 34 9 t1).run Tryd.prog w' = .ok (.string sv) w') (fun _ h => h.1) _ _ _ _ ?_
            have hSn := And.intro hSn hcv
            refine tks [18] 1 rfl (by kernel_rfl) (fun _ _ _ _ h => h) (by assumption) (fun KT hKT => ?_)
            refine tkT (by (simp only [gA, gB, gC]; rfl)) (by rfl) (by (intro w hSw; (simp only [Holds] at hSw); go_simp <;> with_reducible rfl)) ?_
            simp only [Act.put, pA, pB, pC]
            refine hKT _ ?_
            clear KT hKT
            refine wpAnyH_ready (rs := [20]) (by kernel_rfl) (by simp) ?_
            refine AllReadyH.cons (o := ?oz11) ?iz11 (fun K hK => ?kz11) AllReadyH.nil
            case iz11 => (simp only [List.getElem?_toArray, List.getElem?_cons_zero, List.getElem?_cons_succ]; rfl)
            go_simp
            change Calls _ _ #[planV (.slice qa l1.length qc)] _ _
            refine (vprint_any ((HQd.out.below Bc.out).lines (HQw.out.below (HBd.out.trans (Bc.out.mono HB6.out.size)))) HMW.out HMFi.out ((HT.out.on (HBd.out.trans (Bc.out.mono HB6.out.size))).up (HBd.out.trans (Bc.out.mono HB6.out.size)).size)).mono ?_
            
            rintro e w9 ⟨t2, rfl, ht2, hb⟩
            have hcv2 := conv_row ht2.row
            rw [HSV.out] at hcv2
            have hcv1 := conv_row (HT1.out.below hb).row
            rw [HSV.out] at hcv1
            have Bc9 := Lib.hid (Bc.out.trans (hb.mono Bc.out.size))
            have HH9 := Holds.below Bc9.out HS0.out hlt.out
            refine hK.out _ _ ⟨HH9, hcv1⟩ (fun _ => ?_)
            clear hb hK ht2
            refine wpAnyH_strong (S' := fun w' => (Holds [((⟨NQ, 0, none⟩ : Addr), Value.slice qa l1.length qc), (⟨w.heap.size + 1, 0, none⟩, .slice la l1.length lc)] w' ∧ (convert 34 9 t1).run Tryd.prog w' = .ok (.string sv) w') ∧ (convert 34 9 t2).run Tryd.prog w' = .ok (.string sv) w') (fun _ h => h.1) _ _ _ _ ?_
            have hSn := And.intro (And.intro HH9 hcv1) hcv2
            refine tks [21, 22, 23, 24] 4 rfl (by kernel_rfl) (fun _ _ _ _ h => h) (by assumption) (fun KT hKT => ?_)
            iterate 4 (refine tkT (by (simp only [gA, gB, gC]; rfl)) (by rfl) (by (intro w hSw; (simp only [Holds] at hSw); go_simp <;> with_reducible rfl)) ?_; simp only [Act.put, pA, pB, pC])
            refine hKT _ ?_
            clear KT hKT
            refine wpAnyH_done (by kernel_rfl) ?_ _
            have HB9 := Lib.hid (HBd.out.trans (Bc9.out.mono HB6.out.size))
            clear HS0 hlt hSn Bc Bc9 HH9 hcv1 hcv2
            go_wp2
            go_ret
            exact ⟨rfl, HB9.out⟩
          · have h1 : ¬ de = 0 := fun h => h0 (hcd.1 h)
            have h2 : (ce == 0) = false := by simpa using h0
            have h3 : (de == 0) = false := by simpa using h1
            clear hcd HCO h0 h1
            go_upto_region 17 with fail
            have hlx := HX6.out.lt
            have hlq6 := HXQ6.out.lt
            have x0 := HX6.out.cell
            have q0 := HXQ6.out.cell
            have HS0 := Lib.hid (show Holds [((⟨NQ, 0, none⟩ : Addr), Value.slice qa l1.length qc), (⟨w.heap.size + 1, 0, none⟩, .slice la l1.length lc)] w6.drew from ⟨q0, x0, trivial⟩)
            have hlt := Lib.hid (show Lows w6.drew.heap.size [((⟨NQ, 0, none⟩ : Addr), Value.slice qa l1.length qc), (⟨w.heap.size + 1, 0, none⟩, .slice la l1.length lc)] from ⟨hlq6, hlx, trivial⟩)
            have HBd := Lib.hid (HB6.out.trans ((Below.refl w.heap.size w6).drew))
            have HQd := Lib.hid (HQ6.out.below ((Below.refl w6.heap.size w6).drew))
            obtain ⟨sv, hsv⟩ : ∃ sv, strOfNums (textOf (ordL M)) = sv := ⟨_, rfl⟩
            have HSV := Lib.hid hsv
            clear x0 q0 hsv
            refine wp_region_held_drew (S := Holds [((⟨NQ, 0, none⟩ : Addr), Value.slice qa l1.length qc), (⟨w.heap.size + 1, 0, none⟩, .slice la l1.length lc)]) (by kernel_rfl) HS0.out (fun hSn => ?_)
            have Bc := Lib.hid (Below.refl w6.drew.heap.size w6.drew)
            refine tks [0, 1, 2, 3, 4, 5, 6, 7, 8, 9, 10, 11, 12] 13 rfl (by kernel_rfl) (fun _ _ _ _ h => h) (by assumption) (fun KT hKT => ?_)
            iterate 13 (refine tkT (by (simp only [gA, gB, gC]; rfl)) (by rfl) (by (intro w hSw; (simp only [Holds] at hSw); go_simp <;> with_reducible rfl)) ?_; simp only [Act.put, pA, pB, pC])
            refine hKT _ ?_
            clear KT hKT
            refine wpAnyH_ready (rs := [13]) (by kernel_rfl) (by simp) ?_
            refine AllReadyH.cons (o := ?oz12) ?iz12 (fun K hK => ?kz12) AllReadyH.nil
            case iz12 => (simp only [List.getElem?_toArray, List.getElem?_cons_zero, List.getElem?_cons_succ]; rfl)
            go_simp
            change Calls _ _ #[planV (.slice la l1.length lc), planV (.slice qa l1.length qc)] _ _
            refine (vsame_any (HP.out.below (HBd.out.trans (Bc.out.mono HB6.out.size))) ((HQd.out.below Bc.out).lines (HQw.out.below (HBd.out.trans (Bc.out.mono HB6.out.size)))) HW.out HMW.out).mono ?_
            rw [HOO.out, decide_eq_true rfl]
            rintro e w7 ⟨rfl, hb⟩
            refine held_more hK HS0.out hlt (Bc.out.trans (hb.mono Bc.out.size)) (fun Bc hSn => ?_)
            clear hb hK
            refine tks [14, 15] 2 rfl (by kernel_rfl) (fun _ _ _ _ h => h) (by assumption) (fun KT hKT => ?_)
            iterate 2 (refine tkT (by (simp only [gA, gB, gC]; rfl)) (by rfl) (by (intro w hSw; (simp only [Holds] at hSw); go_simp <;> with_reducible rfl)) ?_; simp only [Act.put, pA, pB, pC])
            refine hKT _ ?_
            clear KT hKT
            refine tks [16, 19] 2 rfl (by kernel_rfl) (fun _ _ _ _ h => h) (by assumption) (fun KT hKT => ?_)
            iterate 2 (refine tkT (by (simp only [gA, gB, gC]; rfl)) (by rfl) (by (intro w hSw; (simp only [Holds] at hSw); go_simp <;> with_reducible rfl)) ?_; simp only [Act.put, pA, pB, pC])
            refine hKT _ ?_
            clear KT hKT
            refine wpAnyH_ready (rs := [17]) (by kernel_rfl) (by simp) ?_
            refine AllReadyH.cons (o := ?oz13) ?iz13 (fun K hK => ?kz13) AllReadyH.nil
            case iz13 => (simp only [List.getElem?_toArray, List.getElem?_cons_zero, List.getElem?_cons_succ]; rfl)
            go_simp
            change Calls _ _ #[planV (.slice la l1.length lc)] _ _
            refine (vprint_any (HP.out.below (HBd.out.trans (Bc.out.mono HB6.out.size))) HW.out HF.out ((HT.out.on (HBd.out.trans (Bc.out.mono HB6.out.size))).up (HBd.out.trans (Bc.out.mono HB6.out.size)).size)).mono ?_
            rw [HOO.out]
            rintro e w8 ⟨t1, rfl, ht1, hb⟩
            have hcv := conv_row ht1.row
            rw [HSV.out] at hcv
            have HT1 := Lib.hid ht1
            refine held_more hK HS0.out hlt (Bc.out.trans (hb.mono Bc.out.size)) (fun Bc hSn => ?_)
            clear hb hK ht1
            refine wpAnyH_strong (S' := fun w' => Holds [((⟨NQ, 0, none⟩ : Addr), Value.slice qa l1.length qc), (⟨w.heap.size + 1, 0, none⟩, .slice la l1.length lc)] w' ∧ (convert 34 9 t1).run Tryd.prog w' = .ok (.string sv) w') (fun _ h => h.1) _ _ _ _ ?_
            have hSn := And.intro hSn hcv
            refine tks [18] 1 rfl (by kernel_rfl) (fun _ _ _ _ h => h) (by assumption) (fun KT hKT => ?_)
            refine tkT (by (simp only [gA, gB, gC]; rfl)) (by rfl) (by (intro w hSw; (simp only [Holds] at hSw); go_simp <;> with_reducible rfl)) ?_
            simp only [Act.put, pA, pB, pC]
            refine hKT _ ?_
            clear KT hKT
            refine wpAnyH_ready (rs := [20]) (by kernel_rfl) (by simp) ?_
            refine AllReadyH.cons (o := ?oz14) ?iz14 (fun K hK => ?kz14) AllReadyH.nil
            case iz14 => (simp only [List.getElem?_toArray, List.getElem?_cons_zero, List.getElem?_cons_succ]; rfl)
            go_simp
            change Calls _ _ #[planV (.slice qa l1.length qc)] _ _
            refine (vprint_any ((HQd.out.below Bc.out).lines (HQw.out.below (HBd.out.trans (Bc.out.mono HB6.out.size)))) HMW.out HMFi.out ((HT.out.on (HBd.out.trans (Bc.out.mono HB6.out.size))).up (HBd.out.trans (Bc.out.mono HB6.out.size)).size)).mono ?_
            
            rintro e w9 ⟨t2, rfl, ht2, hb⟩
            have hcv2 := conv_row ht2.row
            rw [HSV.out] at hcv2
            have hcv1 := conv_row (HT1.out.below hb).row
            rw [HSV.out] at hcv1
            have Bc9 := Lib.hid (Bc.out.trans (hb.mono Bc.out.size))
            have HH9 := Holds.below Bc9.out HS0.out hlt.out
            refine hK.out _ _ ⟨HH9, hcv1⟩ (fun _ => ?_)
            clear hb hK ht2
            refine wpAnyH_strong (S' := fun w' => (Holds [((⟨NQ, 0, none⟩ : Addr), Value.slice qa l1.length qc), (⟨w.heap.size + 1, 0, none⟩, .slice la l1.length lc)] w' ∧ (convert 34 9 t1).run Tryd.prog w' = .ok (.string sv) w') ∧ (convert 34 9 t2).run Tryd.prog w' = .ok (.string sv) w') (fun _ h => h.1) _ _ _ _ ?_
            have hSn := And.intro (And.intro HH9 hcv1) hcv2
            refine tks [21, 22, 23, 24] 4 rfl (by kernel_rfl) (fun _ _ _ _ h => h) (by assumption) (fun KT hKT => ?_)
            iterate 4 (refine tkT (by (simp only [gA, gB, gC]; rfl)) (by rfl) (by (intro w hSw; (simp only [Holds] at hSw); go_simp <;> with_reducible rfl)) ?_; simp only [Act.put, pA, pB, pC])
            refine hKT _ ?_
            clear KT hKT
            refine wpAnyH_done (by kernel_rfl) ?_ _
            have HB9 := Lib.hid (HBd.out.trans (Bc9.out.mono HB6.out.size))
            clear HS0 hlt hSn Bc Bc9 HH9 hcv1 hcv2
            go_wp2
            go_ret
            exact ⟨rfl, HB9.out⟩
  · have hdf : decide (FewP l1) = false := decide_eq_false hfew
    rw [hdf]
    clear hdf hfew
    go_wp2
    go_ret
    exact ⟨rfl, HB2.out⟩

set_option maxRecDepth 100000 in
theorem lifted (os : Os) (started : os.Started) (H : Type) (enc : TypeId × Value → H) :
    ReturnsInHanded {} Tryd.checked os 6 .any (fun w args => (Rows.planOrderSpec.pre enc Tryd.prog Tryd.f6 [] false w args ∧ laidMetH Tryd.prog Rows.planOrderRow.laid w) ∧ sizedMet enc Tryd.prog Tryd.f6 (OpenSpec.ofChange Rows.planOrderSpec) false w args)
      (Rows.planOrderSpec.post enc Tryd.prog Tryd.f6 false true false false) := by
  refine returnsInHanded_of_change_and (C := Tryd.checked) (X := fun w _ => laidMetH Tryd.prog Rows.planOrderRow.laid w) (fun _ _ _ hh h => h.of_heap hh) own started (by kernel_rfl) Tryd.func6
    (ChangeSpec.witness_shaped (enc := enc) (C := Tryd.checked) (os := os) (X := fun w _ => laidMetH Tryd.prog Rows.planOrderRow.laid w) false (World.doorLaid Tryd.prog 24 os) #[.agg #[.int .i64 0, .int .i64 0, .int .i64 0, .slice none 0 0], .agg #[.slice none 0 0]] 8 rfl (World.shaped_of_RefB (by kernel_rfl) (by kernel_rfl)) (by kernel_rfl) (by kernel_rfl) (by kernel_rfl) (door_met os _)) ?_
  intro W base args ds gs before hval0 hW _ _ hL _
  have hval : ∀ (j : Nat) t v, Tryd.f6.params[j]? = some t → args[j]? = some v → Value.okWide Tryd.prog W .any base t v := hval0
  have hW' := hW
  obtain ⟨p, q, hA0, hV, rfl, hfz, hnd⟩ := hW
  have hA : DataW.TrodAll enc Tryd.prog W 0 (fun _ => true) true Tryd.f6.params.toList args.toList ds p := hA0
  rw [Tryd.params6] at hA hval
  obtain ⟨v0, vs0, d0, ds0, p0, q0, hargs, rfl, rfl, h0, r0⟩ := trodAll_cons hA
  obtain ⟨v1, vs1, d1, ds1, p1, q1, rfl, rfl, rfl, h1, r1⟩ := trodAll_cons r0
  obtain ⟨rfl, rfl, rfl⟩ := trodAll_nil r1
  obtain rfl : args = #[v0, v1] := by cases args; simp_all
  obtain ⟨rfl, rfl⟩ := trodVars_none hV
  have k0 := h0
  have lt0 : ∀ x ∈ p0, x.block < W.heap.size := by obtain ⟨m, hm⟩ := k0; exact DataW.trod_lt m _ _ _ hm
  have k1 := h1
  have lt1 : ∀ x ∈ p1, x.block < W.heap.size := by obtain ⟨m, hm⟩ := k1; exact DataW.trod_lt m _ _ _ hm
  obtain ⟨I0, u0, rfl, e0, _⟩ := open_inst (hval 0 24 v0 rfl rfl) h0
  obtain ⟨u1, l1, rfl, e1, f1⟩ := open_plan (hval 1 27 v1 rfl rfl) h1
  have hT := tab_of_laid hL
  clear hA0 hval0
  refine (walk I0 _ _ l1 W e0 e1 f1 hT).mono fun e W' ⟨he, bel⟩ => ?_
  subst he
  exact ⟨_, rfl, _, _, _, [], _, [], hW', trodAll_mk1 (shut_bool Tryd.underlying4 _), (trodAll_cons_mk (Below.trod laidOut (by kernel_rfl) (of_decide_eq_true (by kernel_rfl)) k0 bel lt0) (trodAll_cons_mk (Below.trod laidOut (by kernel_rfl) (of_decide_eq_true (by kernel_rfl)) k1 bel lt1) trodAll_mk0)), rfl, bel.frame _, fun h => by cases h⟩

theorem over : Rows.PlanOrderSaid :=
  OpenClaim.holds_of_wide 6 Tryd.f6 rfl rfl rfl rfl rfl rfl rfl ⟨rfl, rfl, rfl, rfl, rfl⟩ rfl rfl rfl rfl rfl (by kernel_rfl) Tryd.func6 (by kernel_rfl)
    (of_decide_eq_true (by kernel_rfl)) (by unfold Func.isWrapper; first | (rw [if_pos (by decide +kernel)]; kernel_rfl) | (rw [if_neg (by decide +kernel)]; exact ⟨rfl, rfl⟩))
    (fun os started H enc _ => lifted os started H enc)

theorem proved : Rows.PlanOrderCardSaid :=
  Claim7.holds_tied_plain_at .later [] [.data, .data, .data] true Rows.planOrderCard.stood.harness false
    over (fun _ h => by cases h) (by kernel_rfl) (fun _ h => by cases h) planOrder_row_tie rfl ⟨rfl, rfl⟩ (by kernel_rfl) rfl
    (fun f fn hf hfn => by
      obtain rfl : f = 6 := Option.some.inj ((show Tryd.prog.funcNamed Rows.planOrderRow.func = some 6 by kernel_rfl).symm.trans hf) |>.symm
      obtain rfl : fn = Tryd.f6 := (Option.some.inj (Tryd.func6.symm.trans hfn)).symm
      refine ⟨by kernel_rfl, fun j t ht => ?_⟩
      rw [Tryd.params6] at ht
      rcases j with _ | _ | j
      · obtain rfl : t = 24 := by simpa using ht.symm
        exact (show Tryd.prog.wantsStandIn 24 = false by kernel_rfl)
      · obtain rfl : t = 27 := by simpa using ht.symm
        exact (show Tryd.prog.wantsStandIn 27 = false by kernel_rfl)
      · simp at ht)
    (by kernel_rfl)
#print axioms proved
end Go.Proofs.YtpdeffpmfbplnaaDoor.planOrder
