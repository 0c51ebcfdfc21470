/- Routes in the opposite order cost the same, are the same plan, and are printed the same, if no two begin with the same stop: for every instance and every plan (the law answers true at once for more than 100 stops, 40 routes, 100 stops of a route). -/
import Derived.Test.YtjpdhicpkcmjgaaDoorRows
import Derived.Test.YtjpdhicpkcmjgaaDoorTie
import Derived.Test.YtjpdhicpkcmjgaaDoorCards
import Derived.Test.YtjpdhicpkcmjgaaDoorXPrint
import Derived.SevenTiedAt
import Derived.Test.YtjpdhicpkcmjgaaDoorVVals
import Derived.Deep.CutRange
namespace Go.Proofs.YtjpdhicpkcmjgaaDoor.planOrder
open Go.ChangeShapes Go.WideShapes Go.ChangeAt Go.RowKit

set_option maxRecDepth 1000000 in
set_option maxHeartbeats 4000000 in
theorem walk (I0 : Ins) (v0 : Value) (v1 : Value) (l1 : List (List Int)) (w : World) (e0 : SRow w v0 I0.l) (e1 : IsLL w v1 l1) (f1 : Fits l1) (hT : Tab w.heap.size w) :
    Calls Tryd.prog 6 #[insV I0 v0, planV v1] w fun e w' => e = .returned (.bool true) ∧ Below w.heap.size w w' := by
  have HT := Lib.hid hT
  have HE := Lib.hid e0
  have HP := Lib.hid e1
  have HF := Lib.hid f1
  obtain ⟨ad, cap, rfl, hm, _⟩ := e0.form
  obtain ⟨la, lc, rfl, hlm⟩ := e1.form
  have hm1 : I0.l.length ≤ 9223372036854775807 := by unfold maxLen at hm; omega
  have hlm1 : l1.length ≤ 9223372036854775807 := by unfold maxLen at hlm; omega
  obtain ⟨hy, hx, hb, hsz⟩ := worldC_facts w I0 (.slice ad I0.l.length cap) (.slice la l1.length lc)
  have HY := Lib.hid hy
  have HX := Lib.hid (show PBox _ _ _ from hx)
  have HB := Lib.hid hb
  have HSZ := Lib.hid hsz
  clear hT e0 e1 f1 hm hlm hy hx hb hsz
  unfold insV planV
  go_enter Tryd.func6, Tryd.ntmps6
  go_upto_region 1 with fail
  change Code.wp _ _ _ _ (worldC w I0 (.slice ad I0.l.length cap) (.slice la l1.length lc))
  generalize worldC w I0 (.slice ad I0.l.length cap) (.slice la l1.length lc) = W at *
  go_wp2_with fail
  refine (vawake_any ((HT.out.on HB.out).up HB.out.size)).mono ?_
  rintro e w1 ⟨rfl, hb⟩
  have HB1 := Lib.hid (HB.out.trans (hb.mono HB.out.size))
  have HY1 := Lib.hid (HY.out.later hb)
  have HX1 := Lib.hid (HX.out.later hb)
  have HSZ1 := Lib.hid (show w.heap.size + 2 ≤ w1.heap.size by have := HSZ.out; have := hb.size; omega)
  have x0 := HX1.out.cell
  clear hb
  go_wp2_with fail
  change Calls _ _ #[planV (.slice la l1.length lc)] _ _
  refine (vfew_any (HP.out.below HB1.out)).mono ?_
  rintro e w2 ⟨rfl, hb⟩
  have HB2 := Lib.hid (HB1.out.trans (hb.mono HB1.out.size))
  have HY2 := Lib.hid (HY1.out.later hb)
  have HX2 := Lib.hid (HX1.out.later hb)
  have HSZ2 := Lib.hid (show w.heap.size + 2 ≤ w2.heap.size by have := HSZ1.out; have := hb.size; omega)
  clear hb x0
  obtain ⟨c0, c1, c2, c3⟩ := HY2.out.cells
  have x0 := HX2.out.cell
  by_cases hfew : FewP l1
  · have hdf : decide (FewP l1) = true := decide_eq_true hfew
    have HW := Lib.hid hfew
    rw [hdf]
    clear hdf hfew
    by_cases hlen : 100 < I0.l.length
    · have hlen2 : (100 : Int) < (I0.l.length : Int) := by omega
      go_wp2
      go_ret
      exact ⟨rfl, HB2.out⟩
    · have hlen2 : ¬ (100 : Int) < (I0.l.length : Int) := by omega
      have HBq := (Below.refl w2.heap.size w2).alloc (Nat.le_refl _) (.cells #[.slice none 0 0] 27)
      have HB4 := Lib.hid (HB2.out.alloc HB2.out.size (.cells #[.slice none 0 0] 27))
      have HY4 := Lib.hid (HY2.out.later HBq)
      have HX4 := Lib.hid (HX2.out.later HBq)
      have HXQ := Lib.hid (pbox_new w2 (.slice none 0 0))
      have hnx : w.heap.size + 1 < w2.heap.size := HX2.out.lt
      have hsz4 : (w2.alloc (.cells #[.slice none 0 0] 27)).heap.size = w2.heap.size + 1 := by simp
      clear HBq x0
      go_upto_region 6 with fail
      clear c0 c1 c2 c3
      generalize w2.alloc (.cells #[.slice none 0 0] 27) = W4 at *
      have hszw2 : w.heap.size ≤ w2.heap.size := HB2.out.size
      generalize w2.heap.size = NQ at *
      go_wp2_with fail
      go_loopw [8] (fun kv wr => ∃ (k : Nat) (qv : Value) (vs : List Value), k ≤ l1.length ∧ kv = .int .i64 k ∧ PBox wr NQ qv ∧ OwnV wr (NQ + 1) qv vs ∧ vs.length = k ∧ In w vs (l1.reverse.take k) ∧ (∀ i, i < k → ∀ j, j < i → l1.getD i [] ≠ [] → l1.getD j [] ≠ [] → key (l1.getD i []) ≠ key (l1.getD j [])) ∧ Below w.heap.size w wr ∧ Below NQ W4 wr) (fun kv _ => l1.length - (intOf kv).toNat)
      case atStart => exact ⟨0, .slice none 0 0, [], Nat.zero_le _, rfl, HXQ.out, ownV_nil _ _, rfl, trivial, fun i hi => by omega, HB4.out, Below.refl _ _⟩
      case round =>
        obtain ⟨k, qv, vs, hk, rfl, hxq, hov, hvl, hin, hds, hbw, hbw1⟩ := hrel
        have HXq := Lib.hid hxq
        have HOV := Lib.hid hov
        have HIN := Lib.hid hin
        have HDS := Lib.hid hds
        have HBr := Lib.hid hbw
        have HBr1 := Lib.hid hbw1
        have HYr := Lib.hid (HY4.out.below (M := NQ) (by omega) hbw1)
        have HXr := Lib.hid (HX4.out.below (M := NQ) (by omega) hbw1)
        have hlq := hxq.lt
        have x0 := HXr.out.cell
        by_cases hlt : k < l1.length
        · have hlt2 : (k : Int) < (l1.length : Int) := by omega
          obtain ⟨ri, hri⟩ : ∃ ri, ri = l1.length - 1 - k := ⟨_, rfl⟩
          have hrl : ri < l1.length := by omega
          obtain ⟨tb, off, a1, n1, d1, hpe, htb, hcw, hn1, hmx, hrow⟩ := ll_at HP.out ri hrl
          obtain rfl := hpe
          have hcl := (hbw.cell (p := ⟨tb, off + ri, none⟩) htb).trans hcw
          have HRT := Lib.hid (show l1.reverse.take (k + 1) = l1.reverse.take k ++ [l1.getD ri []] by rw [hri]; exact rev_take hlt)
          have HRow := Lib.hid hrow
          have e1 : IntKind.i64.wrap ((l1.length : Int) - 1) = ((l1.length - 1 : Nat) : Int) := by rw [IntWalk.i64_in _ (by omega)]; omega
          have e2 : IntKind.i64.wrap (((l1.length - 1 : Nat) : Int) - (k : Int)) = (ri : Int) := by rw [IntWalk.i64_in _ (by omega)]; omega
          obtain ⟨p1, hp1⟩ : ∃ p1, l1.length - 1 = p1 := ⟨_, rfl⟩
          rw [hp1] at e1 e2
          have htq : tb < NQ := by omega
          have hvs : vs.length ≤ 1000000 := by have := HW.out.1; omega
          have HVL := Lib.hid hvl
          clear hxq hov hin hds hbw hbw1 hri hrow hn1 hmx hp1 hvl
          go_wp2_with fail
          have HS0 := Lib.hid (show Holds [((⟨w.heap.size + 1, 0, none⟩ : Addr), Value.slice (some ⟨tb, off, none⟩) l1.length lc), (⟨tb, off + ri, none⟩, .slice a1 n1 d1)] wr.drew from ⟨x0, hcl, trivial⟩)
          have hltq := Lib.hid (show Lows NQ [((⟨w.heap.size + 1, 0, none⟩ : Addr), Value.slice (some ⟨tb, off, none⟩) l1.length lc), (⟨tb, off + ri, none⟩, .slice a1 n1 d1)] from ⟨hnx, htq, trivial⟩)
          have hlt := Lib.hid (show Lows wr.drew.heap.size [((⟨w.heap.size + 1, 0, none⟩ : Addr), Value.slice (some ⟨tb, off, none⟩) l1.length lc), (⟨tb, off + ri, none⟩, .slice a1 n1 d1)] from ⟨by show w.heap.size + 1 < wr.heap.size; omega, by show tb < wr.heap.size; omega, trivial⟩)
          clear x0 hcl
          refine wp_region_held_drew (S := Holds [((⟨w.heap.size + 1, 0, none⟩ : Addr), Value.slice (some ⟨tb, off, none⟩) l1.length lc), (⟨tb, off + ri, none⟩, .slice a1 n1 d1)]) (by kernel_rfl) HS0.out (fun hSn => ?_)
          have Bc := Lib.hid (Below.refl wr.drew.heap.size wr.drew)
          have HXD := Lib.hid (show PBox wr.drew NQ qv from HXq.out.later ((Below.refl _ _).drew))
          have HOD := Lib.hid (show OwnV wr.drew (NQ + 1) qv vs from HOV.out.below ((Below.refl _ _).drew))
          have hdsz : wr.drew.heap.size = wr.heap.size := rfl
          refine wpAnyH_take (i := 0) (oi := ?oz1) (v := ?vz1) ?iz1 (by kernel_rfl) (by kernel_rfl) (by kernel_rfl) ?qz1 (Or.inl ⟨?gz1, ?hz1⟩) (by assumption) ?rz1
          case iz1 => (simp only [List.getElem?_toArray, List.getElem?_cons_zero]; rfl)
          case qz1 => exact fun _ _ _ h => h
          case gz1 => rfl
          case hz1 => (intro w hSw; (simp only [Holds] at hSw); go_simp <;> with_reducible rfl)
          simp only [Act.put, List.setIfInBounds_toArray, List.set_cons_zero, List.set_cons_succ]
          refine wpAnyH_take (i := 2) (oi := ?oz2) (v := ?vz2) ?iz2 (by kernel_rfl) (by kernel_rfl) (by kernel_rfl) ?qz2 (Or.inl ⟨?gz2, ?hz2⟩) (by assumption) ?rz2
          case iz2 => (simp only [List.getElem?_toArray, List.getElem?_cons_zero, List.getElem?_cons_succ]; rfl)
          case qz2 => exact fun _ _ _ h => h
          case gz2 => rfl
          case hz2 => (intro w hSw; (simp only [Holds] at hSw); go_simp <;> with_reducible rfl)
          simp only [Act.put, List.setIfInBounds_toArray, List.set_cons_zero, List.set_cons_succ]
          refine wpAnyH_take (i := 3) (oi := ?oz3) (v := ?vz3) ?iz3 (by kernel_rfl) (by kernel_rfl) (by kernel_rfl) ?qz3 (Or.inl ⟨?gz3, ?hz3⟩) (by assumption) ?rz3
          case iz3 => (simp only [List.getElem?_toArray, List.getElem?_cons_zero, List.getElem?_cons_succ]; rfl)
          case qz3 => exact fun _ _ _ h => h
          case gz3 => rfl
          case hz3 => (intro w hSw; (simp only [Holds] at hSw); go_simp <;> with_reducible rfl)
          simp only [Act.put, List.setIfInBounds_toArray, List.set_cons_zero, List.set_cons_succ]
          refine wpAnyH_take (i := 4) (oi := ?oz4) (v := ?vz4) ?iz4 (by kernel_rfl) (by kernel_rfl) (by kernel_rfl) ?qz4 (Or.inl ⟨?gz4, ?hz4⟩) (by assumption) ?rz4
          case iz4 => (simp only [List.getElem?_toArray, List.getElem?_cons_zero, List.getElem?_cons_succ]; rfl)
          case qz4 => exact fun _ _ _ h => h
          case gz4 => rfl
          case hz4 => (intro w hSw; (simp only [Holds] at hSw); go_simp <;> with_reducible rfl)
          simp only [Act.put, List.setIfInBounds_toArray, List.set_cons_zero, List.set_cons_succ]
          refine wpAnyH_take (i := 5) (oi := ?oz5) (v := ?vz5) ?iz5 (by kernel_rfl) (by kernel_rfl) (by kernel_rfl) ?qz5 (Or.inl ⟨?gz5, ?hz5⟩) (by assumption) ?rz5
          case iz5 => (simp only [List.getElem?_toArray, List.getElem?_cons_zero, List.getElem?_cons_succ]; rfl)
          case qz5 => exact fun _ _ _ h => h
          case gz5 => rfl
          case hz5 => (intro w hSw; (simp only [Holds] at hSw); go_simp <;> with_reducible rfl)
          simp only [Act.put, List.setIfInBounds_toArray, List.set_cons_zero, List.set_cons_succ]
          refine wpAnyH_take (i := 6) (oi := ?oz6) (v := ?vz6) ?iz6 (by kernel_rfl) (by kernel_rfl) (by kernel_rfl) ?qz6 (Or.inl ⟨?gz6, ?hz6⟩) (by assumption) ?rz6
          case iz6 => (simp only [List.getElem?_toArray, List.getElem?_cons_zero, List.getElem?_cons_succ]; rfl)
          case qz6 => exact fun _ _ _ h => h
          case gz6 => rfl
          case hz6 => (intro w hSw; (simp only [Holds] at hSw); go_simp <;> with_reducible rfl)
          simp only [Act.put, List.setIfInBounds_toArray, List.set_cons_zero, List.set_cons_succ]
          refine wpAnyH_take (i := 7) (oi := ?oz7) (v := ?vz7) ?iz7 (by kernel_rfl) (by kernel_rfl) (by kernel_rfl) ?qz7 (Or.inl ⟨?gz7, ?hz7⟩) (by assumption) ?rz7
          case iz7 => (simp only [List.getElem?_toArray, List.getElem?_cons_zero, List.getElem?_cons_succ]; rfl)
          case qz7 => exact fun _ _ _ h => h
          case gz7 => rfl
          case hz7 => (intro w hSw; (simp only [Holds] at hSw); go_simp <;> with_reducible rfl)
          simp only [Act.put, List.setIfInBounds_toArray, List.set_cons_zero, List.set_cons_succ]
          refine wpAnyH_take (i := 8) (oi := ?oz8) (v := ?vz8) ?iz8 (by kernel_rfl) (by kernel_rfl) (by kernel_rfl) ?qz8 (Or.inl ⟨?gz8, ?hz8⟩) (by assumption) ?rz8
          case iz8 => (simp only [List.getElem?_toArray, List.getElem?_cons_zero, List.getElem?_cons_succ]; rfl)
          case qz8 => exact fun _ _ _ h => h
          case gz8 => rfl
          case hz8 => (intro w hSw; (simp only [Holds] at hSw); go_simp <;> with_reducible rfl)
          simp only [Act.put, List.setIfInBounds_toArray, List.set_cons_zero, List.set_cons_succ]
          refine wpAnyH_take (i := 9) (oi := ?oz9) (v := ?vz9) ?iz9 (by kernel_rfl) (by kernel_rfl) (by kernel_rfl) ?qz9 (Or.inl ⟨?gz9, ?hz9⟩) (by assumption) ?rz9
          case iz9 => (simp only [List.getElem?_toArray, List.getElem?_cons_zero, List.getElem?_cons_succ]; rfl)
          case qz9 => exact fun _ _ _ h => h
          case gz9 => rfl
          case hz9 => (intro w hSw; (simp only [Holds] at hSw); go_simp <;> with_reducible rfl)
          simp only [Act.put, List.setIfInBounds_toArray, List.set_cons_zero, List.set_cons_succ]
          refine wpAnyH_take (i := 10) (oi := ?oz10) (v := ?vz10) ?iz10 (by kernel_rfl) (by kernel_rfl) (by kernel_rfl) ?qz10 (Or.inl ⟨?gz10, ?hz10⟩) (by assumption) ?rz10
          case iz10 => (simp only [List.getElem?_toArray, List.getElem?_cons_zero, List.getElem?_cons_succ]; rfl)
          case qz10 => exact fun _ _ _ h => h
          case gz10 => rfl
          case hz10 => (intro w hSw; (simp only [Holds] at hSw); go_simp <;> with_reducible rfl)
          simp only [Act.put, List.setIfInBounds_toArray, List.set_cons_zero, List.set_cons_succ]
          refine wpAnyH_take (i := 11) (oi := ?oz11) (v := ?vz11) ?iz11 (by kernel_rfl) (by kernel_rfl) (by kernel_rfl) ?qz11 (Or.inl ⟨?gz11, ?hz11⟩) (by assumption) ?rz11
          case iz11 => (simp only [List.getElem?_toArray, List.getElem?_cons_zero, List.getElem?_cons_succ]; rfl)
          case qz11 => exact fun _ _ _ h => h
          case gz11 => rfl
          case hz11 => (intro w hSw; (simp only [Holds] at hSw); go_simp <;> with_reducible rfl)
          simp only [Act.put, List.setIfInBounds_toArray, List.set_cons_zero, List.set_cons_succ]
          refine wpAnyH_ready (rs := [1, 12]) (by kernel_rfl) (by simp) ?_
          refine (AllReadyH.cons (o := ?oz12) ?iz12 (fun K hK => ?kz12) (AllReadyH.cons (o := ?oz13) ?iz13 (fun K hK => ?kz13) AllReadyH.nil))
          case iz12 => (simp only [List.getElem?_toArray, List.getElem?_cons_zero, List.getElem?_cons_succ]; rfl)
          case iz13 => (simp only [List.getElem?_toArray, List.getElem?_cons_zero, List.getElem?_cons_succ]; rfl)
          · have q0 := HXD.out.cell
            go_simp
            refine held_more hK HS0.out hlt Bc.out (fun Bc hSn => ?_)
            refine wpAnyH_ready (rs := [12]) (by kernel_rfl) (by simp) ?_
            refine AllReadyH.cons (o := ?oz14) ?iz14 (fun K hK => ?kz14) AllReadyH.nil
            case iz14 => (simp only [List.getElem?_toArray, List.getElem?_cons_zero, List.getElem?_cons_succ]; rfl)
            go_simp
            refine held_more hK HS0.out hlt (Bc.out.alloc Bc.out.size _) (fun Bc hSn => ?_)
            refine wpAnyH_ready (rs := [13]) (by kernel_rfl) (by simp) ?_
            refine (AllReadyH.cons (o := ?oz15) ?iz15 (fun K hK => ?kz15) AllReadyH.nil)
            case iz15 => (simp only [List.getElem?_toArray, List.getElem?_cons_zero, List.getElem?_cons_succ]; rfl)
            simp only [Act.put, List.setIfInBounds_toArray, List.set_cons_zero, List.set_cons_succ]
            rw [if_pos (by rfl)]
            refine wp_app_val _ _ (by rfl) (NQ + 1) qv vs (by rfl) (HOD.out.below ((Below.refl wr.drew.heap.size wr.drew).alloc (Nat.le_refl _) (.cells #[.slice a1 n1 d1] 42))) wr.heap.size (.slice a1 n1 d1) (by rfl) (show (wr.drew.alloc (.cells #[.slice a1 n1 d1] 42)).cell? ⟨wr.drew.heap.size, 0, none⟩ = some (.slice a1 n1 d1) by rw [cell_of_row _ _ _ _ _ _ (heap_alloc_new wr.drew (.cells #[.slice a1 n1 d1] 42))]; rfl) rfl hvs (by simp; omega) ?_
            intro gg cq w5 hown hgrow
            have hrq : ∀ q, qv.ownBlock = some q → NQ ≤ q := fun q hq => by have := HOV.out.ge q hq; omega
            have HOV5 := Lib.hid (hown.set NQ (Nat.lt_succ_self _) (.slice (some ⟨gg, 0, none⟩) (vs.length + 1) cq))
            have HXq5 := Lib.hid (show PBox (w5.setCell ⟨NQ, 0, none⟩ (.slice (some ⟨gg, 0, none⟩) (vs.length + 1) cq)) NQ (.slice (some ⟨gg, 0, none⟩) (vs.length + 1) cq) from PBox.stored (v := qv) (by
              have h1 := (HXD.out.later ((Below.refl wr.drew.heap.size wr.drew).alloc (Nat.le_refl _) (.cells #[.slice a1 n1 d1] 42)))
              unfold PBox at h1 ⊢
              rw [hgrow.block NQ (by simp; omega) (fun e => by have := HOV.out.ge NQ e.symm; omega)]
              exact h1) _)
            have HBA := Lib.hid ((((Below.refl NQ wr).drew).alloc (by show NQ ≤ wr.heap.size; omega) (.cells #[.slice a1 n1 d1] 42)).grown hgrow (by simp; omega) (fun q hq => hrq q hq))
            have HBA5 := Lib.hid (HBA.out.setCell (p := ⟨NQ, 0, none⟩) (Nat.le_refl _) (.slice (some ⟨gg, 0, none⟩) (vs.length + 1) cq))
            have hSn5 := Holds.grown hgrow (by simp; omega) hrq hSn hltq.out
            have hcq : ∃ z, w5.cell? ⟨NQ, 0, none⟩ = some z := by
              have h1 := (HXD.out.later ((Below.refl wr.drew.heap.size wr.drew).alloc (Nat.le_refl _) (.cells #[.slice a1 n1 d1] 42)))
              have h2 : PBox w5 NQ qv := by
                unfold PBox at h1 ⊢
                rw [hgrow.block NQ (by simp; omega) (fun e => by have := HOV.out.ge NQ e.symm; omega)]
                exact h1
              exact ⟨_, h2.cell⟩
            have hfq : w5.frozen? ⟨NQ, 0, none⟩ = false := by
              have h1 := (HXD.out.later ((Below.refl wr.drew.heap.size wr.drew).alloc (Nat.le_refl _) (.cells #[.slice a1 n1 d1] 42)))
              have h2 : PBox w5 NQ qv := by
                unfold PBox at h1 ⊢
                rw [hgrow.block NQ (by simp; omega) (fun e => by have := HOV.out.ge NQ e.symm; omega)]
                exact h1
              exact h2.free 0
            obtain ⟨zq, hzq⟩ := hcq
            refine hK.out _ _ hSn5 (fun hSn => ?_)
            clear hown hgrow hK q0
            refine wpAnyH_take (i := 14) (oi := ?oz16) (v := ?vz16) ?iz16 (by kernel_rfl) (by kernel_rfl) (by kernel_rfl) ?qz16 (Or.inl ⟨?gz16, ?hz16⟩) (by assumption) ?rz16
            case iz16 => (simp only [List.getElem?_toArray, List.getElem?_cons_zero, List.getElem?_cons_succ]; rfl)
            case qz16 => exact fun _ _ _ h => h
            case gz16 => rfl
            case hz16 => (intro w hSw; (simp only [Holds] at hSw); go_simp <;> with_reducible rfl)
            simp only [Act.put, List.setIfInBounds_toArray, List.set_cons_zero, List.set_cons_succ]
            refine wpAnyH_ready (rs := [15]) (by kernel_rfl) (by simp) ?_
            refine (AllReadyH.cons (o := ?oz17) ?iz17 (fun K hK => ?kz17) AllReadyH.nil)
            case iz17 => (simp only [List.getElem?_toArray, List.getElem?_cons_zero, List.getElem?_cons_succ]; rfl)
            go_simp
            refine hK.out _ _ (Holds.set (Nat.le_refl _) hSn hltq.out) (fun hSn => ?_)
            refine wpAnyH_done (by kernel_rfl) ?_ _
            clear hSn hSn5 HS0 hlt hltq Bc hzq hfq
            generalize w5.setCell ⟨NQ, 0, none⟩ (.slice (some ⟨gg, 0, none⟩) (vs.length + 1) cq) = w7 at *
            have HB7 := Lib.hid (HBr.out.trans (HBA5.out.mono hszw2))
            have HB71 := Lib.hid (HBr1.out.trans HBA5.out)
            have HIN7 := Lib.hid (show In w (vs ++ [.slice a1 n1 d1]) (l1.reverse.take (k + 1)) by rw [HRT.out]; exact HIN.out.snoc HRow.out)
            have hlq7 : NQ < w7.heap.size := HXq5.out.lt
            have HX7 := Lib.hid (HX4.out.below (M := NQ) hnx HB71.out)
            go_wp2_with fail
            obtain ⟨wo, hwo⟩ : ∃ wo, wo = w7 := ⟨_, rfl⟩
            subst hwo
            go_loopw [9] (fun jv wx => ∃ (j : Nat), j ≤ k ∧ jv = .int .i64 j ∧ (∀ i, i < j → l1.getD k [] ≠ [] → l1.getD i [] ≠ [] → key (l1.getD k []) ≠ key (l1.getD i [])) ∧ Below wo.heap.size wo wx) (fun jv _ => k - (intOf jv).toNat)
            case atStart => exact ⟨0, Nat.zero_le _, rfl, fun i hi => by omega, Below.refl _ _⟩
            case round =>
              obtain ⟨j, hj, rfl, hdj, hbj⟩ := hrel
              have HDJ := Lib.hid hdj
              have HBJ := Lib.hid hbj
              have HBJw := Lib.hid (HB7.out.trans (hbj.mono HB7.out.size))
              have HXj := Lib.hid (HX7.out.later hbj)
              clear hdj hbj
              by_cases hjk : j < k
              · have hjk2 : (j : Int) < (k : Int) := by omega
                have x0 := HXj.out.cell
                obtain ⟨tb2, off2, a2, n2, d2, hpe2, _, hcl2, hn2, hmx2, hrow2⟩ := ll_at (HP.out.below HBJw.out) k (by omega)
                simp only [Option.some.injEq, Addr.mk.injEq, and_true] at hpe2
                obtain ⟨rfl, rfl⟩ := hpe2
                obtain ⟨tb3, off3, a3, n3, d3, hpe3, _, hcl3, hn3, hmx3, hrow3⟩ := ll_at (HP.out.below HBJw.out) j (by omega)
                simp only [Option.some.injEq, Addr.mk.injEq, and_true] at hpe3
                obtain ⟨rfl, rfl⟩ := hpe3
                have hm2 : n2 ≤ 9223372036854775807 := by unfold maxLen at hmx2; omega
                have hm3 : n3 ≤ 9223372036854775807 := by unfold maxLen at hmx3; omega
                have hjl2 : (j : Int) < (l1.length : Int) := by omega
                have HNX := Lib.hid (show (l1.getD k [] ≠ [] → l1.getD j [] ≠ [] → key (l1.getD k []) ≠ key (l1.getD j [])) → ∀ i, i < j + 1 → l1.getD k [] ≠ [] → l1.getD i [] ≠ [] → key (l1.getD k []) ≠ key (l1.getD i []) from fun h i hi => by
                  by_cases hij : i = j
                  · rw [hij]; exact h
                  · exact HDJ.out i (by omega))
                by_cases he2 : l1.getD k [] = []
                · have hz2 : ¬ (0 : Int) < (n2 : Int) := by rw [hn2, he2]; simp
                  have hz2d : decide (0 < n2) = false := by rw [hn2, he2]; rfl
                  have HN2 := Lib.hid (HNX.out (fun h => absurd he2 h))
                  clear hrow2 hrow3 hn2 hn3 hmx2 hmx3 he2 HNX
                  go_wp2_with fail
                  go_quiet (fail)
                  have HBQ := Lib.hid (below_drewN HBJ.out nq)
                  clear hcl2 hcl3 x0
                  generalize wr.drewN nq = w8 at *
                  go_wp2_with fail
                  go_roundw
                  case rel => exact ⟨j + 1, by omega, by go_num, HN2.out, HBQ.out⟩
                  case measure => simp [intOf]; omega
                · have hp2 : 0 < n2 := by rw [hn2]; exact List.length_pos_iff.2 he2
                  have hz2 : (0 : Int) < (n2 : Int) := by omega
                  have hz2d : decide (0 < n2) = true := decide_eq_true hp2
                  by_cases he3 : l1.getD j [] = []
                  · have hz3 : ¬ (0 : Int) < (n3 : Int) := by rw [hn3, he3]; simp
                    have hz3d : decide (0 < n3) = false := by rw [hn3, he3]; rfl
                    have HN2 := Lib.hid (HNX.out (fun _ h => absurd he3 h))
                    clear hrow2 hrow3 hn2 hn3 hmx2 hmx3 he2 he3 HNX
                    go_wp2_with fail
                    go_quiet (fail)
                    have HBQ := Lib.hid (below_drewN HBJ.out nq)
                    clear hcl2 hcl3 x0
                    generalize wr.drewN nq = w8 at *
                    go_wp2_with fail
                    go_roundw
                    case rel => exact ⟨j + 1, by omega, by go_num, HN2.out, HBQ.out⟩
                    case measure => simp [intOf]; omega
                  · have hp3 : 0 < n3 := by rw [hn3]; exact List.length_pos_iff.2 he3
                    have hz3 : (0 : Int) < (n3 : Int) := by omega
                    have hz3d : decide (0 < n3) = true := decide_eq_true hp3
                    obtain ⟨rb2, ro2, rc2, hs2, hcell2, _, _⟩ := row_at (p := 0) hrow2 (by rw [ints_len]; omega)
                    obtain ⟨rb3, ro3, rc3, hs3, hcell3, _, _⟩ := row_at (p := 0) hrow3 (by rw [ints_len]; omega)
                    rw [ints_at _ 0 (by omega), Nat.add_zero] at hcell2 hcell3
                    have hk2 : (l1.getD k []).getD 0 0 = key (l1.getD k []) := rfl
                    have hk3 : (l1.getD j []).getD 0 0 = key (l1.getD j []) := rfl
                    rw [hk2] at hcell2
                    rw [hk3] at hcell3
                    simp only [Value.slice.injEq] at hs2 hs3
                    obtain ⟨rfl, hsn2, rfl⟩ := hs2
                    obtain ⟨rfl, hsn3, rfl⟩ := hs3
                    clear hsn2 hsn3
                    by_cases hkk : key (l1.getD k []) = key (l1.getD j [])
                    · have hkb : (key (l1.getD k []) == key (l1.getD j [])) = true := by simpa using hkk
                      generalize key (l1.getD k []) = kx2 at *
                      generalize key (l1.getD j []) = kx3 at *
                      clear hrow2 hrow3 hn2 hn3 hmx2 hmx3 he2 he3 HNX hkk hk2 hk3
                      go_wp2_with fail
                      go_quiet (fail)
                      have HBE := Lib.hid (below_drewN HBJw.out nq)
                      go_wp2
                      go_ret
                      exact ⟨rfl, HBE.out⟩
                    · have hkb : (key (l1.getD k []) == key (l1.getD j [])) = false := by simpa using hkk
                      have HN2 := Lib.hid (HNX.out (fun _ _ => hkk))
                      clear HNX HDJ
                      obtain ⟨kx2, hkx2⟩ : ∃ x, key (l1.getD k []) = x := ⟨_, rfl⟩
                      obtain ⟨kx3, hkx3⟩ : ∃ x, key (l1.getD j []) = x := ⟨_, rfl⟩
                      rw [hkx2] at hcell2 hkb
                      rw [hkx3] at hcell3 hkb
                      clear hrow2 hrow3 hn2 hn3 hmx2 hmx3 he2 he3 hkk hk2 hk3 hkx2 hkx3
                      go_wp2_with fail
                      go_quiet (fail)
                      have HBQ := Lib.hid (below_drewN HBJ.out nq)
                      clear hcl2 hcl3 x0
                      generalize wr.drewN nq = w8 at *
                      go_wp2_with fail
                      go_roundw
                      case rel => exact ⟨j + 1, by omega, by go_num, HN2.out, HBQ.out⟩
                      case measure => simp [intOf]; omega
              · obtain rfl : j = k := by omega
                have hjk2 : ¬ (j : Int) < (j : Int) := by omega
                have HDS7 := Lib.hid (show ∀ i, i < j + 1 → ∀ i2, i2 < i → l1.getD i [] ≠ [] → l1.getD i2 [] ≠ [] → key (l1.getD i []) ≠ key (l1.getD i2 []) from fun i hi i2 hi2 => by
                  by_cases hij : i = j
                  · rw [hij]; exact HDJ.out i2 (by omega)
                  · exact HDS.out i (by omega) i2 hi2)
                have HXq9 := Lib.hid (HXq5.out.later HBJ.out)
                have HOV9 := Lib.hid (HOV5.out.below HBJ.out)
                have HB91 := Lib.hid (HB71.out.trans (HBJ.out.mono (by omega)))
                have HVL9 := Lib.hid (show (vs ++ [Value.slice a1 n1 d1]).length = j + 1 by have := HVL.out; simp; omega)
                go_wp2_with fail
                go_roundw
                case rel => exact ⟨j + 1, _, _, by omega, by go_num, HXq9.out, HOV9.out, HVL9.out, HIN7.out, HDS7.out, HBJw.out, HB91.out⟩
                case measure => simp [intOf]; omega
          · go_simp
            refine held_more hK HS0.out hlt (Bc.out.alloc Bc.out.size _) (fun Bc hSn => ?_)
            have q0 : (wr.alloc (.cells #[.slice a1 n1 d1] 42)).drew.cell? ⟨NQ, 0, none⟩ = some qv := (HXD.out.later ((Below.refl wr.drew.heap.size wr.drew).alloc (Nat.le_refl _) (.cells #[.slice a1 n1 d1] 42))).cell
            refine wpAnyH_ready (rs := [1]) (by kernel_rfl) (by simp) ?_
            refine (AllReadyH.cons (o := ?oz18) ?iz18 (fun K hK => ?kz18) AllReadyH.nil)
            case iz18 => (simp only [List.getElem?_toArray, List.getElem?_cons_zero, List.getElem?_cons_succ]; rfl)
            go_simp
            refine held_more hK HS0.out hlt Bc.out (fun Bc hSn => ?_)
            refine wpAnyH_ready (rs := [13]) (by kernel_rfl) (by simp) ?_
            refine (AllReadyH.cons (o := ?oz19) ?iz19 (fun K hK => ?kz19) AllReadyH.nil)
            case iz19 => (simp only [List.getElem?_toArray, List.getElem?_cons_zero, List.getElem?_cons_succ]; rfl)
            simp only [Act.put, List.setIfInBounds_toArray, List.set_cons_zero, List.set_cons_succ]
            rw [if_pos (by rfl)]
            refine wp_app_val _ _ (by rfl) (NQ + 1) qv vs (by rfl) (HOD.out.below ((Below.refl wr.drew.heap.size wr.drew).alloc (Nat.le_refl _) (.cells #[.slice a1 n1 d1] 42))) wr.heap.size (.slice a1 n1 d1) (by rfl) (show (wr.drew.alloc (.cells #[.slice a1 n1 d1] 42)).cell? ⟨wr.drew.heap.size, 0, none⟩ = some (.slice a1 n1 d1) by rw [cell_of_row _ _ _ _ _ _ (heap_alloc_new wr.drew (.cells #[.slice a1 n1 d1] 42))]; rfl) rfl hvs (by simp; omega) ?_
            intro gg cq w5 hown hgrow
            have hrq : ∀ q, qv.ownBlock = some q → NQ ≤ q := fun q hq => by have := HOV.out.ge q hq; omega
            have HOV5 := Lib.hid (hown.set NQ (Nat.lt_succ_self _) (.slice (some ⟨gg, 0, none⟩) (vs.length + 1) cq))
            have HXq5 := Lib.hid (show PBox (w5.setCell ⟨NQ, 0, none⟩ (.slice (some ⟨gg, 0, none⟩) (vs.length + 1) cq)) NQ (.slice (some ⟨gg, 0, none⟩) (vs.length + 1) cq) from PBox.stored (v := qv) (by
              have h1 := (HXD.out.later ((Below.refl wr.drew.heap.size wr.drew).alloc (Nat.le_refl _) (.cells #[.slice a1 n1 d1] 42)))
              unfold PBox at h1 ⊢
              rw [hgrow.block NQ (by simp; omega) (fun e => by have := HOV.out.ge NQ e.symm; omega)]
              exact h1) _)
            have HBA := Lib.hid ((((Below.refl NQ wr).drew).alloc (by show NQ ≤ wr.heap.size; omega) (.cells #[.slice a1 n1 d1] 42)).grown hgrow (by simp; omega) (fun q hq => hrq q hq))
            have HBA5 := Lib.hid (HBA.out.setCell (p := ⟨NQ, 0, none⟩) (Nat.le_refl _) (.slice (some ⟨gg, 0, none⟩) (vs.length + 1) cq))
            have hSn5 := Holds.grown hgrow (by simp; omega) hrq hSn hltq.out
            have hcq : ∃ z, w5.cell? ⟨NQ, 0, none⟩ = some z := by
              have h1 := (HXD.out.later ((Below.refl wr.drew.heap.size wr.drew).alloc (Nat.le_refl _) (.cells #[.slice a1 n1 d1] 42)))
              have h2 : PBox w5 NQ qv := by
                unfold PBox at h1 ⊢
                rw [hgrow.block NQ (by simp; omega) (fun e => by have := HOV.out.ge NQ e.symm; omega)]
                exact h1
              exact ⟨_, h2.cell⟩
            have hfq : w5.frozen? ⟨NQ, 0, none⟩ = false := by
              have h1 := (HXD.out.later ((Below.refl wr.drew.heap.size wr.drew).alloc (Nat.le_refl _) (.cells #[.slice a1 n1 d1] 42)))
              have h2 : PBox w5 NQ qv := by
                unfold PBox at h1 ⊢
                rw [hgrow.block NQ (by simp; omega) (fun e => by have := HOV.out.ge NQ e.symm; omega)]
                exact h1
              exact h2.free 0
            obtain ⟨zq, hzq⟩ := hcq
            refine hK.out _ _ hSn5 (fun hSn => ?_)
            clear hown hgrow hK q0
            refine wpAnyH_take (i := 14) (oi := ?oz20) (v := ?vz20) ?iz20 (by kernel_rfl) (by kernel_rfl) (by kernel_rfl) ?qz20 (Or.inl ⟨?gz20, ?hz20⟩) (by assumption) ?rz20
            case iz20 => (simp only [List.getElem?_toArray, List.getElem?_cons_zero, List.getElem?_cons_succ]; rfl)
            case qz20 => exact fun _ _ _ h => h
            case gz20 => rfl
            case hz20 => (intro w hSw; (simp only [Holds] at hSw); go_simp <;> with_reducible rfl)
            simp only [Act.put, List.setIfInBounds_toArray, List.set_cons_zero, List.set_cons_succ]
            refine wpAnyH_ready (rs := [15]) (by kernel_rfl) (by simp) ?_
            refine (AllReadyH.cons (o := ?oz21) ?iz21 (fun K hK => ?kz21) AllReadyH.nil)
            case iz21 => (simp only [List.getElem?_toArray, List.getElem?_cons_zero, List.getElem?_cons_succ]; rfl)
            go_simp
            refine hK.out _ _ (Holds.set (Nat.le_refl _) hSn hltq.out) (fun hSn => ?_)
            refine wpAnyH_done (by kernel_rfl) ?_ _
            clear hSn hSn5 HS0 hlt hltq Bc hzq hfq
            generalize w5.setCell ⟨NQ, 0, none⟩ (.slice (some ⟨gg, 0, none⟩) (vs.length + 1) cq) = w7 at *
            have HB7 := Lib.hid (HBr.out.trans (HBA5.out.mono hszw2))
            have HB71 := Lib.hid (HBr1.out.trans HBA5.out)
            have HIN7 := Lib.hid (show In w (vs ++ [.slice a1 n1 d1]) (l1.reverse.take (k + 1)) by rw [HRT.out]; exact HIN.out.snoc HRow.out)
            have hlq7 : NQ < w7.heap.size := HXq5.out.lt
            have HX7 := Lib.hid (HX4.out.below (M := NQ) hnx HB71.out)
            go_wp2_with fail
            obtain ⟨wo, hwo⟩ : ∃ wo, wo = w7 := ⟨_, rfl⟩
            subst hwo
            go_loopw [9] (fun jv wx => ∃ (j : Nat), j ≤ k ∧ jv = .int .i64 j ∧ (∀ i, i < j → l1.getD k [] ≠ [] → l1.getD i [] ≠ [] → key (l1.getD k []) ≠ key (l1.getD i [])) ∧ Below wo.heap.size wo wx) (fun jv _ => k - (intOf jv).toNat)
            case atStart => exact ⟨0, Nat.zero_le _, rfl, fun i hi => by omega, Below.refl _ _⟩
            case round =>
              obtain ⟨j, hj, rfl, hdj, hbj⟩ := hrel
              have HDJ := Lib.hid hdj
              have HBJ := Lib.hid hbj
              have HBJw := Lib.hid (HB7.out.trans (hbj.mono HB7.out.size))
              have HXj := Lib.hid (HX7.out.later hbj)
              clear hdj hbj
              by_cases hjk : j < k
              · have hjk2 : (j : Int) < (k : Int) := by omega
                have x0 := HXj.out.cell
                obtain ⟨tb2, off2, a2, n2, d2, hpe2, _, hcl2, hn2, hmx2, hrow2⟩ := ll_at (HP.out.below HBJw.out) k (by omega)
                simp only [Option.some.injEq, Addr.mk.injEq, and_true] at hpe2
                obtain ⟨rfl, rfl⟩ := hpe2
                obtain ⟨tb3, off3, a3, n3, d3, hpe3, _, hcl3, hn3, hmx3, hrow3⟩ := ll_at (HP.out.below HBJw.out) j (by omega)
                simp only [Option.some.injEq, Addr.mk.injEq, and_true] at hpe3
                obtain ⟨rfl, rfl⟩ := hpe3
                have hm2 : n2 ≤ 9223372036854775807 := by unfold maxLen at hmx2; omega
                have hm3 : n3 ≤ 9223372036854775807 := by unfold maxLen at hmx3; omega
                have hjl2 : (j : Int) < (l1.length : Int) := by omega
                have HNX := Lib.hid (show (l1.getD k [] ≠ [] → l1.getD j [] ≠ [] → key (l1.getD k []) ≠ key (l1.getD j [])) → ∀ i, i < j + 1 → l1.getD k [] ≠ [] → l1.getD i [] ≠ [] → key (l1.getD k []) ≠ key (l1.getD i []) from fun h i hi => by
                  by_cases hij : i = j
                  · rw [hij]; exact h
                  · exact HDJ.out i (by omega))
                by_cases he2 : l1.getD k [] = []
                · have hz2 : ¬ (0 : Int) < (n2 : Int) := by rw [hn2, he2]; simp
                  have hz2d : decide (0 < n2) = false := by rw [hn2, he2]; rfl
                  have HN2 := Lib.hid (HNX.out (fun h => absurd he2 h))
                  clear hrow2 hrow3 hn2 hn3 hmx2 hmx3 he2 HNX
                  go_wp2_with fail
                  go_quiet (fail)
                  have HBQ := Lib.hid (below_drewN HBJ.out nq)
                  clear hcl2 hcl3 x0
                  generalize wr.drewN nq = w8 at *
                  go_wp2_with fail
                  go_roundw
                  case rel => exact ⟨j + 1, by omega, by go_num, HN2.out, HBQ.out⟩
                  case measure => simp [intOf]; omega
                · have hp2 : 0 < n2 := by rw [hn2]; exact List.length_pos_iff.2 he2
                  have hz2 : (0 : Int) < (n2 : Int) := by omega
                  have hz2d : decide (0 < n2) = true := decide_eq_true hp2
                  by_cases he3 : l1.getD j [] = []
                  · have hz3 : ¬ (0 : Int) < (n3 : Int) := by rw [hn3, he3]; simp
                    have hz3d : decide (0 < n3) = false := by rw [hn3, he3]; rfl
                    have HN2 := Lib.hid (HNX.out (fun _ h => absurd he3 h))
                    clear hrow2 hrow3 hn2 hn3 hmx2 hmx3 he2 he3 HNX
                    go_wp2_with fail
                    go_quiet (fail)
                    have HBQ := Lib.hid (below_drewN HBJ.out nq)
                    clear hcl2 hcl3 x0
                    generalize wr.drewN nq = w8 at *
                    go_wp2_with fail
                    go_roundw
                    case rel => exact ⟨j + 1, by omega, by go_num, HN2.out, HBQ.out⟩
                    case measure => simp [intOf]; omega
                  · have hp3 : 0 < n3 := by rw [hn3]; exact List.length_pos_iff.2 he3
                    have hz3 : (0 : Int) < (n3 : Int) := by omega
                    have hz3d : decide (0 < n3) = true := decide_eq_true hp3
                    obtain ⟨rb2, ro2, rc2, hs2, hcell2, _, _⟩ := row_at (p := 0) hrow2 (by rw [ints_len]; omega)
                    obtain ⟨rb3, ro3, rc3, hs3, hcell3, _, _⟩ := row_at (p := 0) hrow3 (by rw [ints_len]; omega)
                    rw [ints_at _ 0 (by omega), Nat.add_zero] at hcell2 hcell3
                    have hk2 : (l1.getD k []).getD 0 0 = key (l1.getD k []) := rfl
                    have hk3 : (l1.getD j []).getD 0 0 = key (l1.getD j []) := rfl
                    rw [hk2] at hcell2
                    rw [hk3] at hcell3
                    simp only [Value.slice.injEq] at hs2 hs3
                    obtain ⟨rfl, hsn2, rfl⟩ := hs2
                    obtain ⟨rfl, hsn3, rfl⟩ := hs3
                    clear hsn2 hsn3
                    by_cases hkk : key (l1.getD k []) = key (l1.getD j [])
                    · have hkb : (key (l1.getD k []) == key (l1.getD j [])) = true := by simpa using hkk
                      generalize key (l1.getD k []) = kx2 at *
                      generalize key (l1.getD j []) = kx3 at *
                      clear hrow2 hrow3 hn2 hn3 hmx2 hmx3 he2 he3 HNX hkk hk2 hk3
                      go_wp2_with fail
                      go_quiet (fail)
                      have HBE := Lib.hid (below_drewN HBJw.out nq)
                      go_wp2
                      go_ret
                      exact ⟨rfl, HBE.out⟩
                    · have hkb : (key (l1.getD k []) == key (l1.getD j [])) = false := by simpa using hkk
                      have HN2 := Lib.hid (HNX.out (fun _ _ => hkk))
                      clear HNX HDJ
                      obtain ⟨kx2, hkx2⟩ : ∃ x, key (l1.getD k []) = x := ⟨_, rfl⟩
                      obtain ⟨kx3, hkx3⟩ : ∃ x, key (l1.getD j []) = x := ⟨_, rfl⟩
                      rw [hkx2] at hcell2 hkb
                      rw [hkx3] at hcell3 hkb
                      clear hrow2 hrow3 hn2 hn3 hmx2 hmx3 he2 he3 hkk hk2 hk3 hkx2 hkx3
                      go_wp2_with fail
                      go_quiet (fail)
                      have HBQ := Lib.hid (below_drewN HBJ.out nq)
                      clear hcl2 hcl3 x0
                      generalize wr.drewN nq = w8 at *
                      go_wp2_with fail
                      go_roundw
                      case rel => exact ⟨j + 1, by omega, by go_num, HN2.out, HBQ.out⟩
                      case measure => simp [intOf]; omega
              · obtain rfl : j = k := by omega
                have hjk2 : ¬ (j : Int) < (j : Int) := by omega
                have HDS7 := Lib.hid (show ∀ i, i < j + 1 → ∀ i2, i2 < i → l1.getD i [] ≠ [] → l1.getD i2 [] ≠ [] → key (l1.getD i []) ≠ key (l1.getD i2 []) from fun i hi i2 hi2 => by
                  by_cases hij : i = j
                  · rw [hij]; exact HDJ.out i2 (by omega)
                  · exact HDS.out i (by omega) i2 hi2)
                have HXq9 := Lib.hid (HXq5.out.later HBJ.out)
                have HOV9 := Lib.hid (HOV5.out.below HBJ.out)
                have HB91 := Lib.hid (HB71.out.trans (HBJ.out.mono (by omega)))
                have HVL9 := Lib.hid (show (vs ++ [Value.slice a1 n1 d1]).length = j + 1 by have := HVL.out; simp; omega)
                go_wp2_with fail
                go_roundw
                case rel => exact ⟨j + 1, _, _, by omega, by go_num, HXq9.out, HOV9.out, HVL9.out, HIN7.out, HDS7.out, HBJw.out, HB91.out⟩
                case measure => simp [intOf]; omega
        · obtain rfl : k = l1.length := by omega
          have hl2 : ¬ (l1.length : Int) < (l1.length : Int) := by omega
          obtain ⟨M, hM⟩ : ∃ M, l1.reverse = M := ⟨_, rfl⟩
          have HQw := Lib.hid (show In w vs M by have := HIN.out; rw [List.take_of_length_le (by simp)] at this; rwa [hM] at this)
          have HMW := Lib.hid (show FewP M by rw [← hM]; exact few_rev HW.out)
          have HMFi := Lib.hid (show Fits M by rw [← hM]; exact fits_rev HF.out)
          have HOO := Lib.hid (show ordL l1 = ordL M by rw [← hM]; exact (ord_rev HDS.out).symm)
          have HCO := Lib.hid (show (costE I0 M = 0 ↔ costE I0 l1 = 0) ∧ costN I0 M = costN I0 l1 by rw [← hM]; exact cost_rev)
          have hMl : M.length = l1.length := by rw [← hM]; simp
          obtain ⟨c0, c1, c2, c3⟩ := HYr.out.cells
          clear hxq hov hin hds hbw hbw1 hM hlt
          go_wp2_with fail
          change Calls _ _ #[insV I0 (.slice ad I0.l.length cap), planV (.slice la l1.length lc)] _ _
          refine (cost_any (HE.out.below HBr.out) (HP.out.below HBr.out)).mono ?_
          rintro e w5 ⟨rfl, hb⟩
          have HB5 := Lib.hid (HBr.out.trans (hb.mono HBr.out.size))
          have HY5 := Lib.hid (HYr.out.later hb)
          have HX5 := Lib.hid (HXr.out.later hb)
          have HXQ5 := Lib.hid (HXq.out.later hb)
          have HQ5 := Lib.hid (HOV.out.below hb)
          obtain ⟨qa, qc, rfl⟩ : ∃ a c, qv = .slice a vs.length c := own_shape (show wr.ownsRow _ 42 1 qv vs.length vs from HOV.out)
          rw [hvl] at HXQ5 HQ5
          clear hb x0 c0 c1 c2 c3
          obtain ⟨c0, c1, c2, c3⟩ := HY5.out.cells
          have q0 := HXQ5.out.cell
          go_wp2_with fail
          change Calls _ _ #[insV I0 (.slice ad I0.l.length cap), planV (.slice qa l1.length qc)] _ _
          refine (cost_any (HE.out.below HB5.out) (HQ5.out.lines (HQw.out.below HB5.out))).mono ?_
          rintro e w6 ⟨rfl, hb⟩
          have HB6 := Lib.hid (HB5.out.trans (hb.mono HB5.out.size))
          have HX6 := Lib.hid (HX5.out.later hb)
          have HXQ6 := Lib.hid (HXQ5.out.later hb)
          have HQ6 := Lib.hid (HQ5.out.below hb)
          clear hb c0 c1 c2 c3 q0
          obtain ⟨ce, hce⟩ : ∃ ce, costE I0 l1 = ce := ⟨_, rfl⟩
          obtain ⟨cn, hcn⟩ : ∃ cn, costN I0 l1 = cn := ⟨_, rfl⟩
          obtain ⟨de, hde⟩ : ∃ de, costE I0 M = de := ⟨_, rfl⟩
          obtain ⟨dn, hdn⟩ : ∃ dn, costN I0 M = dn := ⟨_, rfl⟩
          rw [hce, hcn, hde, hdn] at HCO
          rw [hce, hcn, hde, hdn]
          clear hce hcn hde hdn
          obtain ⟨hcd, rfl⟩ := HCO.out
          have hnn : (dn == dn) = true := by simp
          by_cases h0 : ce = 0
          · have h1 := hcd.2 h0
            clear hcd HCO
            subst h0 h1
            go_upto_region 17 with fail
            have hlx := HX6.out.lt
            have hlq6 := HXQ6.out.lt
            have x0 := HX6.out.cell
            have q0 := HXQ6.out.cell
            have HS0 := Lib.hid (show Holds [((⟨NQ, 0, none⟩ : Addr), Value.slice qa l1.length qc), (⟨w.heap.size + 1, 0, none⟩, .slice la l1.length lc)] w6.drew from ⟨q0, x0, trivial⟩)
            have hlt := Lib.hid (show Lows w6.drew.heap.size [((⟨NQ, 0, none⟩ : Addr), Value.slice qa l1.length qc), (⟨w.heap.size + 1, 0, none⟩, .slice la l1.length lc)] from ⟨hlq6, hlx, trivial⟩)
            have HBd := Lib.hid (HB6.out.trans ((Below.refl w.heap.size w6).drew))
            have HQd := Lib.hid (HQ6.out.below ((Below.refl w6.heap.size w6).drew))
            obtain ⟨sv, hsv⟩ : ∃ sv, strOfNums (textOf (ordL M)) = sv := ⟨_, rfl⟩
            have HSV := Lib.hid hsv
            clear x0 q0 hsv
            refine wp_region_held_drew (S := Holds [((⟨NQ, 0, none⟩ : Addr), Value.slice qa l1.length qc), (⟨w.heap.size + 1, 0, none⟩, .slice la l1.length lc)]) (by kernel_rfl) HS0.out (fun hSn => ?_)
            have Bc := Lib.hid (Below.refl w6.drew.heap.size w6.drew)
            refine wpAnyH_take (i := 0) (oi := ?oz22) (v := ?vz22) ?iz22 (by kernel_rfl) (by kernel_rfl) (by kernel_rfl) ?qz22 (Or.inl ⟨?gz22, ?hz22⟩) (by assumption) ?rz22
            case iz22 => (simp only [List.getElem?_toArray, List.getElem?_cons_zero]; rfl)
            case qz22 => exact fun _ _ _ h => h
            case gz22 => rfl
            case hz22 => (intro w hSw; (simp only [Holds] at hSw); go_simp <;> with_reducible rfl)
            simp only [Act.put, List.setIfInBounds_toArray, List.set_cons_zero, List.set_cons_succ]
            refine wpAnyH_take (i := 1) (oi := ?oz23) (v := ?vz23) ?iz23 (by kernel_rfl) (by kernel_rfl) (by kernel_rfl) ?qz23 (Or.inl ⟨?gz23, ?hz23⟩) (by assumption) ?rz23
            case iz23 => (simp only [List.getElem?_toArray, List.getElem?_cons_zero, List.getElem?_cons_succ]; rfl)
            case qz23 => exact fun _ _ _ h => h
            case gz23 => rfl
            case hz23 => (intro w hSw; (simp only [Holds] at hSw); go_simp <;> with_reducible rfl)
            simp only [Act.put, List.setIfInBounds_toArray, List.set_cons_zero, List.set_cons_succ]
            refine wpAnyH_take (i := 2) (oi := ?oz24) (v := ?vz24) ?iz24 (by kernel_rfl) (by kernel_rfl) (by kernel_rfl) ?qz24 (Or.inl ⟨?gz24, ?hz24⟩) (by assumption) ?rz24
            case iz24 => (simp only [List.getElem?_toArray, List.getElem?_cons_zero, List.getElem?_cons_succ]; rfl)
            case qz24 => exact fun _ _ _ h => h
            case gz24 => rfl
            case hz24 => (intro w hSw; (simp only [Holds] at hSw); go_simp <;> with_reducible rfl)
            simp only [Act.put, List.setIfInBounds_toArray, List.set_cons_zero, List.set_cons_succ]
            refine wpAnyH_take (i := 3) (oi := ?oz25) (v := ?vz25) ?iz25 (by kernel_rfl) (by kernel_rfl) (by kernel_rfl) ?qz25 (Or.inl ⟨?gz25, ?hz25⟩) (by assumption) ?rz25
            case iz25 => (simp only [List.getElem?_toArray, List.getElem?_cons_zero, List.getElem?_cons_succ]; rfl)
            case qz25 => exact fun _ _ _ h => h
            case gz25 => rfl
            case hz25 => (intro w hSw; (simp only [Holds] at hSw); go_simp <;> with_reducible rfl)
            simp only [Act.put, List.setIfInBounds_toArray, List.set_cons_zero, List.set_cons_succ]
            refine wpAnyH_take (i := 4) (oi := ?oz26) (v := ?vz26) ?iz26 (by kernel_rfl) (by kernel_rfl) (by kernel_rfl) ?qz26 (Or.inl ⟨?gz26, ?hz26⟩) (by assumption) ?rz26
            case iz26 => (simp only [List.getElem?_toArray, List.getElem?_cons_zero, List.getElem?_cons_succ]; rfl)
            case qz26 => exact fun _ _ _ h => h
            case gz26 => rfl
            case hz26 => (intro w hSw; (simp only [Holds] at hSw); go_simp <;> with_reducible rfl)
            simp only [Act.put, List.setIfInBounds_toArray, List.set_cons_zero, List.set_cons_succ]
            refine wpAnyH_take (i := 5) (oi := ?oz27) (v := ?vz27) ?iz27 (by kernel_rfl) (by kernel_rfl) (by kernel_rfl) ?qz27 (Or.inl ⟨?gz27, ?hz27⟩) (by assumption) ?rz27
            case iz27 => (simp only [List.getElem?_toArray, List.getElem?_cons_zero, List.getElem?_cons_succ]; rfl)
            case qz27 => exact fun _ _ _ h => h
            case gz27 => rfl
            case hz27 => (intro w hSw; (simp only [Holds] at hSw); go_simp <;> with_reducible rfl)
            simp only [Act.put, List.setIfInBounds_toArray, List.set_cons_zero, List.set_cons_succ]
            refine wpAnyH_take (i := 6) (oi := ?oz28) (v := ?vz28) ?iz28 (by kernel_rfl) (by kernel_rfl) (by kernel_rfl) ?qz28 (Or.inl ⟨?gz28, ?hz28⟩) (by assumption) ?rz28
            case iz28 => (simp only [List.getElem?_toArray, List.getElem?_cons_zero, List.getElem?_cons_succ]; rfl)
            case qz28 => exact fun _ _ _ h => h
            case gz28 => rfl
            case hz28 => (intro w hSw; (simp only [Holds] at hSw); go_simp <;> with_reducible rfl)
            simp only [Act.put, List.setIfInBounds_toArray, List.set_cons_zero, List.set_cons_succ]
            refine wpAnyH_take (i := 7) (oi := ?oz29) (v := ?vz29) ?iz29 (by kernel_rfl) (by kernel_rfl) (by kernel_rfl) ?qz29 (Or.inl ⟨?gz29, ?hz29⟩) (by assumption) ?rz29
            case iz29 => (simp only [List.getElem?_toArray, List.getElem?_cons_zero, List.getElem?_cons_succ]; rfl)
            case qz29 => exact fun _ _ _ h => h
            case gz29 => rfl
            case hz29 => (intro w hSw; (simp only [Holds] at hSw); go_simp <;> with_reducible rfl)
            simp only [Act.put, List.setIfInBounds_toArray, List.set_cons_zero, List.set_cons_succ]
            refine wpAnyH_take (i := 8) (oi := ?oz30) (v := ?vz30) ?iz30 (by kernel_rfl) (by kernel_rfl) (by kernel_rfl) ?qz30 (Or.inl ⟨?gz30, ?hz30⟩) (by assumption) ?rz30
            case iz30 => (simp only [List.getElem?_toArray, List.getElem?_cons_zero, List.getElem?_cons_succ]; rfl)
            case qz30 => exact fun _ _ _ h => h
            case gz30 => rfl
            case hz30 => (intro w hSw; (simp only [Holds] at hSw); go_simp <;> with_reducible rfl)
            simp only [Act.put, List.setIfInBounds_toArray, List.set_cons_zero, List.set_cons_succ]
            refine wpAnyH_take (i := 9) (oi := ?oz31) (v := ?vz31) ?iz31 (by kernel_rfl) (by kernel_rfl) (by kernel_rfl) ?qz31 (Or.inl ⟨?gz31, ?hz31⟩) (by assumption) ?rz31
            case iz31 => (simp only [List.getElem?_toArray, List.getElem?_cons_zero, List.getElem?_cons_succ]; rfl)
            case qz31 => exact fun _ _ _ h => h
            case gz31 => rfl
            case hz31 => (intro w hSw; (simp only [Holds] at hSw); go_simp <;> with_reducible rfl)
            simp only [Act.put, List.setIfInBounds_toArray, List.set_cons_zero, List.set_cons_succ]
            refine wpAnyH_take (i := 10) (oi := ?oz32) (v := ?vz32) ?iz32 (by kernel_rfl) (by kernel_rfl) (by kernel_rfl) ?qz32 (Or.inl ⟨?gz32, ?hz32⟩) (by assumption) ?rz32
            case iz32 => (simp only [List.getElem?_toArray, List.getElem?_cons_zero, List.getElem?_cons_succ]; rfl)
            case qz32 => exact fun _ _ _ h => h
            case gz32 => rfl
            case hz32 => (intro w hSw; (simp only [Holds] at hSw); go_simp <;> with_reducible rfl)
            simp only [Act.put, List.setIfInBounds_toArray, List.set_cons_zero, List.set_cons_succ]
            refine wpAnyH_take (i := 11) (oi := ?oz33) (v := ?vz33) ?iz33 (by kernel_rfl) (by kernel_rfl) (by kernel_rfl) ?qz33 (Or.inl ⟨?gz33, ?hz33⟩) (by assumption) ?rz33
            case iz33 => (simp only [List.getElem?_toArray, List.getElem?_cons_zero, List.getElem?_cons_succ]; rfl)
            case qz33 => exact fun _ _ _ h => h
            case gz33 => rfl
            case hz33 => (intro w hSw; (simp only [Holds] at hSw); go_simp <;> with_reducible rfl)
            simp only [Act.put, List.setIfInBounds_toArray, List.set_cons_zero, List.set_cons_succ]
            refine wpAnyH_take (i := 12) (oi := ?oz34) (v := ?vz34) ?iz34 (by kernel_rfl) (by kernel_rfl) (by kernel_rfl) ?qz34 (Or.inl ⟨?gz34, ?hz34⟩) (by assumption) ?rz34
            case iz34 => (simp only [List.getElem?_toArray, List.getElem?_cons_zero, List.getElem?_cons_succ]; rfl)
            case qz34 => exact fun _ _ _ h => h
            case gz34 => rfl
            case hz34 => (intro w hSw; (simp only [Holds] at hSw); go_simp <;> with_reducible rfl)
            simp only [Act.put, List.setIfInBounds_toArray, List.set_cons_zero, List.set_cons_succ]
            refine wpAnyH_ready (rs := [13]) (by kernel_rfl) (by simp) ?_
            refine AllReadyH.cons (o := ?oz35) ?iz35 (fun K hK => ?kz35) AllReadyH.nil
            case iz35 => (simp only [List.getElem?_toArray, List.getElem?_cons_zero, List.getElem?_cons_succ]; rfl)
            go_simp
            change Calls _ _ #[planV (.slice la l1.length lc), planV (.slice qa l1.length qc)] _ _
            refine (vsame_any (HP.out.below (HBd.out.trans (Bc.out.mono HB6.out.size))) ((HQd.out.below Bc.out).lines (HQw.out.below (HBd.out.trans (Bc.out.mono HB6.out.size)))) HW.out HMW.out).mono ?_
            rw [HOO.out, decide_eq_true rfl]
            rintro e w7 ⟨rfl, hb⟩
            refine held_more hK HS0.out hlt (Bc.out.trans (hb.mono Bc.out.size)) (fun Bc hSn => ?_)
            clear hb hK
            refine wpAnyH_take (i := 14) (oi := ?oz36) (v := ?vz36) ?iz36 (by kernel_rfl) (by kernel_rfl) (by kernel_rfl) ?qz36 (Or.inl ⟨?gz36, ?hz36⟩) (by assumption) ?rz36
            case iz36 => (simp only [List.getElem?_toArray, List.getElem?_cons_zero, List.getElem?_cons_succ]; rfl)
            case qz36 => exact fun _ _ _ h => h
            case gz36 => rfl
            case hz36 => (intro w hSw; (simp only [Holds] at hSw); go_simp <;> with_reducible rfl)
            simp only [Act.put, List.setIfInBounds_toArray, List.set_cons_zero, List.set_cons_succ]
            refine wpAnyH_take (i := 15) (oi := ?oz37) (v := ?vz37) ?iz37 (by kernel_rfl) (by kernel_rfl) (by kernel_rfl) ?qz37 (Or.inl ⟨?gz37, ?hz37⟩) (by assumption) ?rz37
            case iz37 => (simp only [List.getElem?_toArray, List.getElem?_cons_zero, List.getElem?_cons_succ]; rfl)
            case qz37 => exact fun _ _ _ h => h
            case gz37 => rfl
            case hz37 => (intro w hSw; (simp only [Holds] at hSw); go_simp <;> with_reducible rfl)
            simp only [Act.put, List.setIfInBounds_toArray, List.set_cons_zero, List.set_cons_succ]
            refine wpAnyH_take (i := 16) (oi := ?oz38) (v := ?vz38) ?iz38 (by kernel_rfl) (by kernel_rfl) (by kernel_rfl) ?qz38 (Or.inl ⟨?gz38, ?hz38⟩) (by assumption) ?rz38
            case iz38 => (simp only [List.getElem?_toArray, List.getElem?_cons_zero, List.getElem?_cons_succ]; rfl)
            case qz38 => exact fun _ _ _ h => h
            case gz38 => rfl
            case hz38 => (intro w hSw; (simp only [Holds] at hSw); go_simp <;> with_reducible rfl)
            simp only [Act.put, List.setIfInBounds_toArray, List.set_cons_zero, List.set_cons_succ]
            refine wpAnyH_take (i := 19) (oi := ?oz39) (v := ?vz39) ?iz39 (by kernel_rfl) (by kernel_rfl) (by kernel_rfl) ?qz39 (Or.inl ⟨?gz39, ?hz39⟩) (by assumption) ?rz39
            case iz39 => (simp only [List.getElem?_toArray, List.getElem?_cons_zero, List.getElem?_cons_succ]; rfl)
            case qz39 => exact fun _ _ _ h => h
            case gz39 => rfl
            case hz39 => (intro w hSw; (simp only [Holds] at hSw); go_simp <;> with_reducible rfl)
            simp only [Act.put, List.setIfInBounds_toArray, List.set_cons_zero, List.set_cons_succ]
            refine wpAnyH_ready (rs := [17]) (by kernel_rfl) (by simp) ?_
            refine AllReadyH.cons (o := ?oz40) ?iz40 (fun K hK => ?kz40) AllReadyH.nil
            case iz40 => (simp only [List.getElem?_toArray, List.getElem?_cons_zero, List.getElem?_cons_succ]; rfl)
            go_simp
            change Calls _ _ #[planV (.slice la l1.length lc)] _ _
            refine (vprint_any (HP.out.below (HBd.out.trans (Bc.out.mono HB6.out.size))) HW.out HF.out ((HT.out.on (HBd.out.trans (Bc.out.mono HB6.out.size))).up (HBd.out.trans (Bc.out.mono HB6.out.size)).size)).mono ?_
            rw [HOO.out]
            rintro e w8 ⟨t1, rfl, ht1, hb⟩
            have hcv := conv_row ht1.row
            rw [HSV.out] at hcv
            have HT1 := Lib.hid ht1
            refine held_more hK HS0.out hlt (Bc.out.trans (hb.mono Bc.out.size)) (fun Bc hSn => ?_)
            clear hb hK ht1
            refine wpAnyH_strong (S' := fun w' => Holds [((⟨NQ, 0, none⟩ : Addr), Value.slice qa l1.length qc), (⟨w.heap.size + 1, 0, none⟩, .slice la l1.length lc)] w' ∧ (convert 34 9 t1).run Tryd.prog w' = .ok (.string sv) w') (fun _ h => h.1) _ _ _ _ ?_
            have hSn := And.intro hSn hcv
            refine wpAnyH_take (i := 18) (oi := ?oz41) (v := ?vz41) ?iz41 (by kernel_rfl) (by kernel_rfl) (by kernel_rfl) ?qz41 (Or.inl ⟨?gz41, ?hz41⟩) (by assumption) ?rz41
            case iz41 => (simp only [List.getElem?_toArray, List.getElem?_cons_zero, List.getElem?_cons_succ]; rfl)
            case qz41 => exact fun _ _ _ h => h
            case gz41 => rfl
            case hz41 => (intro w hSw; (simp only [Holds] at hSw); go_simp <;> with_reducible rfl)
            simp only [Act.put, List.setIfInBounds_toArray, List.set_cons_zero, List.set_cons_succ]
            refine wpAnyH_ready (rs := [20]) (by kernel_rfl) (by simp) ?_
            refine AllReadyH.cons (o := ?oz42) ?iz42 (fun K hK => ?kz42) AllReadyH.nil
            case iz42 => (simp only [List.getElem?_toArray, List.getElem?_cons_zero, List.getElem?_cons_succ]; rfl)
            go_simp
            change Calls _ _ #[planV (.slice qa l1.length qc)] _ _
            refine (vprint_any ((HQd.out.below Bc.out).lines (HQw.out.below (HBd.out.trans (Bc.out.mono HB6.out.size)))) HMW.out HMFi.out ((HT.out.on (HBd.out.trans (Bc.out.mono HB6.out.size))).up (HBd.out.trans (Bc.out.mono HB6.out.size)).size)).mono ?_
            
            rintro e w9 ⟨t2, rfl, ht2, hb⟩
            have hcv2 := conv_row ht2.row
            rw [HSV.out] at hcv2
            have hcv1 := conv_row (HT1.out.below hb).row
            rw [HSV.out] at hcv1
            have Bc9 := Lib.hid (Bc.out.trans (hb.mono Bc.out.size))
            have HH9 := Holds.below Bc9.out HS0.out hlt.out
            refine hK.out _ _ ⟨HH9, hcv1⟩ (fun _ => ?_)
            clear hb hK ht2
            refine wpAnyH_strong (S' := fun w' => (Holds [((⟨NQ, 0, none⟩ : Addr), Value.slice qa l1.length qc), (⟨w.heap.size + 1, 0, none⟩, .slice la l1.length lc)] w' ∧ (convert 34 9 t1).run Tryd.prog w' = .ok (.string sv) w') ∧ (convert 34 9 t2).run Tryd.prog w' = .ok (.string sv) w') (fun _ h => h.1) _ _ _ _ ?_
            have hSn := And.intro (And.intro HH9 hcv1) hcv2
            refine wpAnyH_take (i := 21) (oi := ?oz43) (v := ?vz43) ?iz43 (by kernel_rfl) (by kernel_rfl) (by kernel_rfl) ?qz43 (Or.inl ⟨?gz43, ?hz43⟩) (by assumption) ?rz43
            case iz43 => (simp only [List.getElem?_toArray, List.getElem?_cons_zero, List.getElem?_cons_succ]; rfl)
            case qz43 => exact fun _ _ _ h => h
            case gz43 => rfl
            case hz43 => (intro w hSw; (simp only [Holds] at hSw); go_simp <;> with_reducible rfl)
            simp only [Act.put, List.setIfInBounds_toArray, List.set_cons_zero, List.set_cons_succ]
            refine wpAnyH_take (i := 22) (oi := ?oz44) (v := ?vz44) ?iz44 (by kernel_rfl) (by kernel_rfl) (by kernel_rfl) ?qz44 (Or.inl ⟨?gz44, ?hz44⟩) (by assumption) ?rz44
            case iz44 => (simp only [List.getElem?_toArray, List.getElem?_cons_zero, List.getElem?_cons_succ]; rfl)
            case qz44 => exact fun _ _ _ h => h
            case gz44 => rfl
            case hz44 => (intro w hSw; (simp only [Holds] at hSw); go_simp <;> with_reducible rfl)
            simp only [Act.put, List.setIfInBounds_toArray, List.set_cons_zero, List.set_cons_succ]
            refine wpAnyH_take (i := 23) (oi := ?oz45) (v := ?vz45) ?iz45 (by kernel_rfl) (by kernel_rfl) (by kernel_rfl) ?qz45 (Or.inl ⟨?gz45, ?hz45⟩) (by assumption) ?rz45
            case iz45 => (simp only [List.getElem?_toArray, List.getElem?_cons_zero, List.getElem?_cons_succ]; rfl)
            case qz45 => exact fun _ _ _ h => h
            case gz45 => rfl
            case hz45 => (intro w hSw; (simp only [Holds] at hSw); go_simp <;> with_reducible rfl)
            simp only [Act.put, List.setIfInBounds_toArray, List.set_cons_zero, List.set_cons_succ]
            refine wpAnyH_take (i := 24) (oi := ?oz46) (v := ?vz46) ?iz46 (by kernel_rfl) (by kernel_rfl) (by kernel_rfl) ?qz46 (Or.inl ⟨?gz46, ?hz46⟩) (by assumption) ?rz46
            case iz46 => (simp only [List.getElem?_toArray, List.getElem?_cons_zero, List.getElem?_cons_succ]; rfl)
            case qz46 => exact fun _ _ _ h => h
            case gz46 => rfl
            case hz46 => (intro w hSw; (simp only [Holds] at hSw); go_simp <;> with_reducible rfl)
            simp only [Act.put, List.setIfInBounds_toArray, List.set_cons_zero, List.set_cons_succ]
            refine wpAnyH_done (by kernel_rfl) ?_ _
            have HB9 := Lib.hid (HBd.out.trans (Bc9.out.mono HB6.out.size))
            clear HS0 hlt hSn Bc Bc9 HH9 hcv1 hcv2
            go_wp2
            go_ret
            exact ⟨rfl, HB9.out⟩
          · have h1 : ¬ de = 0 := fun h => h0 (hcd.1 h)
            have h2 : (ce == 0) = false := by simpa using h0
            have h3 : (de == 0) = false := by simpa using h1
            clear hcd HCO h0 h1
            go_upto_region 17 with fail
            have hlx := HX6.out.lt
            have hlq6 := HXQ6.out.lt
            have x0 := HX6.out.cell
            have q0 := HXQ6.out.cell
            have HS0 := Lib.hid (show Holds [((⟨NQ, 0, none⟩ : Addr), Value.slice qa l1.length qc), (⟨w.heap.size + 1, 0, none⟩, .slice la l1.length lc)] w6.drew from ⟨q0, x0, trivial⟩)
            have hlt := Lib.hid (show Lows w6.drew.heap.size [((⟨NQ, 0, none⟩ : Addr), Value.slice qa l1.length qc), (⟨w.heap.size + 1, 0, none⟩, .slice la l1.length lc)] from ⟨hlq6, hlx, trivial⟩)
            have HBd := Lib.hid (HB6.out.trans ((Below.refl w.heap.size w6).drew))
            have HQd := Lib.hid (HQ6.out.below ((Below.refl w6.heap.size w6).drew))
            obtain ⟨sv, hsv⟩ : ∃ sv, strOfNums (textOf (ordL M)) = sv := ⟨_, rfl⟩
            have HSV := Lib.hid hsv
            clear x0 q0 hsv
            refine wp_region_held_drew (S := Holds [((⟨NQ, 0, none⟩ : Addr), Value.slice qa l1.length qc), (⟨w.heap.size + 1, 0, none⟩, .slice la l1.length lc)]) (by kernel_rfl) HS0.out (fun hSn => ?_)
            have Bc := Lib.hid (Below.refl w6.drew.heap.size w6.drew)
            refine wpAnyH_take (i := 0) (oi := ?oz47) (v := ?vz47) ?iz47 (by kernel_rfl) (by kernel_rfl) (by kernel_rfl) ?qz47 (Or.inl ⟨?gz47, ?hz47⟩) (by assumption) ?rz47
            case iz47 => (simp only [List.getElem?_toArray, List.getElem?_cons_zero]; rfl)
            case qz47 => exact fun _ _ _ h => h
            case gz47 => rfl
            case hz47 => (intro w hSw; (simp only [Holds] at hSw); go_simp <;> with_reducible rfl)
            simp only [Act.put, List.setIfInBounds_toArray, List.set_cons_zero, List.set_cons_succ]
            refine wpAnyH_take (i := 1) (oi := ?oz48) (v := ?vz48) ?iz48 (by kernel_rfl) (by kernel_rfl) (by kernel_rfl) ?qz48 (Or.inl ⟨?gz48, ?hz48⟩) (by assumption) ?rz48
            case iz48 => (simp only [List.getElem?_toArray, List.getElem?_cons_zero, List.getElem?_cons_succ]; rfl)
            case qz48 => exact fun _ _ _ h => h
            case gz48 => rfl
            case hz48 => (intro w hSw; (simp only [Holds] at hSw); go_simp <;> with_reducible rfl)
            simp only [Act.put, List.setIfInBounds_toArray, List.set_cons_zero, List.set_cons_succ]
            refine wpAnyH_take (i := 2) (oi := ?oz49) (v := ?vz49) ?iz49 (by kernel_rfl) (by kernel_rfl) (by kernel_rfl) ?qz49 (Or.inl ⟨?gz49, ?hz49⟩) (by assumption) ?rz49
            case iz49 => (simp only [List.getElem?_toArray, List.getElem?_cons_zero, List.getElem?_cons_succ]; rfl)
            case qz49 => exact fun _ _ _ h => h
            case gz49 => rfl
            case hz49 => (intro w hSw; (simp only [Holds] at hSw); go_simp <;> with_reducible rfl)
            simp only [Act.put, List.setIfInBounds_toArray, List.set_cons_zero, List.set_cons_succ]
            refine wpAnyH_take (i := 3) (oi := ?oz50) (v := ?vz50) ?iz50 (by kernel_rfl) (by kernel_rfl) (by kernel_rfl) ?qz50 (Or.inl ⟨?gz50, ?hz50⟩) (by assumption) ?rz50
            case iz50 => (simp only [List.getElem?_toArray, List.getElem?_cons_zero, List.getElem?_cons_succ]; rfl)
            case qz50 => exact fun _ _ _ h => h
            case gz50 => rfl
            case hz50 => (intro w hSw; (simp only [Holds] at hSw); go_simp <;> with_reducible rfl)
            simp only [Act.put, List.setIfInBounds_toArray, List.set_cons_zero, List.set_cons_succ]
            refine wpAnyH_take (i := 4) (oi := ?oz51) (v := ?vz51) ?iz51 (by kernel_rfl) (by kernel_rfl) (by kernel_rfl) ?qz51 (Or.inl ⟨?gz51, ?hz51⟩) (by assumption) ?rz51
            case iz51 => (simp only [List.getElem?_toArray, List.getElem?_cons_zero, List.getElem?_cons_succ]; rfl)
            case qz51 => exact fun _ _ _ h => h
            case gz51 => rfl
            case hz51 => (intro w hSw; (simp only [Holds] at hSw); go_simp <;> with_reducible rfl)
            simp only [Act.put, List.setIfInBounds_toArray, List.set_cons_zero, List.set_cons_succ]
            refine wpAnyH_take (i := 5) (oi := ?oz52) (v := ?vz52) ?iz52 (by kernel_rfl) (by kernel_rfl) (by kernel_rfl) ?qz52 (Or.inl ⟨?gz52, ?hz52⟩) (by assumption) ?rz52
            case iz52 => (simp only [List.getElem?_toArray, List.getElem?_cons_zero, List.getElem?_cons_succ]; rfl)
            case qz52 => exact fun _ _ _ h => h
            case gz52 => rfl
            case hz52 => (intro w hSw; (simp only [Holds] at hSw); go_simp <;> with_reducible rfl)
            simp only [Act.put, List.setIfInBounds_toArray, List.set_cons_zero, List.set_cons_succ]
            refine wpAnyH_take (i := 6) (oi := ?oz53) (v := ?vz53) ?iz53 (by kernel_rfl) (by kernel_rfl) (by kernel_rfl) ?qz53 (Or.inl ⟨?gz53, ?hz53⟩) (by assumption) ?rz53
            case iz53 => (simp only [List.getElem?_toArray, List.getElem?_cons_zero, List.getElem?_cons_succ]; rfl)
            case qz53 => exact fun _ _ _ h => h
            case gz53 => rfl
            case hz53 => (intro w hSw; (simp only [Holds] at hSw); go_simp <;> with_reducible rfl)
            simp only [Act.put, List.setIfInBounds_toArray, List.set_cons_zero, List.set_cons_succ]
            refine wpAnyH_take (i := 7) (oi := ?oz54) (v := ?vz54) ?iz54 (by kernel_rfl) (by kernel_rfl) (by kernel_rfl) ?qz54 (Or.inl ⟨?gz54, ?hz54⟩) (by assumption) ?rz54
            case iz54 => (simp only [List.getElem?_toArray, List.getElem?_cons_zero, List.getElem?_cons_succ]; rfl)
            case qz54 => exact fun _ _ _ h => h
            case gz54 => rfl
            case hz54 => (intro w hSw; (simp only [Holds] at hSw); go_simp <;> with_reducible rfl)
            simp only [Act.put, List.setIfInBounds_toArray, List.set_cons_zero, List.set_cons_succ]
            refine wpAnyH_take (i := 8) (oi := ?oz55) (v := ?vz55) ?iz55 (by kernel_rfl) (by kernel_rfl) (by kernel_rfl) ?qz55 (Or.inl ⟨?gz55, ?hz55⟩) (by assumption) ?rz55
            case iz55 => (simp only [List.getElem?_toArray, List.getElem?_cons_zero, List.getElem?_cons_succ]; rfl)
            case qz55 => exact fun _ _ _ h => h
            case gz55 => rfl
            case hz55 => (intro w hSw; (simp only [Holds] at hSw); go_simp <;> with_reducible rfl)
            simp only [Act.put, List.setIfInBounds_toArray, List.set_cons_zero, List.set_cons_succ]
            refine wpAnyH_take (i := 9) (oi := ?oz56) (v := ?vz56) ?iz56 (by kernel_rfl) (by kernel_rfl) (by kernel_rfl) ?qz56 (Or.inl ⟨?gz56, ?hz56⟩) (by assumption) ?rz56
            case iz56 => (simp only [List.getElem?_toArray, List.getElem?_cons_zero, List.getElem?_cons_succ]; rfl)
            case qz56 => exact fun _ _ _ h => h
            case gz56 => rfl
            case hz56 => (intro w hSw; (simp only [Holds] at hSw); go_simp <;> with_reducible rfl)
            simp only [Act.put, List.setIfInBounds_toArray, List.set_cons_zero, List.set_cons_succ]
            refine wpAnyH_take (i := 10) (oi := ?oz57) (v := ?vz57) ?iz57 (by kernel_rfl) (by kernel_rfl) (by kernel_rfl) ?qz57 (Or.inl ⟨?gz57, ?hz57⟩) (by assumption) ?rz57
            case iz57 => (simp only [List.getElem?_toArray, List.getElem?_cons_zero, List.getElem?_cons_succ]; rfl)
            case qz57 => exact fun _ _ _ h => h
            case gz57 => rfl
            case hz57 => (intro w hSw; (simp only [Holds] at hSw); go_simp <;> with_reducible rfl)
            simp only [Act.put, List.setIfInBounds_toArray, List.set_cons_zero, List.set_cons_succ]
            refine wpAnyH_take (i := 11) (oi := ?oz58) (v := ?vz58) ?iz58 (by kernel_rfl) (by kernel_rfl) (by kernel_rfl) ?qz58 (Or.inl ⟨?gz58, ?hz58⟩) (by assumption) ?rz58
            case iz58 => (simp only [List.getElem?_toArray, List.getElem?_cons_zero, List.getElem?_cons_succ]; rfl)
            case qz58 => exact fun _ _ _ h => h
            case gz58 => rfl
            case hz58 => (intro w hSw; (simp only [Holds] at hSw); go_simp <;> with_reducible rfl)
            simp only [Act.put, List.setIfInBounds_toArray, List.set_cons_zero, List.set_cons_succ]
            refine wpAnyH_take (i := 12) (oi := ?oz59) (v := ?vz59) ?iz59 (by kernel_rfl) (by kernel_rfl) (by kernel_rfl) ?qz59 (Or.inl ⟨?gz59, ?hz59⟩) (by assumption) ?rz59
            case iz59 => (simp only [List.getElem?_toArray, List.getElem?_cons_zero, List.getElem?_cons_succ]; rfl)
            case qz59 => exact fun _ _ _ h => h
            case gz59 => rfl
            case hz59 => (intro w hSw; (simp only [Holds] at hSw); go_simp <;> with_reducible rfl)
            simp only [Act.put, List.setIfInBounds_toArray, List.set_cons_zero, List.set_cons_succ]
            refine wpAnyH_ready (rs := [13]) (by kernel_rfl) (by simp) ?_
            refine AllReadyH.cons (o := ?oz60) ?iz60 (fun K hK => ?kz60) AllReadyH.nil
            case iz60 => (simp only [List.getElem?_toArray, List.getElem?_cons_zero, List.getElem?_cons_succ]; rfl)
            go_simp
            change Calls _ _ #[planV (.slice la l1.length lc), planV (.slice qa l1.length qc)] _ _
            refine (vsame_any (HP.out.below (HBd.out.trans (Bc.out.mono HB6.out.size))) ((HQd.out.below Bc.out).lines (HQw.out.below (HBd.out.trans (Bc.out.mono HB6.out.size)))) HW.out HMW.out).mono ?_
            rw [HOO.out, decide_eq_true rfl]
            rintro e w7 ⟨rfl, hb⟩
            refine held_more hK HS0.out hlt (Bc.out.trans (hb.mono Bc.out.size)) (fun Bc hSn => ?_)
            clear hb hK
            refine wpAnyH_take (i := 14) (oi := ?oz61) (v := ?vz61) ?iz61 (by kernel_rfl) (by kernel_rfl) (by kernel_rfl) ?qz61 (Or.inl ⟨?gz61, ?hz61⟩) (by assumption) ?rz61
            case iz61 => (simp only [List.getElem?_toArray, List.getElem?_cons_zero, List.getElem?_cons_succ]; rfl)
            case qz61 => exact fun _ _ _ h => h
            case gz61 => rfl
            case hz61 => (intro w hSw; (simp only [Holds] at hSw); go_simp <;> with_reducible rfl)
            simp only [Act.put, List.setIfInBounds_toArray, List.set_cons_zero, List.set_cons_succ]
            refine wpAnyH_take (i := 15) (oi := ?oz62) (v := ?vz62) ?iz62 (by kernel_rfl) (by kernel_rfl) (by kernel_rfl) ?qz62 (Or.inl ⟨?gz62, ?hz62⟩) (by assumption) ?rz62
            case iz62 => (simp only [List.getElem?_toArray, List.getElem?_cons_zero, List.getElem?_cons_succ]; rfl)
            case qz62 => exact fun _ _ _ h => h
            case gz62 => rfl
            case hz62 => (intro w hSw; (simp only [Holds] at hSw); go_simp <;> with_reducible rfl)
            simp only [Act.put, List.setIfInBounds_toArray, List.set_cons_zero, List.set_cons_succ]
            refine wpAnyH_take (i := 16) (oi := ?oz63) (v := ?vz63) ?iz63 (by kernel_rfl) (by kernel_rfl) (by kernel_rfl) ?qz63 (Or.inl ⟨?gz63, ?hz63⟩) (by assumption) ?rz63
            case iz63 => (simp only [List.getElem?_toArray, List.getElem?_cons_zero, List.getElem?_cons_succ]; rfl)
            case qz63 => exact fun _ _ _ h => h
            case gz63 => rfl
            case hz63 => (intro w hSw; (simp only [Holds] at hSw); go_simp <;> with_reducible rfl)
            simp only [Act.put, List.setIfInBounds_toArray, List.set_cons_zero, List.set_cons_succ]
            refine wpAnyH_take (i := 19) (oi := ?oz64) (v := ?vz64) ?iz64 (by kernel_rfl) (by kernel_rfl) (by kernel_rfl) ?qz64 (Or.inl ⟨?gz64, ?hz64⟩) (by assumption) ?rz64
            case iz64 => (simp only [List.getElem?_toArray, List.getElem?_cons_zero, List.getElem?_cons_succ]; rfl)
            case qz64 => exact fun _ _ _ h => h
            case gz64 => rfl
            case hz64 => (intro w hSw; (simp only [Holds] at hSw); go_simp <;> with_reducible rfl)
            simp only [Act.put, List.setIfInBounds_toArray, List.set_cons_zero, List.set_cons_succ]
            refine wpAnyH_ready (rs := [17]) (by kernel_rfl) (by simp) ?_
            refine AllReadyH.cons (o := ?oz65) ?iz65 (fun K hK => ?kz65) AllReadyH.nil
            case iz65 => (simp only [List.getElem?_toArray, List.getElem?_cons_zero, List.getElem?_cons_succ]; rfl)
            go_simp
            change Calls _ _ #[planV (.slice la l1.length lc)] _ _
            refine (vprint_any (HP.out.below (HBd.out.trans (Bc.out.mono HB6.out.size))) HW.out HF.out ((HT.out.on (HBd.out.trans (Bc.out.mono HB6.out.size))).up (HBd.out.trans (Bc.out.mono HB6.out.size)).size)).mono ?_
            rw [HOO.out]
            rintro e w8 ⟨t1, rfl, ht1, hb⟩
            have hcv := conv_row ht1.row
            rw [HSV.out] at hcv
            have HT1 := Lib.hid ht1
            refine held_more hK HS0.out hlt (Bc.out.trans (hb.mono Bc.out.size)) (fun Bc hSn => ?_)
            clear hb hK ht1
            refine wpAnyH_strong (S' := fun w' => Holds [((⟨NQ, 0, none⟩ : Addr), Value.slice qa l1.length qc), (⟨w.heap.size + 1, 0, none⟩, .slice la l1.length lc)] w' ∧ (convert 34 9 t1).run Tryd.prog w' = .ok (.string sv) w') (fun _ h => h.1) _ _ _ _ ?_
            have hSn := And.intro hSn hcv
            refine wpAnyH_take (i := 18) (oi := ?oz66) (v := ?vz66) ?iz66 (by kernel_rfl) (by kernel_rfl) (by kernel_rfl) ?qz66 (Or.inl ⟨?gz66, ?hz66⟩) (by assumption) ?rz66
            case iz66 => (simp only [List.getElem?_toArray, List.getElem?_cons_zero, List.getElem?_cons_succ]; rfl)
            case qz66 => exact fun _ _ _ h => h
            case gz66 => rfl
            case hz66 => (intro w hSw; (simp only [Holds] at hSw); go_simp <;> with_reducible rfl)
            simp only [Act.put, List.setIfInBounds_toArray, List.set_cons_zero, List.set_cons_succ]
            refine wpAnyH_ready (rs := [20]) (by kernel_rfl) (by simp) ?_
            refine AllReadyH.cons (o := ?oz67) ?iz67 (fun K hK => ?kz67) AllReadyH.nil
            case iz67 => (simp only [List.getElem?_toArray, List.getElem?_cons_zero, List.getElem?_cons_succ]; rfl)
            go_simp
            change Calls _ _ #[planV (.slice qa l1.length qc)] _ _
            refine (vprint_any ((HQd.out.below Bc.out).lines (HQw.out.below (HBd.out.trans (Bc.out.mono HB6.out.size)))) HMW.out HMFi.out ((HT.out.on (HBd.out.trans (Bc.out.mono HB6.out.size))).up (HBd.out.trans (Bc.out.mono HB6.out.size)).size)).mono ?_
            
            rintro e w9 ⟨t2, rfl, ht2, hb⟩
            have hcv2 := conv_row ht2.row
            rw [HSV.out] at hcv2
            have hcv1 := conv_row (HT1.out.below hb).row
            rw [HSV.out] at hcv1
            have Bc9 := Lib.hid (Bc.out.trans (hb.mono Bc.out.size))
            have HH9 := Holds.below Bc9.out HS0.out hlt.out
            refine hK.out _ _ ⟨HH9, hcv1⟩ (fun _ => ?_)
            clear hb hK ht2
            refine wpAnyH_strong (S' := fun w' => (Holds [((⟨NQ, 0, none⟩ : Addr), Value.slice qa l1.length qc), (⟨w.heap.size + 1, 0, none⟩, .slice la l1.length lc)] w' ∧ (convert 34 9 t1).run Tryd.prog w' = .ok (.string sv) w') ∧ (convert 34 9 t2).run Tryd.prog w' = .ok (.string sv) w') (fun _ h => h.1) _ _ _ _ ?_
            have hSn := And.intro (And.intro HH9 hcv1) hcv2
            refine wpAnyH_take (i := 21) (oi := ?oz68) (v := ?vz68) ?iz68 (by kernel_rfl) (by kernel_rfl) (by kernel_rfl) ?qz68 (Or.inl ⟨?gz68, ?hz68⟩) (by assumption) ?rz68
            case iz68 => (simp only [List.getElem?_toArray, List.getElem?_cons_zero, List.getElem?_cons_succ]; rfl)
            case qz68 => exact fun _ _ _ h => h
            case gz68 => rfl
            case hz68 => (intro w hSw; (simp only [Holds] at hSw); go_simp <;> with_reducible rfl)
            simp only [Act.put, List.setIfInBounds_toArray, List.set_cons_zero, List.set_cons_succ]
            refine wpAnyH_take (i := 22) (oi := ?oz69) (v := ?vz69) ?iz69 (by kernel_rfl) (by kernel_rfl) (by kernel_rfl) ?qz69 (Or.inl ⟨?gz69, ?hz69⟩) (by assumption) ?rz69
            case iz69 => (simp only [List.getElem?_toArray, List.getElem?_cons_zero, List.getElem?_cons_succ]; rfl)
            case qz69 => exact fun _ _ _ h => h
            case gz69 => rfl
            case hz69 => (intro w hSw; (simp only [Holds] at hSw); go_simp <;> with_reducible rfl)
            simp only [Act.put, List.setIfInBounds_toArray, List.set_cons_zero, List.set_cons_succ]
            refine wpAnyH_take (i := 23) (oi := ?oz70) (v := ?vz70) ?iz70 (by kernel_rfl) (by kernel_rfl) (by kernel_rfl) ?qz70 (Or.inl ⟨?gz70, ?hz70⟩) (by assumption) ?rz70
            case iz70 => (simp only [List.getElem?_toArray, List.getElem?_cons_zero, List.getElem?_cons_succ]; rfl)
            case qz70 => exact fun _ _ _ h => h
            case gz70 => rfl
            case hz70 => (intro w hSw; (simp only [Holds] at hSw); go_simp <;> with_reducible rfl)
            simp only [Act.put, List.setIfInBounds_toArray, List.set_cons_zero, List.set_cons_succ]
            refine wpAnyH_take (i := 24) (oi := ?oz71) (v := ?vz71) ?iz71 (by kernel_rfl) (by kernel_rfl) (by kernel_rfl) ?qz71 (Or.inl ⟨?gz71, ?hz71⟩) (by assumption) ?rz71
            case iz71 => (simp only [List.getElem?_toArray, List.getElem?_cons_zero, List.getElem?_cons_succ]; rfl)
            case qz71 => exact fun _ _ _ h => h
            case gz71 => rfl
            case hz71 => (intro w hSw; (simp only [Holds] at hSw); go_simp <;> with_reducible rfl)
            simp only [Act.put, List.setIfInBounds_toArray, List.set_cons_zero, List.set_cons_succ]
            refine wpAnyH_done (by kernel_rfl) ?_ _
            have HB9 := Lib.hid (HBd.out.trans (Bc9.out.mono HB6.out.size))
            clear HS0 hlt hSn Bc Bc9 HH9 hcv1 hcv2
            go_wp2
            go_ret
            exact ⟨rfl, HB9.out⟩
  · have hdf : decide (FewP l1) = false := decide_eq_false hfew
    rw [hdf]
    clear hdf hfew
    go_wp2
    go_ret
    exact ⟨rfl, HB2.out⟩

set_option maxRecDepth 100000 in
theorem lifted (os : Os) (started : os.Started) (H : Type) (enc : TypeId × Value → H) :
    ReturnsInHanded {} Tryd.checked os 6 .any (fun w args => (Rows.planOrderSpec.pre enc Tryd.prog Tryd.f6 [] false w args ∧ laidMetH Tryd.prog Rows.planOrderRow.laid w) ∧ sizedMet enc Tryd.prog Tryd.f6 (OpenSpec.ofChange Rows.planOrderSpec) false w args)
      (Rows.planOrderSpec.post enc Tryd.prog Tryd.f6 false true false false) := by
  refine returnsInHanded_of_change_and (C := Tryd.checked) (X := fun w _ => laidMetH Tryd.prog Rows.planOrderRow.laid w) (fun _ _ _ hh h => h.of_heap hh) own started (by kernel_rfl) Tryd.func6
    (ChangeSpec.witness_shaped (enc := enc) (C := Tryd.checked) (os := os) (X := fun w _ => laidMetH Tryd.prog Rows.planOrderRow.laid w) false (World.doorLaid Tryd.prog 24 os) #[.agg #[.int .i64 0, .int .i64 0, .int .i64 0, .slice none 0 0], .agg #[.slice none 0 0]] 8 rfl (World.shaped_of_RefB (by kernel_rfl) (by kernel_rfl)) (by kernel_rfl) (by kernel_rfl) (by kernel_rfl) (door_met os _)) ?_
  intro W base args ds gs before hval0 hW _ _ hL _
  have hval : ∀ (j : Nat) t v, Tryd.f6.params[j]? = some t → args[j]? = some v → Value.okWide Tryd.prog W .any base t v := hval0
  have hW' := hW
  obtain ⟨p, q, hA0, hV, rfl, hfz, hnd⟩ := hW
  have hA : DataW.TrodAll enc Tryd.prog W 0 (fun _ => true) true Tryd.f6.params.toList args.toList ds p := hA0
  rw [Tryd.params6] at hA hval
  obtain ⟨v0, vs0, d0, ds0, p0, q0, hargs, rfl, rfl, h0, r0⟩ := trodAll_cons hA
  obtain ⟨v1, vs1, d1, ds1, p1, q1, rfl, rfl, rfl, h1, r1⟩ := trodAll_cons r0
  obtain ⟨rfl, rfl, rfl⟩ := trodAll_nil r1
  obtain rfl : args = #[v0, v1] := by cases args; simp_all
  obtain ⟨rfl, rfl⟩ := trodVars_none hV
  have k0 := h0
  have lt0 : ∀ x ∈ p0, x.block < W.heap.size := by obtain ⟨m, hm⟩ := k0; exact DataW.trod_lt m _ _ _ hm
  have k1 := h1
  have lt1 : ∀ x ∈ p1, x.block < W.heap.size := by obtain ⟨m, hm⟩ := k1; exact DataW.trod_lt m _ _ _ hm
  obtain ⟨I0, u0, rfl, e0, _⟩ := open_inst (hval 0 24 v0 rfl rfl) h0
  obtain ⟨u1, l1, rfl, e1, f1⟩ := open_plan (hval 1 27 v1 rfl rfl) h1
  have hT := tab_of_laid hL
  clear hA0 hval0
  refine (walk I0 _ _ l1 W e0 e1 f1 hT).mono fun e W' ⟨he, bel⟩ => ?_
  subst he
  exact ⟨_, rfl, _, _, _, [], _, [], hW', trodAll_mk1 (shut_bool Tryd.underlying4 _), (trodAll_cons_mk (Below.trod laidOut (by kernel_rfl) (of_decide_eq_true (by kernel_rfl)) k0 bel lt0) (trodAll_cons_mk (Below.trod laidOut (by kernel_rfl) (of_decide_eq_true (by kernel_rfl)) k1 bel lt1) trodAll_mk0)), rfl, bel.frame _, fun h => by cases h⟩

theorem over : Rows.PlanOrderSaid :=
  OpenClaim.holds_of_wide 6 Tryd.f6 rfl rfl rfl rfl rfl rfl rfl ⟨rfl, rfl, rfl, rfl, rfl⟩ rfl rfl rfl rfl rfl (by kernel_rfl) Tryd.func6 (by kernel_rfl)
    (of_decide_eq_true (by kernel_rfl)) (by unfold Func.isWrapper; first | (rw [if_pos (by decide +kernel)]; kernel_rfl) | (rw [if_neg (by decide +kernel)]; exact ⟨rfl, rfl⟩))
    (fun os started H enc _ => lifted os started H enc)

theorem proved : Rows.PlanOrderCardSaid :=
  Claim7.holds_tied_plain_at .later [] [.data, .data, .data] true Rows.planOrderCard.stood.harness false
    over (fun _ h => by cases h) (by kernel_rfl) (fun _ h => by cases h) planOrder_row_tie rfl ⟨rfl, rfl⟩ (by kernel_rfl) rfl
    (fun f fn hf hfn => by
      obtain rfl : f = 6 := Option.some.inj ((show Tryd.prog.funcNamed Rows.planOrderRow.func = some 6 by kernel_rfl).symm.trans hf) |>.symm
      obtain rfl : fn = Tryd.f6 := (Option.some.inj (Tryd.func6.symm.trans hfn)).symm
      refine ⟨by kernel_rfl, fun j t ht => ?_⟩
      rw [Tryd.params6] at ht
      rcases j with _ | _ | j
      · obtain rfl : t = 24 := by simpa using ht.symm
        exact (show Tryd.prog.wantsStandIn 24 = false by kernel_rfl)
      · obtain rfl : t = 27 := by simpa using ht.symm
        exact (show Tryd.prog.wantsStandIn 27 = false by kernel_rfl)
      · simp at ht)
    (by kernel_rfl)
#print axioms proved
end Go.Proofs.YtjpdhicpkcmjgaaDoor.planOrder
