/- What the document's Print, Same and Parse answer. -/
import Derived.Test.YtpdeffpmfbplnaaDoorXU
import Derived.Test.YtpdeffpmfbplnaaDoorVBox
import Derived.Test.YtpdeffpmfbplnaaDoorRefp
namespace Go.Proofs.YtpdeffpmfbplnaaDoor
open Go.ChangeShapes Go.WideShapes Go.ChangeAt Go.RowKit

set_option maxRecDepth 1000000 in
set_option maxHeartbeats 2000000 in
theorem dprint_any {w : World} {v : Value} {L : List (List Int)} (h : IsLL w v L) (hw : FewP L) (hf : Fits L) :
    Calls Tryd.prog 20 #[planV v] w fun e w' => ∃ u, e = .returned u ∧ OwnB w' w.heap.size u (textOf (ordL L)) ∧ Below w.heap.size w w' := by
  have HB0 := Lib.hid ((Below.refl _ w).alloc (Nat.le_refl _) (.cells #[v] 27))
  have H := Lib.hid (h.below ((Below.refl _ w).alloc (Nat.le_refl _) (.cells #[v] 27)))
  have HW := Lib.hid hw
  have HF := Lib.hid hf
  obtain ⟨ad, cap, rfl, _⟩ := h.form
  clear h hf hw
  unfold planV
  go_enter Tryd.func20, Tryd.ntmps20
  go_wp2_with fail
  change Calls _ _ #[planV (.slice ad L.length cap)] _ _
  generalize w.alloc (.cells #[.slice ad L.length cap] 27) = W at *
  refine (dsorted_any H.out (by have := HW.out.1; omega) HW.out.rows).mono ?_
  rintro e w2 ⟨u, rfl, hu, hb⟩
  have HU := Lib.hid (hu.less (B' := w.heap.size) HB0.out.size)
  have HB2 := Lib.hid (HB0.out.trans (hb.mono HB0.out.size))
  obtain ⟨ua, uc, rfl, _⟩ := hu.is.form
  clear hu hb
  obtain ⟨nu, hnu⟩ : ∃ nu, (ordL L).length = nu := ⟨_, rfl⟩
  rw [hnu] at HU ⊢
  clear hnu
  have HB3 := Lib.hid (HB2.out.alloc HB2.out.size (.cells #[.slice ua nu uc] 27))
  have HU3 := Lib.hid (HU.out.alloc (.cells #[.slice ua nu uc] 27))
  unfold planV
  go_wp2_with fail
  generalize w2.alloc (.cells #[.slice ua nu uc] 27) = W3 at *
  refine (refPrint_any HU3.out.is (fits_ord HF.out) (few_text (few_ord HW.out) (fits_ord HF.out))).mono ?_
  rintro e w3 ⟨x, rfl, hx, hb⟩
  have HX := Lib.hid (show OwnB w3 w.heap.size x (textOf (ordL L)) from own_less hx HB3.out.size)
  have HB4 := Lib.hid (HB3.out.trans (hb.mono HB3.out.size))
  clear hx hb
  go_wp2
  go_ret
  exact ⟨_, rfl, HX.out, HB4.out⟩
set_option maxRecDepth 1000000 in
set_option maxHeartbeats 2000000 in
theorem dsame_any {w : World} {v u : Value} {L M : List (List Int)} (hv : IsLL w v L) (hu : IsLL w u M) (hL : FewP L) (hM : FewP M) :
    Calls Tryd.prog 22 #[planV v, planV u] w fun e w' => e = .returned (.bool (decide (ordL L = ordL M))) ∧ Below w.heap.size w w' := by
  have HV := Lib.hid hv
  have HU := Lib.hid hu
  have HL := Lib.hid hL
  have HM := Lib.hid hM
  have hb1 := (Below.refl w.heap.size w).alloc (Nat.le_refl _) (.cells #[v] 27)
  have HB0 := Lib.hid (hb1.alloc hb1.size (.cells #[u] 27))
  have h2 := pbox_new (w.alloc (.cells #[v] 27)) u
  rw [show (w.alloc (.cells #[v] 27)).heap.size = w.heap.size + 1 by simp] at h2
  have HP1 := Lib.hid ((pbox_new w v).later ((Below.refl _ _).alloc (Nat.le_refl _) (.cells #[u] 27)))
  have HP2 := Lib.hid h2
  obtain ⟨va, vc, rfl, _⟩ := hv.form
  obtain ⟨ua, uc, rfl, _⟩ := hu.form
  clear hv hu hb1 h2 hL hM
  unfold planV
  go_enter Tryd.func22, Tryd.ntmps22
  go_wp2_with fail
  change Calls _ _ #[planV (.slice va L.length vc)] _ _
  generalize (w.alloc (.cells #[.slice va L.length vc] 27)).alloc (.cells #[.slice ua M.length uc] 27) = W at *
  refine (dsorted_any (HV.out.below HB0.out) (by have := HL.out.1; omega) HL.out.rows).mono ?_
  rintro e w2 ⟨x, rfl, hx, hb⟩
  have HX := Lib.hid hx
  have HB2 := Lib.hid (HB0.out.trans (hb.mono HB0.out.size))
  have HP3 := Lib.hid (HP2.out.later hb)
  obtain ⟨xa, xc, rfl, _⟩ := hx.is.form
  clear hx hb
  have hbx := (Below.refl w2.heap.size w2).alloc (Nat.le_refl _) (.cells #[.slice xa (ordL L).length xc] 27)
  have HB3 := Lib.hid (HB2.out.alloc HB2.out.size (.cells #[.slice xa (ordL L).length xc] 27))
  have HX3 := Lib.hid (HX.out.below hbx)
  have HQ3 := Lib.hid (pbox_new w2 (.slice xa (ordL L).length xc))
  have HP4 := Lib.hid (HP3.out.later hbx)
  clear hbx
  unfold planV
  go_upto_region 2 with fail
  generalize w2.alloc (.cells #[.slice xa (ordL L).length xc] 27) = W3 at *
  generalize w2.heap.size = N1 at *
  have x0 := HP4.out.cell
  go_wp2_with fail
  change Calls _ _ #[planV (.slice ua M.length uc)] _ _
  refine (dsorted_any (HU.out.below HB3.out) (by have := HM.out.1; omega) HM.out.rows).mono ?_
  rintro e w4 ⟨y, rfl, hy, hb⟩
  have HY := Lib.hid hy
  have HB4 := Lib.hid (HB3.out.trans (hb.mono HB3.out.size))
  have HX4 := Lib.hid (HX3.out.below hb)
  have HQ4 := Lib.hid (HQ3.out.later hb)
  obtain ⟨ya, yc, rfl, _⟩ := hy.is.form
  clear hy hb x0
  have hby := (Below.refl w4.heap.size w4).alloc (Nat.le_refl _) (.cells #[.slice ya (ordL M).length yc] 27)
  have HB5 := Lib.hid (HB4.out.alloc HB4.out.size (.cells #[.slice ya (ordL M).length yc] 27))
  have HX5 := Lib.hid (HX4.out.below hby)
  have HY5 := Lib.hid (HY.out.below hby)
  have HQ5 := Lib.hid (HQ4.out.later hby)
  have HR5 := Lib.hid (pbox_new w4 (.slice ya (ordL M).length yc))
  clear hby
  unfold planV
  go_upto_region 3 with fail
  generalize w4.alloc (.cells #[.slice ya (ordL M).length yc] 27) = W5 at *
  generalize w4.heap.size = N2 at *
  have q0 := HQ5.out.cell
  have r0 := HR5.out.cell
  go_wp2_with fail
  refine (same_any HX5.out.is HY5.out.is).mono ?_
  rintro e w6 ⟨rfl, hb⟩
  have HB6 := Lib.hid (HB5.out.trans (hb.mono HB5.out.size))
  clear hb q0 r0
  go_wp2
  go_ret
  exact ⟨rfl, HB6.out⟩
set_option maxRecDepth 1000000 in
set_option maxHeartbeats 4000000 in
theorem dparse_any {w : World} {tv : Value} {bs : List Int} (h : Row w tv (byts bs)) :
    Calls Tryd.prog 18 #[tv] w fun e w' => ∃ u, e = .returned (.tuple #[planV u, .int .i64 (pErr bs)]) ∧ OwnLL w' w.heap.size u (pRes bs) ∧ Below w.heap.size w w' := by
  have HB0 := Lib.hid ((Below.refl w.heap.size w).alloc (Nat.le_refl _) (.cells #[.slice none 0 0] 27))
  have H := Lib.hid (h.below ((Below.refl w.heap.size w).alloc (Nat.le_refl _) (.cells #[.slice none 0 0] 27)))
  have HZ := Lib.hid (pbox_new w (.slice none 0 0))
  have hsz : (w.alloc (.cells #[.slice none 0 0] 27)).heap.size = w.heap.size + 1 := by simp
  have HSZ := Lib.hid hsz
  obtain ⟨ta, tc, rfl, _⟩ := h.form
  clear h hsz
  unfold planV
  go_enter Tryd.func18, Tryd.ntmps18
  go_wp2_with fail
  generalize w.alloc (.cells #[.slice none 0 0] 27) = W at *
  refine (refLines_any H.out).mono ?_
  rintro e w1 ⟨v, rfl, hv, hb⟩
  have HV := Lib.hid hv
  have HB1 := Lib.hid (HB0.out.trans (hb.mono HB0.out.size))
  have HZ1 := Lib.hid (HZ.out.later hb)
  have HSZ1 := Lib.hid (show w.heap.size + 1 ≤ w1.heap.size by have := HSZ.out; have := hb.size; omega)
  obtain ⟨la, lc, rfl, hlm⟩ := hv.is.form
  have hlm1 : (resOf bs).length ≤ 9223372036854775807 := by unfold maxLen at hlm; omega
  have z0 := HZ1.out.cell
  have f0 := HZ1.out.free 0
  clear hv hb hlm
  obtain ⟨er, her⟩ : ∃ er, errOf bs = er := ⟨_, rfl⟩
  rw [her]
  by_cases he : er = 0
  · have HEZ := Lib.hid (show errOf bs = 0 by rw [her, he])
    clear her
    subst he
    obtain ⟨L, hL⟩ : ∃ L, resOf bs = L := ⟨_, rfl⟩
    rw [hL] at HV hlm1 ⊢
    have HRL := Lib.hid hL
    clear hL
    go_wp2_with fail
    go_loop [6] (fun i => ∃ (k : Nat), k ≤ L.length ∧ i = .int .i64 k ∧ lowLL (L.take k) = false) (fun i => L.length - (intOf i).toNat)
    case atStart => exact ⟨0, Nat.zero_le _, rfl, rfl⟩
    case round =>
      obtain ⟨k, hk, rfl, htk⟩ := hrel
      have HTK := Lib.hid htk
      clear htk
      by_cases hlt : k < L.length
      · have hlt2 : (k : Int) < (L.length : Int) := by omega
        obtain ⟨b1, o1, a1, n1, c1, rfl, _, hc1, hn1, hmx, hw1⟩ := ll_at HV.out.is k hlt
        have HNX := Lib.hid (lowLL_take hlt)
        have HAT := Lib.hid (fun h => lowLL_at hlt h)
        have HRw := Lib.hid hw1
        generalize L.getD k [] = l at *
        subst hn1
        have hm2 : l.length ≤ 9223372036854775807 := by unfold maxLen at hmx; omega
        clear hw1 hmx
        go_wp2_with fail
        go_loop [7] (fun i => ∃ (j : Nat), j ≤ l.length ∧ i = .int .i64 j ∧ lowR (l.take j) = false) (fun i => l.length - (intOf i).toNat)
        case atStart => exact ⟨0, Nat.zero_le _, rfl, rfl⟩
        case round =>
          obtain ⟨j, hj, rfl, htj⟩ := hrel
          have HTJ := Lib.hid htj
          clear htj
          by_cases hjl : j < l.length
          · have hjl2 : (j : Int) < (l.length : Int) := by omega
            obtain ⟨rb, ro, rc, he1, hcell, _, _⟩ := row_at (p := j) HRw.out (by rw [ints_len]; exact hjl)
            rw [ints_at l j hjl] at hcell
            simp only [ints_len, Value.slice.injEq, true_and] at he1
            obtain ⟨rfl, rfl⟩ := he1
            have HNJ := Lib.hid (lowR_take hjl)
            have HAJ := Lib.hid (fun h => lowR_at hjl h)
            generalize l.getD j 0 = x at *
            by_cases hx : x < 1
            · have hxd := decide_eq_true hx
              have HE := Lib.hid (pErr_low HEZ.out (by rw [HRL.out]; exact HAT.out (HAJ.out hx)))
              have HB2 := Lib.hid (HB1.out.setCell (p := ⟨w.heap.size, 0, none⟩) (Nat.le_refl _) (.slice none 0 0))
              go_wp2
              refine bodyPost_ret (v := .tuple #[.agg #[.slice none 0 0], .int .i64 2]) (by simp [results, Tryd.results18, go_sem, z0]) rfl ?_
              exact ⟨_, by rw [HE.out.1], by rw [HE.out.2]; exact ownLL_nil _ _, HB2.out⟩
            · have hxd := decide_eq_false hx
              have HD := Lib.hid (show lowR (l.take (j + 1)) = false by rw [HNJ.out, HTJ.out, hxd]; rfl)
              go_wp2_with fail
              go_round
              case rel => exact ⟨j + 1, by omega, by go_num, HD.out⟩
              case measure => simp [intOf]; omega
          · obtain rfl : j = l.length := by omega
            have hjl2 : ¬ (l.length : Int) < (l.length : Int) := by omega
            have HD := Lib.hid (show lowLL (L.take (k + 1)) = false by rw [HNX.out, HTK.out]; have := HTJ.out; rw [List.take_length] at this; rw [this]; rfl)
            go_wp2_with fail
            go_round
            case rel => exact ⟨k + 1, by omega, by go_num, HD.out⟩
            case measure => simp [intOf]; omega
      · obtain rfl : k = L.length := by omega
        have hlt2 : ¬ (L.length : Int) < (L.length : Int) := by omega
        have HE := Lib.hid (pErr_ok HEZ.out (by rw [HRL.out]; have := HTK.out; rwa [List.take_length] at this))
        have hgr : w1.grownBy (w1.setCell ⟨w.heap.size, 0, none⟩ (.slice la L.length lc)) (some w.heap.size) := ⟨rfl, rfl, rfl, by simp [World.setCell], fun k _ hk => heap_setCell_other w1 ⟨w.heap.size, 0, none⟩ k _ (fun e => hk (by rw [e]))⟩
        have HO4 := Lib.hid ((HV.out.later hgr (fun g hg => by simp at hg; have := HSZ.out; omega)).less (B' := w.heap.size) (by have := HSZ.out; omega))
        have HB2 := Lib.hid (HB1.out.setCell (p := ⟨w.heap.size, 0, none⟩) (Nat.le_refl _) (.slice la L.length lc))
        clear hgr
        go_wp2
        refine bodyPost_ret (v := .tuple #[.agg #[.slice la L.length lc], .int .i64 0]) (by simp [results, Tryd.results18, go_sem, z0]) rfl ?_
        exact ⟨_, by rw [HE.out.1], by rw [HE.out.2, HRL.out]; exact HO4.out, HB2.out⟩
  · have HE := Lib.hid (pErr_scan (bs := bs) (by rw [her]; exact he))
    have HER := Lib.hid her
    have heb : (er != 0) = true := by simpa using he
    have HB2 := Lib.hid (HB1.out.setCell (p := ⟨w.heap.size, 0, none⟩) (Nat.le_refl _) (.slice none 0 0))
    clear her
    go_wp2
    refine bodyPost_ret (v := .tuple #[.agg #[.slice none 0 0], .int .i64 er]) (by simp [results, Tryd.results18, go_sem, z0]) rfl ?_
    exact ⟨_, by rw [HE.out.1, HER.out], by rw [HE.out.2]; exact ownLL_nil _ _, HB2.out⟩
end Go.Proofs.YtpdeffpmfbplnaaDoor
