/- What Cost answers. -/
import Derived.Test.YtipjaibemhoifaaVCost
namespace Go.Proofs.Ytipjaibemhoifaa
open Go.ChangeShapes Go.WideShapes Go.ChangeAt Go.RowKit

def worldC (w : World) (I : Ins) (v u : Value) : World := (w.alloc (boxI I v)).alloc (boxP u)
theorem worldC_facts (w : World) (I : Ins) (v u : Value) : YBox (worldC w I v u) w.heap.size I v ∧ (worldC w I v u).heap[w.heap.size + 1]? = some (.cells #[u] 44 (0, 0)) ∧ Below w.heap.size w (worldC w I v u) ∧ w.heap.size + 2 = (worldC w I v u).heap.size := by
  have b1 := (Below.refl w.heap.size w).alloc (Nat.le_refl _) (boxI I v)
  have h1 := heap_alloc_new (w.alloc (boxI I v)) (boxP u)
  rw [show (w.alloc (boxI I v)).heap.size = w.heap.size + 1 by simp] at h1
  refine ⟨?_, h1, b1.alloc b1.size _, by simp [worldC]⟩
  have h2 : YBox (w.alloc (boxI I v)) w.heap.size I v := heap_alloc_new w (boxI I v)
  exact h2.later ((Below.refl _ _).alloc (Nat.le_refl _) (boxP u))
set_option maxRecDepth 1000000 in
set_option maxHeartbeats 4000000 in
theorem cost_any {w : World} {v u : Value} {I : Ins} {L : List (List Int)} (hv : SRow w v I.l) (hr : IsLL w u L) :
    Calls Try.prog 24 #[insV I v, planV u] w fun e w' => e = .returned (.tuple #[.int .i64 (costN I L), .int .i64 (costE I L)]) ∧ Below w.heap.size w w' := by
  have H := Lib.hid hr
  have HV := Lib.hid hv
  obtain ⟨ad, cap, rfl, _⟩ := hv.form
  obtain ⟨la, lc, rfl, hlm⟩ := hr.form
  have hlm1 : L.length ≤ 9223372036854775807 := by unfold maxLen at hlm; omega
  obtain ⟨hy, hx, hb, hsz⟩ := worldC_facts w I (.slice ad I.l.length cap) (.slice la L.length lc)
  have HY := Lib.hid hy
  have HX := Lib.hid hx
  have HB := Lib.hid hb
  have HSZ := Lib.hid hsz
  have c0 := hy.cells
  obtain ⟨c0, c1, c2, c3⟩ := c0
  clear hr hv hlm hy hx hb hsz
  unfold insV planV
  go_enter Try.func24, Try.ntmps24
  go_upto_region 1 with fail
  change Code.wp _ _ _ _ (worldC w I (.slice ad I.l.length cap) (.slice la L.length lc))
  generalize worldC w I (.slice ad I.l.length cap) (.slice la L.length lc) = W at *
  go_wp2_with fail
  change Calls _ _ #[insV I (.slice ad I.l.length cap)] _ _
  refine (may_any (HV.out.below HB.out)).mono ?_
  rintro e w1 ⟨rfl, hb⟩
  have HB1 := Lib.hid (HB.out.trans (hb.mono HB.out.size))
  have HY1 := Lib.hid (HY.out.later hb)
  have HX1 := Lib.hid (show w1.heap[w.heap.size + 1]? = some (.cells #[.slice la L.length lc] 44 (0, 0)) by rw [hb.block _ (by have := HSZ.out; omega)]; exact HX.out)
  have HSZ1 := Lib.hid (show w.heap.size + 2 ≤ w1.heap.size by have := HSZ.out; have := hb.size; omega)
  clear hb c0 c1 c2 c3
  cases hmay : mayB I with
  | false =>
    have HE := Lib.hid (show costE I L = 1 by unfold costE; rw [if_pos hmay])
    have HN := Lib.hid (show costN I L = 0 by unfold costN; rw [if_neg (by rw [HE.out]; simp)])
    go_wp2
    refine bodyPost_ret (v := .tuple #[.int .i64 0, .int .i64 1]) (by simp [results, Try.results24, go_sem]) rfl ?_
    exact ⟨by rw [HE.out, HN.out], HB1.out⟩
  | true =>
    have HMAY := Lib.hid hmay
    have HFI := Lib.hid (fine_of hmay)
    have HCC := Lib.hid ((inb_iff _ _ _).1 ((may_iff I).1 hmay).2.1)
    clear hmay
    obtain ⟨c0, c1, c2, c3⟩ := HY1.out.cells
    have x0 : w1.cell? ⟨w.heap.size + 1, 0, none⟩ = some (.slice la L.length lc) := by rw [cell_of_row w1 _ 0 _ _ _ HX1.out]; rfl
    by_cases hc : I.c < L.length
    · have HE := Lib.hid (show costE I L = 6 by unfold costE; rw [if_neg (by rw [HMAY.out]; simp), if_pos hc])
      have HN := Lib.hid (show costN I L = 0 by unfold costN; rw [if_neg (by rw [HE.out]; simp)])
      go_wp2
      refine bodyPost_ret (v := .tuple #[.int .i64 0, .int .i64 6]) (by simp [results, Try.results24, go_sem]) rfl ?_
      exact ⟨by rw [HE.out, HN.out], HB1.out⟩
    · have HC := Lib.hid hc
      go_wp2_with fail
      clear c0 c1 c2 c3 x0
      go_loopw [6, 26] (fun cs i wr => ∃ (k : Nat), k ≤ L.length ∧ i = .int .i64 k ∧ cs = .int .i64 (farS I (L.take k)) ∧ firstE I (L.take k) = 0 ∧ Below w.heap.size w wr ∧ Below (w.heap.size + 2) w1 wr) (fun _ i _ => L.length - (intOf i).toNat)
      case atStart => exact ⟨0, Nat.zero_le _, rfl, rfl, rfl, HB1.out, Below.refl _ _⟩
      case round =>
        obtain ⟨k, hk, rfl, rfl, hfe, hbw, hbw1⟩ := hrel
        have HFE := Lib.hid hfe
        have HBW := Lib.hid hbw
        have HBW1 := Lib.hid hbw1
        have HYr := Lib.hid (HY1.out.below (M := w.heap.size + 2) (by omega) hbw1)
        have HXr := Lib.hid (show wr.heap[w.heap.size + 1]? = some (.cells #[.slice la L.length lc] 44 (0, 0)) by rw [hbw1.block _ (by omega)]; exact HX1.out)
        have hk8 : L.length ≤ 8 := by have := HC.out; have := HCC.out; omega
        have hfb := farS_bds _ hfe
        have hkl : (L.take k).length ≤ 8 := by rw [List.length_take]; omega
        by_cases hlt : k < L.length
        · have hlt2 : (k : Int) < (L.length : Int) := by omega
          obtain ⟨tb, off, a1, n1, d1, rfl, htb, hcw, hn1, hm1, hrow⟩ := ll_at H.out k hlt
          have hcl := (hbw.cell (p := ⟨tb, off + k, none⟩) htb).trans hcw
          have HRow := Lib.hid (hrow.below hbw)
          have HT := Lib.hid (take_getD hlt)
          have HS := Lib.hid (show firstE I (L.take (k + 1)) ≠ 0 → firstE I L = firstE I (L.take (k + 1)) from fun h => by
            have := firstE_stays I (L.drop (k + 1)) (L.take (k + 1)) h
            rwa [List.take_append_drop] at this)
          generalize L.getD k [] = l at *
          subst hn1
          obtain ⟨c0, c1, c2, c3⟩ := HYr.out.cells
          clear hfe hbw hbw1 hcw hm1 hrow htb
          go_wp2_with fail
          change Calls _ _ #[insV I (.slice ad I.l.length cap), _] _ _
          refine (farOf_any (HV.out.below HBW.out) HRow.out).mono ?_
          rintro e w2 ⟨⟨far, rfl, hfar⟩, hb⟩
          have HB2 := Lib.hid (HBW.out.trans (hb.mono HBW.out.size))
          have HB21 := Lib.hid (HBW1.out.trans (hb.mono (by have := HSZ1.out; have := HBW1.out.size; omega)))
          have HFAR := Lib.hid hfar
          clear hb hfar c0 c1 c2 c3 hcl
          by_cases he : errR I l = 0
          · have hz := HFAR.out he
            have hfb2 := far_bds (errR_zero he).2
            rw [he, hz]
            have e2 : IntKind.i64.wrap (farS I (L.take k) + farT I l) = farS I (L.take k) + farT I l := IntWalk.i64_in _ (by omega)
            have HE1 := Lib.hid he
            clear he hz
            go_wp2_with fail
            go_roundw
            case rel => exact ⟨k + 1, by omega, by go_num, by rw [HT.out, farS_snoc], by rw [HT.out, firstE_snoc, if_pos HFE.out]; exact HE1.out, HB2.out, HB21.out⟩
            case measure => simp [intOf]; omega
          · have HE1 := Lib.hid (show firstE I L = errR I l by
              have h1 : firstE I (L.take (k + 1)) = errR I l := by rw [HT.out, firstE_snoc, if_pos HFE.out]
              rw [HS.out (by rw [h1]; exact he), h1])
            have HE := Lib.hid (show costE I L = errR I l by unfold costE; rw [if_neg (by rw [HMAY.out]; simp), if_neg (by have := HC.out; omega), HE1.out, if_pos he])
            have HN := Lib.hid (show costN I L = 0 by unfold costN; rw [if_neg (by rw [HE.out]; exact he)])
            generalize errR I l = er at *
            have heb : (er != 0) = true := by simpa using he
            go_wp2
            refine bodyPost_ret (v := .tuple #[.int .i64 0, .int .i64 er]) (by simp [results, Try.results24, go_sem]) rfl ?_
            exact ⟨by rw [HE.out, HN.out], HB2.out⟩
        · obtain rfl : k = L.length := by omega
          have hl2 : ¬ (L.length : Int) < (L.length : Int) := by omega
          obtain ⟨c0, c1, c2, c3⟩ := HYr.out.cells
          have x0 : wr.cell? ⟨w.heap.size + 1, 0, none⟩ = some (.slice la L.length lc) := by rw [cell_of_row wr _ 0 _ _ _ HXr.out]; rfl
          have HF := Lib.hid (show firstE I L = 0 by have := HFE.out; rwa [List.take_length] at this)
          have HFS := Lib.hid (show farS I (L.take L.length) = farS I L by rw [List.take_length])
          have HE := Lib.hid (costE_of HMAY.out (by have := HC.out; omega) HF.out)
          clear hfe hbw hbw1
          go_wp2_with fail
          change Calls _ _ #[insV I (.slice ad I.l.length cap), planV (.slice la L.length lc)] _ _
          refine (wrongTogether_any (HV.out.below HBW.out) (H.out.below HBW.out) ⟨HFI.out.p0, HFI.out.p1⟩ (flat_rng HF.out)).mono ?_
          rintro e w2 ⟨rfl, hb⟩
          have HB2 := Lib.hid (HBW.out.trans (hb.mono HBW.out.size))
          clear hb c0 c1 c2 c3 x0
          rw [← HE.out]
          have HNN := Lib.hid (show (costE I L = 0 → costN I L = farS I L) ∧ (costE I L ≠ 0 → costN I L = 0) from ⟨costN_ok, fun h => by unfold costN; rw [if_neg h]⟩)
          obtain ⟨er, her⟩ : ∃ er, costE I L = er := ⟨_, rfl⟩
          rw [her]
          have HER := Lib.hid her
          rw [her] at HNN
          clear her
          by_cases he : er = 0
          · have h1 := HNN.out.1 he
            have H1 := Lib.hid h1
            clear h1
            subst he
            go_wp2
            refine bodyPost_ret (v := .tuple #[.int .i64 (farS I L), .int .i64 0]) (by simp [results, Try.results24, go_sem]) rfl ?_
            exact ⟨by rw [H1.out, HER.out], HB2.out⟩
          · have H1 := Lib.hid (HNN.out.2 he)
            have heb : (er != 0) = true := by simpa using he
            go_wp2
            refine bodyPost_ret (v := .tuple #[.int .i64 0, .int .i64 er]) (by simp [results, Try.results24, go_sem]) rfl ?_
            exact ⟨by rw [H1.out, HER.out], HB2.out⟩
end Go.Proofs.Ytipjaibemhoifaa
