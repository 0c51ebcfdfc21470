/- StatePlans: a plan that may be is followed as its tour, and ended, and costs that. -/
import Derived.Test.YtpgbbnmflnhlbaaOrd
import Derived.Test.YtpgbbnmflnhlbaaRows
import Derived.Test.YtpgbbnmflnhlbaaSAwake
import Derived.Test.YtpgbbnmflnhlbaaXU
import Derived.Test.YtpgbbnmflnhlbaaXVD
import Derived.Test.YtpgbbnmflnhlbaaXVB
import Derived.Test.YtpgbbnmflnhlbaaXSNext
namespace Go.Proofs.Ytpgbbnmflnhlbaa.statePlans
open Go.ChangeShapes Go.WideShapes Go.ChangeAt Go.RowKit

theorem fol_ok {I : Ins} {l : List Int} (h : folE I l = 0) : mayB I = true ∧ ∃ s c, followS I l = some (s, c) := by
  cases hm : mayB I with
  | false => rw [(fol_bad hm l).2] at h; exact absurd h (by decide)
  | true =>
    cases hf : followS I l with
    | none => rw [(fol_no hm hf).2] at h; exact absurd h (by decide)
    | some x => exact ⟨rfl, x.1, x.2, rfl⟩
theorem plan_fol {I : Ins} {L : List (List Int)} (hc : costE I L = 0) : ∃ s c, folS I (joinL (ordL L)) = some (s, c) ∧ folE I (joinL (ordL L)) = 0 ∧ EndS I s ∧ c + endC I s = costN I L ∧ (0 ≤ c ∧ c ≤ 20000 * (joinL (ordL L)).length) := by
  obtain ⟨s, c, h1, h2, h3⟩ := plans hc
  have hm := (costE_ok hc).1
  exact ⟨s, c, (fol_yes hm h1).1, (fol_yes hm h1).2, h2, h3, follow_cost _ _ _ h1⟩
theorem few_sumL {L : List (List Int)} (h : FewP L) : L.length ≤ 1000 ∧ (∀ l ∈ L, l.length ≤ 1000000) ∧ sumL L ≤ 1000000 := by
  have h2 := few_sum L h.2
  have h3 := h.1
  exact ⟨by omega, fun l hl => by have := h.2 l hl; omega, by omega⟩
theorem plan_long {I : Ins} {L : List (List Int)} (hc : costE I L = 0) : (joinL (ordL L)).length ≤ 100 := by
  obtain ⟨s, c, h1, _, _⟩ := plans hc
  have := follow_few (costE_ok hc).1 h1
  omega
set_option maxRecDepth 1000000 in
set_option maxHeartbeats 4000000 in
theorem walk (I0 : Ins) (v0 : Value) (v1 : Value) (l1 : List (List Int)) (w : World) (e0 : SRow w v0 I0.l) (e1 : IsLL w v1 l1) :
    Calls Try.prog 17 #[insV I0 v0, planV v1] w fun e w' => e = .returned (.bool true) ∧ Below w.heap.size w w' := by
  have HR := Lib.hid e0
  have HP := Lib.hid e1
  obtain ⟨ad, cap, rfl, hlm, _⟩ := e0.form
  obtain ⟨la, lc, rfl, hlm1⟩ := e1.form
  have hmx2 : l1.length ≤ 9223372036854775807 := by unfold maxLen at hlm1; omega
  obtain ⟨hy, hx, hb, hsz⟩ := worldC_facts w I0 (.slice ad I0.l.length cap) (.slice la l1.length lc)
  have HY := Lib.hid hy
  have HX := Lib.hid (show PBox _ _ _ from hx)
  have HB := Lib.hid hb
  clear e0 e1 hlm1 hy hx hb hsz
  unfold insV planV
  go_enter Try.func17, Try.ntmps17
  go_upto_region 1 with fail
  change Code.wp _ _ _ _ (worldC w I0 (.slice ad I0.l.length cap) (.slice la l1.length lc))
  generalize worldC w I0 (.slice ad I0.l.length cap) (.slice la l1.length lc) = W at *
  go_wp2_with fail
  refine (sawake_any _).mono ?_
  rintro e w1 ⟨rfl, hb⟩
  have HYn := Lib.hid (HY.out.later hb)
  have HXn := Lib.hid (HX.out.later hb)
  have HBn := Lib.hid (HB.out.trans (hb.mono HB.out.size))
  clear hb HY HX HB
  have HY := HYn
  have HX := HXn
  have HB := HBn
  clear HYn HXn HBn
  have x0 := HX.out.cell
  go_wp2_with fail
  clear x0
  change Calls _ _ #[planV (.slice la l1.length lc)] _ _
  refine (vfew_any (HP.out.below HB.out)).mono ?_
  rintro e w2 ⟨rfl, hb⟩
  have HYn := Lib.hid (HY.out.later hb)
  have HXn := Lib.hid (HX.out.later hb)
  have HBn := Lib.hid (HB.out.trans (hb.mono HB.out.size))
  clear hb HY HX HB
  have HY := HYn
  have HX := HXn
  have HB := HBn
  clear HYn HXn HBn
  obtain ⟨y0, y1, y2, y3⟩ := HY.out.cells
  have x0 := HX.out.cell
  obtain ⟨few, hfew⟩ : ∃ few, decide (FewP l1) = few := ⟨_, rfl⟩
  rw [hfew]
  have HF := Lib.hid hfew
  clear hfew
  go_wp2_with fail
  clear x0 y0 y1 y2 y3
  change Calls _ _ #[insV I0 (.slice ad I0.l.length cap), planV (.slice la l1.length lc)] _ _
  refine (cost_any (HR.out.below HB.out) (HP.out.below HB.out)).mono ?_
  rintro e w3 ⟨rfl, hb⟩
  have HYn := Lib.hid (HY.out.later hb)
  have HXn := Lib.hid (HX.out.later hb)
  have HBn := Lib.hid (HB.out.trans (hb.mono HB.out.size))
  clear hb HY HX HB
  have HY := HYn
  have HX := HXn
  have HB := HBn
  clear HYn HXn HBn
  have y3 := HY.out.cells.2.2.2
  cases few with
  | false =>
    clear HF
    go_wp2
    go_ret
    exact ⟨rfl, HB.out⟩
  | true =>
  by_cases g1 : 100 < I0.l.length
  · have d1 : decide (100 < (I0.l.length : Int)) = true := decide_eq_true (by omega)
    have d2 := decide_eq_true g1
    clear g1
    go_wp2
    go_ret
    exact ⟨rfl, HB.out⟩
  have d1 : decide (100 < (I0.l.length : Int)) = false := decide_eq_false (by omega)
  have d2 := decide_eq_false g1
  clear g1
  by_cases g3 : costE I0 l1 = 0
  rotate_left
  · have b0 : (costE I0 l1 != 0) = true := by simp [g3]
    clear g3
    go_wp2
    go_ret
    exact ⟨rfl, HB.out⟩
  have hfew := few_sumL (of_decide_eq_true HF.out)
  have hlong := plan_long g3
  obtain ⟨s, c, h1, h2, h3, h4, h5⟩ := plan_fol g3
  have hc2 := far1_bd I0 s 0
  have e1 : IntKind.i64.wrap (c + endC I0 s) = c + endC I0 s := by rw [endC_is h3]; exact IntWalk.i64_in _ (by omega)
  have HFW := Lib.hid hfew
  have H1 := Lib.hid h1
  have H2 := Lib.hid h2
  have H3 := Lib.hid h3
  have H4 := Lib.hid h4
  have HSO := Lib.hid (show SetsOk s by have := fol_sets I0 (joinL (ordL l1)); rw [h1] at this; exact this)
  rw [g3]
  clear g3 hfew hlong h1 h2 h3 h4 h5 hc2 HF
  go_upto_region 6 with fail
  clear d1 d2 y3
  go_cut [9, 10, 11] from 14 (fun p n e wx => ∃ bm, p = .pointer (some ⟨bm, 0, none⟩) ∧ n = .int .i64 c ∧ e = .int .i64 0 ∧ YBox wx w.heap.size I0 (.slice ad I0.l.length cap) ∧ StB wx bm s ∧ Below w.heap.size w wx)
  case first =>
    have HBd := Lib.hid HB.out.drew
    have HYd := Lib.hid (HY.out.later (Below.refl _ _).drew)
    have HXd := Lib.hid (HX.out.later (Below.refl _ _).drew)
    clear HY HX HB
    have HS0 := Lib.hid (show Holds (cellsI w.heap.size I0 (.slice ad I0.l.length cap) ++ [(⟨w.heap.size + 1, 0, none⟩, .slice la l1.length lc)]) w3.drew from Holds.app.2 ⟨⟨HYd.out.cells.1, HYd.out.cells.2.1, HYd.out.cells.2.2.1, HYd.out.cells.2.2.2, trivial⟩, HXd.out.cell, trivial⟩)
    refine wp_region_held_drew (S := Holds (cellsI w.heap.size I0 (.slice ad I0.l.length cap) ++ [(⟨w.heap.size + 1, 0, none⟩, .slice la l1.length lc)])) (by kernel_rfl) HS0.out (fun hSn => ?_)
    generalize w3.drew = V at *
    have hlt := Lib.hid (show Lows V.heap.size (cellsI w.heap.size I0 (.slice ad I0.l.length cap) ++ [(⟨w.heap.size + 1, 0, none⟩, .slice la l1.length lc)]) from Lows.app ⟨HYd.out.lt, HYd.out.lt, HYd.out.lt, HYd.out.lt, trivial⟩ ⟨HXd.out.lt, trivial⟩)
    have Bc := Lib.hid (Below.refl V.heap.size V)
    simp only [cellsI, List.cons_append, List.nil_append] at HS0 hlt hSn ⊢
    refine tks [0, 1] 2 rfl (by kernel_rfl) (fun _ _ _ _ h => h) (by assumption) (fun KT hKT => ?_)
    iterate 2 (refine tkT (by (simp only [gA, gB, gC]; rfl)) (by rfl) (by (intro w hSw; (simp only [Holds] at hSw); go_simp <;> with_reducible rfl)) ?_; simp only [Act.put, pA, pB, pC])
    refine hKT _ ?_
    clear KT hKT
    refine wpAnyH_ready (rs := [2, 8]) (by kernel_rfl) (by simp) ?_
    refine (AllReadyH.cons (o := ?oz295) ?iz295 (fun K hK => ?kz295) (AllReadyH.cons (o := ?oz296) ?iz296 (fun K hK => ?kz296) AllReadyH.nil))
    case iz295 => (simp only [List.getElem?_toArray, List.getElem?_cons_zero, List.getElem?_cons_succ]; rfl)
    case iz296 => (simp only [List.getElem?_toArray, List.getElem?_cons_zero, List.getElem?_cons_succ]; rfl)
    · skip
      go_simp
      change Calls _ _ #[planV (.slice la l1.length lc)] _ _
      refine (join_any (HP.out.below (HBd.out.trans (Bc.out.mono HBd.out.size))) HFW.out.1 HFW.out.2.1 HFW.out.2.2).mono ?_
      rintro e w' ⟨u, rfl, hu, hb⟩
      have HO := Lib.hid hu
      clear hu
      obtain ⟨ua, uc, rfl⟩ := HO.out.shape
      refine held_more hK HS0.out hlt (Bc.out.trans (hb.mono Bc.out.size)) (fun Bc hSn => ?_)
      clear hb hK
      refine wpAnyH_ready (rs := [3, 8]) (by kernel_rfl) (by simp) ?_
      refine (AllReadyH.cons (o := ?oz297) ?iz297 (fun K hK => ?kz297) (AllReadyH.cons (o := ?oz298) ?iz298 (fun K hK => ?kz298) AllReadyH.nil))
      case iz297 => (simp only [List.getElem?_toArray, List.getElem?_cons_zero, List.getElem?_cons_succ]; rfl)
      case iz298 => (simp only [List.getElem?_toArray, List.getElem?_cons_zero, List.getElem?_cons_succ]; rfl)
      · skip
        go_simp
        change Calls _ _ #[insV I0 (.slice ad I0.l.length cap), _] _ _
        refine (sfollow_any (HR.out.below (HBd.out.trans (Bc.out.mono HBd.out.size))) HO.out.row).mono ?_
        rintro e w4 ⟨rfl, hb⟩
        rw [H1.out, H2.out, show stO (some (s, c)) = s from rfl, show coO (some (s, c)) = c from rfl]
        rw [show staV s = .agg #[.int .i64 s.pos, .int .i64 s.car, .int .i64 s.time, .int .i64 s.load, .int .i64 s.first, .int .u64 s.must, .int .u64 s.may, .int .u64 s.on] from rfl]
        refine held_more hK HS0.out hlt (Bc.out.trans (hb.mono Bc.out.size)) (fun Bc hSn => ?_)
        clear hb hK
        refine tks [4, 5, 6, 7] 4 rfl (by kernel_rfl) (fun _ _ _ _ h => h) (by assumption) (fun KT hKT => ?_)
        iterate 4 (refine tkT (by (simp only [gA, gB, gC]; rfl)) (by rfl) (by (intro w hSw; (simp only [Holds] at hSw); go_simp <;> with_reducible rfl)) ?_; simp only [Act.put, pA, pB, pC])
        refine hKT _ ?_
        clear KT hKT
        have HSZ := Lib.hid Bc.out.size
        refine wpAnyH_ready (rs := [8]) (by kernel_rfl) (by simp) ?_
        refine AllReadyH.cons (o := ?oz299) ?iz299 (fun K hK => ?kz299) AllReadyH.nil
        case iz299 => (simp only [List.getElem?_toArray, List.getElem?_cons_zero, List.getElem?_cons_succ]; rfl)
        go_simp
        refine held_more hK HS0.out hlt (Bc.out.alloc Bc.out.size _) (fun Bc hSn => ?_)
        have HN := Lib.hid (st_new w4 noughtS)
        change wpAnyH _ _ _ _ _ _ _ _ (w4.alloc (boxSt noughtS))
        have Bc2 := Lib.hid (show Below V.heap.size V (w4.alloc (boxSt noughtS)) from Bc.out)
        clear Bc
        have Bc := Bc2
        clear Bc2
        generalize w4.alloc (boxSt noughtS) = Xn at *
        obtain ⟨bm, hbm⟩ : ∃ bm, bm = w4.heap.size := ⟨_, rfl⟩
        have HLE := Lib.hid (show V.heap.size ≤ bm by rw [hbm]; exact HSZ.out)
        rw [← hbm] at HN ⊢
        clear hbm HSZ
        refine wpAnyH_ready (rs := [9]) (by kernel_rfl) (by simp) ?_
        refine (AllReadyH.cons (o := ?oz300) ?iz300 (fun K hK => ?kz300) AllReadyH.nil)
        case iz300 => (simp only [List.getElem?_toArray, List.getElem?_cons_zero, List.getElem?_cons_succ]; rfl)
        simp only [Act.put]
        rw [if_pos (by rfl)]
        refine wp_store_state (.tmp 9) (.tmp 45) (by rfl) bm _ s (by rfl) (by rfl) HN.out ?_
        intro wE hE hbE
        refine held_more hK HS0.out hlt (Bc.out.trans (hbE _ HLE.out)) (fun Bc hSn => ?_)
        clear hK
        refine tks [10, 11] 2 rfl (by kernel_rfl) (fun _ _ _ _ h => h) (by assumption) (fun KT hKT => ?_)
        iterate 2 (refine tkT (by (simp only [gA, gB, gC]; rfl)) (by rfl) (by (intro w hSw; (simp only [Holds] at hSw); go_simp <;> with_reducible rfl)) ?_; simp only [Act.put, pA, pB, pC])
        refine hKT _ ?_
        clear KT hKT
        refine wpAnyH_done (by kernel_rfl) ?_ _
        go_wp2_with fail
        go_meet
        exact ⟨bm, rfl, rfl, rfl, HYd.out.later Bc.out, hE, HBd.out.trans (Bc.out.mono HBd.out.size)⟩
      · skip
        have HSZ := Lib.hid Bc.out.size
        go_simp
        refine held_more hK HS0.out hlt (Bc.out.alloc Bc.out.size _) (fun Bc hSn => ?_)
        clear hK
        have HN := Lib.hid (st_new w' noughtS)
        have HOn := Lib.hid (HO.out.below ((Below.refl _ w').alloc (Nat.le_refl _) (boxSt noughtS)))
        clear HO
        have HO := HOn
        clear HOn
        change wpAnyH _ _ _ _ _ _ _ _ (w'.alloc (boxSt noughtS))
        have Bc2 := Lib.hid (show Below V.heap.size V (w'.alloc (boxSt noughtS)) from Bc.out)
        clear Bc
        have Bc := Bc2
        clear Bc2
        generalize w'.alloc (boxSt noughtS) = Xn at *
        obtain ⟨bm, hbm⟩ : ∃ bm, bm = w'.heap.size := ⟨_, rfl⟩
        have HLE := Lib.hid (show V.heap.size ≤ bm by rw [hbm]; exact HSZ.out)
        rw [← hbm] at HN ⊢
        clear hbm HSZ
        refine wpAnyH_ready (rs := [3]) (by kernel_rfl) (by simp) ?_
        refine AllReadyH.cons (o := ?oz301) ?iz301 (fun K hK => ?kz301) AllReadyH.nil
        case iz301 => (simp only [List.getElem?_toArray, List.getElem?_cons_zero, List.getElem?_cons_succ]; rfl)
        go_simp
        change Calls _ _ #[insV I0 (.slice ad I0.l.length cap), _] _ _
        refine (sfollow_any (HR.out.below (HBd.out.trans (Bc.out.mono HBd.out.size))) HO.out.row).mono ?_
        rintro e w4 ⟨rfl, hb⟩
        have HNn := Lib.hid (HN.out.later hb)
        clear HN
        have HN := HNn
        clear HNn
        rw [H1.out, H2.out, show stO (some (s, c)) = s from rfl, show coO (some (s, c)) = c from rfl]
        rw [show staV s = .agg #[.int .i64 s.pos, .int .i64 s.car, .int .i64 s.time, .int .i64 s.load, .int .i64 s.first, .int .u64 s.must, .int .u64 s.may, .int .u64 s.on] from rfl]
        refine held_more hK HS0.out hlt (Bc.out.trans (hb.mono Bc.out.size)) (fun Bc hSn => ?_)
        clear hb hK
        refine tks [4, 5, 6, 7] 4 rfl (by kernel_rfl) (fun _ _ _ _ h => h) (by assumption) (fun KT hKT => ?_)
        iterate 4 (refine tkT (by (simp only [gA, gB, gC]; rfl)) (by rfl) (by (intro w hSw; (simp only [Holds] at hSw); go_simp <;> with_reducible rfl)) ?_; simp only [Act.put, pA, pB, pC])
        refine hKT _ ?_
        clear KT hKT
        refine wpAnyH_ready (rs := [9]) (by kernel_rfl) (by simp) ?_
        refine (AllReadyH.cons (o := ?oz302) ?iz302 (fun K hK => ?kz302) AllReadyH.nil)
        case iz302 => (simp only [List.getElem?_toArray, List.getElem?_cons_zero, List.getElem?_cons_succ]; rfl)
        simp only [Act.put]
        rw [if_pos (by rfl)]
        refine wp_store_state (.tmp 9) (.tmp 45) (by rfl) bm _ s (by rfl) (by rfl) HN.out ?_
        intro wE hE hbE
        refine held_more hK HS0.out hlt (Bc.out.trans (hbE _ HLE.out)) (fun Bc hSn => ?_)
        clear hK
        refine tks [10, 11] 2 rfl (by kernel_rfl) (fun _ _ _ _ h => h) (by assumption) (fun KT hKT => ?_)
        iterate 2 (refine tkT (by (simp only [gA, gB, gC]; rfl)) (by rfl) (by (intro w hSw; (simp only [Holds] at hSw); go_simp <;> with_reducible rfl)) ?_; simp only [Act.put, pA, pB, pC])
        refine hKT _ ?_
        clear KT hKT
        refine wpAnyH_done (by kernel_rfl) ?_ _
        go_wp2_with fail
        go_meet
        exact ⟨bm, rfl, rfl, rfl, HYd.out.later Bc.out, hE, HBd.out.trans (Bc.out.mono HBd.out.size)⟩
    · skip
      have HSZ := Lib.hid Bc.out.size
      go_simp
      refine held_more hK HS0.out hlt (Bc.out.alloc Bc.out.size _) (fun Bc hSn => ?_)
      clear hK
      have HN := Lib.hid (st_new V noughtS)
      change wpAnyH _ _ _ _ _ _ _ _ (V.alloc (boxSt noughtS))
      have Bc2 := Lib.hid (show Below V.heap.size V (V.alloc (boxSt noughtS)) from Bc.out)
      clear Bc
      have Bc := Bc2
      clear Bc2
      generalize V.alloc (boxSt noughtS) = Xn at *
      obtain ⟨bm, hbm⟩ : ∃ bm, bm = V.heap.size := ⟨_, rfl⟩
      have HLE := Lib.hid (show V.heap.size ≤ bm by rw [hbm]; exact HSZ.out)
      rw [← hbm] at HN ⊢
      clear hbm HSZ
      refine wpAnyH_ready (rs := [2]) (by kernel_rfl) (by simp) ?_
      refine AllReadyH.cons (o := ?oz303) ?iz303 (fun K hK => ?kz303) AllReadyH.nil
      case iz303 => (simp only [List.getElem?_toArray, List.getElem?_cons_zero, List.getElem?_cons_succ]; rfl)
      go_simp
      change Calls _ _ #[planV (.slice la l1.length lc)] _ _
      refine (join_any (HP.out.below (HBd.out.trans (Bc.out.mono HBd.out.size))) HFW.out.1 HFW.out.2.1 HFW.out.2.2).mono ?_
      rintro e w' ⟨u, rfl, hu, hb⟩
      have HO := Lib.hid hu
      clear hu
      obtain ⟨ua, uc, rfl⟩ := HO.out.shape
      have HNn := Lib.hid (HN.out.later hb)
      clear HN
      have HN := HNn
      clear HNn
      refine held_more hK HS0.out hlt (Bc.out.trans (hb.mono Bc.out.size)) (fun Bc hSn => ?_)
      clear hb hK
      refine wpAnyH_ready (rs := [3]) (by kernel_rfl) (by simp) ?_
      refine AllReadyH.cons (o := ?oz304) ?iz304 (fun K hK => ?kz304) AllReadyH.nil
      case iz304 => (simp only [List.getElem?_toArray, List.getElem?_cons_zero, List.getElem?_cons_succ]; rfl)
      go_simp
      change Calls _ _ #[insV I0 (.slice ad I0.l.length cap), _] _ _
      refine (sfollow_any (HR.out.below (HBd.out.trans (Bc.out.mono HBd.out.size))) HO.out.row).mono ?_
      rintro e w4 ⟨rfl, hb⟩
      have HNn := Lib.hid (HN.out.later hb)
      clear HN
      have HN := HNn
      clear HNn
      rw [H1.out, H2.out, show stO (some (s, c)) = s from rfl, show coO (some (s, c)) = c from rfl]
      rw [show staV s = .agg #[.int .i64 s.pos, .int .i64 s.car, .int .i64 s.time, .int .i64 s.load, .int .i64 s.first, .int .u64 s.must, .int .u64 s.may, .int .u64 s.on] from rfl]
      refine held_more hK HS0.out hlt (Bc.out.trans (hb.mono Bc.out.size)) (fun Bc hSn => ?_)
      clear hb hK
      refine tks [4, 5, 6, 7] 4 rfl (by kernel_rfl) (fun _ _ _ _ h => h) (by assumption) (fun KT hKT => ?_)
      iterate 4 (refine tkT (by (simp only [gA, gB, gC]; rfl)) (by rfl) (by (intro w hSw; (simp only [Holds] at hSw); go_simp <;> with_reducible rfl)) ?_; simp only [Act.put, pA, pB, pC])
      refine hKT _ ?_
      clear KT hKT
      refine wpAnyH_ready (rs := [9]) (by kernel_rfl) (by simp) ?_
      refine (AllReadyH.cons (o := ?oz305) ?iz305 (fun K hK => ?kz305) AllReadyH.nil)
      case iz305 => (simp only [List.getElem?_toArray, List.getElem?_cons_zero, List.getElem?_cons_succ]; rfl)
      simp only [Act.put]
      rw [if_pos (by rfl)]
      refine wp_store_state (.tmp 9) (.tmp 45) (by rfl) bm _ s (by rfl) (by rfl) HN.out ?_
      intro wE hE hbE
      refine held_more hK HS0.out hlt (Bc.out.trans (hbE _ HLE.out)) (fun Bc hSn => ?_)
      clear hK
      refine tks [10, 11] 2 rfl (by kernel_rfl) (fun _ _ _ _ h => h) (by assumption) (fun KT hKT => ?_)
      iterate 2 (refine tkT (by (simp only [gA, gB, gC]; rfl)) (by rfl) (by (intro w hSw; (simp only [Holds] at hSw); go_simp <;> with_reducible rfl)) ?_; simp only [Act.put, pA, pB, pC])
      refine hKT _ ?_
      clear KT hKT
      refine wpAnyH_done (by kernel_rfl) ?_ _
      go_wp2_with fail
      go_meet
      exact ⟨bm, rfl, rfl, rfl, HYd.out.later Bc.out, hE, HBd.out.trans (Bc.out.mono HBd.out.size)⟩
  case rest =>
  obtain ⟨bm, rfl, rfl, rfl, hy, hu, hb⟩ := hcut
  clear HY HX HB
  have HY := Lib.hid hy
  have HU := Lib.hid hu
  have HB := Lib.hid hb
  clear hy hu hb
  obtain ⟨y0, y1, y2, y3⟩ := HY.out.cells
  have q0 := HU.out.c0
  have q1 := HU.out.c1
  have q2 := HU.out.c2
  have q3 := HU.out.c3
  have q4 := HU.out.c4
  have q5 := HU.out.c5
  have q6 := HU.out.c6
  have q7 := HU.out.c7
  have b9 : (c + endC I0 s == costN I0 l1) = true := by simp [H4.out]
  go_wp2_with fail
  clear y0 y1 y2 y3 q0 q1 q2 q3 q4 q5 q6 q7
  change Calls _ _ #[insV I0 (.slice ad I0.l.length cap), staV s] _ _
  refine (send_any (HR.out.below HB.out) HSO.out).mono ?_
  rintro e w6 ⟨rfl, hb⟩
  have HYn := Lib.hid (HY.out.later hb)
  have HBn := Lib.hid (HB.out.trans (hb.mono HB.out.size))
  clear hb HY HB
  have HY := HYn
  have HB := HBn
  clear HYn HBn
  rw [decide_eq_true H3.out]
  generalize endC I0 s = ec at *
  go_wp2
  go_ret
  exact ⟨rfl, HB.out⟩

set_option maxRecDepth 100000 in
theorem lifted (os : Os) (started : os.Started) (H : Type) (enc : TypeId × Value → H) :
    ReturnsInHanded {} Try.checked os 17 .any (Rows.statePlansSpec.pre6 enc Try.prog Try.f17 Rows.statePlansRow.domain false) (Rows.statePlansSpec.post enc Try.prog Try.f17 false true false false) := by
  refine returnsInHanded_of_change (C := Try.checked) own started (by kernel_rfl) Try.func17
    (ChangeSpec.witness6 (enc := enc) (C := Try.checked) false ⟨#[], #[.agg #[.int .i64 0, .int .i64 0, .int .i64 0, .slice none 0 0], .agg #[.slice none 0 0]], []⟩ 8 (by kernel_rfl) (by kernel_rfl) (by kernel_rfl) (by kernel_rfl)) ?_
  intro W base args ds gs before hval0 hW hcnd _
  have hval : ∀ (j : Nat) t v, Try.f17.params[j]? = some t → args[j]? = some v → Value.okWide Try.prog W .any base t v := hval0
  have hW' := hW
  obtain ⟨p, q, hA0, hV, rfl, hfz, hnd⟩ := hW
  have hA : DataW.TrodAll enc Try.prog W 0 (fun _ => true) true Try.f17.params.toList args.toList ds p := hA0
  rw [Try.params17] at hA hval
  obtain ⟨v0, vs0, d0, ds0, p0, q0, hargs, rfl, rfl, h0, r0⟩ := trodAll_cons hA
  obtain ⟨v1, vs1, d1, ds1, p1, q1, rfl, rfl, rfl, h1, r1⟩ := trodAll_cons r0
  obtain ⟨rfl, rfl, rfl⟩ := trodAll_nil r1
  obtain rfl : args = #[v0, v1] := by cases args; simp_all
  obtain ⟨rfl, rfl⟩ := trodVars_none hV
  have k0 := h0
  have lt0 : ∀ x ∈ p0, x.block < W.heap.size := by obtain ⟨m, hm⟩ := k0; exact DataW.trod_lt m _ _ _ hm
  have k1 := h1
  have lt1 : ∀ x ∈ p1, x.block < W.heap.size := by obtain ⟨m, hm⟩ := k1; exact DataW.trod_lt m _ _ _ hm
  obtain ⟨I0, u0, rfl, e0, _⟩ := open_inst (hval 0 26 v0 rfl rfl) h0
  obtain ⟨u1, l1, rfl, e1, _⟩ := open_plan (hval 1 66 v1 rfl rfl) h1
  clear hA0 hval0
  refine (walk I0 _ _ l1 W e0 e1).mono fun e W' ⟨he, bel⟩ => ?_
  subst he
  exact ⟨_, rfl, _, _, _, [], _, [], hW', trodAll_mk1 (shut_bool Try.underlying4 _), (trodAll_cons_mk (Below.trod laidOut (by kernel_rfl) (of_decide_eq_true (by kernel_rfl)) k0 bel lt0) (trodAll_cons_mk (Below.trod laidOut (by kernel_rfl) (of_decide_eq_true (by kernel_rfl)) k1 bel lt1) trodAll_mk0)), rfl, bel.frame _, fun h => by cases h⟩

theorem over : Rows.statePlansRow.holds Try.pinned (OpenSpec.ofChange Rows.statePlansSpec) :=
  OpenClaim.holds_of_wide 17 Try.f17 rfl rfl rfl rfl rfl rfl rfl ⟨rfl, rfl, rfl, rfl, rfl⟩ rfl rfl rfl rfl rfl (by kernel_rfl) Try.func17 (by show joinedFacts Try.checked.prog _ _ _ _ = true; unfold joinedFacts; rw [ord_may, ord_lifts, ord_make]; kernel_rfl)
    (of_decide_eq_true (by kernel_rfl)) (by unfold Func.isWrapper; first | (rw [if_pos (by decide +kernel)]; kernel_rfl) | (rw [if_neg (by decide +kernel)]; exact ⟨rfl, rfl⟩))
    (fun os started H enc _ => lifted os started H enc)

theorem proved : Rows.StatePlansSaid := over
#print axioms proved
end Go.Proofs.Ytpgbbnmflnhlbaa.statePlans
