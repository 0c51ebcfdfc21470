/- ExactLeast (P15.2) -/
import Derived.Test.YtaaljploegiihaaGreatOrd
import Derived.Test.YtaaljploegiihaaGreatRows
import Derived.Test.YtaaljploegiihaaGreatEAwake
import Derived.Test.YtaaljploegiihaaGreatEMore
import Derived.Test.YtaaljploegiihaaGreatEProg
import Derived.Test.YtaaljploegiihaaGreatEOpen
import Derived.Test.YtaaljploegiihaaGreatYL
import Derived.Test.YtaaljploegiihaaGreatXIMay
import Derived.Test.YtaaljploegiihaaGreatYM
import Derived.Test.YtaaljploegiihaaGreatYI
import Derived.Test.YtaaljploegiihaaGreatXN
import Derived.Test.YtaaljploegiihaaGreatYF
import Derived.Test.YtaaljploegiihaaGreatYG
import Derived.Test.YtaaljploegiihaaGreatXU
import Derived.Test.YtaaljploegiihaaGreatYE
import Derived.Test.YtaaljploegiihaaGreatYD
import Derived.Test.YtaaljploegiihaaGreatXSPlan
namespace Go.Proofs.YtaaljploegiihaaGreat.exactLeast
open Go.ChangeShapes Go.WideShapes Go.ChangeAt Go.RowKit

set_option maxRecDepth 1000000 in
set_option maxHeartbeats 4000000 in
theorem walk (I0 : Ins) (v0 : Value) (v1 : Value) (l1 : List (List Int)) (a2 : Int) (a3 : Int) (w : World) (e0 : SRow w v0 I0.l) (e1 : IsLL w v1 l1) :
    Calls Tryz.prog 4 #[insV I0 v0, planV v1, .int .i64 a2, .int .i64 a3] w fun e w' => e = .returned (.bool true) ∧ Below w.heap.size w w' := by
  have HR := Lib.hid e0
  have HPL := Lib.hid e1
  obtain ⟨ad, cap, rfl, hlm, _⟩ := e0.form
  obtain ⟨la, lc, rfl, hlm1⟩ := e1.form
  obtain ⟨hy, hx, hb, hsz⟩ := worldC_facts w I0 (.slice ad I0.l.length cap) (.slice la l1.length lc)
  have HY := Lib.hid hy
  have HX := Lib.hid (show PBox _ _ _ from hx)
  have HB := Lib.hid hb
  clear e0 e1 hy hx hb hsz hlm1
  unfold insV planV
  go_enter Tryz.func4, Tryz.ntmps4
  go_upto_region 1 with fail
  change Code.wp _ _ _ _ (worldC w I0 (.slice ad I0.l.length cap) (.slice la l1.length lc))
  generalize worldC w I0 (.slice ad I0.l.length cap) (.slice la l1.length lc) = W at *
  have HRn := Lib.hid (HR.out.below HB.out)
  clear HR
  have HR := HRn
  clear HRn
  have HPLn := Lib.hid (HPL.out.below HB.out)
  clear HPL
  have HPL := HPLn
  clear HPLn
  go_wp2_with fail
  refine (eawake_any _).mono ?_
  rintro e w1 ⟨rfl, hb⟩
  have HYn := Lib.hid (HY.out.later hb)
  clear HY
  have HY := HYn
  clear HYn
  have HRn := Lib.hid (HR.out.below hb)
  clear HR
  have HR := HRn
  clear HRn
  have HXn := Lib.hid (HX.out.later hb)
  clear HX
  have HX := HXn
  clear HXn
  have HPLn := Lib.hid (HPL.out.below hb)
  clear HPL
  have HPL := HPLn
  clear HPLn
  have HBn := Lib.hid (HB.out.trans (hb.mono HB.out.size))
  clear HB
  have HB := HBn
  clear HBn
  clear hb
  obtain ⟨y0, y1, y2, y3⟩ := HY.out.cells
  by_cases g2 : 9 < I0.l.length
  · have d2 : decide ((9 : Int) < (I0.l.length : Int)) = true := decide_eq_true (by omega)
    have f2 := decide_eq_true g2
    clear g2
    go_wp2
    go_ret
    exact ⟨rfl, HB.out⟩
  have d2 : decide ((9 : Int) < (I0.l.length : Int)) = false := decide_eq_false (by omega)
  have f2 := decide_eq_false g2
  by_cases g3 : 2000 < a3
  · have d3 : decide (2000 < a3) = true := decide_eq_true (by omega)
    have f3 := decide_eq_true g3
    clear g3
    go_wp2
    go_ret
    exact ⟨rfl, HB.out⟩
  have d3 : decide (2000 < a3) = false := decide_eq_false (by omega)
  have f3 := decide_eq_false g3
  have HLEN := Lib.hid g2
  have HM3 := Lib.hid g3
  clear g2 g3
  go_wp2_with fail
  clear y0 y1 y2 y3
  change Calls _ _ #[insV I0 (.slice ad I0.l.length cap)] _ _
  refine (may_any HR.out).mono ?_
  rintro e w2 ⟨rfl, hb⟩
  have HYn := Lib.hid (HY.out.later hb)
  clear HY
  have HY := HYn
  clear HYn
  have HRn := Lib.hid (HR.out.below hb)
  clear HR
  have HR := HRn
  clear HRn
  have HXn := Lib.hid (HX.out.later hb)
  clear HX
  have HX := HXn
  clear HXn
  have HPLn := Lib.hid (HPL.out.below hb)
  clear HPL
  have HPL := HPLn
  clear HPLn
  have HBn := Lib.hid (HB.out.trans (hb.mono HB.out.size))
  clear HB
  have HB := HBn
  clear HBn
  clear hb
  by_cases hm : mayB I0 = true
  rotate_left
  · have hmf : mayB I0 = false := by simpa using hm
    rw [hmf]
    clear hm hmf
    go_wp2
    go_ret
    exact ⟨rfl, HB.out⟩
  rw [hm]
  have HM := Lib.hid hm
  have HRK := Lib.hid (show rankS I0 (rootS I0) < 44 by have h1 := rank_root hm; have h2 := (fine_of hm).p1; have h3 := (inb_iff _ _ _).1 ((may_iff I0).1 hm).2.1; omega)
  clear hm
  obtain ⟨o1, ho1⟩ : ∃ o, (exactRun I0 a3 44 [rootN' I0] none a2 0).1 = o := ⟨_, rfl⟩
  obtain ⟨al1, hal1⟩ : ∃ o, (exactRun I0 a3 44 [rootN' I0] none a2 0).2.1 = o := ⟨_, rfl⟩
  obtain ⟨st1, hst1⟩ : ∃ o, (exactRun I0 a3 44 [rootN' I0] none a2 0).2.2 = o := ⟨_, rfl⟩
  obtain ⟨bs1, hbs1⟩ : ∃ b, bestV o1 = b := ⟨_, rfl⟩
  obtain ⟨is1, his1⟩ : ∃ b, o1.isSome = b := ⟨_, rfl⟩
  have HO1 := Lib.hid ho1
  have HAL1 := Lib.hid hal1
  have HST1 := Lib.hid hst1
  have HBS1 := Lib.hid hbs1
  have HIS1 := Lib.hid his1
  clear ho1 hal1 hst1 hbs1 his1
  go_upto_region 4 with fail
  go_cut [10, 11, 12, 13] from 39 (fun p v0 v1 v2 wx => ∃ bb pb pn pc, p = .pointer (some ⟨bb, 0, none⟩) ∧ v0 = .bool is1 ∧ v1 = .bool al1 ∧ v2 = .int .i64 st1 ∧ NodB wx bb bs1.s bs1.cost (.slice pb pn pc) ∧ Row wx (.slice pb pn pc) (ints bs1.path) ∧ Below w2.heap.size w2 wx)
  case first =>
    have HBR := Lib.hid (Below.refl w2.heap.size w2).drew
    have HYn := Lib.hid (HY.out.later (Below.refl _ w2).drew)
    have HRn := Lib.hid (HR.out.below (Below.refl _ w2).drew)
    have HBn := Lib.hid HB.out.drew
    clear HY HR HB
    have HY := HYn
    have HR := HRn
    have HB := HBn
    clear HYn HRn HBn
    have HS0 := Lib.hid (show Holds (cellsI w.heap.size I0 (.slice ad I0.l.length cap)) w2.drew from ⟨HY.out.cells.1, HY.out.cells.2.1, HY.out.cells.2.2.1, HY.out.cells.2.2.2, trivial⟩)
    refine wp_region_held_drew (S := Holds (cellsI w.heap.size I0 (.slice ad I0.l.length cap))) (by kernel_rfl) HS0.out (fun hSn => ?_)
    generalize w2.drew = V at *
    have hlt := Lib.hid (show Lows V.heap.size (cellsI w.heap.size I0 (.slice ad I0.l.length cap)) from (show Lows _ (cellsI w.heap.size I0 (.slice ad I0.l.length cap)) from ⟨HY.out.lt, HY.out.lt, HY.out.lt, HY.out.lt, trivial⟩))
    have Bc := Lib.hid (Below.refl V.heap.size V)
    simp only [cellsI] at HS0 hlt hSn ⊢
    refine tks [0, 1, 3, 4] 4 rfl (by kernel_rfl) (fun _ _ _ _ h => h) (by assumption) (fun KT hKT => ?_)
    iterate 4 (refine tkT (by (simp only [gA, gB, gC]; rfl)) (by rfl) (by (intro w hSw; (simp only [Holds] at hSw); go_simp <;> with_reducible rfl)) ?_; simp only [Act.put, pA, pB, pC])
    refine hKT _ ?_
    clear KT hKT
    refine wpAnyH_ready (rs := [2, 11]) (by kernel_rfl) (by simp) ?_
    refine (AllReadyH.cons (o := ?oz307) ?iz307 (fun K hK => ?kz307) (AllReadyH.cons (o := ?oz308) ?iz308 (fun K hK => ?kz308) AllReadyH.nil))
    case iz307 => (simp only [List.getElem?_toArray, List.getElem?_cons_zero, List.getElem?_cons_succ]; rfl)
    case iz308 => (simp only [List.getElem?_toArray, List.getElem?_cons_zero, List.getElem?_cons_succ]; rfl)
    · skip
      go_simp
      change Calls _ _ #[insV I0 (.slice ad I0.l.length cap)] _ _
      refine (eroot_any (HR.out.below Bc.out)).mono ?_
      rintro e w' ⟨rfl, hb⟩
      refine held_more hK HS0.out hlt (Bc.out.trans (hb.mono Bc.out.size)) (fun Bc hSn => ?_)
      clear hb hK
      refine wpAnyH_ready (rs := [5, 11]) (by kernel_rfl) (by simp) ?_
      refine (AllReadyH.cons (o := ?oz309) ?iz309 (fun K hK => ?kz309) (AllReadyH.cons (o := ?oz310) ?iz310 (fun K hK => ?kz310) AllReadyH.nil))
      case iz309 => (simp only [List.getElem?_toArray, List.getElem?_cons_zero, List.getElem?_cons_succ]; rfl)
      case iz310 => (simp only [List.getElem?_toArray, List.getElem?_cons_zero, List.getElem?_cons_succ]; rfl)
      · skip
        go_simp
        change Calls _ _ #[insV I0 (.slice ad I0.l.length cap), nodeV (rootS I0) 0 (.slice none 0 0), .int .i64 a2, .int .i64 a3] _ _
        refine (ebest_any (I := I0) (n := rootN' I0) (up := a2) (most := a3) (w0 := V) (HR.out.below Bc.out) Bc.out (root_setsE I0) (root_fit I0) (by show Fit 0; unfold Fit; decide) (.inl (row_nil V)) (Nat.zero_le _) (by have := HM3.out; omega)).mono ?_
        rw [HO1.out, HAL1.out, HST1.out, HBS1.out, HIS1.out]
        rintro e w6 ⟨pb, pn, pc, rfl, hp, hb⟩
        refine held_more hK HS0.out hlt (Bc.out.trans (hb.mono Bc.out.size)) (fun Bc hSn => ?_)
        have HPX := Lib.hid hp
        clear hb hK hp
        unfold nodeV
        refine tks [6, 7, 8, 9, 10] 5 rfl (by kernel_rfl) (fun _ _ _ _ h => h) (by assumption) (fun KT hKT => ?_)
        iterate 5 (refine tkT (by (simp only [gA, gB, gC]; rfl)) (by rfl) (by (intro w hSw; (simp only [Holds] at hSw); go_simp <;> with_reducible rfl)) ?_; simp only [Act.put, pA, pB, pC])
        refine hKT _ ?_
        clear KT hKT
        have HSZ := Lib.hid Bc.out.size
        refine wpAnyH_ready (rs := [11]) (by kernel_rfl) (by simp) ?_
        refine AllReadyH.cons (o := ?oz311) ?iz311 (fun K hK => ?kz311) AllReadyH.nil
        case iz311 => (simp only [List.getElem?_toArray, List.getElem?_cons_zero, List.getElem?_cons_succ]; rfl)
        go_simp
        refine held_more hK HS0.out hlt (Bc.out.alloc Bc.out.size _) (fun Bc hSn => ?_)
        have HN := Lib.hid (nod_new w6 noughtS 0 (.slice none 0 0))
        change wpAnyH _ _ _ _ _ _ _ _ (w6.alloc (boxN noughtS 0 (.slice none 0 0)))
        have Bc2 := Lib.hid (show Below V.heap.size V (w6.alloc (boxN noughtS 0 (.slice none 0 0))) from Bc.out)
        clear Bc
        have Bc := Bc2
        clear Bc2
        change Holds _ (w6.alloc (boxN noughtS 0 (.slice none 0 0))) at hSn
        have HPXn := Lib.hid (HPX.out.below ((Below.refl w6.heap.size w6).alloc (Nat.le_refl _) (boxN noughtS 0 (.slice none 0 0))))
        clear HPX
        have HPX := HPXn
        clear HPXn
        generalize w6.alloc (boxN noughtS 0 (.slice none 0 0)) = Xn at *
        obtain ⟨bx, hbx⟩ : ∃ bx, bx = w6.heap.size := ⟨_, rfl⟩
        have HLX := Lib.hid (show V.heap.size ≤ bx by rw [hbx]; exact HSZ.out)
        rw [← hbx] at HN ⊢
        clear hbx HSZ
        refine wpAnyH_ready (rs := [12]) (by kernel_rfl) (by simp) ?_
        refine (AllReadyH.cons (o := ?oz312) ?iz312 (fun K hK => ?kz312) AllReadyH.nil)
        case iz312 => (simp only [List.getElem?_toArray, List.getElem?_cons_zero, List.getElem?_cons_succ]; rfl)
        simp only [Act.put]
        rw [if_pos (by rfl)]
        refine wp_store_node (.tmp 10) (.tmp 46) (by rfl) bx _ _ _ ⟨bs1.s, bs1.cost, pb, pn, pc⟩ (by rfl) (by rfl) HN.out ?_
        intro wE hE hbE hoE hgE
        refine held_more hK HS0.out hlt (Bc.out.trans (hbE _ HLX.out)) (fun Bc hSn => ?_)
        have HPE := HPX.out.kept hgE HN.out
        clear hK
        refine tks [13, 14, 15] 3 rfl (by kernel_rfl) (fun _ _ _ _ h => h) (by assumption) (fun KT hKT => ?_)
        iterate 3 (refine tkT (by (simp only [gA, gB, gC]; rfl)) (by rfl) (by (intro w hSw; (simp only [Holds] at hSw); go_simp <;> with_reducible rfl)) ?_; simp only [Act.put, pA, pB, pC])
        refine hKT _ ?_
        clear KT hKT
        refine wpAnyH_done (by kernel_rfl) ?_ _
        go_wp2_with fail
        go_meet
        exact ⟨bx, pb, pn, pc, rfl, rfl, rfl, rfl, hE, HPE.row Bc.out, HBR.out.trans (Bc.out.mono HBR.out.size)⟩
      · skip
        have HSZ := Lib.hid Bc.out.size
        go_simp
        refine held_more hK HS0.out hlt (Bc.out.alloc Bc.out.size _) (fun Bc hSn => ?_)
        clear hK
        have HN := Lib.hid (nod_new w' noughtS 0 (.slice none 0 0))
        change wpAnyH _ _ _ _ _ _ _ _ (w'.alloc (boxN noughtS 0 (.slice none 0 0)))
        have Bc2 := Lib.hid (show Below V.heap.size V (w'.alloc (boxN noughtS 0 (.slice none 0 0))) from Bc.out)
        clear Bc
        have Bc := Bc2
        clear Bc2
        change Holds _ (w'.alloc (boxN noughtS 0 (.slice none 0 0))) at hSn
        generalize w'.alloc (boxN noughtS 0 (.slice none 0 0)) = Xn at *
        obtain ⟨bx, hbx⟩ : ∃ bx, bx = w'.heap.size := ⟨_, rfl⟩
        have HLX := Lib.hid (show V.heap.size ≤ bx by rw [hbx]; exact HSZ.out)
        rw [← hbx] at HN ⊢
        clear hbx HSZ
        refine wpAnyH_ready (rs := [5]) (by kernel_rfl) (by simp) ?_
        refine AllReadyH.cons (o := ?oz313) ?iz313 (fun K hK => ?kz313) AllReadyH.nil
        case iz313 => (simp only [List.getElem?_toArray, List.getElem?_cons_zero, List.getElem?_cons_succ]; rfl)
        go_simp
        change Calls _ _ #[insV I0 (.slice ad I0.l.length cap), nodeV (rootS I0) 0 (.slice none 0 0), .int .i64 a2, .int .i64 a3] _ _
        refine (ebest_any (I := I0) (n := rootN' I0) (up := a2) (most := a3) (w0 := V) (HR.out.below Bc.out) Bc.out (root_setsE I0) (root_fit I0) (by show Fit 0; unfold Fit; decide) (.inl (row_nil V)) (Nat.zero_le _) (by have := HM3.out; omega)).mono ?_
        rw [HO1.out, HAL1.out, HST1.out, HBS1.out, HIS1.out]
        rintro e w6 ⟨pb, pn, pc, rfl, hp, hb⟩
        refine held_more hK HS0.out hlt (Bc.out.trans (hb.mono Bc.out.size)) (fun Bc hSn => ?_)
        have HNn := Lib.hid (HN.out.later hb)
        clear HN
        have HN := HNn
        clear HNn
        have HPX := Lib.hid hp
        clear hb hK hp
        unfold nodeV
        refine tks [6, 7, 8, 9, 10] 5 rfl (by kernel_rfl) (fun _ _ _ _ h => h) (by assumption) (fun KT hKT => ?_)
        iterate 5 (refine tkT (by (simp only [gA, gB, gC]; rfl)) (by rfl) (by (intro w hSw; (simp only [Holds] at hSw); go_simp <;> with_reducible rfl)) ?_; simp only [Act.put, pA, pB, pC])
        refine hKT _ ?_
        clear KT hKT
        refine wpAnyH_ready (rs := [12]) (by kernel_rfl) (by simp) ?_
        refine (AllReadyH.cons (o := ?oz314) ?iz314 (fun K hK => ?kz314) AllReadyH.nil)
        case iz314 => (simp only [List.getElem?_toArray, List.getElem?_cons_zero, List.getElem?_cons_succ]; rfl)
        simp only [Act.put]
        rw [if_pos (by rfl)]
        refine wp_store_node (.tmp 10) (.tmp 46) (by rfl) bx _ _ _ ⟨bs1.s, bs1.cost, pb, pn, pc⟩ (by rfl) (by rfl) HN.out ?_
        intro wE hE hbE hoE hgE
        refine held_more hK HS0.out hlt (Bc.out.trans (hbE _ HLX.out)) (fun Bc hSn => ?_)
        have HPE := HPX.out.kept hgE HN.out
        clear hK
        refine tks [13, 14, 15] 3 rfl (by kernel_rfl) (fun _ _ _ _ h => h) (by assumption) (fun KT hKT => ?_)
        iterate 3 (refine tkT (by (simp only [gA, gB, gC]; rfl)) (by rfl) (by (intro w hSw; (simp only [Holds] at hSw); go_simp <;> with_reducible rfl)) ?_; simp only [Act.put, pA, pB, pC])
        refine hKT _ ?_
        clear KT hKT
        refine wpAnyH_done (by kernel_rfl) ?_ _
        go_wp2_with fail
        go_meet
        exact ⟨bx, pb, pn, pc, rfl, rfl, rfl, rfl, hE, HPE.row Bc.out, HBR.out.trans (Bc.out.mono HBR.out.size)⟩
    · skip
      have HSZ := Lib.hid Bc.out.size
      go_simp
      refine held_more hK HS0.out hlt (Bc.out.alloc Bc.out.size _) (fun Bc hSn => ?_)
      clear hK
      have HN := Lib.hid (nod_new V noughtS 0 (.slice none 0 0))
      change wpAnyH _ _ _ _ _ _ _ _ (V.alloc (boxN noughtS 0 (.slice none 0 0)))
      have Bc2 := Lib.hid (show Below V.heap.size V (V.alloc (boxN noughtS 0 (.slice none 0 0))) from Bc.out)
      clear Bc
      have Bc := Bc2
      clear Bc2
      change Holds _ (V.alloc (boxN noughtS 0 (.slice none 0 0))) at hSn
      generalize V.alloc (boxN noughtS 0 (.slice none 0 0)) = Xn at *
      obtain ⟨bx, hbx⟩ : ∃ bx, bx = V.heap.size := ⟨_, rfl⟩
      have HLX := Lib.hid (show V.heap.size ≤ bx by rw [hbx]; exact HSZ.out)
      rw [← hbx] at HN ⊢
      clear hbx HSZ
      refine wpAnyH_ready (rs := [2]) (by kernel_rfl) (by simp) ?_
      refine AllReadyH.cons (o := ?oz315) ?iz315 (fun K hK => ?kz315) AllReadyH.nil
      case iz315 => (simp only [List.getElem?_toArray, List.getElem?_cons_zero, List.getElem?_cons_succ]; rfl)
      go_simp
      change Calls _ _ #[insV I0 (.slice ad I0.l.length cap)] _ _
      refine (eroot_any (HR.out.below Bc.out)).mono ?_
      rintro e w' ⟨rfl, hb⟩
      refine held_more hK HS0.out hlt (Bc.out.trans (hb.mono Bc.out.size)) (fun Bc hSn => ?_)
      have HNn := Lib.hid (HN.out.later hb)
      clear HN
      have HN := HNn
      clear HNn
      clear hb hK
      refine wpAnyH_ready (rs := [5]) (by kernel_rfl) (by simp) ?_
      refine AllReadyH.cons (o := ?oz316) ?iz316 (fun K hK => ?kz316) AllReadyH.nil
      case iz316 => (simp only [List.getElem?_toArray, List.getElem?_cons_zero, List.getElem?_cons_succ]; rfl)
      go_simp
      change Calls _ _ #[insV I0 (.slice ad I0.l.length cap), nodeV (rootS I0) 0 (.slice none 0 0), .int .i64 a2, .int .i64 a3] _ _
      refine (ebest_any (I := I0) (n := rootN' I0) (up := a2) (most := a3) (w0 := V) (HR.out.below Bc.out) Bc.out (root_setsE I0) (root_fit I0) (by show Fit 0; unfold Fit; decide) (.inl (row_nil V)) (Nat.zero_le _) (by have := HM3.out; omega)).mono ?_
      rw [HO1.out, HAL1.out, HST1.out, HBS1.out, HIS1.out]
      rintro e w6 ⟨pb, pn, pc, rfl, hp, hb⟩
      refine held_more hK HS0.out hlt (Bc.out.trans (hb.mono Bc.out.size)) (fun Bc hSn => ?_)
      have HNn := Lib.hid (HN.out.later hb)
      clear HN
      have HN := HNn
      clear HNn
      have HPX := Lib.hid hp
      clear hb hK hp
      unfold nodeV
      refine tks [6, 7, 8, 9, 10] 5 rfl (by kernel_rfl) (fun _ _ _ _ h => h) (by assumption) (fun KT hKT => ?_)
      iterate 5 (refine tkT (by (simp only [gA, gB, gC]; rfl)) (by rfl) (by (intro w hSw; (simp only [Holds] at hSw); go_simp <;> with_reducible rfl)) ?_; simp only [Act.put, pA, pB, pC])
      refine hKT _ ?_
      clear KT hKT
      refine wpAnyH_ready (rs := [12]) (by kernel_rfl) (by simp) ?_
      refine (AllReadyH.cons (o := ?oz317) ?iz317 (fun K hK => ?kz317) AllReadyH.nil)
      case iz317 => (simp only [List.getElem?_toArray, List.getElem?_cons_zero, List.getElem?_cons_succ]; rfl)
      simp only [Act.put]
      rw [if_pos (by rfl)]
      refine wp_store_node (.tmp 10) (.tmp 46) (by rfl) bx _ _ _ ⟨bs1.s, bs1.cost, pb, pn, pc⟩ (by rfl) (by rfl) HN.out ?_
      intro wE hE hbE hoE hgE
      refine held_more hK HS0.out hlt (Bc.out.trans (hbE _ HLX.out)) (fun Bc hSn => ?_)
      have HPE := HPX.out.kept hgE HN.out
      clear hK
      refine tks [13, 14, 15] 3 rfl (by kernel_rfl) (fun _ _ _ _ h => h) (by assumption) (fun KT hKT => ?_)
      iterate 3 (refine tkT (by (simp only [gA, gB, gC]; rfl)) (by rfl) (by (intro w hSw; (simp only [Holds] at hSw); go_simp <;> with_reducible rfl)) ?_; simp only [Act.put, pA, pB, pC])
      refine hKT _ ?_
      clear KT hKT
      refine wpAnyH_done (by kernel_rfl) ?_ _
      go_wp2_with fail
      go_meet
      exact ⟨bx, pb, pn, pc, rfl, rfl, rfl, rfl, hE, HPE.row Bc.out, HBR.out.trans (Bc.out.mono HBR.out.size)⟩
  case rest =>
  obtain ⟨bb1, pb1, pn1, pc1, rfl, rfl, rfl, rfl, f1, f2, hb⟩ := hcut
  have HN1 := Lib.hid f1
  have HP1 := Lib.hid f2
  clear f1 f2
  have HYn := Lib.hid (HY.out.later hb)
  clear HY
  have HY := HYn
  clear HYn
  have HRn := Lib.hid (HR.out.below hb)
  clear HR
  have HR := HRn
  clear HRn
  have HXn := Lib.hid (HX.out.later hb)
  clear HX
  have HX := HXn
  clear HXn
  have HPLn := Lib.hid (HPL.out.below hb)
  clear HPL
  have HPL := HPLn
  clear HPLn
  have HBn := Lib.hid (HB.out.trans (hb.mono HB.out.size))
  clear HB
  have HB := HBn
  clear HBn
  clear hb
  generalize wc = W4 at *
  have HE := Lib.hid (exact_root HM.out (most := a3) (lim := a2) HRK.out).1
  cases his : is1 with
  | false =>
    subst his
    clear HE HP1
    obtain ⟨y0, y1, y2, y3⟩ := HY.out.cells
    have x0 := HX.out.cell
    go_wp2_with fail
    clear y0 y1 y2 y3 x0
    change Calls _ _ #[insV I0 (.slice ad I0.l.length cap), planV (.slice la l1.length lc)] _ _
    refine (cost_any HR.out HPL.out).mono ?_
    rintro e w8 ⟨rfl, hb⟩
    have HYn := Lib.hid (HY.out.later hb)
    clear HY
    have HY := HYn
    clear HYn
    have HRn := Lib.hid (HR.out.below hb)
    clear HR
    have HR := HRn
    clear HRn
    have HXn := Lib.hid (HX.out.later hb)
    clear HX
    have HX := HXn
    clear HXn
    have HPLn := Lib.hid (HPL.out.below hb)
    clear HPL
    have HPL := HPLn
    clear HPLn
    have HN1n := Lib.hid (HN1.out.later hb)
    clear HN1
    have HN1 := HN1n
    clear HN1n
    have HBn := Lib.hid (HB.out.trans (hb.mono HB.out.size))
    clear HB
    have HB := HBn
    clear HBn
    clear hb
    obtain ⟨E, hE⟩ : ∃ E, costE I0 l1 = E := ⟨_, rfl⟩
    obtain ⟨C, hC⟩ : ∃ C, costN I0 l1 = C := ⟨_, rfl⟩
    have HLS := Lib.hid (show E = 0 → al1 = true → C < a2 → false = true ∧ bs1.cost ≤ C from fun h1 h2 h3 => by
      obtain ⟨s, c, k1, k2, k3⟩ := plans (I := I0) (L := l1) (hE.trans h1)
      have k4 := (exact_root HM.out (most := a3) (lim := a2) HRK.out).2 (by rw [HAL1.out]; exact h2) _ s c k1 k2
      rw [k3, hC, HO1.out] at k4
      have h5 := HIS1.out
      have h6 := HBS1.out
      cases o1 with
      | none =>
        change a2 ≤ C at k4
        omega
      | some n =>
        have hn : n = bs1 := h6
        subst hn
        exact ⟨h5.symm, k4⟩)
    rw [hE, hC]
    clear hE hC HO1 HAL1 HST1 HBS1 HIS1
    have x8 := HN1.out.c8
    by_cases h0 : E = 0
    rotate_left
    · have b0 : (E != 0) = true := by simp [h0]
      have b1 : (E == 0) = false := by simp [h0]
      clear h0 HLS
      go_wp2
      go_ret
      exact ⟨by first | rfl | simp, HB.out⟩
    subst h0
    cases al1 with
    | false =>
      clear HLS
      go_wp2
      go_ret
      exact ⟨by first | rfl | simp, HB.out⟩
    | true =>
      by_cases h3 : a2 ≤ C
      · have d3 := decide_eq_true h3
        clear h3 HLS
        go_wp2
        go_ret
        exact ⟨by first | rfl | simp, HB.out⟩
      · have d3 := decide_eq_false h3
        obtain ⟨h4, h5⟩ := HLS.out rfl rfl (by omega)
        clear h3 HLS
        cases h4
  | true =>
    subst his
    have HTO := Lib.hid (show (bs1.path.length ≤ 1000000 ∧ bs1.cost < a2) ∧ splitE bs1.path = 0 ∧ costE I0 (splitR bs1.path) = 0 ∧ costN I0 (splitR bs1.path) = bs1.cost by
      have h1 := HE.out
      rw [HO1.out] at h1
      have h := HIS1.out
      have h6 := HBS1.out
      cases o1 with
      | none => cases h
      | some n =>
        have hn : n = bs1 := h6
        subst hn
        obtain ⟨c, k1, k2, k3, k4⟩ := h1
        obtain ⟨t1, t2, t3⟩ := tours HM.out k1 k2
        have t4 := follow_rank k1
        have t5 := HRK.out
        exact ⟨⟨by omega, k4⟩, t1, t2, by rw [t3, k3]⟩)
    clear HE
    have x9 := HN1.out.c9
    go_wp2_with fail
    clear x9
    refine (split_any HP1.out (by have := HTO.out.1.1; omega)).mono ?_
    rintro e w5 ⟨u, rfl, hu, hb⟩
    have HO := Lib.hid hu.is
    obtain ⟨ua, uc, rfl⟩ := hu.shape
    clear hu
    have HYn := Lib.hid (HY.out.later hb)
    clear HY
    have HY := HYn
    clear HYn
    have HRn := Lib.hid (HR.out.below hb)
    clear HR
    have HR := HRn
    clear HRn
    have HXn := Lib.hid (HX.out.later hb)
    clear HX
    have HX := HXn
    clear HXn
    have HPLn := Lib.hid (HPL.out.below hb)
    clear HPL
    have HPL := HPLn
    clear HPLn
    have HN1n := Lib.hid (HN1.out.later hb)
    clear HN1
    have HN1 := HN1n
    clear HN1n
    have HBn := Lib.hid (HB.out.trans (hb.mono HB.out.size))
    clear HB
    have HB := HBn
    clear HBn
    clear hb
    rw [HTO.out.2.1]
    unfold planV
    go_upto_region 7 with fail
    have hb := (Below.refl w5.heap.size w5).alloc (Nat.le_refl _) (.cells #[.slice ua (splitR bs1.path).length uc] 39)
    have HP := Lib.hid (pbox_new w5 (.slice ua (splitR bs1.path).length uc))
    change Code.wp _ _ _ _ (w5.alloc (.cells #[.slice ua (splitR bs1.path).length uc] 39))
    have HYn := Lib.hid (HY.out.later hb)
    clear HY
    have HY := HYn
    clear HYn
    have HRn := Lib.hid (HR.out.below hb)
    clear HR
    have HR := HRn
    clear HRn
    have HXn := Lib.hid (HX.out.later hb)
    clear HX
    have HX := HXn
    clear HXn
    have HPLn := Lib.hid (HPL.out.below hb)
    clear HPL
    have HPL := HPLn
    clear HPLn
    have HN1n := Lib.hid (HN1.out.later hb)
    clear HN1
    have HN1 := HN1n
    clear HN1n
    have HOn := Lib.hid (HO.out.below hb)
    clear HO
    have HO := HOn
    clear HOn
    have HBn := Lib.hid (HB.out.trans (hb.mono HB.out.size))
    clear HB
    have HB := HBn
    clear HBn
    clear hb
    generalize w5.alloc (.cells #[.slice ua (splitR bs1.path).length uc] 39) = W6 at *
    obtain ⟨bp, hbp⟩ : ∃ b, w5.heap.size = b := ⟨_, rfl⟩
    rw [hbp] at HP ⊢
    clear hbp
    obtain ⟨y0, y1, y2, y3⟩ := HY.out.cells
    have x0 := HP.out.cell
    go_wp2_with fail
    clear y0 y1 y2 y3 x0
    change Calls _ _ #[insV I0 (.slice ad I0.l.length cap), planV (.slice ua (splitR bs1.path).length uc)] _ _
    refine (cost_any HR.out HO.out).mono ?_
    rintro e w7 ⟨rfl, hb⟩
    have HYn := Lib.hid (HY.out.later hb)
    clear HY
    have HY := HYn
    clear HYn
    have HRn := Lib.hid (HR.out.below hb)
    clear HR
    have HR := HRn
    clear HRn
    have HXn := Lib.hid (HX.out.later hb)
    clear HX
    have HX := HXn
    clear HXn
    have HPLn := Lib.hid (HPL.out.below hb)
    clear HPL
    have HPL := HPLn
    clear HPLn
    have HN1n := Lib.hid (HN1.out.later hb)
    clear HN1
    have HN1 := HN1n
    clear HN1n
    have HBn := Lib.hid (HB.out.trans (hb.mono HB.out.size))
    clear HB
    have HB := HBn
    clear HBn
    clear hb
    rw [HTO.out.2.2.1, HTO.out.2.2.2]
    have d9 : decide (a2 ≤ bs1.cost) = false := decide_eq_false (by have := HTO.out.1.2; omega)
    have n9 : (bs1.cost != bs1.cost) = false := by simp
    have m9 : (bs1.cost == bs1.cost) = true := by simp
    have z8 := HN1.out.c8
    go_upto_region 10 with fail
    clear z8 d9 n9 m9 HO HP HTO
    obtain ⟨y0, y1, y2, y3⟩ := HY.out.cells
    have x0 := HX.out.cell
    go_wp2_with fail
    clear y0 y1 y2 y3 x0
    change Calls _ _ #[insV I0 (.slice ad I0.l.length cap), planV (.slice la l1.length lc)] _ _
    refine (cost_any HR.out HPL.out).mono ?_
    rintro e w8 ⟨rfl, hb⟩
    have HYn := Lib.hid (HY.out.later hb)
    clear HY
    have HY := HYn
    clear HYn
    have HRn := Lib.hid (HR.out.below hb)
    clear HR
    have HR := HRn
    clear HRn
    have HXn := Lib.hid (HX.out.later hb)
    clear HX
    have HX := HXn
    clear HXn
    have HPLn := Lib.hid (HPL.out.below hb)
    clear HPL
    have HPL := HPLn
    clear HPLn
    have HN1n := Lib.hid (HN1.out.later hb)
    clear HN1
    have HN1 := HN1n
    clear HN1n
    have HBn := Lib.hid (HB.out.trans (hb.mono HB.out.size))
    clear HB
    have HB := HBn
    clear HBn
    clear hb
    obtain ⟨E, hE⟩ : ∃ E, costE I0 l1 = E := ⟨_, rfl⟩
    obtain ⟨C, hC⟩ : ∃ C, costN I0 l1 = C := ⟨_, rfl⟩
    have HLS := Lib.hid (show E = 0 → al1 = true → C < a2 → true = true ∧ bs1.cost ≤ C from fun h1 h2 h3 => by
      obtain ⟨s, c, k1, k2, k3⟩ := plans (I := I0) (L := l1) (hE.trans h1)
      have k4 := (exact_root HM.out (most := a3) (lim := a2) HRK.out).2 (by rw [HAL1.out]; exact h2) _ s c k1 k2
      rw [k3, hC, HO1.out] at k4
      have h5 := HIS1.out
      have h6 := HBS1.out
      cases o1 with
      | none =>
        change a2 ≤ C at k4
        omega
      | some n =>
        have hn : n = bs1 := h6
        subst hn
        exact ⟨h5.symm, k4⟩)
    rw [hE, hC]
    clear hE hC HO1 HAL1 HST1 HBS1 HIS1
    have x8 := HN1.out.c8
    by_cases h0 : E = 0
    rotate_left
    · have b0 : (E != 0) = true := by simp [h0]
      have b1 : (E == 0) = false := by simp [h0]
      clear h0 HLS
      go_wp2
      go_ret
      exact ⟨by first | rfl | simp, HB.out⟩
    subst h0
    cases al1 with
    | false =>
      clear HLS
      go_wp2
      go_ret
      exact ⟨by first | rfl | simp, HB.out⟩
    | true =>
      by_cases h3 : a2 ≤ C
      · have d3 := decide_eq_true h3
        clear h3 HLS
        go_wp2
        go_ret
        exact ⟨by first | rfl | simp, HB.out⟩
      · have d3 := decide_eq_false h3
        obtain ⟨h4, h5⟩ := HLS.out rfl rfl (by omega)
        clear h3 HLS
        have d5 := decide_eq_true h5
        clear h4 h5
        go_wp2
        go_ret
        exact ⟨by first | rfl | simp, HB.out⟩

set_option maxRecDepth 100000 in
theorem lifted (os : Os) (started : os.Started) (H : Type) (enc : TypeId × Value → H) :
    ReturnsInHanded {} Tryz.checked os 4 .any (Rows.exactLeastSpec.pre6 enc Tryz.prog Tryz.f4 Rows.exactLeastRow.domain false) (Rows.exactLeastSpec.post enc Tryz.prog Tryz.f4 false true false false) := by
  refine returnsInHanded_of_change (C := Tryz.checked) own started (by kernel_rfl) Tryz.func4
    (ChangeSpec.witness6 (enc := enc) (C := Tryz.checked) false ⟨#[], #[.agg #[.int .i64 0, .int .i64 0, .int .i64 0, .slice none 0 0], .agg #[.slice none 0 0], .int .i64 0, .int .i64 0], []⟩ 8 (by kernel_rfl) (by kernel_rfl) (by kernel_rfl) (by kernel_rfl)) ?_
  intro W base args ds gs before hval0 hW hcnd _
  have hval : ∀ (j : Nat) t v, Tryz.f4.params[j]? = some t → args[j]? = some v → Value.okWide Tryz.prog W .any base t v := hval0
  have hW' := hW
  obtain ⟨p, q, hA0, hV, rfl, hfz, hnd⟩ := hW
  have hA : DataW.TrodAll enc Tryz.prog W 0 (fun _ => true) true Tryz.f4.params.toList args.toList ds p := hA0
  rw [Tryz.params4] at hA hval
  obtain ⟨v0, vs0, d0, ds0, p0, q0, hargs, rfl, rfl, h0, r0⟩ := trodAll_cons hA
  obtain ⟨v1, vs1, d1, ds1, p1, q1, rfl, rfl, rfl, h1, r1⟩ := trodAll_cons r0
  obtain ⟨v2, vs2, d2, ds2, p2, q2, rfl, rfl, rfl, h2, r2⟩ := trodAll_cons r1
  obtain ⟨v3, vs3, d3, ds3, p3, q3, rfl, rfl, rfl, h3, r3⟩ := trodAll_cons r2
  obtain ⟨rfl, rfl, rfl⟩ := trodAll_nil r3
  obtain rfl : args = #[v0, v1, v2, v3] := by cases args; simp_all
  obtain ⟨rfl, rfl⟩ := trodVars_none hV
  have k0 := h0
  have lt0 : ∀ x ∈ p0, x.block < W.heap.size := by obtain ⟨m, hm⟩ := k0; exact DataW.trod_lt m _ _ _ hm
  have k1 := h1
  have lt1 : ∀ x ∈ p1, x.block < W.heap.size := by obtain ⟨m, hm⟩ := k1; exact DataW.trod_lt m _ _ _ hm
  have k2 := h2
  have lt2 : ∀ x ∈ p2, x.block < W.heap.size := by obtain ⟨m, hm⟩ := k2; exact DataW.trod_lt m _ _ _ hm
  have k3 := h3
  have lt3 : ∀ x ∈ p3, x.block < W.heap.size := by obtain ⟨m, hm⟩ := k3; exact DataW.trod_lt m _ _ _ hm
  obtain ⟨I0, u0, rfl, e0, _⟩ := open_inst (hval 0 24 v0 rfl rfl) h0
  obtain ⟨u1, l1, rfl, e1, _⟩ := open_plan (hval 1 39 v1 rfl rfl) h1
  obtain ⟨a2, rfl, rfl, rfl, i2⟩ := open_int Tryz.underlying3 (hval 2 3 v2 rfl rfl) h2
  obtain ⟨a3, rfl, rfl, rfl, i3⟩ := open_int Tryz.underlying3 (hval 3 3 v3 rfl rfl) h3
  clear hA0 hval0
  refine (walk I0 _ _ l1 a2 a3 W e0 e1).mono fun e W' ⟨he, bel⟩ => ?_
  subst he
  exact ⟨_, rfl, _, _, _, [], _, [], hW', trodAll_mk1 (shut_bool Tryz.underlying4 _), (trodAll_cons_mk (Below.trod laidOut (by kernel_rfl) (of_decide_eq_true (by kernel_rfl)) k0 bel lt0) (trodAll_cons_mk (Below.trod laidOut (by kernel_rfl) (of_decide_eq_true (by kernel_rfl)) k1 bel lt1) (trodAll_cons_mk (Below.trod laidOut (by kernel_rfl) (of_decide_eq_true (by kernel_rfl)) k2 bel lt2) (trodAll_cons_mk (Below.trod laidOut (by kernel_rfl) (of_decide_eq_true (by kernel_rfl)) k3 bel lt3) trodAll_mk0)))), rfl, bel.frame _, fun h => by cases h⟩

theorem over : Rows.exactLeastRow.holds Tryz.pinned (OpenSpec.ofChange Rows.exactLeastSpec) :=
  OpenClaim.holds_of_wide 4 Tryz.f4 rfl rfl rfl rfl rfl rfl rfl ⟨rfl, rfl, rfl, rfl, rfl⟩ rfl rfl rfl rfl rfl (by kernel_rfl) Tryz.func4 (by show joinedFacts Tryz.checked.prog _ _ _ _ = true; unfold joinedFacts; rw [ord_may, ord_lifts, ord_make]; kernel_rfl)
    (of_decide_eq_true (by kernel_rfl)) (by unfold Func.isWrapper; first | (rw [if_pos (by decide +kernel)]; kernel_rfl) | (rw [if_neg (by decide +kernel)]; exact ⟨rfl, rfl⟩))
    (fun os started H enc _ => lifted os started H enc)

theorem proved : Rows.ExactLeastSaid := over
#print axioms proved
end Go.Proofs.YtaaljploegiihaaGreat.exactLeast
