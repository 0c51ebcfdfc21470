/- ExactWider (P15.1) -/
import Derived.Test.YtaaljploegiihaaOrd
import Derived.Test.YtaaljploegiihaaRows
import Derived.Test.YtaaljploegiihaaEAwake
import Derived.Test.YtaaljploegiihaaEMore
import Derived.Test.YtaaljploegiihaaEProg
import Derived.Test.YtaaljploegiihaaEOpen
import Derived.Test.YtaaljploegiihaaYL
import Derived.Test.YtaaljploegiihaaXIMay
import Derived.Test.YtaaljploegiihaaYM
import Derived.Test.YtaaljploegiihaaYI
import Derived.Test.YtaaljploegiihaaXN
import Derived.Test.YtaaljploegiihaaYF
import Derived.Test.YtaaljploegiihaaYJ
import Derived.Test.YtaaljploegiihaaYG
namespace Go.Proofs.Ytaaljploegiihaa.exactWider
open Go.ChangeShapes Go.WideShapes Go.ChangeAt Go.RowKit

set_option maxRecDepth 1000000 in
set_option maxHeartbeats 4000000 in
theorem walk (I0 : Ins) (v0 : Value) (a1 : Int) (a2 : Int) (a3 : Int) (w : World) (e0 : SRow w v0 I0.l) :
    Calls Try.prog 12 #[insV I0 v0, .int .i64 a1, .int .i64 a2, .int .i64 a3] w fun e w' => e = .returned (.bool true) ∧ Below w.heap.size w w' := by
  have HR := Lib.hid e0
  obtain ⟨ad, cap, rfl, hlm, _⟩ := e0.form
  clear e0
  unfold insV
  go_enter Try.func12, Try.ntmps12
  go_upto_region 1 with fail
  have HY := Lib.hid (ybox_new w I0 (.slice ad I0.l.length cap))
  have HB := Lib.hid ((Below.refl w.heap.size w).alloc (Nat.le_refl _) (boxI I0 (.slice ad I0.l.length cap)))
  change Code.wp _ _ _ _ (w.alloc (boxI I0 (.slice ad I0.l.length cap)))
  generalize hW : w.alloc (boxI I0 (.slice ad I0.l.length cap)) = W at *
  have HRn := Lib.hid (HR.out.below HB.out)
  clear HR
  have HR := HRn
  clear HRn
  clear hW
  go_wp2_with fail
  refine (eawake_any _).mono ?_
  rintro e w1 ⟨rfl, hb⟩
  have HYn := Lib.hid (HY.out.later hb)
  clear HY
  have HY := HYn
  clear HYn
  have HRn := Lib.hid (HR.out.below hb)
  clear HR
  have HR := HRn
  clear HRn
  have HBn := Lib.hid (HB.out.trans (hb.mono HB.out.size))
  clear HB
  have HB := HBn
  clear HBn
  clear hb
  obtain ⟨y0, y1, y2, y3⟩ := HY.out.cells
  by_cases g1 : 7 < I0.l.length
  · have d1 : decide ((7 : Int) < (I0.l.length : Int)) = true := decide_eq_true (by omega)
    have d2 := decide_eq_true g1
    clear g1
    go_wp2
    go_ret
    exact ⟨rfl, HB.out⟩
  have d1 : decide ((7 : Int) < (I0.l.length : Int)) = false := decide_eq_false (by omega)
  have d2 := decide_eq_false g1
  have HLEN := Lib.hid g1
  clear g1
  by_cases g2 : a2 < 0
  · have dg2 := decide_eq_true g2
    clear g2
    go_wp2
    go_ret
    exact ⟨rfl, HB.out⟩
  have dg2 := decide_eq_false g2
  by_cases g3 : 3000 < a2
  · have dg3 := decide_eq_true g3
    clear g3
    go_wp2
    go_ret
    exact ⟨rfl, HB.out⟩
  have dg3 := decide_eq_false g3
  by_cases g4 : a3 < a2
  · have dg4 := decide_eq_true g4
    clear g4
    go_wp2
    go_ret
    exact ⟨rfl, HB.out⟩
  have dg4 := decide_eq_false g4
  by_cases g5 : 3000 < a3
  · have dg5 := decide_eq_true g5
    clear g5
    go_wp2
    go_ret
    exact ⟨rfl, HB.out⟩
  have dg5 := decide_eq_false g5
  have HG := Lib.hid (show 0 ≤ a2 ∧ a2 ≤ a3 ∧ a3 ≤ 3000 by omega)
  clear g2 g3 g4 g5
  go_wp2_with fail
  clear y0 y1 y2 y3
  change Calls _ _ #[insV I0 (.slice ad I0.l.length cap)] _ _
  refine (may_any HR.out).mono ?_
  rintro e w2 ⟨rfl, hb⟩
  have HYn := Lib.hid (HY.out.later hb)
  clear HY
  have HY := HYn
  clear HYn
  have HRn := Lib.hid (HR.out.below hb)
  clear HR
  have HR := HRn
  clear HRn
  have HBn := Lib.hid (HB.out.trans (hb.mono HB.out.size))
  clear HB
  have HB := HBn
  clear HBn
  clear hb
  by_cases hm : mayB I0 = true
  rotate_left
  · have hmf : mayB I0 = false := by simpa using hm
    rw [hmf]
    clear hm hmf
    go_wp2
    go_ret
    exact ⟨rfl, HB.out⟩
  rw [hm]
  have HM := Lib.hid hm
  have HP3 := Lib.hid (show I0.p ≤ 3 by have h1 := (fine_of hm).len; have := HLEN.out; omega)
  have HRK := Lib.hid (show rankS I0 (rootS I0) < 44 by have h1 := rank_root hm; have h2 := (fine_of hm).p1; have h3 := (inb_iff _ _ _).1 ((may_iff I0).1 hm).2.1; omega)
  clear hm
  obtain ⟨o1, ho1⟩ : ∃ o, (exactRun I0 a2 44 [rootN' I0] none a1 0).1 = o := ⟨_, rfl⟩
  obtain ⟨al1, hal1⟩ : ∃ o, (exactRun I0 a2 44 [rootN' I0] none a1 0).2.1 = o := ⟨_, rfl⟩
  obtain ⟨st1, hst1⟩ : ∃ o, (exactRun I0 a2 44 [rootN' I0] none a1 0).2.2 = o := ⟨_, rfl⟩
  obtain ⟨bs1, hbs1⟩ : ∃ b, bestV o1 = b := ⟨_, rfl⟩
  obtain ⟨is1, his1⟩ : ∃ b, o1.isSome = b := ⟨_, rfl⟩
  have HO1 := Lib.hid ho1
  have HAL1 := Lib.hid hal1
  have HST1 := Lib.hid hst1
  have HBS1 := Lib.hid hbs1
  have HIS1 := Lib.hid his1
  clear ho1 hal1 hst1 hbs1 his1
  go_upto_region 4 with fail
  go_cut [10, 11, 12, 13] from 50 (fun p v0 v1 v2 wx => ∃ bb pb pn pc, p = .pointer (some ⟨bb, 0, none⟩) ∧ v0 = .bool is1 ∧ v1 = .bool al1 ∧ v2 = .int .i64 st1 ∧ NodB wx bb bs1.s bs1.cost (.slice pb pn pc) ∧ Row wx (.slice pb pn pc) (ints bs1.path) ∧ Below w2.heap.size w2 wx)
  case first =>
    have HBR := Lib.hid (Below.refl w2.heap.size w2).drew
    have HYn := Lib.hid (HY.out.later (Below.refl _ w2).drew)
    have HRn := Lib.hid (HR.out.below (Below.refl _ w2).drew)
    have HBn := Lib.hid HB.out.drew
    clear HY HR HB
    have HY := HYn
    have HR := HRn
    have HB := HBn
    clear HYn HRn HBn
    have HS0 := Lib.hid (show Holds (cellsI w.heap.size I0 (.slice ad I0.l.length cap)) w2.drew from ⟨HY.out.cells.1, HY.out.cells.2.1, HY.out.cells.2.2.1, HY.out.cells.2.2.2, trivial⟩)
    refine wp_region_held_drew (S := Holds (cellsI w.heap.size I0 (.slice ad I0.l.length cap))) (by kernel_rfl) HS0.out (fun hSn => ?_)
    generalize w2.drew = V at *
    have hlt := Lib.hid (show Lows V.heap.size (cellsI w.heap.size I0 (.slice ad I0.l.length cap)) from (show Lows _ (cellsI w.heap.size I0 (.slice ad I0.l.length cap)) from ⟨HY.out.lt, HY.out.lt, HY.out.lt, HY.out.lt, trivial⟩))
    have Bc := Lib.hid (Below.refl V.heap.size V)
    simp only [cellsI] at HS0 hlt hSn ⊢
    refine tks [0, 1, 3, 4] 4 rfl (by kernel_rfl) (fun _ _ _ _ h => h) (by assumption) (fun KT hKT => ?_)
    iterate 4 (refine tkT (by (simp only [gA, gB, gC]; rfl)) (by rfl) (by (intro w hSw; (simp only [Holds] at hSw); go_simp <;> with_reducible rfl)) ?_; simp only [Act.put, pA, pB, pC])
    refine hKT _ ?_
    clear KT hKT
    refine wpAnyH_ready (rs := [2, 11]) (by kernel_rfl) (by simp) ?_
    refine (AllReadyH.cons (o := ?oz289) ?iz289 (fun K hK => ?kz289) (AllReadyH.cons (o := ?oz290) ?iz290 (fun K hK => ?kz290) AllReadyH.nil))
    case iz289 => (simp only [List.getElem?_toArray, List.getElem?_cons_zero, List.getElem?_cons_succ]; rfl)
    case iz290 => (simp only [List.getElem?_toArray, List.getElem?_cons_zero, List.getElem?_cons_succ]; rfl)
    · skip
      go_simp
      change Calls _ _ #[insV I0 (.slice ad I0.l.length cap)] _ _
      refine (eroot_any (HR.out.below Bc.out)).mono ?_
      rintro e w' ⟨rfl, hb⟩
      refine held_more hK HS0.out hlt (Bc.out.trans (hb.mono Bc.out.size)) (fun Bc hSn => ?_)
      clear hb hK
      refine wpAnyH_ready (rs := [5, 11]) (by kernel_rfl) (by simp) ?_
      refine (AllReadyH.cons (o := ?oz291) ?iz291 (fun K hK => ?kz291) (AllReadyH.cons (o := ?oz292) ?iz292 (fun K hK => ?kz292) AllReadyH.nil))
      case iz291 => (simp only [List.getElem?_toArray, List.getElem?_cons_zero, List.getElem?_cons_succ]; rfl)
      case iz292 => (simp only [List.getElem?_toArray, List.getElem?_cons_zero, List.getElem?_cons_succ]; rfl)
      · skip
        go_simp
        change Calls _ _ #[insV I0 (.slice ad I0.l.length cap), nodeV (rootS I0) 0 (.slice none 0 0), .int .i64 a1, .int .i64 a2] _ _
        refine (ebest_any (I := I0) (n := rootN' I0) (up := a1) (most := a2) (w0 := V) (HR.out.below Bc.out) Bc.out (root_setsE I0) (root_fit I0) (by show Fit 0; unfold Fit; decide) (.inl (row_nil V)) (Nat.zero_le _) (by have := HG.out; omega)).mono ?_
        rw [HO1.out, HAL1.out, HST1.out, HBS1.out, HIS1.out]
        rintro e w6 ⟨pb, pn, pc, rfl, hp, hb⟩
        refine held_more hK HS0.out hlt (Bc.out.trans (hb.mono Bc.out.size)) (fun Bc hSn => ?_)
        have HPX := Lib.hid hp
        clear hb hK hp
        unfold nodeV
        refine tks [6, 7, 8, 9, 10] 5 rfl (by kernel_rfl) (fun _ _ _ _ h => h) (by assumption) (fun KT hKT => ?_)
        iterate 5 (refine tkT (by (simp only [gA, gB, gC]; rfl)) (by rfl) (by (intro w hSw; (simp only [Holds] at hSw); go_simp <;> with_reducible rfl)) ?_; simp only [Act.put, pA, pB, pC])
        refine hKT _ ?_
        clear KT hKT
        have HSZ := Lib.hid Bc.out.size
        refine wpAnyH_ready (rs := [11]) (by kernel_rfl) (by simp) ?_
        refine AllReadyH.cons (o := ?oz293) ?iz293 (fun K hK => ?kz293) AllReadyH.nil
        case iz293 => (simp only [List.getElem?_toArray, List.getElem?_cons_zero, List.getElem?_cons_succ]; rfl)
        go_simp
        refine held_more hK HS0.out hlt (Bc.out.alloc Bc.out.size _) (fun Bc hSn => ?_)
        have HN := Lib.hid (nod_new w6 noughtS 0 (.slice none 0 0))
        change wpAnyH _ _ _ _ _ _ _ _ (w6.alloc (boxN noughtS 0 (.slice none 0 0)))
        have Bc2 := Lib.hid (show Below V.heap.size V (w6.alloc (boxN noughtS 0 (.slice none 0 0))) from Bc.out)
        clear Bc
        have Bc := Bc2
        clear Bc2
        change Holds _ (w6.alloc (boxN noughtS 0 (.slice none 0 0))) at hSn
        have HPXn := Lib.hid (HPX.out.below ((Below.refl w6.heap.size w6).alloc (Nat.le_refl _) (boxN noughtS 0 (.slice none 0 0))))
        clear HPX
        have HPX := HPXn
        clear HPXn
        generalize w6.alloc (boxN noughtS 0 (.slice none 0 0)) = Xn at *
        obtain ⟨bx, hbx⟩ : ∃ bx, bx = w6.heap.size := ⟨_, rfl⟩
        have HLX := Lib.hid (show V.heap.size ≤ bx by rw [hbx]; exact HSZ.out)
        rw [← hbx] at HN ⊢
        clear hbx HSZ
        refine wpAnyH_ready (rs := [12]) (by kernel_rfl) (by simp) ?_
        refine (AllReadyH.cons (o := ?oz294) ?iz294 (fun K hK => ?kz294) AllReadyH.nil)
        case iz294 => (simp only [List.getElem?_toArray, List.getElem?_cons_zero, List.getElem?_cons_succ]; rfl)
        simp only [Act.put]
        rw [if_pos (by rfl)]
        refine wp_store_node (.tmp 10) (.tmp 57) (by rfl) bx _ _ _ ⟨bs1.s, bs1.cost, pb, pn, pc⟩ (by rfl) (by rfl) HN.out ?_
        intro wE hE hbE hoE hgE
        refine held_more hK HS0.out hlt (Bc.out.trans (hbE _ HLX.out)) (fun Bc hSn => ?_)
        have HPE := HPX.out.kept hgE HN.out
        clear hK
        refine tks [13, 14, 15] 3 rfl (by kernel_rfl) (fun _ _ _ _ h => h) (by assumption) (fun KT hKT => ?_)
        iterate 3 (refine tkT (by (simp only [gA, gB, gC]; rfl)) (by rfl) (by (intro w hSw; (simp only [Holds] at hSw); go_simp <;> with_reducible rfl)) ?_; simp only [Act.put, pA, pB, pC])
        refine hKT _ ?_
        clear KT hKT
        refine wpAnyH_done (by kernel_rfl) ?_ _
        go_wp2_with fail
        go_meet
        exact ⟨bx, pb, pn, pc, rfl, rfl, rfl, rfl, hE, HPE.row Bc.out, HBR.out.trans (Bc.out.mono HBR.out.size)⟩
      · skip
        have HSZ := Lib.hid Bc.out.size
        go_simp
        refine held_more hK HS0.out hlt (Bc.out.alloc Bc.out.size _) (fun Bc hSn => ?_)
        clear hK
        have HN := Lib.hid (nod_new w' noughtS 0 (.slice none 0 0))
        change wpAnyH _ _ _ _ _ _ _ _ (w'.alloc (boxN noughtS 0 (.slice none 0 0)))
        have Bc2 := Lib.hid (show Below V.heap.size V (w'.alloc (boxN noughtS 0 (.slice none 0 0))) from Bc.out)
        clear Bc
        have Bc := Bc2
        clear Bc2
        change Holds _ (w'.alloc (boxN noughtS 0 (.slice none 0 0))) at hSn
        generalize w'.alloc (boxN noughtS 0 (.slice none 0 0)) = Xn at *
        obtain ⟨bx, hbx⟩ : ∃ bx, bx = w'.heap.size := ⟨_, rfl⟩
        have HLX := Lib.hid (show V.heap.size ≤ bx by rw [hbx]; exact HSZ.out)
        rw [← hbx] at HN ⊢
        clear hbx HSZ
        refine wpAnyH_ready (rs := [5]) (by kernel_rfl) (by simp) ?_
        refine AllReadyH.cons (o := ?oz295) ?iz295 (fun K hK => ?kz295) AllReadyH.nil
        case iz295 => (simp only [List.getElem?_toArray, List.getElem?_cons_zero, List.getElem?_cons_succ]; rfl)
        go_simp
        change Calls _ _ #[insV I0 (.slice ad I0.l.length cap), nodeV (rootS I0) 0 (.slice none 0 0), .int .i64 a1, .int .i64 a2] _ _
        refine (ebest_any (I := I0) (n := rootN' I0) (up := a1) (most := a2) (w0 := V) (HR.out.below Bc.out) Bc.out (root_setsE I0) (root_fit I0) (by show Fit 0; unfold Fit; decide) (.inl (row_nil V)) (Nat.zero_le _) (by have := HG.out; omega)).mono ?_
        rw [HO1.out, HAL1.out, HST1.out, HBS1.out, HIS1.out]
        rintro e w6 ⟨pb, pn, pc, rfl, hp, hb⟩
        refine held_more hK HS0.out hlt (Bc.out.trans (hb.mono Bc.out.size)) (fun Bc hSn => ?_)
        have HNn := Lib.hid (HN.out.later hb)
        clear HN
        have HN := HNn
        clear HNn
        have HPX := Lib.hid hp
        clear hb hK hp
        unfold nodeV
        refine tks [6, 7, 8, 9, 10] 5 rfl (by kernel_rfl) (fun _ _ _ _ h => h) (by assumption) (fun KT hKT => ?_)
        iterate 5 (refine tkT (by (simp only [gA, gB, gC]; rfl)) (by rfl) (by (intro w hSw; (simp only [Holds] at hSw); go_simp <;> with_reducible rfl)) ?_; simp only [Act.put, pA, pB, pC])
        refine hKT _ ?_
        clear KT hKT
        refine wpAnyH_ready (rs := [12]) (by kernel_rfl) (by simp) ?_
        refine (AllReadyH.cons (o := ?oz296) ?iz296 (fun K hK => ?kz296) AllReadyH.nil)
        case iz296 => (simp only [List.getElem?_toArray, List.getElem?_cons_zero, List.getElem?_cons_succ]; rfl)
        simp only [Act.put]
        rw [if_pos (by rfl)]
        refine wp_store_node (.tmp 10) (.tmp 57) (by rfl) bx _ _ _ ⟨bs1.s, bs1.cost, pb, pn, pc⟩ (by rfl) (by rfl) HN.out ?_
        intro wE hE hbE hoE hgE
        refine held_more hK HS0.out hlt (Bc.out.trans (hbE _ HLX.out)) (fun Bc hSn => ?_)
        have HPE := HPX.out.kept hgE HN.out
        clear hK
        refine tks [13, 14, 15] 3 rfl (by kernel_rfl) (fun _ _ _ _ h => h) (by assumption) (fun KT hKT => ?_)
        iterate 3 (refine tkT (by (simp only [gA, gB, gC]; rfl)) (by rfl) (by (intro w hSw; (simp only [Holds] at hSw); go_simp <;> with_reducible rfl)) ?_; simp only [Act.put, pA, pB, pC])
        refine hKT _ ?_
        clear KT hKT
        refine wpAnyH_done (by kernel_rfl) ?_ _
        go_wp2_with fail
        go_meet
        exact ⟨bx, pb, pn, pc, rfl, rfl, rfl, rfl, hE, HPE.row Bc.out, HBR.out.trans (Bc.out.mono HBR.out.size)⟩
    · skip
      have HSZ := Lib.hid Bc.out.size
      go_simp
      refine held_more hK HS0.out hlt (Bc.out.alloc Bc.out.size _) (fun Bc hSn => ?_)
      clear hK
      have HN := Lib.hid (nod_new V noughtS 0 (.slice none 0 0))
      change wpAnyH _ _ _ _ _ _ _ _ (V.alloc (boxN noughtS 0 (.slice none 0 0)))
      have Bc2 := Lib.hid (show Below V.heap.size V (V.alloc (boxN noughtS 0 (.slice none 0 0))) from Bc.out)
      clear Bc
      have Bc := Bc2
      clear Bc2
      change Holds _ (V.alloc (boxN noughtS 0 (.slice none 0 0))) at hSn
      generalize V.alloc (boxN noughtS 0 (.slice none 0 0)) = Xn at *
      obtain ⟨bx, hbx⟩ : ∃ bx, bx = V.heap.size := ⟨_, rfl⟩
      have HLX := Lib.hid (show V.heap.size ≤ bx by rw [hbx]; exact HSZ.out)
      rw [← hbx] at HN ⊢
      clear hbx HSZ
      refine wpAnyH_ready (rs := [2]) (by kernel_rfl) (by simp) ?_
      refine AllReadyH.cons (o := ?oz297) ?iz297 (fun K hK => ?kz297) AllReadyH.nil
      case iz297 => (simp only [List.getElem?_toArray, List.getElem?_cons_zero, List.getElem?_cons_succ]; rfl)
      go_simp
      change Calls _ _ #[insV I0 (.slice ad I0.l.length cap)] _ _
      refine (eroot_any (HR.out.below Bc.out)).mono ?_
      rintro e w' ⟨rfl, hb⟩
      refine held_more hK HS0.out hlt (Bc.out.trans (hb.mono Bc.out.size)) (fun Bc hSn => ?_)
      have HNn := Lib.hid (HN.out.later hb)
      clear HN
      have HN := HNn
      clear HNn
      clear hb hK
      refine wpAnyH_ready (rs := [5]) (by kernel_rfl) (by simp) ?_
      refine AllReadyH.cons (o := ?oz298) ?iz298 (fun K hK => ?kz298) AllReadyH.nil
      case iz298 => (simp only [List.getElem?_toArray, List.getElem?_cons_zero, List.getElem?_cons_succ]; rfl)
      go_simp
      change Calls _ _ #[insV I0 (.slice ad I0.l.length cap), nodeV (rootS I0) 0 (.slice none 0 0), .int .i64 a1, .int .i64 a2] _ _
      refine (ebest_any (I := I0) (n := rootN' I0) (up := a1) (most := a2) (w0 := V) (HR.out.below Bc.out) Bc.out (root_setsE I0) (root_fit I0) (by show Fit 0; unfold Fit; decide) (.inl (row_nil V)) (Nat.zero_le _) (by have := HG.out; omega)).mono ?_
      rw [HO1.out, HAL1.out, HST1.out, HBS1.out, HIS1.out]
      rintro e w6 ⟨pb, pn, pc, rfl, hp, hb⟩
      refine held_more hK HS0.out hlt (Bc.out.trans (hb.mono Bc.out.size)) (fun Bc hSn => ?_)
      have HNn := Lib.hid (HN.out.later hb)
      clear HN
      have HN := HNn
      clear HNn
      have HPX := Lib.hid hp
      clear hb hK hp
      unfold nodeV
      refine tks [6, 7, 8, 9, 10] 5 rfl (by kernel_rfl) (fun _ _ _ _ h => h) (by assumption) (fun KT hKT => ?_)
      iterate 5 (refine tkT (by (simp only [gA, gB, gC]; rfl)) (by rfl) (by (intro w hSw; (simp only [Holds] at hSw); go_simp <;> with_reducible rfl)) ?_; simp only [Act.put, pA, pB, pC])
      refine hKT _ ?_
      clear KT hKT
      refine wpAnyH_ready (rs := [12]) (by kernel_rfl) (by simp) ?_
      refine (AllReadyH.cons (o := ?oz299) ?iz299 (fun K hK => ?kz299) AllReadyH.nil)
      case iz299 => (simp only [List.getElem?_toArray, List.getElem?_cons_zero, List.getElem?_cons_succ]; rfl)
      simp only [Act.put]
      rw [if_pos (by rfl)]
      refine wp_store_node (.tmp 10) (.tmp 57) (by rfl) bx _ _ _ ⟨bs1.s, bs1.cost, pb, pn, pc⟩ (by rfl) (by rfl) HN.out ?_
      intro wE hE hbE hoE hgE
      refine held_more hK HS0.out hlt (Bc.out.trans (hbE _ HLX.out)) (fun Bc hSn => ?_)
      have HPE := HPX.out.kept hgE HN.out
      clear hK
      refine tks [13, 14, 15] 3 rfl (by kernel_rfl) (fun _ _ _ _ h => h) (by assumption) (fun KT hKT => ?_)
      iterate 3 (refine tkT (by (simp only [gA, gB, gC]; rfl)) (by rfl) (by (intro w hSw; (simp only [Holds] at hSw); go_simp <;> with_reducible rfl)) ?_; simp only [Act.put, pA, pB, pC])
      refine hKT _ ?_
      clear KT hKT
      refine wpAnyH_done (by kernel_rfl) ?_ _
      go_wp2_with fail
      go_meet
      exact ⟨bx, pb, pn, pc, rfl, rfl, rfl, rfl, hE, HPE.row Bc.out, HBR.out.trans (Bc.out.mono HBR.out.size)⟩
  case rest =>
  obtain ⟨bb1, pb1, pn1, pc1, rfl, rfl, rfl, rfl, f1, f2, hb⟩ := hcut
  have HN1 := Lib.hid f1
  have HP1 := Lib.hid f2
  clear f1 f2
  have HYn := Lib.hid (HY.out.later hb)
  clear HY
  have HY := HYn
  clear HYn
  have HRn := Lib.hid (HR.out.below hb)
  clear HR
  have HR := HRn
  clear HRn
  have HBn := Lib.hid (HB.out.trans (hb.mono HB.out.size))
  clear HB
  have HB := HBn
  clear HBn
  clear hb
  generalize wc = W4 at *
  obtain ⟨o2, ho2⟩ : ∃ o, (exactRun I0 a3 44 [rootN' I0] none a1 0).1 = o := ⟨_, rfl⟩
  obtain ⟨al2, hal2⟩ : ∃ o, (exactRun I0 a3 44 [rootN' I0] none a1 0).2.1 = o := ⟨_, rfl⟩
  obtain ⟨st2, hst2⟩ : ∃ o, (exactRun I0 a3 44 [rootN' I0] none a1 0).2.2 = o := ⟨_, rfl⟩
  obtain ⟨bs2, hbs2⟩ : ∃ b, bestV o2 = b := ⟨_, rfl⟩
  obtain ⟨is2, his2⟩ : ∃ b, o2.isSome = b := ⟨_, rfl⟩
  have HO2 := Lib.hid ho2
  have HAL2 := Lib.hid hal2
  have HST2 := Lib.hid hst2
  have HBS2 := Lib.hid hbs2
  have HIS2 := Lib.hid his2
  clear ho2 hal2 hst2 hbs2 his2
  go_upto_region 5 with fail
  go_cut [14, 15, 16, 17] from 61 (fun p v0 v1 v2 wx => ∃ bb pb pn pc, p = .pointer (some ⟨bb, 0, none⟩) ∧ v0 = .bool is2 ∧ v1 = .bool al2 ∧ v2 = .int .i64 st2 ∧ NodB wx bb bs2.s bs2.cost (.slice pb pn pc) ∧ Row wx (.slice pb pn pc) (ints bs2.path) ∧ Below W4.heap.size W4 wx)
  case first =>
    have HBR := Lib.hid (Below.refl W4.heap.size W4).drew
    have HYn := Lib.hid (HY.out.later (Below.refl _ W4).drew)
    have HN1n := Lib.hid (HN1.out.later (Below.refl _ W4).drew)
    have HRn := Lib.hid (HR.out.below (Below.refl _ W4).drew)
    have HBn := Lib.hid HB.out.drew
    clear HY HN1 HR HB
    have HY := HYn
    have HN1 := HN1n
    have HR := HRn
    have HB := HBn
    clear HYn HN1n HRn HBn
    have HS0 := Lib.hid (show Holds (cellsI w.heap.size I0 (.slice ad I0.l.length cap)) W4.drew from ⟨HY.out.cells.1, HY.out.cells.2.1, HY.out.cells.2.2.1, HY.out.cells.2.2.2, trivial⟩)
    refine wp_region_held_drew (S := Holds (cellsI w.heap.size I0 (.slice ad I0.l.length cap))) (by kernel_rfl) HS0.out (fun hSn => ?_)
    generalize W4.drew = V at *
    have hlt := Lib.hid (show Lows V.heap.size (cellsI w.heap.size I0 (.slice ad I0.l.length cap)) from (show Lows _ (cellsI w.heap.size I0 (.slice ad I0.l.length cap)) from ⟨HY.out.lt, HY.out.lt, HY.out.lt, HY.out.lt, trivial⟩))
    have Bc := Lib.hid (Below.refl V.heap.size V)
    simp only [cellsI] at HS0 hlt hSn ⊢
    refine tks [0, 1, 3, 4] 4 rfl (by kernel_rfl) (fun _ _ _ _ h => h) (by assumption) (fun KT hKT => ?_)
    iterate 4 (refine tkT (by (simp only [gA, gB, gC]; rfl)) (by rfl) (by (intro w hSw; (simp only [Holds] at hSw); go_simp <;> with_reducible rfl)) ?_; simp only [Act.put, pA, pB, pC])
    refine hKT _ ?_
    clear KT hKT
    refine wpAnyH_ready (rs := [2, 11]) (by kernel_rfl) (by simp) ?_
    refine (AllReadyH.cons (o := ?oz300) ?iz300 (fun K hK => ?kz300) (AllReadyH.cons (o := ?oz301) ?iz301 (fun K hK => ?kz301) AllReadyH.nil))
    case iz300 => (simp only [List.getElem?_toArray, List.getElem?_cons_zero, List.getElem?_cons_succ]; rfl)
    case iz301 => (simp only [List.getElem?_toArray, List.getElem?_cons_zero, List.getElem?_cons_succ]; rfl)
    · skip
      go_simp
      change Calls _ _ #[insV I0 (.slice ad I0.l.length cap)] _ _
      refine (eroot_any (HR.out.below Bc.out)).mono ?_
      rintro e w' ⟨rfl, hb⟩
      refine held_more hK HS0.out hlt (Bc.out.trans (hb.mono Bc.out.size)) (fun Bc hSn => ?_)
      clear hb hK
      refine wpAnyH_ready (rs := [5, 11]) (by kernel_rfl) (by simp) ?_
      refine (AllReadyH.cons (o := ?oz302) ?iz302 (fun K hK => ?kz302) (AllReadyH.cons (o := ?oz303) ?iz303 (fun K hK => ?kz303) AllReadyH.nil))
      case iz302 => (simp only [List.getElem?_toArray, List.getElem?_cons_zero, List.getElem?_cons_succ]; rfl)
      case iz303 => (simp only [List.getElem?_toArray, List.getElem?_cons_zero, List.getElem?_cons_succ]; rfl)
      · skip
        go_simp
        change Calls _ _ #[insV I0 (.slice ad I0.l.length cap), nodeV (rootS I0) 0 (.slice none 0 0), .int .i64 a1, .int .i64 a3] _ _
        refine (ebest_any (I := I0) (n := rootN' I0) (up := a1) (most := a3) (w0 := V) (HR.out.below Bc.out) Bc.out (root_setsE I0) (root_fit I0) (by show Fit 0; unfold Fit; decide) (.inl (row_nil V)) (Nat.zero_le _) (by have := HG.out; omega)).mono ?_
        rw [HO2.out, HAL2.out, HST2.out, HBS2.out, HIS2.out]
        rintro e w6 ⟨pb, pn, pc, rfl, hp, hb⟩
        refine held_more hK HS0.out hlt (Bc.out.trans (hb.mono Bc.out.size)) (fun Bc hSn => ?_)
        have HPX := Lib.hid hp
        clear hb hK hp
        unfold nodeV
        refine tks [6, 7, 8, 9, 10] 5 rfl (by kernel_rfl) (fun _ _ _ _ h => h) (by assumption) (fun KT hKT => ?_)
        iterate 5 (refine tkT (by (simp only [gA, gB, gC]; rfl)) (by rfl) (by (intro w hSw; (simp only [Holds] at hSw); go_simp <;> with_reducible rfl)) ?_; simp only [Act.put, pA, pB, pC])
        refine hKT _ ?_
        clear KT hKT
        have HSZ := Lib.hid Bc.out.size
        refine wpAnyH_ready (rs := [11]) (by kernel_rfl) (by simp) ?_
        refine AllReadyH.cons (o := ?oz304) ?iz304 (fun K hK => ?kz304) AllReadyH.nil
        case iz304 => (simp only [List.getElem?_toArray, List.getElem?_cons_zero, List.getElem?_cons_succ]; rfl)
        go_simp
        refine held_more hK HS0.out hlt (Bc.out.alloc Bc.out.size _) (fun Bc hSn => ?_)
        have HN := Lib.hid (nod_new w6 noughtS 0 (.slice none 0 0))
        change wpAnyH _ _ _ _ _ _ _ _ (w6.alloc (boxN noughtS 0 (.slice none 0 0)))
        have Bc2 := Lib.hid (show Below V.heap.size V (w6.alloc (boxN noughtS 0 (.slice none 0 0))) from Bc.out)
        clear Bc
        have Bc := Bc2
        clear Bc2
        change Holds _ (w6.alloc (boxN noughtS 0 (.slice none 0 0))) at hSn
        have HPXn := Lib.hid (HPX.out.below ((Below.refl w6.heap.size w6).alloc (Nat.le_refl _) (boxN noughtS 0 (.slice none 0 0))))
        clear HPX
        have HPX := HPXn
        clear HPXn
        generalize w6.alloc (boxN noughtS 0 (.slice none 0 0)) = Xn at *
        obtain ⟨bx, hbx⟩ : ∃ bx, bx = w6.heap.size := ⟨_, rfl⟩
        have HLX := Lib.hid (show V.heap.size ≤ bx by rw [hbx]; exact HSZ.out)
        rw [← hbx] at HN ⊢
        clear hbx HSZ
        refine wpAnyH_ready (rs := [12]) (by kernel_rfl) (by simp) ?_
        refine (AllReadyH.cons (o := ?oz305) ?iz305 (fun K hK => ?kz305) AllReadyH.nil)
        case iz305 => (simp only [List.getElem?_toArray, List.getElem?_cons_zero, List.getElem?_cons_succ]; rfl)
        simp only [Act.put]
        rw [if_pos (by rfl)]
        refine wp_store_node (.tmp 14) (.tmp 68) (by rfl) bx _ _ _ ⟨bs2.s, bs2.cost, pb, pn, pc⟩ (by rfl) (by rfl) HN.out ?_
        intro wE hE hbE hoE hgE
        refine held_more hK HS0.out hlt (Bc.out.trans (hbE _ HLX.out)) (fun Bc hSn => ?_)
        have HPE := HPX.out.kept hgE HN.out
        clear hK
        refine tks [13, 14, 15] 3 rfl (by kernel_rfl) (fun _ _ _ _ h => h) (by assumption) (fun KT hKT => ?_)
        iterate 3 (refine tkT (by (simp only [gA, gB, gC]; rfl)) (by rfl) (by (intro w hSw; (simp only [Holds] at hSw); go_simp <;> with_reducible rfl)) ?_; simp only [Act.put, pA, pB, pC])
        refine hKT _ ?_
        clear KT hKT
        refine wpAnyH_done (by kernel_rfl) ?_ _
        go_wp2_with fail
        go_meet
        exact ⟨bx, pb, pn, pc, rfl, rfl, rfl, rfl, hE, HPE.row Bc.out, HBR.out.trans (Bc.out.mono HBR.out.size)⟩
      · skip
        have HSZ := Lib.hid Bc.out.size
        go_simp
        refine held_more hK HS0.out hlt (Bc.out.alloc Bc.out.size _) (fun Bc hSn => ?_)
        clear hK
        have HN := Lib.hid (nod_new w' noughtS 0 (.slice none 0 0))
        change wpAnyH _ _ _ _ _ _ _ _ (w'.alloc (boxN noughtS 0 (.slice none 0 0)))
        have Bc2 := Lib.hid (show Below V.heap.size V (w'.alloc (boxN noughtS 0 (.slice none 0 0))) from Bc.out)
        clear Bc
        have Bc := Bc2
        clear Bc2
        change Holds _ (w'.alloc (boxN noughtS 0 (.slice none 0 0))) at hSn
        generalize w'.alloc (boxN noughtS 0 (.slice none 0 0)) = Xn at *
        obtain ⟨bx, hbx⟩ : ∃ bx, bx = w'.heap.size := ⟨_, rfl⟩
        have HLX := Lib.hid (show V.heap.size ≤ bx by rw [hbx]; exact HSZ.out)
        rw [← hbx] at HN ⊢
        clear hbx HSZ
        refine wpAnyH_ready (rs := [5]) (by kernel_rfl) (by simp) ?_
        refine AllReadyH.cons (o := ?oz306) ?iz306 (fun K hK => ?kz306) AllReadyH.nil
        case iz306 => (simp only [List.getElem?_toArray, List.getElem?_cons_zero, List.getElem?_cons_succ]; rfl)
        go_simp
        change Calls _ _ #[insV I0 (.slice ad I0.l.length cap), nodeV (rootS I0) 0 (.slice none 0 0), .int .i64 a1, .int .i64 a3] _ _
        refine (ebest_any (I := I0) (n := rootN' I0) (up := a1) (most := a3) (w0 := V) (HR.out.below Bc.out) Bc.out (root_setsE I0) (root_fit I0) (by show Fit 0; unfold Fit; decide) (.inl (row_nil V)) (Nat.zero_le _) (by have := HG.out; omega)).mono ?_
        rw [HO2.out, HAL2.out, HST2.out, HBS2.out, HIS2.out]
        rintro e w6 ⟨pb, pn, pc, rfl, hp, hb⟩
        refine held_more hK HS0.out hlt (Bc.out.trans (hb.mono Bc.out.size)) (fun Bc hSn => ?_)
        have HNn := Lib.hid (HN.out.later hb)
        clear HN
        have HN := HNn
        clear HNn
        have HPX := Lib.hid hp
        clear hb hK hp
        unfold nodeV
        refine tks [6, 7, 8, 9, 10] 5 rfl (by kernel_rfl) (fun _ _ _ _ h => h) (by assumption) (fun KT hKT => ?_)
        iterate 5 (refine tkT (by (simp only [gA, gB, gC]; rfl)) (by rfl) (by (intro w hSw; (simp only [Holds] at hSw); go_simp <;> with_reducible rfl)) ?_; simp only [Act.put, pA, pB, pC])
        refine hKT _ ?_
        clear KT hKT
        refine wpAnyH_ready (rs := [12]) (by kernel_rfl) (by simp) ?_
        refine (AllReadyH.cons (o := ?oz307) ?iz307 (fun K hK => ?kz307) AllReadyH.nil)
        case iz307 => (simp only [List.getElem?_toArray, List.getElem?_cons_zero, List.getElem?_cons_succ]; rfl)
        simp only [Act.put]
        rw [if_pos (by rfl)]
        refine wp_store_node (.tmp 14) (.tmp 68) (by rfl) bx _ _ _ ⟨bs2.s, bs2.cost, pb, pn, pc⟩ (by rfl) (by rfl) HN.out ?_
        intro wE hE hbE hoE hgE
        refine held_more hK HS0.out hlt (Bc.out.trans (hbE _ HLX.out)) (fun Bc hSn => ?_)
        have HPE := HPX.out.kept hgE HN.out
        clear hK
        refine tks [13, 14, 15] 3 rfl (by kernel_rfl) (fun _ _ _ _ h => h) (by assumption) (fun KT hKT => ?_)
        iterate 3 (refine tkT (by (simp only [gA, gB, gC]; rfl)) (by rfl) (by (intro w hSw; (simp only [Holds] at hSw); go_simp <;> with_reducible rfl)) ?_; simp only [Act.put, pA, pB, pC])
        refine hKT _ ?_
        clear KT hKT
        refine wpAnyH_done (by kernel_rfl) ?_ _
        go_wp2_with fail
        go_meet
        exact ⟨bx, pb, pn, pc, rfl, rfl, rfl, rfl, hE, HPE.row Bc.out, HBR.out.trans (Bc.out.mono HBR.out.size)⟩
    · skip
      have HSZ := Lib.hid Bc.out.size
      go_simp
      refine held_more hK HS0.out hlt (Bc.out.alloc Bc.out.size _) (fun Bc hSn => ?_)
      clear hK
      have HN := Lib.hid (nod_new V noughtS 0 (.slice none 0 0))
      change wpAnyH _ _ _ _ _ _ _ _ (V.alloc (boxN noughtS 0 (.slice none 0 0)))
      have Bc2 := Lib.hid (show Below V.heap.size V (V.alloc (boxN noughtS 0 (.slice none 0 0))) from Bc.out)
      clear Bc
      have Bc := Bc2
      clear Bc2
      change Holds _ (V.alloc (boxN noughtS 0 (.slice none 0 0))) at hSn
      generalize V.alloc (boxN noughtS 0 (.slice none 0 0)) = Xn at *
      obtain ⟨bx, hbx⟩ : ∃ bx, bx = V.heap.size := ⟨_, rfl⟩
      have HLX := Lib.hid (show V.heap.size ≤ bx by rw [hbx]; exact HSZ.out)
      rw [← hbx] at HN ⊢
      clear hbx HSZ
      refine wpAnyH_ready (rs := [2]) (by kernel_rfl) (by simp) ?_
      refine AllReadyH.cons (o := ?oz308) ?iz308 (fun K hK => ?kz308) AllReadyH.nil
      case iz308 => (simp only [List.getElem?_toArray, List.getElem?_cons_zero, List.getElem?_cons_succ]; rfl)
      go_simp
      change Calls _ _ #[insV I0 (.slice ad I0.l.length cap)] _ _
      refine (eroot_any (HR.out.below Bc.out)).mono ?_
      rintro e w' ⟨rfl, hb⟩
      refine held_more hK HS0.out hlt (Bc.out.trans (hb.mono Bc.out.size)) (fun Bc hSn => ?_)
      have HNn := Lib.hid (HN.out.later hb)
      clear HN
      have HN := HNn
      clear HNn
      clear hb hK
      refine wpAnyH_ready (rs := [5]) (by kernel_rfl) (by simp) ?_
      refine AllReadyH.cons (o := ?oz309) ?iz309 (fun K hK => ?kz309) AllReadyH.nil
      case iz309 => (simp only [List.getElem?_toArray, List.getElem?_cons_zero, List.getElem?_cons_succ]; rfl)
      go_simp
      change Calls _ _ #[insV I0 (.slice ad I0.l.length cap), nodeV (rootS I0) 0 (.slice none 0 0), .int .i64 a1, .int .i64 a3] _ _
      refine (ebest_any (I := I0) (n := rootN' I0) (up := a1) (most := a3) (w0 := V) (HR.out.below Bc.out) Bc.out (root_setsE I0) (root_fit I0) (by show Fit 0; unfold Fit; decide) (.inl (row_nil V)) (Nat.zero_le _) (by have := HG.out; omega)).mono ?_
      rw [HO2.out, HAL2.out, HST2.out, HBS2.out, HIS2.out]
      rintro e w6 ⟨pb, pn, pc, rfl, hp, hb⟩
      refine held_more hK HS0.out hlt (Bc.out.trans (hb.mono Bc.out.size)) (fun Bc hSn => ?_)
      have HNn := Lib.hid (HN.out.later hb)
      clear HN
      have HN := HNn
      clear HNn
      have HPX := Lib.hid hp
      clear hb hK hp
      unfold nodeV
      refine tks [6, 7, 8, 9, 10] 5 rfl (by kernel_rfl) (fun _ _ _ _ h => h) (by assumption) (fun KT hKT => ?_)
      iterate 5 (refine tkT (by (simp only [gA, gB, gC]; rfl)) (by rfl) (by (intro w hSw; (simp only [Holds] at hSw); go_simp <;> with_reducible rfl)) ?_; simp only [Act.put, pA, pB, pC])
      refine hKT _ ?_
      clear KT hKT
      refine wpAnyH_ready (rs := [12]) (by kernel_rfl) (by simp) ?_
      refine (AllReadyH.cons (o := ?oz310) ?iz310 (fun K hK => ?kz310) AllReadyH.nil)
      case iz310 => (simp only [List.getElem?_toArray, List.getElem?_cons_zero, List.getElem?_cons_succ]; rfl)
      simp only [Act.put]
      rw [if_pos (by rfl)]
      refine wp_store_node (.tmp 14) (.tmp 68) (by rfl) bx _ _ _ ⟨bs2.s, bs2.cost, pb, pn, pc⟩ (by rfl) (by rfl) HN.out ?_
      intro wE hE hbE hoE hgE
      refine held_more hK HS0.out hlt (Bc.out.trans (hbE _ HLX.out)) (fun Bc hSn => ?_)
      have HPE := HPX.out.kept hgE HN.out
      clear hK
      refine tks [13, 14, 15] 3 rfl (by kernel_rfl) (fun _ _ _ _ h => h) (by assumption) (fun KT hKT => ?_)
      iterate 3 (refine tkT (by (simp only [gA, gB, gC]; rfl)) (by rfl) (by (intro w hSw; (simp only [Holds] at hSw); go_simp <;> with_reducible rfl)) ?_; simp only [Act.put, pA, pB, pC])
      refine hKT _ ?_
      clear KT hKT
      refine wpAnyH_done (by kernel_rfl) ?_ _
      go_wp2_with fail
      go_meet
      exact ⟨bx, pb, pn, pc, rfl, rfl, rfl, rfl, hE, HPE.row Bc.out, HBR.out.trans (Bc.out.mono HBR.out.size)⟩
  case rest =>
  obtain ⟨bb2, pb2, pn2, pc2, rfl, rfl, rfl, rfl, f1, f2, hb⟩ := hcut
  have HN2 := Lib.hid f1
  have HP2 := Lib.hid f2
  clear f1 f2
  have HYn := Lib.hid (HY.out.later hb)
  clear HY
  have HY := HYn
  clear HYn
  have HRn := Lib.hid (HR.out.below hb)
  clear HR
  have HR := HRn
  clear HRn
  have HN1n := Lib.hid (HN1.out.later hb)
  clear HN1
  have HN1 := HN1n
  clear HN1n
  have HBn := Lib.hid (HB.out.trans (hb.mono HB.out.size))
  clear HB
  have HB := HBn
  clear HBn
  clear hb
  generalize wc = W5 at *
  have HW := Lib.hid (show al1 = true → is1 = is2 ∧ al2 = true ∧ st1 = st2 ∧ bs1.cost = bs2.cost from fun h => by
    rw [← HAL1.out] at h
    have e := run_wider (I := I0) (show a2 ≤ a3 from HG.out.2.1) 44 [rootN' I0] none a1 0 h
    have e1 : o2 = o1 := by rw [← HO2.out, ← HO1.out, e]
    refine ⟨?_, ?_, ?_, ?_⟩
    · rw [← HIS1.out, ← HIS2.out, e1]
    · rw [← HAL2.out, e]; exact h
    · rw [← HST1.out, ← HST2.out, e]
    · rw [← HBS1.out, ← HBS2.out, e1])
  have HV := Lib.hid (show (is1 = true → is2 = true ∧ bs2.cost ≤ bs1.cost) ∧ st1 ≤ st2 by
    obtain ⟨h1, h2, h3⟩ := exact_more (I := I0) (lim := a1) (show a2 ≤ a3 from HG.out.2.1) 44 [rootN' I0] none 0
    rw [show upOf a1 none = a1 from rfl, HO1.out, HO2.out] at h2 h3
    rw [show upOf a1 none = a1 from rfl, HST1.out, HST2.out] at h1
    refine ⟨fun h => ?_, h1⟩
    rw [← HIS1.out] at h
    rw [← HIS2.out, ← HBS1.out, ← HBS2.out]
    cases o1 with
    | none => cases h
    | some m =>
      have h4 := h3 (by simp)
      cases o2 with
      | none => exact absurd rfl h4
      | some n => exact ⟨rfl, h2⟩)
  have x8 := HN1.out.c8
  have q8 := HN2.out.c8
  clear HO1 HAL1 HST1 HBS1 HIS1 HO2 HAL2 HST2 HBS2 HIS2
  cases al1 with
  | true =>
    obtain ⟨rfl, rfl, rfl, h4⟩ := HW.out rfl
    rw [← h4] at q8
    have b1 : (is1 == is1) = true := by simp
    have b2 : (st1 == st1) = true := by simp
    have b3 : (bs1.cost == bs1.cost) = true := by simp
    clear HW HV h4
    go_wp2
    go_ret
    exact ⟨by first | rfl | simp, HB.out⟩
  | false =>
    obtain ⟨h1, h2⟩ := HV.out
    have d2' := decide_eq_true h2
    clear HW HV h2
    cases is1 with
    | true =>
      obtain ⟨rfl, h4⟩ := h1 rfl
      have d3' := decide_eq_true h4
      clear h1 h4
      go_wp2
      go_ret
      exact ⟨by first | rfl | simp, HB.out⟩
    | false =>
      clear h1
      go_wp2
      go_ret
      exact ⟨by first | rfl | simp, HB.out⟩

set_option maxRecDepth 100000 in
theorem lifted (os : Os) (started : os.Started) (H : Type) (enc : TypeId × Value → H) :
    ReturnsInHanded {} Try.checked os 12 .any (Rows.exactWiderSpec.pre6 enc Try.prog Try.f12 Rows.exactWiderRow.domain false) (Rows.exactWiderSpec.post enc Try.prog Try.f12 false true false false) := by
  refine returnsInHanded_of_change (C := Try.checked) own started (by kernel_rfl) Try.func12
    (ChangeSpec.witness6 (enc := enc) (C := Try.checked) false ⟨#[], #[.agg #[.int .i64 0, .int .i64 0, .int .i64 0, .slice none 0 0], .int .i64 0, .int .i64 0, .int .i64 0], []⟩ 8 (by kernel_rfl) (by kernel_rfl) (by kernel_rfl) (by kernel_rfl)) ?_
  intro W base args ds gs before hval0 hW hcnd _
  have hval : ∀ (j : Nat) t v, Try.f12.params[j]? = some t → args[j]? = some v → Value.okWide Try.prog W .any base t v := hval0
  have hW' := hW
  obtain ⟨p, q, hA0, hV, rfl, hfz, hnd⟩ := hW
  have hA : DataW.TrodAll enc Try.prog W 0 (fun _ => true) true Try.f12.params.toList args.toList ds p := hA0
  rw [Try.params12] at hA hval
  obtain ⟨v0, vs0, d0, ds0, p0, q0, hargs, rfl, rfl, h0, r0⟩ := trodAll_cons hA
  obtain ⟨v1, vs1, d1, ds1, p1, q1, rfl, rfl, rfl, h1, r1⟩ := trodAll_cons r0
  obtain ⟨v2, vs2, d2, ds2, p2, q2, rfl, rfl, rfl, h2, r2⟩ := trodAll_cons r1
  obtain ⟨v3, vs3, d3, ds3, p3, q3, rfl, rfl, rfl, h3, r3⟩ := trodAll_cons r2
  obtain ⟨rfl, rfl, rfl⟩ := trodAll_nil r3
  obtain rfl : args = #[v0, v1, v2, v3] := by cases args; simp_all
  obtain ⟨rfl, rfl⟩ := trodVars_none hV
  have k0 := h0
  have lt0 : ∀ x ∈ p0, x.block < W.heap.size := by obtain ⟨m, hm⟩ := k0; exact DataW.trod_lt m _ _ _ hm
  have k1 := h1
  have lt1 : ∀ x ∈ p1, x.block < W.heap.size := by obtain ⟨m, hm⟩ := k1; exact DataW.trod_lt m _ _ _ hm
  have k2 := h2
  have lt2 : ∀ x ∈ p2, x.block < W.heap.size := by obtain ⟨m, hm⟩ := k2; exact DataW.trod_lt m _ _ _ hm
  have k3 := h3
  have lt3 : ∀ x ∈ p3, x.block < W.heap.size := by obtain ⟨m, hm⟩ := k3; exact DataW.trod_lt m _ _ _ hm
  obtain ⟨I0, u0, rfl, e0, _⟩ := open_inst (hval 0 24 v0 rfl rfl) h0
  obtain ⟨a1, rfl, rfl, rfl, i1⟩ := open_int Try.underlying3 (hval 1 3 v1 rfl rfl) h1
  obtain ⟨a2, rfl, rfl, rfl, i2⟩ := open_int Try.underlying3 (hval 2 3 v2 rfl rfl) h2
  obtain ⟨a3, rfl, rfl, rfl, i3⟩ := open_int Try.underlying3 (hval 3 3 v3 rfl rfl) h3
  clear hA0 hval0
  refine (walk I0 _ a1 a2 a3 W e0).mono fun e W' ⟨he, bel⟩ => ?_
  subst he
  exact ⟨_, rfl, _, _, _, [], _, [], hW', trodAll_mk1 (shut_bool Try.underlying4 _), (trodAll_cons_mk (Below.trod laidOut (by kernel_rfl) (of_decide_eq_true (by kernel_rfl)) k0 bel lt0) (trodAll_cons_mk (Below.trod laidOut (by kernel_rfl) (of_decide_eq_true (by kernel_rfl)) k1 bel lt1) (trodAll_cons_mk (Below.trod laidOut (by kernel_rfl) (of_decide_eq_true (by kernel_rfl)) k2 bel lt2) (trodAll_cons_mk (Below.trod laidOut (by kernel_rfl) (of_decide_eq_true (by kernel_rfl)) k3 bel lt3) trodAll_mk0)))), rfl, bel.frame _, fun h => by cases h⟩

theorem over : Rows.exactWiderRow.holds Try.pinned (OpenSpec.ofChange Rows.exactWiderSpec) :=
  OpenClaim.holds_of_wide 12 Try.f12 rfl rfl rfl rfl rfl rfl rfl ⟨rfl, rfl, rfl, rfl, rfl⟩ rfl rfl rfl rfl rfl (by kernel_rfl) Try.func12 (by show joinedFacts Try.checked.prog _ _ _ _ = true; unfold joinedFacts; rw [ord_may, ord_lifts, ord_make]; kernel_rfl)
    (of_decide_eq_true (by kernel_rfl)) (by unfold Func.isWrapper; first | (rw [if_pos (by decide +kernel)]; kernel_rfl) | (rw [if_neg (by decide +kernel)]; exact ⟨rfl, rfl⟩))
    (fun os started H enc _ => lifted os started H enc)

theorem proved : Rows.ExactWiderSaid := over
#print axioms proved
end Go.Proofs.Ytaaljploegiihaa.exactWider
