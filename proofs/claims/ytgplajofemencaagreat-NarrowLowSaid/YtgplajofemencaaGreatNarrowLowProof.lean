/- NarrowLow (P16.1, P16.2) -/
import Derived.Test.YtgplajofemencaaGreatOrd
import Derived.Test.YtgplajofemencaaGreatRows
import Derived.Test.YtgplajofemencaaGreatNAwake
import Derived.Test.YtgplajofemencaaGreatEMore
import Derived.Test.YtgplajofemencaaGreatNProg
import Derived.Test.YtgplajofemencaaGreatEProg
import Derived.Test.YtgplajofemencaaGreatEOpen
import Derived.Test.YtgplajofemencaaGreatYL
import Derived.Test.YtgplajofemencaaGreatXIMay
import Derived.Test.YtgplajofemencaaGreatYM
import Derived.Test.YtgplajofemencaaGreatYI
import Derived.Test.YtgplajofemencaaGreatXN
import Derived.Test.YtgplajofemencaaGreatYF
import Derived.Test.YtgplajofemencaaGreatYJ
import Derived.Test.YtgplajofemencaaGreatYG
import Derived.Test.YtgplajofemencaaGreatXU
import Derived.Test.YtgplajofemencaaGreatYE
import Derived.Test.YtgplajofemencaaGreatYD
import Derived.Test.YtgplajofemencaaGreatXSPlan
namespace Go.Proofs.YtgplajofemencaaGreat.narrowLow
open Go.ChangeShapes Go.WideShapes Go.ChangeAt Go.RowKit

set_option maxRecDepth 1000000 in
set_option maxHeartbeats 4000000 in
theorem walk (I0 : Ins) (v0 : Value) (a1 : Int) (a2 : Int) (w : World) (e0 : SRow w v0 I0.l) :
    Calls Tryz.prog 7 #[insV I0 v0, .int .i64 a1, .int .i64 a2] w fun e w' => e = .returned (.bool true) ∧ Below w.heap.size w w' := by
  have HR := Lib.hid e0
  obtain ⟨ad, cap, rfl, hlm, _⟩ := e0.form
  clear e0
  unfold insV
  go_enter Tryz.func7, Tryz.ntmps7
  go_upto_region 1 with fail
  have HY := Lib.hid (ybox_new w I0 (.slice ad I0.l.length cap))
  have HB := Lib.hid ((Below.refl w.heap.size w).alloc (Nat.le_refl _) (boxI I0 (.slice ad I0.l.length cap)))
  change Code.wp _ _ _ _ (w.alloc (boxI I0 (.slice ad I0.l.length cap)))
  generalize hW : w.alloc (boxI I0 (.slice ad I0.l.length cap)) = W at *
  have HRn := Lib.hid (HR.out.below HB.out)
  clear HR
  have HR := HRn
  clear HRn
  clear hW
  go_wp2_with fail
  refine (nawake_any _).mono ?_
  rintro e w1 ⟨rfl, hb⟩
  have HYn := Lib.hid (HY.out.later hb)
  clear HY
  have HY := HYn
  clear HYn
  have HRn := Lib.hid (HR.out.below hb)
  clear HR
  have HR := HRn
  clear HRn
  have HBn := Lib.hid (HB.out.trans (hb.mono HB.out.size))
  clear HB
  have HB := HBn
  clear HBn
  clear hb
  obtain ⟨y0, y1, y2, y3⟩ := HY.out.cells
  by_cases g2 : 9 < I0.l.length
  · have d2 : decide ((9 : Int) < (I0.l.length : Int)) = true := decide_eq_true (by omega)
    have f2 := decide_eq_true g2
    clear g2
    go_wp2
    go_ret
    exact ⟨rfl, HB.out⟩
  have d2 : decide ((9 : Int) < (I0.l.length : Int)) = false := decide_eq_false (by omega)
  have f2 := decide_eq_false g2
  by_cases g3 : 1 < a1
  · have d3 : decide (1 < a1) = true := decide_eq_true (by omega)
    have f3 := decide_eq_true g3
    clear g3
    go_wp2
    go_ret
    exact ⟨rfl, HB.out⟩
  have d3 : decide (1 < a1) = false := decide_eq_false (by omega)
  have f3 := decide_eq_false g3
  have HA1 := Lib.hid (show ¬ 1 < a1 from g3)
  clear g2 g3
  go_wp2_with fail
  clear y0 y1 y2 y3
  change Calls _ _ #[insV I0 (.slice ad I0.l.length cap)] _ _
  refine (may_any HR.out).mono ?_
  rintro e w2 ⟨rfl, hb⟩
  have HYn := Lib.hid (HY.out.later hb)
  clear HY
  have HY := HYn
  clear HYn
  have HRn := Lib.hid (HR.out.below hb)
  clear HR
  have HR := HRn
  clear HRn
  have HBn := Lib.hid (HB.out.trans (hb.mono HB.out.size))
  clear HB
  have HB := HBn
  clear HBn
  clear hb
  by_cases hm : mayB I0 = true
  rotate_left
  · have hmf : mayB I0 = false := by simpa using hm
    rw [hmf]
    clear hm hmf
    go_wp2
    go_ret
    exact ⟨rfl, HB.out⟩
  rw [hm]
  have HM := Lib.hid hm
  have HRK := Lib.hid (show rankS I0 (rootS I0) < 44 by have h1 := rank_root hm; have h2 := (fine_of hm).p1; have h3 := (inb_iff _ _ _).1 ((may_iff I0).1 hm).2.1; omega)
  have HPC := Lib.hid (show (0 ≤ I0.p ∧ I0.p ≤ 16) ∧ 1 ≤ I0.c ∧ I0.c ≤ 8 by have h1 := (fine_of hm).p0; have h2 := (fine_of hm).p1; have h3 := (inb_iff _ _ _).1 ((may_iff I0).1 hm).2.1; omega)
  clear hm
  obtain ⟨o1, ho1⟩ : ∃ o, (narrowRun I0 (widN a1) 44 [rootN' I0] none a2 0).1 = o := ⟨_, rfl⟩
  obtain ⟨st1, hst1⟩ : ∃ o, (narrowRun I0 (widN a1) 44 [rootN' I0] none a2 0).2 = o := ⟨_, rfl⟩
  obtain ⟨bs1, hbs1⟩ : ∃ b, bestV o1 = b := ⟨_, rfl⟩
  obtain ⟨is1, his1⟩ : ∃ b, o1.isSome = b := ⟨_, rfl⟩
  have HO1 := Lib.hid ho1
  have HST1 := Lib.hid hst1
  have HBS1 := Lib.hid hbs1
  have HIS1 := Lib.hid his1
  clear ho1 hst1 hbs1 his1
  go_upto_region 4 with fail
  go_cut [8, 9, 10] from 33 (fun p v0 v1 wx => ∃ bb pb pn pc, p = .pointer (some ⟨bb, 0, none⟩) ∧ v0 = .bool is1 ∧ v1 = .int .i64 st1 ∧ NodB wx bb bs1.s bs1.cost (.slice pb pn pc) ∧ Row wx (.slice pb pn pc) (ints bs1.path) ∧ Below w2.heap.size w2 wx)
  case first =>
    have HBR := Lib.hid (Below.refl w2.heap.size w2).drew
    have HYn := Lib.hid (HY.out.later (Below.refl _ w2).drew)
    have HRn := Lib.hid (HR.out.below (Below.refl _ w2).drew)
    have HBn := Lib.hid HB.out.drew
    clear HY HR HB
    have HY := HYn
    have HR := HRn
    have HB := HBn
    clear HYn HRn HBn
    have HS0 := Lib.hid (show Holds (cellsI w.heap.size I0 (.slice ad I0.l.length cap)) w2.drew from ⟨HY.out.cells.1, HY.out.cells.2.1, HY.out.cells.2.2.1, HY.out.cells.2.2.2, trivial⟩)
    refine wp_region_held_drew (S := Holds (cellsI w.heap.size I0 (.slice ad I0.l.length cap))) (by kernel_rfl) HS0.out (fun hSn => ?_)
    generalize w2.drew = V at *
    have hlt := Lib.hid (show Lows V.heap.size (cellsI w.heap.size I0 (.slice ad I0.l.length cap)) from (show Lows _ (cellsI w.heap.size I0 (.slice ad I0.l.length cap)) from ⟨HY.out.lt, HY.out.lt, HY.out.lt, HY.out.lt, trivial⟩))
    have Bc := Lib.hid (Below.refl V.heap.size V)
    simp only [cellsI] at HS0 hlt hSn ⊢
    refine tks [0, 1, 3, 4] 4 rfl (by kernel_rfl) (fun _ _ _ _ h => h) (by assumption) (fun KT hKT => ?_)
    iterate 4 (refine tkT (by (simp only [gA, gB, gC]; rfl)) (by rfl) (by (intro w hSw; (simp only [Holds] at hSw); go_simp <;> with_reducible rfl)) ?_; simp only [Act.put, pA, pB, pC])
    refine hKT _ ?_
    clear KT hKT
    refine wpAnyH_ready (rs := [2, 10]) (by kernel_rfl) (by simp) ?_
    refine (AllReadyH.cons (o := ?oz378) ?iz378 (fun K hK => ?kz378) (AllReadyH.cons (o := ?oz379) ?iz379 (fun K hK => ?kz379) AllReadyH.nil))
    case iz378 => (simp only [List.getElem?_toArray, List.getElem?_cons_zero, List.getElem?_cons_succ]; rfl)
    case iz379 => (simp only [List.getElem?_toArray, List.getElem?_cons_zero, List.getElem?_cons_succ]; rfl)
    · skip
      go_simp
      change Calls _ _ #[insV I0 (.slice ad I0.l.length cap)] _ _
      refine (eroot_any (HR.out.below Bc.out)).mono ?_
      rintro e w' ⟨rfl, hb⟩
      refine held_more hK HS0.out hlt (Bc.out.trans (hb.mono Bc.out.size)) (fun Bc hSn => ?_)
      clear hb hK
      refine wpAnyH_ready (rs := [5, 10]) (by kernel_rfl) (by simp) ?_
      refine (AllReadyH.cons (o := ?oz380) ?iz380 (fun K hK => ?kz380) (AllReadyH.cons (o := ?oz381) ?iz381 (fun K hK => ?kz381) AllReadyH.nil))
      case iz380 => (simp only [List.getElem?_toArray, List.getElem?_cons_zero, List.getElem?_cons_succ]; rfl)
      case iz381 => (simp only [List.getElem?_toArray, List.getElem?_cons_zero, List.getElem?_cons_succ]; rfl)
      · skip
        go_simp
        change Calls _ _ #[insV I0 (.slice ad I0.l.length cap), nodeV (rootS I0) 0 (.slice none 0 0), .int .i64 a1, .int .i64 a2] _ _
        refine (nbest_any (I := I0) (n := rootN' I0) (up := a2) (width := a1) (w0 := V) (HR.out.below Bc.out) Bc.out (root_setsE I0) (root_fit I0) (by show Fit 0; unfold Fit; decide) (.inl (row_nil V)) (Nat.zero_le _) (by have := HA1.out; omega)).mono ?_
        rw [HO1.out, HST1.out, HBS1.out, HIS1.out]
        rintro e w6 ⟨pb, pn, pc, rfl, hp, hb⟩
        refine held_more hK HS0.out hlt (Bc.out.trans (hb.mono Bc.out.size)) (fun Bc hSn => ?_)
        have HPX := Lib.hid hp
        clear hb hK hp
        unfold nodeV
        refine tks [6, 7, 8, 9] 4 rfl (by kernel_rfl) (fun _ _ _ _ h => h) (by assumption) (fun KT hKT => ?_)
        iterate 4 (refine tkT (by (simp only [gA, gB, gC]; rfl)) (by rfl) (by (intro w hSw; (simp only [Holds] at hSw); go_simp <;> with_reducible rfl)) ?_; simp only [Act.put, pA, pB, pC])
        refine hKT _ ?_
        clear KT hKT
        have HSZ := Lib.hid Bc.out.size
        refine wpAnyH_ready (rs := [10]) (by kernel_rfl) (by simp) ?_
        refine AllReadyH.cons (o := ?oz382) ?iz382 (fun K hK => ?kz382) AllReadyH.nil
        case iz382 => (simp only [List.getElem?_toArray, List.getElem?_cons_zero, List.getElem?_cons_succ]; rfl)
        go_simp
        refine held_more hK HS0.out hlt (Bc.out.alloc Bc.out.size _) (fun Bc hSn => ?_)
        have HN := Lib.hid (nod_new w6 noughtS 0 (.slice none 0 0))
        change wpAnyH _ _ _ _ _ _ _ _ (w6.alloc (boxN noughtS 0 (.slice none 0 0)))
        have Bc2 := Lib.hid (show Below V.heap.size V (w6.alloc (boxN noughtS 0 (.slice none 0 0))) from Bc.out)
        clear Bc
        have Bc := Bc2
        clear Bc2
        change Holds _ (w6.alloc (boxN noughtS 0 (.slice none 0 0))) at hSn
        have HPXn := Lib.hid (HPX.out.below ((Below.refl w6.heap.size w6).alloc (Nat.le_refl _) (boxN noughtS 0 (.slice none 0 0))))
        clear HPX
        have HPX := HPXn
        clear HPXn
        generalize w6.alloc (boxN noughtS 0 (.slice none 0 0)) = Xn at *
        obtain ⟨bx, hbx⟩ : ∃ bx, bx = w6.heap.size := ⟨_, rfl⟩
        have HLX := Lib.hid (show V.heap.size ≤ bx by rw [hbx]; exact HSZ.out)
        rw [← hbx] at HN ⊢
        clear hbx HSZ
        refine wpAnyH_ready (rs := [11]) (by kernel_rfl) (by simp) ?_
        refine (AllReadyH.cons (o := ?oz383) ?iz383 (fun K hK => ?kz383) AllReadyH.nil)
        case iz383 => (simp only [List.getElem?_toArray, List.getElem?_cons_zero, List.getElem?_cons_succ]; rfl)
        simp only [Act.put]
        rw [if_pos (by rfl)]
        refine wp_store_node (.tmp 8) (.tmp 40) (by rfl) bx _ _ _ ⟨bs1.s, bs1.cost, pb, pn, pc⟩ (by rfl) (by rfl) HN.out ?_
        intro wE hE hbE hoE hgE
        refine held_more hK HS0.out hlt (Bc.out.trans (hbE _ HLX.out)) (fun Bc hSn => ?_)
        have HPE := HPX.out.kept hgE HN.out
        clear hK
        refine tks [12, 13] 2 rfl (by kernel_rfl) (fun _ _ _ _ h => h) (by assumption) (fun KT hKT => ?_)
        iterate 2 (refine tkT (by (simp only [gA, gB, gC]; rfl)) (by rfl) (by (intro w hSw; (simp only [Holds] at hSw); go_simp <;> with_reducible rfl)) ?_; simp only [Act.put, pA, pB, pC])
        refine hKT _ ?_
        clear KT hKT
        refine wpAnyH_done (by kernel_rfl) ?_ _
        go_wp2_with fail
        go_meet
        exact ⟨bx, pb, pn, pc, rfl, rfl, rfl, hE, HPE.row Bc.out, HBR.out.trans (Bc.out.mono HBR.out.size)⟩
      · skip
        have HSZ := Lib.hid Bc.out.size
        go_simp
        refine held_more hK HS0.out hlt (Bc.out.alloc Bc.out.size _) (fun Bc hSn => ?_)
        clear hK
        have HN := Lib.hid (nod_new w' noughtS 0 (.slice none 0 0))
        change wpAnyH _ _ _ _ _ _ _ _ (w'.alloc (boxN noughtS 0 (.slice none 0 0)))
        have Bc2 := Lib.hid (show Below V.heap.size V (w'.alloc (boxN noughtS 0 (.slice none 0 0))) from Bc.out)
        clear Bc
        have Bc := Bc2
        clear Bc2
        change Holds _ (w'.alloc (boxN noughtS 0 (.slice none 0 0))) at hSn
        generalize w'.alloc (boxN noughtS 0 (.slice none 0 0)) = Xn at *
        obtain ⟨bx, hbx⟩ : ∃ bx, bx = w'.heap.size := ⟨_, rfl⟩
        have HLX := Lib.hid (show V.heap.size ≤ bx by rw [hbx]; exact HSZ.out)
        rw [← hbx] at HN ⊢
        clear hbx HSZ
        refine wpAnyH_ready (rs := [5]) (by kernel_rfl) (by simp) ?_
        refine AllReadyH.cons (o := ?oz384) ?iz384 (fun K hK => ?kz384) AllReadyH.nil
        case iz384 => (simp only [List.getElem?_toArray, List.getElem?_cons_zero, List.getElem?_cons_succ]; rfl)
        go_simp
        change Calls _ _ #[insV I0 (.slice ad I0.l.length cap), nodeV (rootS I0) 0 (.slice none 0 0), .int .i64 a1, .int .i64 a2] _ _
        refine (nbest_any (I := I0) (n := rootN' I0) (up := a2) (width := a1) (w0 := V) (HR.out.below Bc.out) Bc.out (root_setsE I0) (root_fit I0) (by show Fit 0; unfold Fit; decide) (.inl (row_nil V)) (Nat.zero_le _) (by have := HA1.out; omega)).mono ?_
        rw [HO1.out, HST1.out, HBS1.out, HIS1.out]
        rintro e w6 ⟨pb, pn, pc, rfl, hp, hb⟩
        refine held_more hK HS0.out hlt (Bc.out.trans (hb.mono Bc.out.size)) (fun Bc hSn => ?_)
        have HNn := Lib.hid (HN.out.later hb)
        clear HN
        have HN := HNn
        clear HNn
        have HPX := Lib.hid hp
        clear hb hK hp
        unfold nodeV
        refine tks [6, 7, 8, 9] 4 rfl (by kernel_rfl) (fun _ _ _ _ h => h) (by assumption) (fun KT hKT => ?_)
        iterate 4 (refine tkT (by (simp only [gA, gB, gC]; rfl)) (by rfl) (by (intro w hSw; (simp only [Holds] at hSw); go_simp <;> with_reducible rfl)) ?_; simp only [Act.put, pA, pB, pC])
        refine hKT _ ?_
        clear KT hKT
        refine wpAnyH_ready (rs := [11]) (by kernel_rfl) (by simp) ?_
        refine (AllReadyH.cons (o := ?oz385) ?iz385 (fun K hK => ?kz385) AllReadyH.nil)
        case iz385 => (simp only [List.getElem?_toArray, List.getElem?_cons_zero, List.getElem?_cons_succ]; rfl)
        simp only [Act.put]
        rw [if_pos (by rfl)]
        refine wp_store_node (.tmp 8) (.tmp 40) (by rfl) bx _ _ _ ⟨bs1.s, bs1.cost, pb, pn, pc⟩ (by rfl) (by rfl) HN.out ?_
        intro wE hE hbE hoE hgE
        refine held_more hK HS0.out hlt (Bc.out.trans (hbE _ HLX.out)) (fun Bc hSn => ?_)
        have HPE := HPX.out.kept hgE HN.out
        clear hK
        refine tks [12, 13] 2 rfl (by kernel_rfl) (fun _ _ _ _ h => h) (by assumption) (fun KT hKT => ?_)
        iterate 2 (refine tkT (by (simp only [gA, gB, gC]; rfl)) (by rfl) (by (intro w hSw; (simp only [Holds] at hSw); go_simp <;> with_reducible rfl)) ?_; simp only [Act.put, pA, pB, pC])
        refine hKT _ ?_
        clear KT hKT
        refine wpAnyH_done (by kernel_rfl) ?_ _
        go_wp2_with fail
        go_meet
        exact ⟨bx, pb, pn, pc, rfl, rfl, rfl, hE, HPE.row Bc.out, HBR.out.trans (Bc.out.mono HBR.out.size)⟩
    · skip
      have HSZ := Lib.hid Bc.out.size
      go_simp
      refine held_more hK HS0.out hlt (Bc.out.alloc Bc.out.size _) (fun Bc hSn => ?_)
      clear hK
      have HN := Lib.hid (nod_new V noughtS 0 (.slice none 0 0))
      change wpAnyH _ _ _ _ _ _ _ _ (V.alloc (boxN noughtS 0 (.slice none 0 0)))
      have Bc2 := Lib.hid (show Below V.heap.size V (V.alloc (boxN noughtS 0 (.slice none 0 0))) from Bc.out)
      clear Bc
      have Bc := Bc2
      clear Bc2
      change Holds _ (V.alloc (boxN noughtS 0 (.slice none 0 0))) at hSn
      generalize V.alloc (boxN noughtS 0 (.slice none 0 0)) = Xn at *
      obtain ⟨bx, hbx⟩ : ∃ bx, bx = V.heap.size := ⟨_, rfl⟩
      have HLX := Lib.hid (show V.heap.size ≤ bx by rw [hbx]; exact HSZ.out)
      rw [← hbx] at HN ⊢
      clear hbx HSZ
      refine wpAnyH_ready (rs := [2]) (by kernel_rfl) (by simp) ?_
      refine AllReadyH.cons (o := ?oz386) ?iz386 (fun K hK => ?kz386) AllReadyH.nil
      case iz386 => (simp only [List.getElem?_toArray, List.getElem?_cons_zero, List.getElem?_cons_succ]; rfl)
      go_simp
      change Calls _ _ #[insV I0 (.slice ad I0.l.length cap)] _ _
      refine (eroot_any (HR.out.below Bc.out)).mono ?_
      rintro e w' ⟨rfl, hb⟩
      refine held_more hK HS0.out hlt (Bc.out.trans (hb.mono Bc.out.size)) (fun Bc hSn => ?_)
      have HNn := Lib.hid (HN.out.later hb)
      clear HN
      have HN := HNn
      clear HNn
      clear hb hK
      refine wpAnyH_ready (rs := [5]) (by kernel_rfl) (by simp) ?_
      refine AllReadyH.cons (o := ?oz387) ?iz387 (fun K hK => ?kz387) AllReadyH.nil
      case iz387 => (simp only [List.getElem?_toArray, List.getElem?_cons_zero, List.getElem?_cons_succ]; rfl)
      go_simp
      change Calls _ _ #[insV I0 (.slice ad I0.l.length cap), nodeV (rootS I0) 0 (.slice none 0 0), .int .i64 a1, .int .i64 a2] _ _
      refine (nbest_any (I := I0) (n := rootN' I0) (up := a2) (width := a1) (w0 := V) (HR.out.below Bc.out) Bc.out (root_setsE I0) (root_fit I0) (by show Fit 0; unfold Fit; decide) (.inl (row_nil V)) (Nat.zero_le _) (by have := HA1.out; omega)).mono ?_
      rw [HO1.out, HST1.out, HBS1.out, HIS1.out]
      rintro e w6 ⟨pb, pn, pc, rfl, hp, hb⟩
      refine held_more hK HS0.out hlt (Bc.out.trans (hb.mono Bc.out.size)) (fun Bc hSn => ?_)
      have HNn := Lib.hid (HN.out.later hb)
      clear HN
      have HN := HNn
      clear HNn
      have HPX := Lib.hid hp
      clear hb hK hp
      unfold nodeV
      refine tks [6, 7, 8, 9] 4 rfl (by kernel_rfl) (fun _ _ _ _ h => h) (by assumption) (fun KT hKT => ?_)
      iterate 4 (refine tkT (by (simp only [gA, gB, gC]; rfl)) (by rfl) (by (intro w hSw; (simp only [Holds] at hSw); go_simp <;> with_reducible rfl)) ?_; simp only [Act.put, pA, pB, pC])
      refine hKT _ ?_
      clear KT hKT
      refine wpAnyH_ready (rs := [11]) (by kernel_rfl) (by simp) ?_
      refine (AllReadyH.cons (o := ?oz388) ?iz388 (fun K hK => ?kz388) AllReadyH.nil)
      case iz388 => (simp only [List.getElem?_toArray, List.getElem?_cons_zero, List.getElem?_cons_succ]; rfl)
      simp only [Act.put]
      rw [if_pos (by rfl)]
      refine wp_store_node (.tmp 8) (.tmp 40) (by rfl) bx _ _ _ ⟨bs1.s, bs1.cost, pb, pn, pc⟩ (by rfl) (by rfl) HN.out ?_
      intro wE hE hbE hoE hgE
      refine held_more hK HS0.out hlt (Bc.out.trans (hbE _ HLX.out)) (fun Bc hSn => ?_)
      have HPE := HPX.out.kept hgE HN.out
      clear hK
      refine tks [12, 13] 2 rfl (by kernel_rfl) (fun _ _ _ _ h => h) (by assumption) (fun KT hKT => ?_)
      iterate 2 (refine tkT (by (simp only [gA, gB, gC]; rfl)) (by rfl) (by (intro w hSw; (simp only [Holds] at hSw); go_simp <;> with_reducible rfl)) ?_; simp only [Act.put, pA, pB, pC])
      refine hKT _ ?_
      clear KT hKT
      refine wpAnyH_done (by kernel_rfl) ?_ _
      go_wp2_with fail
      go_meet
      exact ⟨bx, pb, pn, pc, rfl, rfl, rfl, hE, HPE.row Bc.out, HBR.out.trans (Bc.out.mono HBR.out.size)⟩
  case rest =>
  obtain ⟨bb1, pb1, pn1, pc1, rfl, rfl, rfl, f1, f2, hb⟩ := hcut
  have HN1 := Lib.hid f1
  have HP1 := Lib.hid f2
  clear f1 f2
  have HYn := Lib.hid (HY.out.later hb)
  clear HY
  have HY := HYn
  clear HYn
  have HRn := Lib.hid (HR.out.below hb)
  clear HR
  have HR := HRn
  clear HRn
  have HBn := Lib.hid (HB.out.trans (hb.mono HB.out.size))
  clear HB
  have HB := HBn
  clear HBn
  clear hb
  generalize wc = W4 at *
  obtain ⟨o2, ho2⟩ : ∃ o, (narrowRun I0 (widN 1) 44 [rootN' I0] none a2 0).1 = o := ⟨_, rfl⟩
  obtain ⟨st2, hst2⟩ : ∃ o, (narrowRun I0 (widN 1) 44 [rootN' I0] none a2 0).2 = o := ⟨_, rfl⟩
  obtain ⟨bs2, hbs2⟩ : ∃ b, bestV o2 = b := ⟨_, rfl⟩
  obtain ⟨is2, his2⟩ : ∃ b, o2.isSome = b := ⟨_, rfl⟩
  have HO2 := Lib.hid ho2
  have HST2 := Lib.hid hst2
  have HBS2 := Lib.hid hbs2
  have HIS2 := Lib.hid his2
  clear ho2 hst2 hbs2 his2
  go_upto_region 5 with fail
  go_cut [11, 12, 13] from 43 (fun p v0 v1 wx => ∃ bb pb pn pc, p = .pointer (some ⟨bb, 0, none⟩) ∧ v0 = .bool is2 ∧ v1 = .int .i64 st2 ∧ NodB wx bb bs2.s bs2.cost (.slice pb pn pc) ∧ Row wx (.slice pb pn pc) (ints bs2.path) ∧ Below W4.heap.size W4 wx)
  case first =>
    have HBR := Lib.hid (Below.refl W4.heap.size W4).drew
    have HYn := Lib.hid (HY.out.later (Below.refl _ W4).drew)
    have HN1n := Lib.hid (HN1.out.later (Below.refl _ W4).drew)
    have HRn := Lib.hid (HR.out.below (Below.refl _ W4).drew)
    have HBn := Lib.hid HB.out.drew
    clear HY HN1 HR HB
    have HY := HYn
    have HN1 := HN1n
    have HR := HRn
    have HB := HBn
    clear HYn HN1n HRn HBn
    have HS0 := Lib.hid (show Holds (cellsI w.heap.size I0 (.slice ad I0.l.length cap)) W4.drew from ⟨HY.out.cells.1, HY.out.cells.2.1, HY.out.cells.2.2.1, HY.out.cells.2.2.2, trivial⟩)
    refine wp_region_held_drew (S := Holds (cellsI w.heap.size I0 (.slice ad I0.l.length cap))) (by kernel_rfl) HS0.out (fun hSn => ?_)
    generalize W4.drew = V at *
    have hlt := Lib.hid (show Lows V.heap.size (cellsI w.heap.size I0 (.slice ad I0.l.length cap)) from (show Lows _ (cellsI w.heap.size I0 (.slice ad I0.l.length cap)) from ⟨HY.out.lt, HY.out.lt, HY.out.lt, HY.out.lt, trivial⟩))
    have Bc := Lib.hid (Below.refl V.heap.size V)
    simp only [cellsI] at HS0 hlt hSn ⊢
    refine tks [0, 1, 3] 3 rfl (by kernel_rfl) (fun _ _ _ _ h => h) (by assumption) (fun KT hKT => ?_)
    iterate 3 (refine tkT (by (simp only [gA, gB, gC]; rfl)) (by rfl) (by (intro w hSw; (simp only [Holds] at hSw); go_simp <;> with_reducible rfl)) ?_; simp only [Act.put, pA, pB, pC])
    refine hKT _ ?_
    clear KT hKT
    refine wpAnyH_ready (rs := [2, 9]) (by kernel_rfl) (by simp) ?_
    refine (AllReadyH.cons (o := ?oz389) ?iz389 (fun K hK => ?kz389) (AllReadyH.cons (o := ?oz390) ?iz390 (fun K hK => ?kz390) AllReadyH.nil))
    case iz389 => (simp only [List.getElem?_toArray, List.getElem?_cons_zero, List.getElem?_cons_succ]; rfl)
    case iz390 => (simp only [List.getElem?_toArray, List.getElem?_cons_zero, List.getElem?_cons_succ]; rfl)
    · skip
      go_simp
      change Calls _ _ #[insV I0 (.slice ad I0.l.length cap)] _ _
      refine (eroot_any (HR.out.below Bc.out)).mono ?_
      rintro e w' ⟨rfl, hb⟩
      refine held_more hK HS0.out hlt (Bc.out.trans (hb.mono Bc.out.size)) (fun Bc hSn => ?_)
      clear hb hK
      refine wpAnyH_ready (rs := [4, 9]) (by kernel_rfl) (by simp) ?_
      refine (AllReadyH.cons (o := ?oz391) ?iz391 (fun K hK => ?kz391) (AllReadyH.cons (o := ?oz392) ?iz392 (fun K hK => ?kz392) AllReadyH.nil))
      case iz391 => (simp only [List.getElem?_toArray, List.getElem?_cons_zero, List.getElem?_cons_succ]; rfl)
      case iz392 => (simp only [List.getElem?_toArray, List.getElem?_cons_zero, List.getElem?_cons_succ]; rfl)
      · skip
        go_simp
        change Calls _ _ #[insV I0 (.slice ad I0.l.length cap), nodeV (rootS I0) 0 (.slice none 0 0), .int .i64 1, .int .i64 a2] _ _
        refine (nbest_any (I := I0) (n := rootN' I0) (up := a2) (width := 1) (w0 := V) (HR.out.below Bc.out) Bc.out (root_setsE I0) (root_fit I0) (by show Fit 0; unfold Fit; decide) (.inl (row_nil V)) (Nat.zero_le _) (by decide)).mono ?_
        rw [HO2.out, HST2.out, HBS2.out, HIS2.out]
        rintro e w6 ⟨pb, pn, pc, rfl, hp, hb⟩
        refine held_more hK HS0.out hlt (Bc.out.trans (hb.mono Bc.out.size)) (fun Bc hSn => ?_)
        have HPX := Lib.hid hp
        clear hb hK hp
        unfold nodeV
        refine tks [5, 6, 7, 8] 4 rfl (by kernel_rfl) (fun _ _ _ _ h => h) (by assumption) (fun KT hKT => ?_)
        iterate 4 (refine tkT (by (simp only [gA, gB, gC]; rfl)) (by rfl) (by (intro w hSw; (simp only [Holds] at hSw); go_simp <;> with_reducible rfl)) ?_; simp only [Act.put, pA, pB, pC])
        refine hKT _ ?_
        clear KT hKT
        have HSZ := Lib.hid Bc.out.size
        refine wpAnyH_ready (rs := [9]) (by kernel_rfl) (by simp) ?_
        refine AllReadyH.cons (o := ?oz393) ?iz393 (fun K hK => ?kz393) AllReadyH.nil
        case iz393 => (simp only [List.getElem?_toArray, List.getElem?_cons_zero, List.getElem?_cons_succ]; rfl)
        go_simp
        refine held_more hK HS0.out hlt (Bc.out.alloc Bc.out.size _) (fun Bc hSn => ?_)
        have HN := Lib.hid (nod_new w6 noughtS 0 (.slice none 0 0))
        change wpAnyH _ _ _ _ _ _ _ _ (w6.alloc (boxN noughtS 0 (.slice none 0 0)))
        have Bc2 := Lib.hid (show Below V.heap.size V (w6.alloc (boxN noughtS 0 (.slice none 0 0))) from Bc.out)
        clear Bc
        have Bc := Bc2
        clear Bc2
        change Holds _ (w6.alloc (boxN noughtS 0 (.slice none 0 0))) at hSn
        have HPXn := Lib.hid (HPX.out.below ((Below.refl w6.heap.size w6).alloc (Nat.le_refl _) (boxN noughtS 0 (.slice none 0 0))))
        clear HPX
        have HPX := HPXn
        clear HPXn
        generalize w6.alloc (boxN noughtS 0 (.slice none 0 0)) = Xn at *
        obtain ⟨bx, hbx⟩ : ∃ bx, bx = w6.heap.size := ⟨_, rfl⟩
        have HLX := Lib.hid (show V.heap.size ≤ bx by rw [hbx]; exact HSZ.out)
        rw [← hbx] at HN ⊢
        clear hbx HSZ
        refine wpAnyH_ready (rs := [10]) (by kernel_rfl) (by simp) ?_
        refine (AllReadyH.cons (o := ?oz394) ?iz394 (fun K hK => ?kz394) AllReadyH.nil)
        case iz394 => (simp only [List.getElem?_toArray, List.getElem?_cons_zero, List.getElem?_cons_succ]; rfl)
        simp only [Act.put]
        rw [if_pos (by rfl)]
        refine wp_store_node (.tmp 11) (.tmp 49) (by rfl) bx _ _ _ ⟨bs2.s, bs2.cost, pb, pn, pc⟩ (by rfl) (by rfl) HN.out ?_
        intro wE hE hbE hoE hgE
        refine held_more hK HS0.out hlt (Bc.out.trans (hbE _ HLX.out)) (fun Bc hSn => ?_)
        have HPE := HPX.out.kept hgE HN.out
        clear hK
        refine tks [11, 12] 2 rfl (by kernel_rfl) (fun _ _ _ _ h => h) (by assumption) (fun KT hKT => ?_)
        iterate 2 (refine tkT (by (simp only [gA, gB, gC]; rfl)) (by rfl) (by (intro w hSw; (simp only [Holds] at hSw); go_simp <;> with_reducible rfl)) ?_; simp only [Act.put, pA, pB, pC])
        refine hKT _ ?_
        clear KT hKT
        refine wpAnyH_done (by kernel_rfl) ?_ _
        go_wp2_with fail
        go_meet
        exact ⟨bx, pb, pn, pc, rfl, rfl, rfl, hE, HPE.row Bc.out, HBR.out.trans (Bc.out.mono HBR.out.size)⟩
      · skip
        have HSZ := Lib.hid Bc.out.size
        go_simp
        refine held_more hK HS0.out hlt (Bc.out.alloc Bc.out.size _) (fun Bc hSn => ?_)
        clear hK
        have HN := Lib.hid (nod_new w' noughtS 0 (.slice none 0 0))
        change wpAnyH _ _ _ _ _ _ _ _ (w'.alloc (boxN noughtS 0 (.slice none 0 0)))
        have Bc2 := Lib.hid (show Below V.heap.size V (w'.alloc (boxN noughtS 0 (.slice none 0 0))) from Bc.out)
        clear Bc
        have Bc := Bc2
        clear Bc2
        change Holds _ (w'.alloc (boxN noughtS 0 (.slice none 0 0))) at hSn
        generalize w'.alloc (boxN noughtS 0 (.slice none 0 0)) = Xn at *
        obtain ⟨bx, hbx⟩ : ∃ bx, bx = w'.heap.size := ⟨_, rfl⟩
        have HLX := Lib.hid (show V.heap.size ≤ bx by rw [hbx]; exact HSZ.out)
        rw [← hbx] at HN ⊢
        clear hbx HSZ
        refine wpAnyH_ready (rs := [4]) (by kernel_rfl) (by simp) ?_
        refine AllReadyH.cons (o := ?oz395) ?iz395 (fun K hK => ?kz395) AllReadyH.nil
        case iz395 => (simp only [List.getElem?_toArray, List.getElem?_cons_zero, List.getElem?_cons_succ]; rfl)
        go_simp
        change Calls _ _ #[insV I0 (.slice ad I0.l.length cap), nodeV (rootS I0) 0 (.slice none 0 0), .int .i64 1, .int .i64 a2] _ _
        refine (nbest_any (I := I0) (n := rootN' I0) (up := a2) (width := 1) (w0 := V) (HR.out.below Bc.out) Bc.out (root_setsE I0) (root_fit I0) (by show Fit 0; unfold Fit; decide) (.inl (row_nil V)) (Nat.zero_le _) (by decide)).mono ?_
        rw [HO2.out, HST2.out, HBS2.out, HIS2.out]
        rintro e w6 ⟨pb, pn, pc, rfl, hp, hb⟩
        refine held_more hK HS0.out hlt (Bc.out.trans (hb.mono Bc.out.size)) (fun Bc hSn => ?_)
        have HNn := Lib.hid (HN.out.later hb)
        clear HN
        have HN := HNn
        clear HNn
        have HPX := Lib.hid hp
        clear hb hK hp
        unfold nodeV
        refine tks [5, 6, 7, 8] 4 rfl (by kernel_rfl) (fun _ _ _ _ h => h) (by assumption) (fun KT hKT => ?_)
        iterate 4 (refine tkT (by (simp only [gA, gB, gC]; rfl)) (by rfl) (by (intro w hSw; (simp only [Holds] at hSw); go_simp <;> with_reducible rfl)) ?_; simp only [Act.put, pA, pB, pC])
        refine hKT _ ?_
        clear KT hKT
        refine wpAnyH_ready (rs := [10]) (by kernel_rfl) (by simp) ?_
        refine (AllReadyH.cons (o := ?oz396) ?iz396 (fun K hK => ?kz396) AllReadyH.nil)
        case iz396 => (simp only [List.getElem?_toArray, List.getElem?_cons_zero, List.getElem?_cons_succ]; rfl)
        simp only [Act.put]
        rw [if_pos (by rfl)]
        refine wp_store_node (.tmp 11) (.tmp 49) (by rfl) bx _ _ _ ⟨bs2.s, bs2.cost, pb, pn, pc⟩ (by rfl) (by rfl) HN.out ?_
        intro wE hE hbE hoE hgE
        refine held_more hK HS0.out hlt (Bc.out.trans (hbE _ HLX.out)) (fun Bc hSn => ?_)
        have HPE := HPX.out.kept hgE HN.out
        clear hK
        refine tks [11, 12] 2 rfl (by kernel_rfl) (fun _ _ _ _ h => h) (by assumption) (fun KT hKT => ?_)
        iterate 2 (refine tkT (by (simp only [gA, gB, gC]; rfl)) (by rfl) (by (intro w hSw; (simp only [Holds] at hSw); go_simp <;> with_reducible rfl)) ?_; simp only [Act.put, pA, pB, pC])
        refine hKT _ ?_
        clear KT hKT
        refine wpAnyH_done (by kernel_rfl) ?_ _
        go_wp2_with fail
        go_meet
        exact ⟨bx, pb, pn, pc, rfl, rfl, rfl, hE, HPE.row Bc.out, HBR.out.trans (Bc.out.mono HBR.out.size)⟩
    · skip
      have HSZ := Lib.hid Bc.out.size
      go_simp
      refine held_more hK HS0.out hlt (Bc.out.alloc Bc.out.size _) (fun Bc hSn => ?_)
      clear hK
      have HN := Lib.hid (nod_new V noughtS 0 (.slice none 0 0))
      change wpAnyH _ _ _ _ _ _ _ _ (V.alloc (boxN noughtS 0 (.slice none 0 0)))
      have Bc2 := Lib.hid (show Below V.heap.size V (V.alloc (boxN noughtS 0 (.slice none 0 0))) from Bc.out)
      clear Bc
      have Bc := Bc2
      clear Bc2
      change Holds _ (V.alloc (boxN noughtS 0 (.slice none 0 0))) at hSn
      generalize V.alloc (boxN noughtS 0 (.slice none 0 0)) = Xn at *
      obtain ⟨bx, hbx⟩ : ∃ bx, bx = V.heap.size := ⟨_, rfl⟩
      have HLX := Lib.hid (show V.heap.size ≤ bx by rw [hbx]; exact HSZ.out)
      rw [← hbx] at HN ⊢
      clear hbx HSZ
      refine wpAnyH_ready (rs := [2]) (by kernel_rfl) (by simp) ?_
      refine AllReadyH.cons (o := ?oz397) ?iz397 (fun K hK => ?kz397) AllReadyH.nil
      case iz397 => (simp only [List.getElem?_toArray, List.getElem?_cons_zero, List.getElem?_cons_succ]; rfl)
      go_simp
      change Calls _ _ #[insV I0 (.slice ad I0.l.length cap)] _ _
      refine (eroot_any (HR.out.below Bc.out)).mono ?_
      rintro e w' ⟨rfl, hb⟩
      refine held_more hK HS0.out hlt (Bc.out.trans (hb.mono Bc.out.size)) (fun Bc hSn => ?_)
      have HNn := Lib.hid (HN.out.later hb)
      clear HN
      have HN := HNn
      clear HNn
      clear hb hK
      refine wpAnyH_ready (rs := [4]) (by kernel_rfl) (by simp) ?_
      refine AllReadyH.cons (o := ?oz398) ?iz398 (fun K hK => ?kz398) AllReadyH.nil
      case iz398 => (simp only [List.getElem?_toArray, List.getElem?_cons_zero, List.getElem?_cons_succ]; rfl)
      go_simp
      change Calls _ _ #[insV I0 (.slice ad I0.l.length cap), nodeV (rootS I0) 0 (.slice none 0 0), .int .i64 1, .int .i64 a2] _ _
      refine (nbest_any (I := I0) (n := rootN' I0) (up := a2) (width := 1) (w0 := V) (HR.out.below Bc.out) Bc.out (root_setsE I0) (root_fit I0) (by show Fit 0; unfold Fit; decide) (.inl (row_nil V)) (Nat.zero_le _) (by decide)).mono ?_
      rw [HO2.out, HST2.out, HBS2.out, HIS2.out]
      rintro e w6 ⟨pb, pn, pc, rfl, hp, hb⟩
      refine held_more hK HS0.out hlt (Bc.out.trans (hb.mono Bc.out.size)) (fun Bc hSn => ?_)
      have HNn := Lib.hid (HN.out.later hb)
      clear HN
      have HN := HNn
      clear HNn
      have HPX := Lib.hid hp
      clear hb hK hp
      unfold nodeV
      refine tks [5, 6, 7, 8] 4 rfl (by kernel_rfl) (fun _ _ _ _ h => h) (by assumption) (fun KT hKT => ?_)
      iterate 4 (refine tkT (by (simp only [gA, gB, gC]; rfl)) (by rfl) (by (intro w hSw; (simp only [Holds] at hSw); go_simp <;> with_reducible rfl)) ?_; simp only [Act.put, pA, pB, pC])
      refine hKT _ ?_
      clear KT hKT
      refine wpAnyH_ready (rs := [10]) (by kernel_rfl) (by simp) ?_
      refine (AllReadyH.cons (o := ?oz399) ?iz399 (fun K hK => ?kz399) AllReadyH.nil)
      case iz399 => (simp only [List.getElem?_toArray, List.getElem?_cons_zero, List.getElem?_cons_succ]; rfl)
      simp only [Act.put]
      rw [if_pos (by rfl)]
      refine wp_store_node (.tmp 11) (.tmp 49) (by rfl) bx _ _ _ ⟨bs2.s, bs2.cost, pb, pn, pc⟩ (by rfl) (by rfl) HN.out ?_
      intro wE hE hbE hoE hgE
      refine held_more hK HS0.out hlt (Bc.out.trans (hbE _ HLX.out)) (fun Bc hSn => ?_)
      have HPE := HPX.out.kept hgE HN.out
      clear hK
      refine tks [11, 12] 2 rfl (by kernel_rfl) (fun _ _ _ _ h => h) (by assumption) (fun KT hKT => ?_)
      iterate 2 (refine tkT (by (simp only [gA, gB, gC]; rfl)) (by rfl) (by (intro w hSw; (simp only [Holds] at hSw); go_simp <;> with_reducible rfl)) ?_; simp only [Act.put, pA, pB, pC])
      refine hKT _ ?_
      clear KT hKT
      refine wpAnyH_done (by kernel_rfl) ?_ _
      go_wp2_with fail
      go_meet
      exact ⟨bx, pb, pn, pc, rfl, rfl, rfl, hE, HPE.row Bc.out, HBR.out.trans (Bc.out.mono HBR.out.size)⟩
  case rest =>
  obtain ⟨bb2, pb2, pn2, pc2, rfl, rfl, rfl, f1, f2, hb⟩ := hcut
  have HN2 := Lib.hid f1
  have HP2 := Lib.hid f2
  clear f1 f2
  have HYn := Lib.hid (HY.out.later hb)
  clear HY
  have HY := HYn
  clear HYn
  have HRn := Lib.hid (HR.out.below hb)
  clear HR
  have HR := HRn
  clear HRn
  have HN1n := Lib.hid (HN1.out.later hb)
  clear HN1
  have HN1 := HN1n
  clear HN1n
  have HBn := Lib.hid (HB.out.trans (hb.mono HB.out.size))
  clear HB
  have HB := HBn
  clear HBn
  clear hb
  generalize wc = W5 at *
  have HW := Lib.hid (show is1 = is2 ∧ st1 = st2 ∧ bs1.cost = bs2.cost ∧ st2 ≤ 2 * I0.p + I0.c by
    have hw : widN a1 = widN 1 := by
      have := HA1.out
      unfold widN
      by_cases h : a1 < 1
      · rw [if_pos h]; rfl
      · have e : a1 = 1 := by omega
        rw [e]
    have h1 := HO1.out
    have h2 := HST1.out
    rw [hw] at h1 h2
    have h3 := (narrow_root_steps HM.out (w := widN 1) (f := 44) HRK.out (up := a2)).2
    rw [HST2.out] at h3
    rw [HO2.out] at h1
    rw [HST2.out] at h2
    refine ⟨?_, h2.symm, ?_, ?_⟩
    · rw [← HIS1.out, ← HIS2.out, h1]
    · rw [← HBS1.out, ← HBS2.out, h1]
    · have e : ((widN 1 : Nat) : Int) = 1 := rfl
      rw [e] at h3
      omega)
  have x8 := HN1.out.c8
  have q8 := HN2.out.c8
  obtain ⟨rfl, rfl, h3, h4⟩ := HW.out
  rw [← h3] at q8
  have b1 : (is1 == is1) = true := by simp
  have b2 : (st1 == st1) = true := by simp
  have b3 : (bs1.cost == bs1.cost) = true := by simp
  have d4 : decide (st1 ≤ 2 * I0.p + I0.c) = true := decide_eq_true h4
  have e1 : IntKind.i64.wrap (2 * I0.p) = 2 * I0.p := IntWalk.i64_in _ (by have := HPC.out; omega)
  have e2 : IntKind.i64.wrap (2 * I0.p + I0.c) = 2 * I0.p + I0.c := IntWalk.i64_in _ (by have := HPC.out; omega)
  obtain ⟨y0, y1, y2, y3⟩ := HY.out.cells
  clear HO1 HST1 HBS1 HIS1 HO2 HST2 HBS2 HIS2 HW h3 h4
  go_wp2
  go_ret
  exact ⟨by first | rfl | simp, HB.out⟩

set_option maxRecDepth 100000 in
theorem lifted (os : Os) (started : os.Started) (H : Type) (enc : TypeId × Value → H) :
    ReturnsInHanded {} Tryz.checked os 7 .any (Rows.narrowLowSpec.pre6 enc Tryz.prog Tryz.f7 Rows.narrowLowRow.domain false) (Rows.narrowLowSpec.post enc Tryz.prog Tryz.f7 false true false false) := by
  refine returnsInHanded_of_change (C := Tryz.checked) own started (by kernel_rfl) Tryz.func7
    (ChangeSpec.witness6 (enc := enc) (C := Tryz.checked) false ⟨#[], #[.agg #[.int .i64 0, .int .i64 0, .int .i64 0, .slice none 0 0], .int .i64 0, .int .i64 0], []⟩ 8 (by kernel_rfl) (by kernel_rfl) (by kernel_rfl) (by kernel_rfl)) ?_
  intro W base args ds gs before hval0 hW hcnd _
  have hval : ∀ (j : Nat) t v, Tryz.f7.params[j]? = some t → args[j]? = some v → Value.okWide Tryz.prog W .any base t v := hval0
  have hW' := hW
  obtain ⟨p, q, hA0, hV, rfl, hfz, hnd⟩ := hW
  have hA : DataW.TrodAll enc Tryz.prog W 0 (fun _ => true) true Tryz.f7.params.toList args.toList ds p := hA0
  rw [Tryz.params7] at hA hval
  obtain ⟨v0, vs0, d0, ds0, p0, q0, hargs, rfl, rfl, h0, r0⟩ := trodAll_cons hA
  obtain ⟨v1, vs1, d1, ds1, p1, q1, rfl, rfl, rfl, h1, r1⟩ := trodAll_cons r0
  obtain ⟨v2, vs2, d2, ds2, p2, q2, rfl, rfl, rfl, h2, r2⟩ := trodAll_cons r1
  obtain ⟨rfl, rfl, rfl⟩ := trodAll_nil r2
  obtain rfl : args = #[v0, v1, v2] := by cases args; simp_all
  obtain ⟨rfl, rfl⟩ := trodVars_none hV
  have k0 := h0
  have lt0 : ∀ x ∈ p0, x.block < W.heap.size := by obtain ⟨m, hm⟩ := k0; exact DataW.trod_lt m _ _ _ hm
  have k1 := h1
  have lt1 : ∀ x ∈ p1, x.block < W.heap.size := by obtain ⟨m, hm⟩ := k1; exact DataW.trod_lt m _ _ _ hm
  have k2 := h2
  have lt2 : ∀ x ∈ p2, x.block < W.heap.size := by obtain ⟨m, hm⟩ := k2; exact DataW.trod_lt m _ _ _ hm
  obtain ⟨I0, u0, rfl, e0, _⟩ := open_inst (hval 0 24 v0 rfl rfl) h0
  obtain ⟨a1, rfl, rfl, rfl, i1⟩ := open_int Tryz.underlying3 (hval 1 3 v1 rfl rfl) h1
  obtain ⟨a2, rfl, rfl, rfl, i2⟩ := open_int Tryz.underlying3 (hval 2 3 v2 rfl rfl) h2
  clear hA0 hval0
  refine (walk I0 _ a1 a2 W e0).mono fun e W' ⟨he, bel⟩ => ?_
  subst he
  exact ⟨_, rfl, _, _, _, [], _, [], hW', trodAll_mk1 (shut_bool Tryz.underlying4 _), (trodAll_cons_mk (Below.trod laidOut (by kernel_rfl) (of_decide_eq_true (by kernel_rfl)) k0 bel lt0) (trodAll_cons_mk (Below.trod laidOut (by kernel_rfl) (of_decide_eq_true (by kernel_rfl)) k1 bel lt1) (trodAll_cons_mk (Below.trod laidOut (by kernel_rfl) (of_decide_eq_true (by kernel_rfl)) k2 bel lt2) trodAll_mk0))), rfl, bel.frame _, fun h => by cases h⟩

theorem over : Rows.narrowLowRow.holds Tryz.pinned (OpenSpec.ofChange Rows.narrowLowSpec) :=
  OpenClaim.holds_of_wide 7 Tryz.f7 rfl rfl rfl rfl rfl rfl rfl ⟨rfl, rfl, rfl, rfl, rfl⟩ rfl rfl rfl rfl rfl (by kernel_rfl) Tryz.func7 (by show joinedFacts Tryz.checked.prog _ _ _ _ = true; unfold joinedFacts; rw [ord_may, ord_lifts, ord_make]; kernel_rfl)
    (of_decide_eq_true (by kernel_rfl)) (by unfold Func.isWrapper; first | (rw [if_pos (by decide +kernel)]; kernel_rfl) | (rw [if_neg (by decide +kernel)]; exact ⟨rfl, rfl⟩))
    (fun os started H enc _ => lifted os started H enc)

theorem proved : Rows.NarrowLowSaid := over
#print axioms proved
end Go.Proofs.YtgplajofemencaaGreat.narrowLow
