/- NarrowPlans (P16.1, P16.2) -/
import Derived.Test.YtgplajofemencaaGreatOrd
import Derived.Test.YtgplajofemencaaGreatRows
import Derived.Test.YtgplajofemencaaGreatNAwake
import Derived.Test.YtgplajofemencaaGreatEMore
import Derived.Test.YtgplajofemencaaGreatNProg
import Derived.Test.YtgplajofemencaaGreatEProg
import Derived.Test.YtgplajofemencaaGreatEOpen
import Derived.Test.YtgplajofemencaaGreatYL
import Derived.Test.YtgplajofemencaaGreatXIMay
import Derived.Test.YtgplajofemencaaGreatYM
import Derived.Test.YtgplajofemencaaGreatYI
import Derived.Test.YtgplajofemencaaGreatXN
import Derived.Test.YtgplajofemencaaGreatYF
import Derived.Test.YtgplajofemencaaGreatYJ
import Derived.Test.YtgplajofemencaaGreatYG
import Derived.Test.YtgplajofemencaaGreatXU
import Derived.Test.YtgplajofemencaaGreatYE
import Derived.Test.YtgplajofemencaaGreatYD
import Derived.Test.YtgplajofemencaaGreatXSPlan
namespace Go.Proofs.YtgplajofemencaaGreat.narrowPlans
open Go.ChangeShapes Go.WideShapes Go.ChangeAt Go.RowKit

set_option maxRecDepth 1000000 in
set_option maxHeartbeats 4000000 in
theorem walk (I0 : Ins) (v0 : Value) (a1 : Int) (a2 : Int) (w : World) (e0 : SRow w v0 I0.l) :
    Calls Tryz.prog 4 #[insV I0 v0, .int .i64 a1, .int .i64 a2] w fun e w' => e = .returned (.bool true) ∧ Below w.heap.size w w' := by
  have HR := Lib.hid e0
  obtain ⟨ad, cap, rfl, hlm, _⟩ := e0.form
  clear e0
  unfold insV
  go_enter Tryz.func4, Tryz.ntmps4
  go_upto_region 1 with fail
  have HY := Lib.hid (ybox_new w I0 (.slice ad I0.l.length cap))
  have HB := Lib.hid ((Below.refl w.heap.size w).alloc (Nat.le_refl _) (boxI I0 (.slice ad I0.l.length cap)))
  change Code.wp _ _ _ _ (w.alloc (boxI I0 (.slice ad I0.l.length cap)))
  generalize hW : w.alloc (boxI I0 (.slice ad I0.l.length cap)) = W at *
  have HRn := Lib.hid (HR.out.below HB.out)
  clear HR
  have HR := HRn
  clear HRn
  clear hW
  go_wp2_with fail
  refine (nawake_any _).mono ?_
  rintro e w1 ⟨rfl, hb⟩
  have HYn := Lib.hid (HY.out.later hb)
  clear HY
  have HY := HYn
  clear HYn
  have HRn := Lib.hid (HR.out.below hb)
  clear HR
  have HR := HRn
  clear HRn
  have HBn := Lib.hid (HB.out.trans (hb.mono HB.out.size))
  clear HB
  have HB := HBn
  clear HBn
  clear hb
  obtain ⟨y0, y1, y2, y3⟩ := HY.out.cells
  by_cases g2 : 13 < I0.l.length
  · have d2 : decide ((13 : Int) < (I0.l.length : Int)) = true := decide_eq_true (by omega)
    have f2 := decide_eq_true g2
    clear g2
    go_wp2
    go_ret
    exact ⟨rfl, HB.out⟩
  have d2 : decide ((13 : Int) < (I0.l.length : Int)) = false := decide_eq_false (by omega)
  have f2 := decide_eq_false g2
  by_cases g3 : a1 < 1
  · have d3 : decide (a1 < 1) = true := decide_eq_true (by omega)
    have f3 := decide_eq_true g3
    clear g3
    go_wp2
    go_ret
    exact ⟨rfl, HB.out⟩
  have d3 : decide (a1 < 1) = false := decide_eq_false (by omega)
  have f3 := decide_eq_false g3
  by_cases g4 : 40 < a1
  · have d4 : decide (40 < a1) = true := decide_eq_true (by omega)
    have f4 := decide_eq_true g4
    clear g4
    go_wp2
    go_ret
    exact ⟨rfl, HB.out⟩
  have d4 : decide (40 < a1) = false := decide_eq_false (by omega)
  have f4 := decide_eq_false g4
  have HA1 := Lib.hid (show 1 ≤ a1 ∧ a1 ≤ 40 by omega)
  clear g2 g3 g4
  go_wp2_with fail
  clear y0 y1 y2 y3
  change Calls _ _ #[insV I0 (.slice ad I0.l.length cap)] _ _
  refine (may_any HR.out).mono ?_
  rintro e w2 ⟨rfl, hb⟩
  have HYn := Lib.hid (HY.out.later hb)
  clear HY
  have HY := HYn
  clear HYn
  have HRn := Lib.hid (HR.out.below hb)
  clear HR
  have HR := HRn
  clear HRn
  have HBn := Lib.hid (HB.out.trans (hb.mono HB.out.size))
  clear HB
  have HB := HBn
  clear HBn
  clear hb
  by_cases hm : mayB I0 = true
  rotate_left
  · have hmf : mayB I0 = false := by simpa using hm
    rw [hmf]
    clear hm hmf
    go_wp2
    go_ret
    exact ⟨rfl, HB.out⟩
  rw [hm]
  have HM := Lib.hid hm
  have HRK := Lib.hid (show rankS I0 (rootS I0) < 44 by have h1 := rank_root hm; have h2 := (fine_of hm).p1; have h3 := (inb_iff _ _ _).1 ((may_iff I0).1 hm).2.1; omega)
  have HPC := Lib.hid (show (0 ≤ I0.p ∧ I0.p ≤ 16) ∧ 1 ≤ I0.c ∧ I0.c ≤ 8 by have h1 := (fine_of hm).p0; have h2 := (fine_of hm).p1; have h3 := (inb_iff _ _ _).1 ((may_iff I0).1 hm).2.1; omega)
  clear hm
  obtain ⟨o1, ho1⟩ : ∃ o, (narrowRun I0 (widN a1) 44 [rootN' I0] none a2 0).1 = o := ⟨_, rfl⟩
  obtain ⟨st1, hst1⟩ : ∃ o, (narrowRun I0 (widN a1) 44 [rootN' I0] none a2 0).2 = o := ⟨_, rfl⟩
  obtain ⟨bs1, hbs1⟩ : ∃ b, bestV o1 = b := ⟨_, rfl⟩
  obtain ⟨is1, his1⟩ : ∃ b, o1.isSome = b := ⟨_, rfl⟩
  have HO1 := Lib.hid ho1
  have HST1 := Lib.hid hst1
  have HBS1 := Lib.hid hbs1
  have HIS1 := Lib.hid his1
  clear ho1 hst1 hbs1 his1
  go_upto_region 4 with fail
  go_cut [8, 9, 10] from 38 (fun p v0 v1 wx => ∃ bb pb pn pc, p = .pointer (some ⟨bb, 0, none⟩) ∧ v0 = .bool is1 ∧ v1 = .int .i64 st1 ∧ NodB wx bb bs1.s bs1.cost (.slice pb pn pc) ∧ Row wx (.slice pb pn pc) (ints bs1.path) ∧ Below w2.heap.size w2 wx)
  case first =>
    have HBR := Lib.hid (Below.refl w2.heap.size w2).drew
    have HYn := Lib.hid (HY.out.later (Below.refl _ w2).drew)
    have HRn := Lib.hid (HR.out.below (Below.refl _ w2).drew)
    have HBn := Lib.hid HB.out.drew
    clear HY HR HB
    have HY := HYn
    have HR := HRn
    have HB := HBn
    clear HYn HRn HBn
    have HS0 := Lib.hid (show Holds (cellsI w.heap.size I0 (.slice ad I0.l.length cap)) w2.drew from ⟨HY.out.cells.1, HY.out.cells.2.1, HY.out.cells.2.2.1, HY.out.cells.2.2.2, trivial⟩)
    refine wp_region_held_drew (S := Holds (cellsI w.heap.size I0 (.slice ad I0.l.length cap))) (by kernel_rfl) HS0.out (fun hSn => ?_)
    generalize w2.drew = V at *
    have hlt := Lib.hid (show Lows V.heap.size (cellsI w.heap.size I0 (.slice ad I0.l.length cap)) from (show Lows _ (cellsI w.heap.size I0 (.slice ad I0.l.length cap)) from ⟨HY.out.lt, HY.out.lt, HY.out.lt, HY.out.lt, trivial⟩))
    have Bc := Lib.hid (Below.refl V.heap.size V)
    simp only [cellsI] at HS0 hlt hSn ⊢
    refine tks [0, 1, 3, 4] 4 rfl (by kernel_rfl) (fun _ _ _ _ h => h) (by assumption) (fun KT hKT => ?_)
    iterate 4 (refine tkT (by (simp only [gA, gB, gC]; rfl)) (by rfl) (by (intro w hSw; (simp only [Holds] at hSw); go_simp <;> with_reducible rfl)) ?_; simp only [Act.put, pA, pB, pC])
    refine hKT _ ?_
    clear KT hKT
    refine wpAnyH_ready (rs := [2, 10]) (by kernel_rfl) (by simp) ?_
    refine (AllReadyH.cons (o := ?oz312) ?iz312 (fun K hK => ?kz312) (AllReadyH.cons (o := ?oz313) ?iz313 (fun K hK => ?kz313) AllReadyH.nil))
    case iz312 => (simp only [List.getElem?_toArray, List.getElem?_cons_zero, List.getElem?_cons_succ]; rfl)
    case iz313 => (simp only [List.getElem?_toArray, List.getElem?_cons_zero, List.getElem?_cons_succ]; rfl)
    · skip
      go_simp
      change Calls _ _ #[insV I0 (.slice ad I0.l.length cap)] _ _
      refine (eroot_any (HR.out.below Bc.out)).mono ?_
      rintro e w' ⟨rfl, hb⟩
      refine held_more hK HS0.out hlt (Bc.out.trans (hb.mono Bc.out.size)) (fun Bc hSn => ?_)
      clear hb hK
      refine wpAnyH_ready (rs := [5, 10]) (by kernel_rfl) (by simp) ?_
      refine (AllReadyH.cons (o := ?oz314) ?iz314 (fun K hK => ?kz314) (AllReadyH.cons (o := ?oz315) ?iz315 (fun K hK => ?kz315) AllReadyH.nil))
      case iz314 => (simp only [List.getElem?_toArray, List.getElem?_cons_zero, List.getElem?_cons_succ]; rfl)
      case iz315 => (simp only [List.getElem?_toArray, List.getElem?_cons_zero, List.getElem?_cons_succ]; rfl)
      · skip
        go_simp
        change Calls _ _ #[insV I0 (.slice ad I0.l.length cap), nodeV (rootS I0) 0 (.slice none 0 0), .int .i64 a1, .int .i64 a2] _ _
        refine (nbest_any (I := I0) (n := rootN' I0) (up := a2) (width := a1) (w0 := V) (HR.out.below Bc.out) Bc.out (root_setsE I0) (root_fit I0) (by show Fit 0; unfold Fit; decide) (.inl (row_nil V)) (Nat.zero_le _) (by have := HA1.out; omega)).mono ?_
        rw [HO1.out, HST1.out, HBS1.out, HIS1.out]
        rintro e w6 ⟨pb, pn, pc, rfl, hp, hb⟩
        refine held_more hK HS0.out hlt (Bc.out.trans (hb.mono Bc.out.size)) (fun Bc hSn => ?_)
        have HPX := Lib.hid hp
        clear hb hK hp
        unfold nodeV
        refine tks [6, 7, 8, 9] 4 rfl (by kernel_rfl) (fun _ _ _ _ h => h) (by assumption) (fun KT hKT => ?_)
        iterate 4 (refine tkT (by (simp only [gA, gB, gC]; rfl)) (by rfl) (by (intro w hSw; (simp only [Holds] at hSw); go_simp <;> with_reducible rfl)) ?_; simp only [Act.put, pA, pB, pC])
        refine hKT _ ?_
        clear KT hKT
        have HSZ := Lib.hid Bc.out.size
        refine wpAnyH_ready (rs := [10]) (by kernel_rfl) (by simp) ?_
        refine AllReadyH.cons (o := ?oz316) ?iz316 (fun K hK => ?kz316) AllReadyH.nil
        case iz316 => (simp only [List.getElem?_toArray, List.getElem?_cons_zero, List.getElem?_cons_succ]; rfl)
        go_simp
        refine held_more hK HS0.out hlt (Bc.out.alloc Bc.out.size _) (fun Bc hSn => ?_)
        have HN := Lib.hid (nod_new w6 noughtS 0 (.slice none 0 0))
        change wpAnyH _ _ _ _ _ _ _ _ (w6.alloc (boxN noughtS 0 (.slice none 0 0)))
        have Bc2 := Lib.hid (show Below V.heap.size V (w6.alloc (boxN noughtS 0 (.slice none 0 0))) from Bc.out)
        clear Bc
        have Bc := Bc2
        clear Bc2
        change Holds _ (w6.alloc (boxN noughtS 0 (.slice none 0 0))) at hSn
        have HPXn := Lib.hid (HPX.out.below ((Below.refl w6.heap.size w6).alloc (Nat.le_refl _) (boxN noughtS 0 (.slice none 0 0))))
        clear HPX
        have HPX := HPXn
        clear HPXn
        generalize w6.alloc (boxN noughtS 0 (.slice none 0 0)) = Xn at *
        obtain ⟨bx, hbx⟩ : ∃ bx, bx = w6.heap.size := ⟨_, rfl⟩
        have HLX := Lib.hid (show V.heap.size ≤ bx by rw [hbx]; exact HSZ.out)
        rw [← hbx] at HN ⊢
        clear hbx HSZ
        refine wpAnyH_ready (rs := [11]) (by kernel_rfl) (by simp) ?_
        refine (AllReadyH.cons (o := ?oz317) ?iz317 (fun K hK => ?kz317) AllReadyH.nil)
        case iz317 => (simp only [List.getElem?_toArray, List.getElem?_cons_zero, List.getElem?_cons_succ]; rfl)
        simp only [Act.put]
        rw [if_pos (by rfl)]
        refine wp_store_node (.tmp 8) (.tmp 45) (by rfl) bx _ _ _ ⟨bs1.s, bs1.cost, pb, pn, pc⟩ (by rfl) (by rfl) HN.out ?_
        intro wE hE hbE hoE hgE
        refine held_more hK HS0.out hlt (Bc.out.trans (hbE _ HLX.out)) (fun Bc hSn => ?_)
        have HPE := HPX.out.kept hgE HN.out
        clear hK
        refine tks [12, 13] 2 rfl (by kernel_rfl) (fun _ _ _ _ h => h) (by assumption) (fun KT hKT => ?_)
        iterate 2 (refine tkT (by (simp only [gA, gB, gC]; rfl)) (by rfl) (by (intro w hSw; (simp only [Holds] at hSw); go_simp <;> with_reducible rfl)) ?_; simp only [Act.put, pA, pB, pC])
        refine hKT _ ?_
        clear KT hKT
        refine wpAnyH_done (by kernel_rfl) ?_ _
        go_wp2_with fail
        go_meet
        exact ⟨bx, pb, pn, pc, rfl, rfl, rfl, hE, HPE.row Bc.out, HBR.out.trans (Bc.out.mono HBR.out.size)⟩
      · skip
        have HSZ := Lib.hid Bc.out.size
        go_simp
        refine held_more hK HS0.out hlt (Bc.out.alloc Bc.out.size _) (fun Bc hSn => ?_)
        clear hK
        have HN := Lib.hid (nod_new w' noughtS 0 (.slice none 0 0))
        change wpAnyH _ _ _ _ _ _ _ _ (w'.alloc (boxN noughtS 0 (.slice none 0 0)))
        have Bc2 := Lib.hid (show Below V.heap.size V (w'.alloc (boxN noughtS 0 (.slice none 0 0))) from Bc.out)
        clear Bc
        have Bc := Bc2
        clear Bc2
        change Holds _ (w'.alloc (boxN noughtS 0 (.slice none 0 0))) at hSn
        generalize w'.alloc (boxN noughtS 0 (.slice none 0 0)) = Xn at *
        obtain ⟨bx, hbx⟩ : ∃ bx, bx = w'.heap.size := ⟨_, rfl⟩
        have HLX := Lib.hid (show V.heap.size ≤ bx by rw [hbx]; exact HSZ.out)
        rw [← hbx] at HN ⊢
        clear hbx HSZ
        refine wpAnyH_ready (rs := [5]) (by kernel_rfl) (by simp) ?_
        refine AllReadyH.cons (o := ?oz318) ?iz318 (fun K hK => ?kz318) AllReadyH.nil
        case iz318 => (simp only [List.getElem?_toArray, List.getElem?_cons_zero, List.getElem?_cons_succ]; rfl)
        go_simp
        change Calls _ _ #[insV I0 (.slice ad I0.l.length cap), nodeV (rootS I0) 0 (.slice none 0 0), .int .i64 a1, .int .i64 a2] _ _
        refine (nbest_any (I := I0) (n := rootN' I0) (up := a2) (width := a1) (w0 := V) (HR.out.below Bc.out) Bc.out (root_setsE I0) (root_fit I0) (by show Fit 0; unfold Fit; decide) (.inl (row_nil V)) (Nat.zero_le _) (by have := HA1.out; omega)).mono ?_
        rw [HO1.out, HST1.out, HBS1.out, HIS1.out]
        rintro e w6 ⟨pb, pn, pc, rfl, hp, hb⟩
        refine held_more hK HS0.out hlt (Bc.out.trans (hb.mono Bc.out.size)) (fun Bc hSn => ?_)
        have HNn := Lib.hid (HN.out.later hb)
        clear HN
        have HN := HNn
        clear HNn
        have HPX := Lib.hid hp
        clear hb hK hp
        unfold nodeV
        refine tks [6, 7, 8, 9] 4 rfl (by kernel_rfl) (fun _ _ _ _ h => h) (by assumption) (fun KT hKT => ?_)
        iterate 4 (refine tkT (by (simp only [gA, gB, gC]; rfl)) (by rfl) (by (intro w hSw; (simp only [Holds] at hSw); go_simp <;> with_reducible rfl)) ?_; simp only [Act.put, pA, pB, pC])
        refine hKT _ ?_
        clear KT hKT
        refine wpAnyH_ready (rs := [11]) (by kernel_rfl) (by simp) ?_
        refine (AllReadyH.cons (o := ?oz319) ?iz319 (fun K hK => ?kz319) AllReadyH.nil)
        case iz319 => (simp only [List.getElem?_toArray, List.getElem?_cons_zero, List.getElem?_cons_succ]; rfl)
        simp only [Act.put]
        rw [if_pos (by rfl)]
        refine wp_store_node (.tmp 8) (.tmp 45) (by rfl) bx _ _ _ ⟨bs1.s, bs1.cost, pb, pn, pc⟩ (by rfl) (by rfl) HN.out ?_
        intro wE hE hbE hoE hgE
        refine held_more hK HS0.out hlt (Bc.out.trans (hbE _ HLX.out)) (fun Bc hSn => ?_)
        have HPE := HPX.out.kept hgE HN.out
        clear hK
        refine tks [12, 13] 2 rfl (by kernel_rfl) (fun _ _ _ _ h => h) (by assumption) (fun KT hKT => ?_)
        iterate 2 (refine tkT (by (simp only [gA, gB, gC]; rfl)) (by rfl) (by (intro w hSw; (simp only [Holds] at hSw); go_simp <;> with_reducible rfl)) ?_; simp only [Act.put, pA, pB, pC])
        refine hKT _ ?_
        clear KT hKT
        refine wpAnyH_done (by kernel_rfl) ?_ _
        go_wp2_with fail
        go_meet
        exact ⟨bx, pb, pn, pc, rfl, rfl, rfl, hE, HPE.row Bc.out, HBR.out.trans (Bc.out.mono HBR.out.size)⟩
    · skip
      have HSZ := Lib.hid Bc.out.size
      go_simp
      refine held_more hK HS0.out hlt (Bc.out.alloc Bc.out.size _) (fun Bc hSn => ?_)
      clear hK
      have HN := Lib.hid (nod_new V noughtS 0 (.slice none 0 0))
      change wpAnyH _ _ _ _ _ _ _ _ (V.alloc (boxN noughtS 0 (.slice none 0 0)))
      have Bc2 := Lib.hid (show Below V.heap.size V (V.alloc (boxN noughtS 0 (.slice none 0 0))) from Bc.out)
      clear Bc
      have Bc := Bc2
      clear Bc2
      change Holds _ (V.alloc (boxN noughtS 0 (.slice none 0 0))) at hSn
      generalize V.alloc (boxN noughtS 0 (.slice none 0 0)) = Xn at *
      obtain ⟨bx, hbx⟩ : ∃ bx, bx = V.heap.size := ⟨_, rfl⟩
      have HLX := Lib.hid (show V.heap.size ≤ bx by rw [hbx]; exact HSZ.out)
      rw [← hbx] at HN ⊢
      clear hbx HSZ
      refine wpAnyH_ready (rs := [2]) (by kernel_rfl) (by simp) ?_
      refine AllReadyH.cons (o := ?oz320) ?iz320 (fun K hK => ?kz320) AllReadyH.nil
      case iz320 => (simp only [List.getElem?_toArray, List.getElem?_cons_zero, List.getElem?_cons_succ]; rfl)
      go_simp
      change Calls _ _ #[insV I0 (.slice ad I0.l.length cap)] _ _
      refine (eroot_any (HR.out.below Bc.out)).mono ?_
      rintro e w' ⟨rfl, hb⟩
      refine held_more hK HS0.out hlt (Bc.out.trans (hb.mono Bc.out.size)) (fun Bc hSn => ?_)
      have HNn := Lib.hid (HN.out.later hb)
      clear HN
      have HN := HNn
      clear HNn
      clear hb hK
      refine wpAnyH_ready (rs := [5]) (by kernel_rfl) (by simp) ?_
      refine AllReadyH.cons (o := ?oz321) ?iz321 (fun K hK => ?kz321) AllReadyH.nil
      case iz321 => (simp only [List.getElem?_toArray, List.getElem?_cons_zero, List.getElem?_cons_succ]; rfl)
      go_simp
      change Calls _ _ #[insV I0 (.slice ad I0.l.length cap), nodeV (rootS I0) 0 (.slice none 0 0), .int .i64 a1, .int .i64 a2] _ _
      refine (nbest_any (I := I0) (n := rootN' I0) (up := a2) (width := a1) (w0 := V) (HR.out.below Bc.out) Bc.out (root_setsE I0) (root_fit I0) (by show Fit 0; unfold Fit; decide) (.inl (row_nil V)) (Nat.zero_le _) (by have := HA1.out; omega)).mono ?_
      rw [HO1.out, HST1.out, HBS1.out, HIS1.out]
      rintro e w6 ⟨pb, pn, pc, rfl, hp, hb⟩
      refine held_more hK HS0.out hlt (Bc.out.trans (hb.mono Bc.out.size)) (fun Bc hSn => ?_)
      have HNn := Lib.hid (HN.out.later hb)
      clear HN
      have HN := HNn
      clear HNn
      have HPX := Lib.hid hp
      clear hb hK hp
      unfold nodeV
      refine tks [6, 7, 8, 9] 4 rfl (by kernel_rfl) (fun _ _ _ _ h => h) (by assumption) (fun KT hKT => ?_)
      iterate 4 (refine tkT (by (simp only [gA, gB, gC]; rfl)) (by rfl) (by (intro w hSw; (simp only [Holds] at hSw); go_simp <;> with_reducible rfl)) ?_; simp only [Act.put, pA, pB, pC])
      refine hKT _ ?_
      clear KT hKT
      refine wpAnyH_ready (rs := [11]) (by kernel_rfl) (by simp) ?_
      refine (AllReadyH.cons (o := ?oz322) ?iz322 (fun K hK => ?kz322) AllReadyH.nil)
      case iz322 => (simp only [List.getElem?_toArray, List.getElem?_cons_zero, List.getElem?_cons_succ]; rfl)
      simp only [Act.put]
      rw [if_pos (by rfl)]
      refine wp_store_node (.tmp 8) (.tmp 45) (by rfl) bx _ _ _ ⟨bs1.s, bs1.cost, pb, pn, pc⟩ (by rfl) (by rfl) HN.out ?_
      intro wE hE hbE hoE hgE
      refine held_more hK HS0.out hlt (Bc.out.trans (hbE _ HLX.out)) (fun Bc hSn => ?_)
      have HPE := HPX.out.kept hgE HN.out
      clear hK
      refine tks [12, 13] 2 rfl (by kernel_rfl) (fun _ _ _ _ h => h) (by assumption) (fun KT hKT => ?_)
      iterate 2 (refine tkT (by (simp only [gA, gB, gC]; rfl)) (by rfl) (by (intro w hSw; (simp only [Holds] at hSw); go_simp <;> with_reducible rfl)) ?_; simp only [Act.put, pA, pB, pC])
      refine hKT _ ?_
      clear KT hKT
      refine wpAnyH_done (by kernel_rfl) ?_ _
      go_wp2_with fail
      go_meet
      exact ⟨bx, pb, pn, pc, rfl, rfl, rfl, hE, HPE.row Bc.out, HBR.out.trans (Bc.out.mono HBR.out.size)⟩
  case rest =>
  obtain ⟨bb1, pb1, pn1, pc1, rfl, rfl, rfl, f1, f2, hb⟩ := hcut
  have HN1 := Lib.hid f1
  have HP1 := Lib.hid f2
  clear f1 f2
  have HYn := Lib.hid (HY.out.later hb)
  clear HY
  have HY := HYn
  clear HYn
  have HRn := Lib.hid (HR.out.below hb)
  clear HR
  have HR := HRn
  clear HRn
  have HBn := Lib.hid (HB.out.trans (hb.mono HB.out.size))
  clear HB
  have HB := HBn
  clear HBn
  clear hb
  generalize wc = W4 at *
  have HE := Lib.hid (narrow_ok HM.out (w := widN a1) (f := 44) (lim := a2))
  obtain ⟨D, hD⟩ : ∃ D, 2 * I0.p + I0.c - 1 = D := ⟨_, rfl⟩
  have HDB := Lib.hid (show 0 ≤ D ∧ D ≤ 39 by have := HPC.out; omega)
  have HST := Lib.hid (show 1 ≤ st1 ∧ st1 ≤ 1 + a1 * D by
    have h := narrow_root_steps HM.out (w := widN a1) (f := 44) HRK.out (up := a2)
    rw [HST1.out, hD] at h
    have e : ((widN a1 : Nat) : Int) = a1 := by
      have := HA1.out
      unfold widN
      rw [if_neg (by omega)]
      omega
    rw [e] at h
    exact h)
  have HPD := Lib.hid (show 0 ≤ a1 * D ∧ a1 * D ≤ 40 * 39 from ⟨Int.mul_nonneg (by have := HA1.out; omega) HDB.out.1, Int.mul_le_mul HA1.out.2 HDB.out.2 HDB.out.1 (by decide)⟩)
  obtain ⟨M, hM⟩ : ∃ M, a1 * D = M := ⟨_, rfl⟩
  have e1 : IntKind.i64.wrap (2 * I0.p) = 2 * I0.p := IntWalk.i64_in _ (by have := HPC.out; omega)
  have e2 : IntKind.i64.wrap (2 * I0.p + I0.c) = 2 * I0.p + I0.c := IntWalk.i64_in _ (by have := HPC.out; omega)
  have e3 : IntKind.i64.wrap (2 * I0.p + I0.c - 1) = D := by rw [← hD]; exact IntWalk.i64_in _ (by have := HPC.out; omega)
  rw [hM] at HPD HST
  have e4 : IntKind.i64.wrap (a1 * D) = M := by rw [hM]; exact IntWalk.i64_in _ (by have := HPD.out; omega)
  have e5 : IntKind.i64.wrap (1 + M) = 1 + M := IntWalk.i64_in _ (by have := HPD.out; omega)
  have s1 : decide (st1 < 1) = false := decide_eq_false (by have := HST.out; omega)
  have s2 : decide (1 + M < st1) = false := decide_eq_false (by have := HST.out; omega)
  have HDD := Lib.hid hD
  have HMM := Lib.hid hM
  clear hD hM
  obtain ⟨y0, y1, y2, y3⟩ := HY.out.cells
  go_upto_region 7 with fail
  clear y0 y1 y2 y3 e1 e2 e3 e4 e5 s1 s2 HST HPD HDD HMM HDB
  cases his : is1 with
  | false =>
    subst his
    have e0 : bs1.cost = 0 ∧ bs1.path = [] := by
      have h := HIS1.out
      rw [← HBS1.out]
      cases o1 with
      | none => exact ⟨rfl, rfl⟩
      | some n => cases h
    have x8 := HN1.out.c8
    have x9 := HN1.out.c9
    rw [e0.1] at x8
    have hp := HP1.out
    rw [e0.2] at hp
    obtain ⟨qa, qc, hq, _⟩ := hp.form
    rw [hq, show (ints []).length = 0 from rfl] at x9
    clear HO1 HST1 HBS1 HIS1 HE HN1 HP1 e0 hp hq
    go_wp2
    go_ret
    exact ⟨by first | rfl | simp, HB.out⟩
  | true =>
    subst his
    have HTO := Lib.hid (show (bs1.path.length ≤ 1000000 ∧ bs1.cost < a2) ∧ splitE bs1.path = 0 ∧ costE I0 (splitR bs1.path) = 0 ∧ costN I0 (splitR bs1.path) = bs1.cost by
      have h1 := HE.out
      rw [HO1.out] at h1
      have h := HIS1.out
      have h6 := HBS1.out
      cases o1 with
      | none => cases h
      | some n =>
        have hn : n = bs1 := h6
        subst hn
        obtain ⟨c, k1, k2, k3, k4⟩ := h1
        obtain ⟨t1, t2, t3⟩ := tours HM.out k1 k2
        have t4 := follow_rank k1
        have t5 := HRK.out
        exact ⟨⟨by omega, k4⟩, t1, t2, by rw [t3, k3]⟩)
    clear HE HO1 HST1 HBS1 HIS1
    have x9 := HN1.out.c9
    go_wp2_with fail
    clear x9
    refine (split_any HP1.out (by have := HTO.out.1.1; omega)).mono ?_
    rintro e w5 ⟨u, rfl, hu, hb⟩
    have HO := Lib.hid hu.is
    obtain ⟨ua, uc, rfl⟩ := hu.shape
    clear hu
    have HYn := Lib.hid (HY.out.later hb)
    clear HY
    have HY := HYn
    clear HYn
    have HRn := Lib.hid (HR.out.below hb)
    clear HR
    have HR := HRn
    clear HRn
    have HN1n := Lib.hid (HN1.out.later hb)
    clear HN1
    have HN1 := HN1n
    clear HN1n
    have HBn := Lib.hid (HB.out.trans (hb.mono HB.out.size))
    clear HB
    have HB := HBn
    clear HBn
    clear hb
    rw [HTO.out.2.1]
    unfold planV
    go_upto_region 10 with fail
    have hb := (Below.refl w5.heap.size w5).alloc (Nat.le_refl _) (.cells #[.slice ua (splitR bs1.path).length uc] 41)
    have HP := Lib.hid (pbox_new w5 (.slice ua (splitR bs1.path).length uc))
    change Code.wp _ _ _ _ (w5.alloc (.cells #[.slice ua (splitR bs1.path).length uc] 41))
    have HYn := Lib.hid (HY.out.later hb)
    clear HY
    have HY := HYn
    clear HYn
    have HRn := Lib.hid (HR.out.below hb)
    clear HR
    have HR := HRn
    clear HRn
    have HN1n := Lib.hid (HN1.out.later hb)
    clear HN1
    have HN1 := HN1n
    clear HN1n
    have HOn := Lib.hid (HO.out.below hb)
    clear HO
    have HO := HOn
    clear HOn
    have HBn := Lib.hid (HB.out.trans (hb.mono HB.out.size))
    clear HB
    have HB := HBn
    clear HBn
    clear hb
    generalize w5.alloc (.cells #[.slice ua (splitR bs1.path).length uc] 41) = W6 at *
    obtain ⟨bp, hbp⟩ : ∃ b, w5.heap.size = b := ⟨_, rfl⟩
    rw [hbp] at HP ⊢
    clear hbp
    obtain ⟨y0, y1, y2, y3⟩ := HY.out.cells
    have x0 := HP.out.cell
    go_wp2_with fail
    clear y0 y1 y2 y3 x0
    change Calls _ _ #[insV I0 (.slice ad I0.l.length cap), planV (.slice ua (splitR bs1.path).length uc)] _ _
    refine (cost_any HR.out HO.out).mono ?_
    rintro e w7 ⟨rfl, hb⟩
    have HYn := Lib.hid (HY.out.later hb)
    clear HY
    have HY := HYn
    clear HYn
    have HRn := Lib.hid (HR.out.below hb)
    clear HR
    have HR := HRn
    clear HRn
    have HN1n := Lib.hid (HN1.out.later hb)
    clear HN1
    have HN1 := HN1n
    clear HN1n
    have HBn := Lib.hid (HB.out.trans (hb.mono HB.out.size))
    clear HB
    have HB := HBn
    clear HBn
    clear hb
    rw [HTO.out.2.2.1, HTO.out.2.2.2]
    have d9 : decide (bs1.cost < a2) = true := decide_eq_true HTO.out.1.2
    have m9 : (bs1.cost == bs1.cost) = true := by simp
    have z8 := HN1.out.c8
    clear HO HP HTO
    go_wp2
    go_ret
    exact ⟨by first | rfl | simp, HB.out⟩

set_option maxRecDepth 100000 in
theorem lifted (os : Os) (started : os.Started) (H : Type) (enc : TypeId × Value → H) :
    ReturnsInHanded {} Tryz.checked os 4 .any (Rows.narrowPlansSpec.pre6 enc Tryz.prog Tryz.f4 Rows.narrowPlansRow.domain false) (Rows.narrowPlansSpec.post enc Tryz.prog Tryz.f4 false true false false) := by
  refine returnsInHanded_of_change (C := Tryz.checked) own started (by kernel_rfl) Tryz.func4
    (ChangeSpec.witness6 (enc := enc) (C := Tryz.checked) false ⟨#[], #[.agg #[.int .i64 0, .int .i64 0, .int .i64 0, .slice none 0 0], .int .i64 0, .int .i64 0], []⟩ 8 (by kernel_rfl) (by kernel_rfl) (by kernel_rfl) (by kernel_rfl)) ?_
  intro W base args ds gs before hval0 hW hcnd _
  have hval : ∀ (j : Nat) t v, Tryz.f4.params[j]? = some t → args[j]? = some v → Value.okWide Tryz.prog W .any base t v := hval0
  have hW' := hW
  obtain ⟨p, q, hA0, hV, rfl, hfz, hnd⟩ := hW
  have hA : DataW.TrodAll enc Tryz.prog W 0 (fun _ => true) true Tryz.f4.params.toList args.toList ds p := hA0
  rw [Tryz.params4] at hA hval
  obtain ⟨v0, vs0, d0, ds0, p0, q0, hargs, rfl, rfl, h0, r0⟩ := trodAll_cons hA
  obtain ⟨v1, vs1, d1, ds1, p1, q1, rfl, rfl, rfl, h1, r1⟩ := trodAll_cons r0
  obtain ⟨v2, vs2, d2, ds2, p2, q2, rfl, rfl, rfl, h2, r2⟩ := trodAll_cons r1
  obtain ⟨rfl, rfl, rfl⟩ := trodAll_nil r2
  obtain rfl : args = #[v0, v1, v2] := by cases args; simp_all
  obtain ⟨rfl, rfl⟩ := trodVars_none hV
  have k0 := h0
  have lt0 : ∀ x ∈ p0, x.block < W.heap.size := by obtain ⟨m, hm⟩ := k0; exact DataW.trod_lt m _ _ _ hm
  have k1 := h1
  have lt1 : ∀ x ∈ p1, x.block < W.heap.size := by obtain ⟨m, hm⟩ := k1; exact DataW.trod_lt m _ _ _ hm
  have k2 := h2
  have lt2 : ∀ x ∈ p2, x.block < W.heap.size := by obtain ⟨m, hm⟩ := k2; exact DataW.trod_lt m _ _ _ hm
  obtain ⟨I0, u0, rfl, e0, _⟩ := open_inst (hval 0 24 v0 rfl rfl) h0
  obtain ⟨a1, rfl, rfl, rfl, i1⟩ := open_int Tryz.underlying3 (hval 1 3 v1 rfl rfl) h1
  obtain ⟨a2, rfl, rfl, rfl, i2⟩ := open_int Tryz.underlying3 (hval 2 3 v2 rfl rfl) h2
  clear hA0 hval0
  refine (walk I0 _ a1 a2 W e0).mono fun e W' ⟨he, bel⟩ => ?_
  subst he
  exact ⟨_, rfl, _, _, _, [], _, [], hW', trodAll_mk1 (shut_bool Tryz.underlying4 _), (trodAll_cons_mk (Below.trod laidOut (by kernel_rfl) (of_decide_eq_true (by kernel_rfl)) k0 bel lt0) (trodAll_cons_mk (Below.trod laidOut (by kernel_rfl) (of_decide_eq_true (by kernel_rfl)) k1 bel lt1) (trodAll_cons_mk (Below.trod laidOut (by kernel_rfl) (of_decide_eq_true (by kernel_rfl)) k2 bel lt2) trodAll_mk0))), rfl, bel.frame _, fun h => by cases h⟩

theorem over : Rows.narrowPlansRow.holds Tryz.pinned (OpenSpec.ofChange Rows.narrowPlansSpec) :=
  OpenClaim.holds_of_wide 4 Tryz.f4 rfl rfl rfl rfl rfl rfl rfl ⟨rfl, rfl, rfl, rfl, rfl⟩ rfl rfl rfl rfl rfl (by kernel_rfl) Tryz.func4 (by show joinedFacts Tryz.checked.prog _ _ _ _ = true; unfold joinedFacts; rw [ord_may, ord_lifts, ord_make]; kernel_rfl)
    (of_decide_eq_true (by kernel_rfl)) (by unfold Func.isWrapper; first | (rw [if_pos (by decide +kernel)]; kernel_rfl) | (rw [if_neg (by decide +kernel)]; exact ⟨rfl, rfl⟩))
    (fun os started H enc _ => lifted os started H enc)

theorem proved : Rows.NarrowPlansSaid := over
#print axioms proved
end Go.Proofs.YtgplajofemencaaGreat.narrowPlans
