/- ExactBound (P15.1, P15.2) -/
import Derived.Test.YtaaljploegiihaaOrd
import Derived.Test.YtaaljploegiihaaRows
import Derived.Test.YtaaljploegiihaaEAwake
import Derived.Test.YtaaljploegiihaaEMore
import Derived.Test.YtaaljploegiihaaEProg
import Derived.Test.YtaaljploegiihaaEOpen
import Derived.Test.YtaaljploegiihaaYL
import Derived.Test.YtaaljploegiihaaXIMay
import Derived.Test.YtaaljploegiihaaYM
import Derived.Test.YtaaljploegiihaaYI
import Derived.Test.YtaaljploegiihaaXN
import Derived.Test.YtaaljploegiihaaYF
import Derived.Test.YtaaljploegiihaaYJ
import Derived.Test.YtaaljploegiihaaYG
namespace Go.Proofs.Ytaaljploegiihaa.exactBound
open Go.ChangeShapes Go.WideShapes Go.ChangeAt Go.RowKit

set_option maxRecDepth 1000000 in
set_option maxHeartbeats 4000000 in
theorem walk (I0 : Ins) (v0 : Value) (w : World) (e0 : SRow w v0 I0.l) :
    Calls Try.prog 10 #[insV I0 v0] w fun e w' => e = .returned (.bool true) ∧ Below w.heap.size w w' := by
  have HR := Lib.hid e0
  obtain ⟨ad, cap, rfl, hlm, _⟩ := e0.form
  clear e0
  unfold insV
  go_enter Try.func10, Try.ntmps10
  go_upto_region 1 with fail
  have HY := Lib.hid (ybox_new w I0 (.slice ad I0.l.length cap))
  have HB := Lib.hid ((Below.refl w.heap.size w).alloc (Nat.le_refl _) (boxI I0 (.slice ad I0.l.length cap)))
  change Code.wp _ _ _ _ (w.alloc (boxI I0 (.slice ad I0.l.length cap)))
  generalize hW : w.alloc (boxI I0 (.slice ad I0.l.length cap)) = W at *
  have HRn := Lib.hid (HR.out.below HB.out)
  clear HR
  have HR := HRn
  clear HRn
  clear hW
  go_wp2_with fail
  refine (eawake_any _).mono ?_
  rintro e w1 ⟨rfl, hb⟩
  have HYn := Lib.hid (HY.out.later hb)
  clear HY
  have HY := HYn
  clear HYn
  have HRn := Lib.hid (HR.out.below hb)
  clear HR
  have HR := HRn
  clear HRn
  have HBn := Lib.hid (HB.out.trans (hb.mono HB.out.size))
  clear HB
  have HB := HBn
  clear HBn
  clear hb
  obtain ⟨y0, y1, y2, y3⟩ := HY.out.cells
  by_cases g1 : 7 < I0.l.length
  · have d1 : decide ((7 : Int) < (I0.l.length : Int)) = true := decide_eq_true (by omega)
    have d2 := decide_eq_true g1
    clear g1
    go_wp2
    go_ret
    exact ⟨rfl, HB.out⟩
  have d1 : decide ((7 : Int) < (I0.l.length : Int)) = false := decide_eq_false (by omega)
  have d2 := decide_eq_false g1
  have HLEN := Lib.hid g1
  clear g1
  go_wp2_with fail
  clear y0 y1 y2 y3
  change Calls _ _ #[insV I0 (.slice ad I0.l.length cap)] _ _
  refine (may_any HR.out).mono ?_
  rintro e w2 ⟨rfl, hb⟩
  have HYn := Lib.hid (HY.out.later hb)
  clear HY
  have HY := HYn
  clear HYn
  have HRn := Lib.hid (HR.out.below hb)
  clear HR
  have HR := HRn
  clear HRn
  have HBn := Lib.hid (HB.out.trans (hb.mono HB.out.size))
  clear HB
  have HB := HBn
  clear HBn
  clear hb
  by_cases hm : mayB I0 = true
  rotate_left
  · have hmf : mayB I0 = false := by simpa using hm
    rw [hmf]
    clear hm hmf
    go_wp2
    go_ret
    exact ⟨rfl, HB.out⟩
  rw [hm]
  have HM := Lib.hid hm
  have HPT := Lib.hid (show I0.p ≤ 3 by have h1 := (fine_of hm).len; have := HLEN.out; omega)
  have HRK := Lib.hid (show rankS I0 (rootS I0) < 44 by have h1 := rank_root hm; have h2 := (fine_of hm).p1; have h3 := (inb_iff _ _ _).1 ((may_iff I0).1 hm).2.1; omega)
  clear hm
  obtain ⟨o1, ho1⟩ : ∃ o, (exactRun I0 1000 44 [rootN' I0] none 1152921504606846976 0).1 = o := ⟨_, rfl⟩
  obtain ⟨al1, hal1⟩ : ∃ o, (exactRun I0 1000 44 [rootN' I0] none 1152921504606846976 0).2.1 = o := ⟨_, rfl⟩
  obtain ⟨st1, hst1⟩ : ∃ o, (exactRun I0 1000 44 [rootN' I0] none 1152921504606846976 0).2.2 = o := ⟨_, rfl⟩
  obtain ⟨bs1, hbs1⟩ : ∃ b, bestV o1 = b := ⟨_, rfl⟩
  obtain ⟨is1, his1⟩ : ∃ b, o1.isSome = b := ⟨_, rfl⟩
  have HO1 := Lib.hid ho1
  have HAL1 := Lib.hid hal1
  have HST1 := Lib.hid hst1
  have HBS1 := Lib.hid hbs1
  have HIS1 := Lib.hid his1
  clear ho1 hal1 hst1 hbs1 his1
  go_upto_region 4 with fail
  go_cut [4, 5, 6, 7] from 31 (fun p v0 v1 v2 wx => ∃ bb pb pn pc, p = .pointer (some ⟨bb, 0, none⟩) ∧ v0 = .bool is1 ∧ v1 = .bool al1 ∧ v2 = .int .i64 st1 ∧ NodB wx bb bs1.s bs1.cost (.slice pb pn pc) ∧ Row wx (.slice pb pn pc) (ints bs1.path) ∧ Below w2.heap.size w2 wx)
  case first =>
    have HBR := Lib.hid (Below.refl w2.heap.size w2).drew
    have HYn := Lib.hid (HY.out.later (Below.refl _ w2).drew)
    have HRn := Lib.hid (HR.out.below (Below.refl _ w2).drew)
    have HBn := Lib.hid HB.out.drew
    clear HY HR HB
    have HY := HYn
    have HR := HRn
    have HB := HBn
    clear HYn HRn HBn
    have HS0 := Lib.hid (show Holds (cellsI w.heap.size I0 (.slice ad I0.l.length cap)) w2.drew from ⟨HY.out.cells.1, HY.out.cells.2.1, HY.out.cells.2.2.1, HY.out.cells.2.2.2, trivial⟩)
    refine wp_region_held_drew (S := Holds (cellsI w.heap.size I0 (.slice ad I0.l.length cap))) (by kernel_rfl) HS0.out (fun hSn => ?_)
    generalize w2.drew = V at *
    have hlt := Lib.hid (show Lows V.heap.size (cellsI w.heap.size I0 (.slice ad I0.l.length cap)) from (show Lows _ (cellsI w.heap.size I0 (.slice ad I0.l.length cap)) from ⟨HY.out.lt, HY.out.lt, HY.out.lt, HY.out.lt, trivial⟩))
    have Bc := Lib.hid (Below.refl V.heap.size V)
    simp only [cellsI] at HS0 hlt hSn ⊢
    refine tks [0, 1] 2 rfl (by kernel_rfl) (fun _ _ _ _ h => h) (by assumption) (fun KT hKT => ?_)
    iterate 2 (refine tkT (by (simp only [gA, gB, gC]; rfl)) (by rfl) (by (intro w hSw; (simp only [Holds] at hSw); go_simp <;> with_reducible rfl)) ?_; simp only [Act.put, pA, pB, pC])
    refine hKT _ ?_
    clear KT hKT
    refine wpAnyH_ready (rs := [2, 9]) (by kernel_rfl) (by simp) ?_
    refine (AllReadyH.cons (o := ?oz234) ?iz234 (fun K hK => ?kz234) (AllReadyH.cons (o := ?oz235) ?iz235 (fun K hK => ?kz235) AllReadyH.nil))
    case iz234 => (simp only [List.getElem?_toArray, List.getElem?_cons_zero, List.getElem?_cons_succ]; rfl)
    case iz235 => (simp only [List.getElem?_toArray, List.getElem?_cons_zero, List.getElem?_cons_succ]; rfl)
    · skip
      go_simp
      change Calls _ _ #[insV I0 (.slice ad I0.l.length cap)] _ _
      refine (eroot_any (HR.out.below Bc.out)).mono ?_
      rintro e w' ⟨rfl, hb⟩
      refine held_more hK HS0.out hlt (Bc.out.trans (hb.mono Bc.out.size)) (fun Bc hSn => ?_)
      clear hb hK
      refine wpAnyH_ready (rs := [3, 9]) (by kernel_rfl) (by simp) ?_
      refine (AllReadyH.cons (o := ?oz236) ?iz236 (fun K hK => ?kz236) (AllReadyH.cons (o := ?oz237) ?iz237 (fun K hK => ?kz237) AllReadyH.nil))
      case iz236 => (simp only [List.getElem?_toArray, List.getElem?_cons_zero, List.getElem?_cons_succ]; rfl)
      case iz237 => (simp only [List.getElem?_toArray, List.getElem?_cons_zero, List.getElem?_cons_succ]; rfl)
      · skip
        go_simp
        change Calls _ _ #[insV I0 (.slice ad I0.l.length cap), nodeV (rootS I0) 0 (.slice none 0 0), .int .i64 1152921504606846976, .int .i64 1000] _ _
        refine (ebest_any (I := I0) (n := rootN' I0) (up := 1152921504606846976) (most := 1000) (w0 := V) (HR.out.below Bc.out) Bc.out (root_setsE I0) (root_fit I0) (by show Fit 0; unfold Fit; decide) (.inl (row_nil V)) (Nat.zero_le _) (by decide)).mono ?_
        rw [HO1.out, HAL1.out, HST1.out, HBS1.out, HIS1.out]
        rintro e w6 ⟨pb, pn, pc, rfl, hp, hb⟩
        refine held_more hK HS0.out hlt (Bc.out.trans (hb.mono Bc.out.size)) (fun Bc hSn => ?_)
        have HPX := Lib.hid hp
        clear hb hK hp
        unfold nodeV
        refine tks [4, 5, 6, 7, 8] 5 rfl (by kernel_rfl) (fun _ _ _ _ h => h) (by assumption) (fun KT hKT => ?_)
        iterate 5 (refine tkT (by (simp only [gA, gB, gC]; rfl)) (by rfl) (by (intro w hSw; (simp only [Holds] at hSw); go_simp <;> with_reducible rfl)) ?_; simp only [Act.put, pA, pB, pC])
        refine hKT _ ?_
        clear KT hKT
        have HSZ := Lib.hid Bc.out.size
        refine wpAnyH_ready (rs := [9]) (by kernel_rfl) (by simp) ?_
        refine AllReadyH.cons (o := ?oz238) ?iz238 (fun K hK => ?kz238) AllReadyH.nil
        case iz238 => (simp only [List.getElem?_toArray, List.getElem?_cons_zero, List.getElem?_cons_succ]; rfl)
        go_simp
        refine held_more hK HS0.out hlt (Bc.out.alloc Bc.out.size _) (fun Bc hSn => ?_)
        have HN := Lib.hid (nod_new w6 noughtS 0 (.slice none 0 0))
        change wpAnyH _ _ _ _ _ _ _ _ (w6.alloc (boxN noughtS 0 (.slice none 0 0)))
        have Bc2 := Lib.hid (show Below V.heap.size V (w6.alloc (boxN noughtS 0 (.slice none 0 0))) from Bc.out)
        clear Bc
        have Bc := Bc2
        clear Bc2
        change Holds _ (w6.alloc (boxN noughtS 0 (.slice none 0 0))) at hSn
        have HPXn := Lib.hid (HPX.out.below ((Below.refl w6.heap.size w6).alloc (Nat.le_refl _) (boxN noughtS 0 (.slice none 0 0))))
        clear HPX
        have HPX := HPXn
        clear HPXn
        generalize w6.alloc (boxN noughtS 0 (.slice none 0 0)) = Xn at *
        obtain ⟨bx, hbx⟩ : ∃ bx, bx = w6.heap.size := ⟨_, rfl⟩
        have HLX := Lib.hid (show V.heap.size ≤ bx by rw [hbx]; exact HSZ.out)
        rw [← hbx] at HN ⊢
        clear hbx HSZ
        refine wpAnyH_ready (rs := [10]) (by kernel_rfl) (by simp) ?_
        refine (AllReadyH.cons (o := ?oz239) ?iz239 (fun K hK => ?kz239) AllReadyH.nil)
        case iz239 => (simp only [List.getElem?_toArray, List.getElem?_cons_zero, List.getElem?_cons_succ]; rfl)
        simp only [Act.put]
        rw [if_pos (by rfl)]
        refine wp_store_node (.tmp 4) (.tmp 36) (by rfl) bx _ _ _ ⟨bs1.s, bs1.cost, pb, pn, pc⟩ (by rfl) (by rfl) HN.out ?_
        intro wE hE hbE hoE hgE
        refine held_more hK HS0.out hlt (Bc.out.trans (hbE _ HLX.out)) (fun Bc hSn => ?_)
        have HPE := HPX.out.kept hgE HN.out
        clear hK
        refine tks [11, 12, 13] 3 rfl (by kernel_rfl) (fun _ _ _ _ h => h) (by assumption) (fun KT hKT => ?_)
        iterate 3 (refine tkT (by (simp only [gA, gB, gC]; rfl)) (by rfl) (by (intro w hSw; (simp only [Holds] at hSw); go_simp <;> with_reducible rfl)) ?_; simp only [Act.put, pA, pB, pC])
        refine hKT _ ?_
        clear KT hKT
        refine wpAnyH_done (by kernel_rfl) ?_ _
        go_wp2_with fail
        go_meet
        exact ⟨bx, pb, pn, pc, rfl, rfl, rfl, rfl, hE, HPE.row Bc.out, HBR.out.trans (Bc.out.mono HBR.out.size)⟩
      · skip
        have HSZ := Lib.hid Bc.out.size
        go_simp
        refine held_more hK HS0.out hlt (Bc.out.alloc Bc.out.size _) (fun Bc hSn => ?_)
        clear hK
        have HN := Lib.hid (nod_new w' noughtS 0 (.slice none 0 0))
        change wpAnyH _ _ _ _ _ _ _ _ (w'.alloc (boxN noughtS 0 (.slice none 0 0)))
        have Bc2 := Lib.hid (show Below V.heap.size V (w'.alloc (boxN noughtS 0 (.slice none 0 0))) from Bc.out)
        clear Bc
        have Bc := Bc2
        clear Bc2
        change Holds _ (w'.alloc (boxN noughtS 0 (.slice none 0 0))) at hSn
        generalize w'.alloc (boxN noughtS 0 (.slice none 0 0)) = Xn at *
        obtain ⟨bx, hbx⟩ : ∃ bx, bx = w'.heap.size := ⟨_, rfl⟩
        have HLX := Lib.hid (show V.heap.size ≤ bx by rw [hbx]; exact HSZ.out)
        rw [← hbx] at HN ⊢
        clear hbx HSZ
        refine wpAnyH_ready (rs := [3]) (by kernel_rfl) (by simp) ?_
        refine AllReadyH.cons (o := ?oz240) ?iz240 (fun K hK => ?kz240) AllReadyH.nil
        case iz240 => (simp only [List.getElem?_toArray, List.getElem?_cons_zero, List.getElem?_cons_succ]; rfl)
        go_simp
        change Calls _ _ #[insV I0 (.slice ad I0.l.length cap), nodeV (rootS I0) 0 (.slice none 0 0), .int .i64 1152921504606846976, .int .i64 1000] _ _
        refine (ebest_any (I := I0) (n := rootN' I0) (up := 1152921504606846976) (most := 1000) (w0 := V) (HR.out.below Bc.out) Bc.out (root_setsE I0) (root_fit I0) (by show Fit 0; unfold Fit; decide) (.inl (row_nil V)) (Nat.zero_le _) (by decide)).mono ?_
        rw [HO1.out, HAL1.out, HST1.out, HBS1.out, HIS1.out]
        rintro e w6 ⟨pb, pn, pc, rfl, hp, hb⟩
        refine held_more hK HS0.out hlt (Bc.out.trans (hb.mono Bc.out.size)) (fun Bc hSn => ?_)
        have HNn := Lib.hid (HN.out.later hb)
        clear HN
        have HN := HNn
        clear HNn
        have HPX := Lib.hid hp
        clear hb hK hp
        unfold nodeV
        refine tks [4, 5, 6, 7, 8] 5 rfl (by kernel_rfl) (fun _ _ _ _ h => h) (by assumption) (fun KT hKT => ?_)
        iterate 5 (refine tkT (by (simp only [gA, gB, gC]; rfl)) (by rfl) (by (intro w hSw; (simp only [Holds] at hSw); go_simp <;> with_reducible rfl)) ?_; simp only [Act.put, pA, pB, pC])
        refine hKT _ ?_
        clear KT hKT
        refine wpAnyH_ready (rs := [10]) (by kernel_rfl) (by simp) ?_
        refine (AllReadyH.cons (o := ?oz241) ?iz241 (fun K hK => ?kz241) AllReadyH.nil)
        case iz241 => (simp only [List.getElem?_toArray, List.getElem?_cons_zero, List.getElem?_cons_succ]; rfl)
        simp only [Act.put]
        rw [if_pos (by rfl)]
        refine wp_store_node (.tmp 4) (.tmp 36) (by rfl) bx _ _ _ ⟨bs1.s, bs1.cost, pb, pn, pc⟩ (by rfl) (by rfl) HN.out ?_
        intro wE hE hbE hoE hgE
        refine held_more hK HS0.out hlt (Bc.out.trans (hbE _ HLX.out)) (fun Bc hSn => ?_)
        have HPE := HPX.out.kept hgE HN.out
        clear hK
        refine tks [11, 12, 13] 3 rfl (by kernel_rfl) (fun _ _ _ _ h => h) (by assumption) (fun KT hKT => ?_)
        iterate 3 (refine tkT (by (simp only [gA, gB, gC]; rfl)) (by rfl) (by (intro w hSw; (simp only [Holds] at hSw); go_simp <;> with_reducible rfl)) ?_; simp only [Act.put, pA, pB, pC])
        refine hKT _ ?_
        clear KT hKT
        refine wpAnyH_done (by kernel_rfl) ?_ _
        go_wp2_with fail
        go_meet
        exact ⟨bx, pb, pn, pc, rfl, rfl, rfl, rfl, hE, HPE.row Bc.out, HBR.out.trans (Bc.out.mono HBR.out.size)⟩
    · skip
      have HSZ := Lib.hid Bc.out.size
      go_simp
      refine held_more hK HS0.out hlt (Bc.out.alloc Bc.out.size _) (fun Bc hSn => ?_)
      clear hK
      have HN := Lib.hid (nod_new V noughtS 0 (.slice none 0 0))
      change wpAnyH _ _ _ _ _ _ _ _ (V.alloc (boxN noughtS 0 (.slice none 0 0)))
      have Bc2 := Lib.hid (show Below V.heap.size V (V.alloc (boxN noughtS 0 (.slice none 0 0))) from Bc.out)
      clear Bc
      have Bc := Bc2
      clear Bc2
      change Holds _ (V.alloc (boxN noughtS 0 (.slice none 0 0))) at hSn
      generalize V.alloc (boxN noughtS 0 (.slice none 0 0)) = Xn at *
      obtain ⟨bx, hbx⟩ : ∃ bx, bx = V.heap.size := ⟨_, rfl⟩
      have HLX := Lib.hid (show V.heap.size ≤ bx by rw [hbx]; exact HSZ.out)
      rw [← hbx] at HN ⊢
      clear hbx HSZ
      refine wpAnyH_ready (rs := [2]) (by kernel_rfl) (by simp) ?_
      refine AllReadyH.cons (o := ?oz242) ?iz242 (fun K hK => ?kz242) AllReadyH.nil
      case iz242 => (simp only [List.getElem?_toArray, List.getElem?_cons_zero, List.getElem?_cons_succ]; rfl)
      go_simp
      change Calls _ _ #[insV I0 (.slice ad I0.l.length cap)] _ _
      refine (eroot_any (HR.out.below Bc.out)).mono ?_
      rintro e w' ⟨rfl, hb⟩
      refine held_more hK HS0.out hlt (Bc.out.trans (hb.mono Bc.out.size)) (fun Bc hSn => ?_)
      have HNn := Lib.hid (HN.out.later hb)
      clear HN
      have HN := HNn
      clear HNn
      clear hb hK
      refine wpAnyH_ready (rs := [3]) (by kernel_rfl) (by simp) ?_
      refine AllReadyH.cons (o := ?oz243) ?iz243 (fun K hK => ?kz243) AllReadyH.nil
      case iz243 => (simp only [List.getElem?_toArray, List.getElem?_cons_zero, List.getElem?_cons_succ]; rfl)
      go_simp
      change Calls _ _ #[insV I0 (.slice ad I0.l.length cap), nodeV (rootS I0) 0 (.slice none 0 0), .int .i64 1152921504606846976, .int .i64 1000] _ _
      refine (ebest_any (I := I0) (n := rootN' I0) (up := 1152921504606846976) (most := 1000) (w0 := V) (HR.out.below Bc.out) Bc.out (root_setsE I0) (root_fit I0) (by show Fit 0; unfold Fit; decide) (.inl (row_nil V)) (Nat.zero_le _) (by decide)).mono ?_
      rw [HO1.out, HAL1.out, HST1.out, HBS1.out, HIS1.out]
      rintro e w6 ⟨pb, pn, pc, rfl, hp, hb⟩
      refine held_more hK HS0.out hlt (Bc.out.trans (hb.mono Bc.out.size)) (fun Bc hSn => ?_)
      have HNn := Lib.hid (HN.out.later hb)
      clear HN
      have HN := HNn
      clear HNn
      have HPX := Lib.hid hp
      clear hb hK hp
      unfold nodeV
      refine tks [4, 5, 6, 7, 8] 5 rfl (by kernel_rfl) (fun _ _ _ _ h => h) (by assumption) (fun KT hKT => ?_)
      iterate 5 (refine tkT (by (simp only [gA, gB, gC]; rfl)) (by rfl) (by (intro w hSw; (simp only [Holds] at hSw); go_simp <;> with_reducible rfl)) ?_; simp only [Act.put, pA, pB, pC])
      refine hKT _ ?_
      clear KT hKT
      refine wpAnyH_ready (rs := [10]) (by kernel_rfl) (by simp) ?_
      refine (AllReadyH.cons (o := ?oz244) ?iz244 (fun K hK => ?kz244) AllReadyH.nil)
      case iz244 => (simp only [List.getElem?_toArray, List.getElem?_cons_zero, List.getElem?_cons_succ]; rfl)
      simp only [Act.put]
      rw [if_pos (by rfl)]
      refine wp_store_node (.tmp 4) (.tmp 36) (by rfl) bx _ _ _ ⟨bs1.s, bs1.cost, pb, pn, pc⟩ (by rfl) (by rfl) HN.out ?_
      intro wE hE hbE hoE hgE
      refine held_more hK HS0.out hlt (Bc.out.trans (hbE _ HLX.out)) (fun Bc hSn => ?_)
      have HPE := HPX.out.kept hgE HN.out
      clear hK
      refine tks [11, 12, 13] 3 rfl (by kernel_rfl) (fun _ _ _ _ h => h) (by assumption) (fun KT hKT => ?_)
      iterate 3 (refine tkT (by (simp only [gA, gB, gC]; rfl)) (by rfl) (by (intro w hSw; (simp only [Holds] at hSw); go_simp <;> with_reducible rfl)) ?_; simp only [Act.put, pA, pB, pC])
      refine hKT _ ?_
      clear KT hKT
      refine wpAnyH_done (by kernel_rfl) ?_ _
      go_wp2_with fail
      go_meet
      exact ⟨bx, pb, pn, pc, rfl, rfl, rfl, rfl, hE, HPE.row Bc.out, HBR.out.trans (Bc.out.mono HBR.out.size)⟩
  case rest =>
  obtain ⟨bb1, pb1, pn1, pc1, rfl, rfl, rfl, rfl, f1, f2, hb⟩ := hcut
  have HN1 := Lib.hid f1
  have HP1 := Lib.hid f2
  clear f1 f2
  have HYn := Lib.hid (HY.out.later hb)
  clear HY
  have HY := HYn
  clear HYn
  have HRn := Lib.hid (HR.out.below hb)
  clear HR
  have HR := HRn
  clear HRn
  have HBn := Lib.hid (HB.out.trans (hb.mono HB.out.size))
  clear HB
  have HB := HBn
  clear HBn
  clear hb
  generalize wc = W4 at *
  have HT1 := Lib.hid (show al1 = true by
    rw [← HAL1.out]
    exact run_all HM.out (by have := HPT.out; omega) (by decide) 44 [rootN' I0] none 1152921504606846976 0 0 (level_root I0))
  have HE1 := Lib.hid (exact_root HM.out (most := 1000) (lim := 1152921504606846976) HRK.out).1
  obtain rfl := HT1.out
  clear HT1
  have hq : is1 = is1 := rfl
  cases his : is1 with
  | false =>
    subst his
    have x8 : W4.cell? ⟨bb1, 8, none⟩ = some (.int .i64 0) := by
      have e : bs1.cost = 0 := by
        have h := HIS1.out
        rw [← HBS1.out]
        cases o1 with
        | none => rfl
        | some n => cases h
      have := HN1.out.c8
      rw [e] at this
      exact this
    clear HO1 HAL1 HST1 HBS1 HIS1 HE1 HN1 HP1 hq
    go_wp2
    go_ret
    exact ⟨by first | rfl | simp, HB.out⟩
  | true =>
    subst his
    clear hq
    have HCB := Lib.hid (show 0 ≤ bs1.cost ∧ bs1.cost < 1152921504606846976 by
      have h1 := HE1.out
      have h := HIS1.out
      rw [HO1.out] at h1
      rw [← HBS1.out]
      cases o1 with
      | none => cases h
      | some n => exact ⟨(found_bd HM.out h1).1, h1.choose_spec.2.2.2⟩)
    clear HE1
    have e1 : IntKind.i64.wrap (bs1.cost + 1) = bs1.cost + 1 := IntWalk.i64_in _ (by have := HCB.out; omega)
    obtain ⟨o2, ho2⟩ : ∃ o, (exactRun I0 1000 44 [rootN' I0] none bs1.cost 0).1 = o := ⟨_, rfl⟩
    obtain ⟨al2, hal2⟩ : ∃ o, (exactRun I0 1000 44 [rootN' I0] none bs1.cost 0).2.1 = o := ⟨_, rfl⟩
    obtain ⟨st2, hst2⟩ : ∃ o, (exactRun I0 1000 44 [rootN' I0] none bs1.cost 0).2.2 = o := ⟨_, rfl⟩
    obtain ⟨bs2, hbs2⟩ : ∃ b, bestV o2 = b := ⟨_, rfl⟩
    obtain ⟨is2, his2⟩ : ∃ b, o2.isSome = b := ⟨_, rfl⟩
    have HO2 := Lib.hid ho2
    have HAL2 := Lib.hid hal2
    have HST2 := Lib.hid hst2
    have HBS2 := Lib.hid hbs2
    have HIS2 := Lib.hid his2
    clear ho2 hal2 hst2 hbs2 his2
    go_upto_region 9 with fail
    go_cut [8, 9, 10, 11] from 47 (fun p v0 v1 v2 wx => ∃ bb pb pn pc, p = .pointer (some ⟨bb, 0, none⟩) ∧ v0 = .bool is2 ∧ v1 = .bool al2 ∧ v2 = .int .i64 st2 ∧ NodB wx bb bs2.s bs2.cost (.slice pb pn pc) ∧ Row wx (.slice pb pn pc) (ints bs2.path) ∧ Below W4.heap.size W4 wx)
    case first =>
      have HBR := Lib.hid (Below.refl W4.heap.size W4).drew
      have HYn := Lib.hid (HY.out.later (Below.refl _ W4).drew)
      have HN1n := Lib.hid (HN1.out.later (Below.refl _ W4).drew)
      have HRn := Lib.hid (HR.out.below (Below.refl _ W4).drew)
      have HBn := Lib.hid HB.out.drew
      clear HY HN1 HR HB
      have HY := HYn
      have HN1 := HN1n
      have HR := HRn
      have HB := HBn
      clear HYn HN1n HRn HBn
      have HS0 := Lib.hid (show Holds ((cellsI w.heap.size I0 (.slice ad I0.l.length cap)) ++ (cellsN bb1 bs1.s bs1.cost (.slice pb1 pn1 pc1))) W4.drew from (Holds.app.2 ⟨⟨HY.out.cells.1, HY.out.cells.2.1, HY.out.cells.2.2.1, HY.out.cells.2.2.2, trivial⟩, HN1.out.holds⟩))
      refine wp_region_held_drew (S := Holds ((cellsI w.heap.size I0 (.slice ad I0.l.length cap)) ++ (cellsN bb1 bs1.s bs1.cost (.slice pb1 pn1 pc1)))) (by kernel_rfl) HS0.out (fun hSn => ?_)
      generalize W4.drew = V at *
      have hlt := Lib.hid (show Lows V.heap.size ((cellsI w.heap.size I0 (.slice ad I0.l.length cap)) ++ (cellsN bb1 bs1.s bs1.cost (.slice pb1 pn1 pc1))) from (Lows.app (show Lows _ (cellsI w.heap.size I0 (.slice ad I0.l.length cap)) from ⟨HY.out.lt, HY.out.lt, HY.out.lt, HY.out.lt, trivial⟩) (lows_N HN1.out.lt)))
      have Bc := Lib.hid (Below.refl V.heap.size V)
      simp only [cellsI, cellsN, List.cons_append, List.nil_append] at HS0 hlt hSn ⊢
      refine tks [0, 1, 3, 4] 4 rfl (by kernel_rfl) (fun _ _ _ _ h => h) (by assumption) (fun KT hKT => ?_)
      iterate 4 (refine tkT (by (simp only [gA, gB, gC]; rfl)) (by rfl) (by (intro w hSw; (simp only [Holds] at hSw); go_simp <;> with_reducible rfl)) ?_; simp only [Act.put, pA, pB, pC])
      refine hKT _ ?_
      clear KT hKT
      refine wpAnyH_ready (rs := [2, 11]) (by kernel_rfl) (by simp) ?_
      refine (AllReadyH.cons (o := ?oz245) ?iz245 (fun K hK => ?kz245) (AllReadyH.cons (o := ?oz246) ?iz246 (fun K hK => ?kz246) AllReadyH.nil))
      case iz245 => (simp only [List.getElem?_toArray, List.getElem?_cons_zero, List.getElem?_cons_succ]; rfl)
      case iz246 => (simp only [List.getElem?_toArray, List.getElem?_cons_zero, List.getElem?_cons_succ]; rfl)
      · skip
        go_simp
        change Calls _ _ #[insV I0 (.slice ad I0.l.length cap)] _ _
        refine (eroot_any (HR.out.below Bc.out)).mono ?_
        rintro e w' ⟨rfl, hb⟩
        refine held_more hK HS0.out hlt (Bc.out.trans (hb.mono Bc.out.size)) (fun Bc hSn => ?_)
        clear hb hK
        refine wpAnyH_ready (rs := [5, 11]) (by kernel_rfl) (by simp) ?_
        refine (AllReadyH.cons (o := ?oz247) ?iz247 (fun K hK => ?kz247) (AllReadyH.cons (o := ?oz248) ?iz248 (fun K hK => ?kz248) AllReadyH.nil))
        case iz247 => (simp only [List.getElem?_toArray, List.getElem?_cons_zero, List.getElem?_cons_succ]; rfl)
        case iz248 => (simp only [List.getElem?_toArray, List.getElem?_cons_zero, List.getElem?_cons_succ]; rfl)
        · skip
          go_simp
          change Calls _ _ #[insV I0 (.slice ad I0.l.length cap), nodeV (rootS I0) 0 (.slice none 0 0), .int .i64 bs1.cost, .int .i64 1000] _ _
          refine (ebest_any (I := I0) (n := rootN' I0) (up := bs1.cost) (most := 1000) (w0 := V) (HR.out.below Bc.out) Bc.out (root_setsE I0) (root_fit I0) (by show Fit 0; unfold Fit; decide) (.inl (row_nil V)) (Nat.zero_le _) (by decide)).mono ?_
          rw [HO2.out, HAL2.out, HST2.out, HBS2.out, HIS2.out]
          rintro e w6 ⟨pb, pn, pc, rfl, hp, hb⟩
          refine held_more hK HS0.out hlt (Bc.out.trans (hb.mono Bc.out.size)) (fun Bc hSn => ?_)
          have HPX := Lib.hid hp
          clear hb hK hp
          unfold nodeV
          refine tks [6, 7, 8, 9, 10] 5 rfl (by kernel_rfl) (fun _ _ _ _ h => h) (by assumption) (fun KT hKT => ?_)
          iterate 5 (refine tkT (by (simp only [gA, gB, gC]; rfl)) (by rfl) (by (intro w hSw; (simp only [Holds] at hSw); go_simp <;> with_reducible rfl)) ?_; simp only [Act.put, pA, pB, pC])
          refine hKT _ ?_
          clear KT hKT
          have HSZ := Lib.hid Bc.out.size
          refine wpAnyH_ready (rs := [11]) (by kernel_rfl) (by simp) ?_
          refine AllReadyH.cons (o := ?oz249) ?iz249 (fun K hK => ?kz249) AllReadyH.nil
          case iz249 => (simp only [List.getElem?_toArray, List.getElem?_cons_zero, List.getElem?_cons_succ]; rfl)
          go_simp
          refine held_more hK HS0.out hlt (Bc.out.alloc Bc.out.size _) (fun Bc hSn => ?_)
          have HN := Lib.hid (nod_new w6 noughtS 0 (.slice none 0 0))
          change wpAnyH _ _ _ _ _ _ _ _ (w6.alloc (boxN noughtS 0 (.slice none 0 0)))
          have Bc2 := Lib.hid (show Below V.heap.size V (w6.alloc (boxN noughtS 0 (.slice none 0 0))) from Bc.out)
          clear Bc
          have Bc := Bc2
          clear Bc2
          change Holds _ (w6.alloc (boxN noughtS 0 (.slice none 0 0))) at hSn
          have HPXn := Lib.hid (HPX.out.below ((Below.refl w6.heap.size w6).alloc (Nat.le_refl _) (boxN noughtS 0 (.slice none 0 0))))
          clear HPX
          have HPX := HPXn
          clear HPXn
          generalize w6.alloc (boxN noughtS 0 (.slice none 0 0)) = Xn at *
          obtain ⟨bx, hbx⟩ : ∃ bx, bx = w6.heap.size := ⟨_, rfl⟩
          have HLX := Lib.hid (show V.heap.size ≤ bx by rw [hbx]; exact HSZ.out)
          rw [← hbx] at HN ⊢
          clear hbx HSZ
          refine wpAnyH_ready (rs := [12]) (by kernel_rfl) (by simp) ?_
          refine (AllReadyH.cons (o := ?oz250) ?iz250 (fun K hK => ?kz250) AllReadyH.nil)
          case iz250 => (simp only [List.getElem?_toArray, List.getElem?_cons_zero, List.getElem?_cons_succ]; rfl)
          simp only [Act.put]
          rw [if_pos (by rfl)]
          refine wp_store_node (.tmp 8) (.tmp 54) (by rfl) bx _ _ _ ⟨bs2.s, bs2.cost, pb, pn, pc⟩ (by rfl) (by rfl) HN.out ?_
          intro wE hE hbE hoE hgE
          refine held_more hK HS0.out hlt (Bc.out.trans (hbE _ HLX.out)) (fun Bc hSn => ?_)
          have HPE := HPX.out.kept hgE HN.out
          clear hK
          refine tks [13, 14, 15] 3 rfl (by kernel_rfl) (fun _ _ _ _ h => h) (by assumption) (fun KT hKT => ?_)
          iterate 3 (refine tkT (by (simp only [gA, gB, gC]; rfl)) (by rfl) (by (intro w hSw; (simp only [Holds] at hSw); go_simp <;> with_reducible rfl)) ?_; simp only [Act.put, pA, pB, pC])
          refine hKT _ ?_
          clear KT hKT
          refine wpAnyH_done (by kernel_rfl) ?_ _
          go_wp2_with fail
          go_meet
          exact ⟨bx, pb, pn, pc, rfl, rfl, rfl, rfl, hE, HPE.row Bc.out, HBR.out.trans (Bc.out.mono HBR.out.size)⟩
        · skip
          have HSZ := Lib.hid Bc.out.size
          go_simp
          refine held_more hK HS0.out hlt (Bc.out.alloc Bc.out.size _) (fun Bc hSn => ?_)
          clear hK
          have HN := Lib.hid (nod_new w' noughtS 0 (.slice none 0 0))
          change wpAnyH _ _ _ _ _ _ _ _ (w'.alloc (boxN noughtS 0 (.slice none 0 0)))
          have Bc2 := Lib.hid (show Below V.heap.size V (w'.alloc (boxN noughtS 0 (.slice none 0 0))) from Bc.out)
          clear Bc
          have Bc := Bc2
          clear Bc2
          change Holds _ (w'.alloc (boxN noughtS 0 (.slice none 0 0))) at hSn
          generalize w'.alloc (boxN noughtS 0 (.slice none 0 0)) = Xn at *
          obtain ⟨bx, hbx⟩ : ∃ bx, bx = w'.heap.size := ⟨_, rfl⟩
          have HLX := Lib.hid (show V.heap.size ≤ bx by rw [hbx]; exact HSZ.out)
          rw [← hbx] at HN ⊢
          clear hbx HSZ
          refine wpAnyH_ready (rs := [5]) (by kernel_rfl) (by simp) ?_
          refine AllReadyH.cons (o := ?oz251) ?iz251 (fun K hK => ?kz251) AllReadyH.nil
          case iz251 => (simp only [List.getElem?_toArray, List.getElem?_cons_zero, List.getElem?_cons_succ]; rfl)
          go_simp
          change Calls _ _ #[insV I0 (.slice ad I0.l.length cap), nodeV (rootS I0) 0 (.slice none 0 0), .int .i64 bs1.cost, .int .i64 1000] _ _
          refine (ebest_any (I := I0) (n := rootN' I0) (up := bs1.cost) (most := 1000) (w0 := V) (HR.out.below Bc.out) Bc.out (root_setsE I0) (root_fit I0) (by show Fit 0; unfold Fit; decide) (.inl (row_nil V)) (Nat.zero_le _) (by decide)).mono ?_
          rw [HO2.out, HAL2.out, HST2.out, HBS2.out, HIS2.out]
          rintro e w6 ⟨pb, pn, pc, rfl, hp, hb⟩
          refine held_more hK HS0.out hlt (Bc.out.trans (hb.mono Bc.out.size)) (fun Bc hSn => ?_)
          have HNn := Lib.hid (HN.out.later hb)
          clear HN
          have HN := HNn
          clear HNn
          have HPX := Lib.hid hp
          clear hb hK hp
          unfold nodeV
          refine tks [6, 7, 8, 9, 10] 5 rfl (by kernel_rfl) (fun _ _ _ _ h => h) (by assumption) (fun KT hKT => ?_)
          iterate 5 (refine tkT (by (simp only [gA, gB, gC]; rfl)) (by rfl) (by (intro w hSw; (simp only [Holds] at hSw); go_simp <;> with_reducible rfl)) ?_; simp only [Act.put, pA, pB, pC])
          refine hKT _ ?_
          clear KT hKT
          refine wpAnyH_ready (rs := [12]) (by kernel_rfl) (by simp) ?_
          refine (AllReadyH.cons (o := ?oz252) ?iz252 (fun K hK => ?kz252) AllReadyH.nil)
          case iz252 => (simp only [List.getElem?_toArray, List.getElem?_cons_zero, List.getElem?_cons_succ]; rfl)
          simp only [Act.put]
          rw [if_pos (by rfl)]
          refine wp_store_node (.tmp 8) (.tmp 54) (by rfl) bx _ _ _ ⟨bs2.s, bs2.cost, pb, pn, pc⟩ (by rfl) (by rfl) HN.out ?_
          intro wE hE hbE hoE hgE
          refine held_more hK HS0.out hlt (Bc.out.trans (hbE _ HLX.out)) (fun Bc hSn => ?_)
          have HPE := HPX.out.kept hgE HN.out
          clear hK
          refine tks [13, 14, 15] 3 rfl (by kernel_rfl) (fun _ _ _ _ h => h) (by assumption) (fun KT hKT => ?_)
          iterate 3 (refine tkT (by (simp only [gA, gB, gC]; rfl)) (by rfl) (by (intro w hSw; (simp only [Holds] at hSw); go_simp <;> with_reducible rfl)) ?_; simp only [Act.put, pA, pB, pC])
          refine hKT _ ?_
          clear KT hKT
          refine wpAnyH_done (by kernel_rfl) ?_ _
          go_wp2_with fail
          go_meet
          exact ⟨bx, pb, pn, pc, rfl, rfl, rfl, rfl, hE, HPE.row Bc.out, HBR.out.trans (Bc.out.mono HBR.out.size)⟩
      · skip
        have HSZ := Lib.hid Bc.out.size
        go_simp
        refine held_more hK HS0.out hlt (Bc.out.alloc Bc.out.size _) (fun Bc hSn => ?_)
        clear hK
        have HN := Lib.hid (nod_new V noughtS 0 (.slice none 0 0))
        change wpAnyH _ _ _ _ _ _ _ _ (V.alloc (boxN noughtS 0 (.slice none 0 0)))
        have Bc2 := Lib.hid (show Below V.heap.size V (V.alloc (boxN noughtS 0 (.slice none 0 0))) from Bc.out)
        clear Bc
        have Bc := Bc2
        clear Bc2
        change Holds _ (V.alloc (boxN noughtS 0 (.slice none 0 0))) at hSn
        generalize V.alloc (boxN noughtS 0 (.slice none 0 0)) = Xn at *
        obtain ⟨bx, hbx⟩ : ∃ bx, bx = V.heap.size := ⟨_, rfl⟩
        have HLX := Lib.hid (show V.heap.size ≤ bx by rw [hbx]; exact HSZ.out)
        rw [← hbx] at HN ⊢
        clear hbx HSZ
        refine wpAnyH_ready (rs := [2]) (by kernel_rfl) (by simp) ?_
        refine AllReadyH.cons (o := ?oz253) ?iz253 (fun K hK => ?kz253) AllReadyH.nil
        case iz253 => (simp only [List.getElem?_toArray, List.getElem?_cons_zero, List.getElem?_cons_succ]; rfl)
        go_simp
        change Calls _ _ #[insV I0 (.slice ad I0.l.length cap)] _ _
        refine (eroot_any (HR.out.below Bc.out)).mono ?_
        rintro e w' ⟨rfl, hb⟩
        refine held_more hK HS0.out hlt (Bc.out.trans (hb.mono Bc.out.size)) (fun Bc hSn => ?_)
        have HNn := Lib.hid (HN.out.later hb)
        clear HN
        have HN := HNn
        clear HNn
        clear hb hK
        refine wpAnyH_ready (rs := [5]) (by kernel_rfl) (by simp) ?_
        refine AllReadyH.cons (o := ?oz254) ?iz254 (fun K hK => ?kz254) AllReadyH.nil
        case iz254 => (simp only [List.getElem?_toArray, List.getElem?_cons_zero, List.getElem?_cons_succ]; rfl)
        go_simp
        change Calls _ _ #[insV I0 (.slice ad I0.l.length cap), nodeV (rootS I0) 0 (.slice none 0 0), .int .i64 bs1.cost, .int .i64 1000] _ _
        refine (ebest_any (I := I0) (n := rootN' I0) (up := bs1.cost) (most := 1000) (w0 := V) (HR.out.below Bc.out) Bc.out (root_setsE I0) (root_fit I0) (by show Fit 0; unfold Fit; decide) (.inl (row_nil V)) (Nat.zero_le _) (by decide)).mono ?_
        rw [HO2.out, HAL2.out, HST2.out, HBS2.out, HIS2.out]
        rintro e w6 ⟨pb, pn, pc, rfl, hp, hb⟩
        refine held_more hK HS0.out hlt (Bc.out.trans (hb.mono Bc.out.size)) (fun Bc hSn => ?_)
        have HNn := Lib.hid (HN.out.later hb)
        clear HN
        have HN := HNn
        clear HNn
        have HPX := Lib.hid hp
        clear hb hK hp
        unfold nodeV
        refine tks [6, 7, 8, 9, 10] 5 rfl (by kernel_rfl) (fun _ _ _ _ h => h) (by assumption) (fun KT hKT => ?_)
        iterate 5 (refine tkT (by (simp only [gA, gB, gC]; rfl)) (by rfl) (by (intro w hSw; (simp only [Holds] at hSw); go_simp <;> with_reducible rfl)) ?_; simp only [Act.put, pA, pB, pC])
        refine hKT _ ?_
        clear KT hKT
        refine wpAnyH_ready (rs := [12]) (by kernel_rfl) (by simp) ?_
        refine (AllReadyH.cons (o := ?oz255) ?iz255 (fun K hK => ?kz255) AllReadyH.nil)
        case iz255 => (simp only [List.getElem?_toArray, List.getElem?_cons_zero, List.getElem?_cons_succ]; rfl)
        simp only [Act.put]
        rw [if_pos (by rfl)]
        refine wp_store_node (.tmp 8) (.tmp 54) (by rfl) bx _ _ _ ⟨bs2.s, bs2.cost, pb, pn, pc⟩ (by rfl) (by rfl) HN.out ?_
        intro wE hE hbE hoE hgE
        refine held_more hK HS0.out hlt (Bc.out.trans (hbE _ HLX.out)) (fun Bc hSn => ?_)
        have HPE := HPX.out.kept hgE HN.out
        clear hK
        refine tks [13, 14, 15] 3 rfl (by kernel_rfl) (fun _ _ _ _ h => h) (by assumption) (fun KT hKT => ?_)
        iterate 3 (refine tkT (by (simp only [gA, gB, gC]; rfl)) (by rfl) (by (intro w hSw; (simp only [Holds] at hSw); go_simp <;> with_reducible rfl)) ?_; simp only [Act.put, pA, pB, pC])
        refine hKT _ ?_
        clear KT hKT
        refine wpAnyH_done (by kernel_rfl) ?_ _
        go_wp2_with fail
        go_meet
        exact ⟨bx, pb, pn, pc, rfl, rfl, rfl, rfl, hE, HPE.row Bc.out, HBR.out.trans (Bc.out.mono HBR.out.size)⟩
    case rest =>
    obtain ⟨bb2, pb2, pn2, pc2, rfl, rfl, rfl, rfl, f1, f2, hb⟩ := hcut
    have HN2 := Lib.hid f1
    have HP2 := Lib.hid f2
    clear f1 f2
    have HYn := Lib.hid (HY.out.later hb)
    clear HY
    have HY := HYn
    clear HYn
    have HRn := Lib.hid (HR.out.below hb)
    clear HR
    have HR := HRn
    clear HRn
    have HN1n := Lib.hid (HN1.out.later hb)
    clear HN1
    have HN1 := HN1n
    clear HN1n
    have HBn := Lib.hid (HB.out.trans (hb.mono HB.out.size))
    clear HB
    have HB := HBn
    clear HBn
    clear hb
    generalize wc = W5 at *
    obtain ⟨o3, ho3⟩ : ∃ o, (exactRun I0 1000 44 [rootN' I0] none (bs1.cost + 1) 0).1 = o := ⟨_, rfl⟩
    obtain ⟨al3, hal3⟩ : ∃ o, (exactRun I0 1000 44 [rootN' I0] none (bs1.cost + 1) 0).2.1 = o := ⟨_, rfl⟩
    obtain ⟨st3, hst3⟩ : ∃ o, (exactRun I0 1000 44 [rootN' I0] none (bs1.cost + 1) 0).2.2 = o := ⟨_, rfl⟩
    obtain ⟨bs3, hbs3⟩ : ∃ b, bestV o3 = b := ⟨_, rfl⟩
    obtain ⟨is3, his3⟩ : ∃ b, o3.isSome = b := ⟨_, rfl⟩
    have HO3 := Lib.hid ho3
    have HAL3 := Lib.hid hal3
    have HST3 := Lib.hid hst3
    have HBS3 := Lib.hid hbs3
    have HIS3 := Lib.hid his3
    clear ho3 hal3 hst3 hbs3 his3
    go_upto_region 10 with fail
    go_cut [12, 13, 14, 15] from 58 (fun p v0 v1 v2 wx => ∃ bb pb pn pc, p = .pointer (some ⟨bb, 0, none⟩) ∧ v0 = .bool is3 ∧ v1 = .bool al3 ∧ v2 = .int .i64 st3 ∧ NodB wx bb bs3.s bs3.cost (.slice pb pn pc) ∧ Row wx (.slice pb pn pc) (ints bs3.path) ∧ Below W5.heap.size W5 wx)
    case first =>
      have HBR := Lib.hid (Below.refl W5.heap.size W5).drew
      have HYn := Lib.hid (HY.out.later (Below.refl _ W5).drew)
      have HN1n := Lib.hid (HN1.out.later (Below.refl _ W5).drew)
      have HRn := Lib.hid (HR.out.below (Below.refl _ W5).drew)
      have HBn := Lib.hid HB.out.drew
      clear HY HN1 HR HB
      have HY := HYn
      have HN1 := HN1n
      have HR := HRn
      have HB := HBn
      clear HYn HN1n HRn HBn
      have HS0 := Lib.hid (show Holds ((cellsI w.heap.size I0 (.slice ad I0.l.length cap)) ++ (cellsN bb1 bs1.s bs1.cost (.slice pb1 pn1 pc1))) W5.drew from (Holds.app.2 ⟨⟨HY.out.cells.1, HY.out.cells.2.1, HY.out.cells.2.2.1, HY.out.cells.2.2.2, trivial⟩, HN1.out.holds⟩))
      refine wp_region_held_drew (S := Holds ((cellsI w.heap.size I0 (.slice ad I0.l.length cap)) ++ (cellsN bb1 bs1.s bs1.cost (.slice pb1 pn1 pc1)))) (by kernel_rfl) HS0.out (fun hSn => ?_)
      generalize W5.drew = V at *
      have hlt := Lib.hid (show Lows V.heap.size ((cellsI w.heap.size I0 (.slice ad I0.l.length cap)) ++ (cellsN bb1 bs1.s bs1.cost (.slice pb1 pn1 pc1))) from (Lows.app (show Lows _ (cellsI w.heap.size I0 (.slice ad I0.l.length cap)) from ⟨HY.out.lt, HY.out.lt, HY.out.lt, HY.out.lt, trivial⟩) (lows_N HN1.out.lt)))
      have Bc := Lib.hid (Below.refl V.heap.size V)
      simp only [cellsI, cellsN, List.cons_append, List.nil_append] at HS0 hlt hSn ⊢
      refine tks [0, 1, 3, 4, 5] 5 rfl (by kernel_rfl) (fun _ _ _ _ h => h) (by assumption) (fun KT hKT => ?_)
      iterate 5 (refine tkT (by (simp only [gA, gB, gC]; rfl)) (by rfl) (by (intro w hSw; (simp only [Holds] at hSw); go_simp <;> with_reducible rfl)) ?_; simp only [Act.put, pA, pB, pC])
      refine hKT _ ?_
      clear KT hKT
      refine wpAnyH_ready (rs := [2, 12]) (by kernel_rfl) (by simp) ?_
      refine (AllReadyH.cons (o := ?oz256) ?iz256 (fun K hK => ?kz256) (AllReadyH.cons (o := ?oz257) ?iz257 (fun K hK => ?kz257) AllReadyH.nil))
      case iz256 => (simp only [List.getElem?_toArray, List.getElem?_cons_zero, List.getElem?_cons_succ]; rfl)
      case iz257 => (simp only [List.getElem?_toArray, List.getElem?_cons_zero, List.getElem?_cons_succ]; rfl)
      · skip
        go_simp
        change Calls _ _ #[insV I0 (.slice ad I0.l.length cap)] _ _
        refine (eroot_any (HR.out.below Bc.out)).mono ?_
        rintro e w' ⟨rfl, hb⟩
        refine held_more hK HS0.out hlt (Bc.out.trans (hb.mono Bc.out.size)) (fun Bc hSn => ?_)
        clear hb hK
        refine wpAnyH_ready (rs := [6, 12]) (by kernel_rfl) (by simp) ?_
        refine (AllReadyH.cons (o := ?oz258) ?iz258 (fun K hK => ?kz258) (AllReadyH.cons (o := ?oz259) ?iz259 (fun K hK => ?kz259) AllReadyH.nil))
        case iz258 => (simp only [List.getElem?_toArray, List.getElem?_cons_zero, List.getElem?_cons_succ]; rfl)
        case iz259 => (simp only [List.getElem?_toArray, List.getElem?_cons_zero, List.getElem?_cons_succ]; rfl)
        · skip
          go_simp
          change Calls _ _ #[insV I0 (.slice ad I0.l.length cap), nodeV (rootS I0) 0 (.slice none 0 0), .int .i64 (bs1.cost + 1), .int .i64 1000] _ _
          refine (ebest_any (I := I0) (n := rootN' I0) (up := (bs1.cost + 1)) (most := 1000) (w0 := V) (HR.out.below Bc.out) Bc.out (root_setsE I0) (root_fit I0) (by show Fit 0; unfold Fit; decide) (.inl (row_nil V)) (Nat.zero_le _) (by decide)).mono ?_
          rw [HO3.out, HAL3.out, HST3.out, HBS3.out, HIS3.out]
          rintro e w6 ⟨pb, pn, pc, rfl, hp, hb⟩
          refine held_more hK HS0.out hlt (Bc.out.trans (hb.mono Bc.out.size)) (fun Bc hSn => ?_)
          have HPX := Lib.hid hp
          clear hb hK hp
          unfold nodeV
          refine tks [7, 8, 9, 10, 11] 5 rfl (by kernel_rfl) (fun _ _ _ _ h => h) (by assumption) (fun KT hKT => ?_)
          iterate 5 (refine tkT (by (simp only [gA, gB, gC]; rfl)) (by rfl) (by (intro w hSw; (simp only [Holds] at hSw); go_simp <;> with_reducible rfl)) ?_; simp only [Act.put, pA, pB, pC])
          refine hKT _ ?_
          clear KT hKT
          have HSZ := Lib.hid Bc.out.size
          refine wpAnyH_ready (rs := [12]) (by kernel_rfl) (by simp) ?_
          refine AllReadyH.cons (o := ?oz260) ?iz260 (fun K hK => ?kz260) AllReadyH.nil
          case iz260 => (simp only [List.getElem?_toArray, List.getElem?_cons_zero, List.getElem?_cons_succ]; rfl)
          go_simp
          refine held_more hK HS0.out hlt (Bc.out.alloc Bc.out.size _) (fun Bc hSn => ?_)
          have HN := Lib.hid (nod_new w6 noughtS 0 (.slice none 0 0))
          change wpAnyH _ _ _ _ _ _ _ _ (w6.alloc (boxN noughtS 0 (.slice none 0 0)))
          have Bc2 := Lib.hid (show Below V.heap.size V (w6.alloc (boxN noughtS 0 (.slice none 0 0))) from Bc.out)
          clear Bc
          have Bc := Bc2
          clear Bc2
          change Holds _ (w6.alloc (boxN noughtS 0 (.slice none 0 0))) at hSn
          have HPXn := Lib.hid (HPX.out.below ((Below.refl w6.heap.size w6).alloc (Nat.le_refl _) (boxN noughtS 0 (.slice none 0 0))))
          clear HPX
          have HPX := HPXn
          clear HPXn
          generalize w6.alloc (boxN noughtS 0 (.slice none 0 0)) = Xn at *
          obtain ⟨bx, hbx⟩ : ∃ bx, bx = w6.heap.size := ⟨_, rfl⟩
          have HLX := Lib.hid (show V.heap.size ≤ bx by rw [hbx]; exact HSZ.out)
          rw [← hbx] at HN ⊢
          clear hbx HSZ
          refine wpAnyH_ready (rs := [13]) (by kernel_rfl) (by simp) ?_
          refine (AllReadyH.cons (o := ?oz261) ?iz261 (fun K hK => ?kz261) AllReadyH.nil)
          case iz261 => (simp only [List.getElem?_toArray, List.getElem?_cons_zero, List.getElem?_cons_succ]; rfl)
          simp only [Act.put]
          rw [if_pos (by rfl)]
          refine wp_store_node (.tmp 12) (.tmp 66) (by rfl) bx _ _ _ ⟨bs3.s, bs3.cost, pb, pn, pc⟩ (by rfl) (by rfl) HN.out ?_
          intro wE hE hbE hoE hgE
          refine held_more hK HS0.out hlt (Bc.out.trans (hbE _ HLX.out)) (fun Bc hSn => ?_)
          have HPE := HPX.out.kept hgE HN.out
          clear hK
          refine tks [14, 15, 16] 3 rfl (by kernel_rfl) (fun _ _ _ _ h => h) (by assumption) (fun KT hKT => ?_)
          iterate 3 (refine tkT (by (simp only [gA, gB, gC]; rfl)) (by rfl) (by (intro w hSw; (simp only [Holds] at hSw); go_simp <;> with_reducible rfl)) ?_; simp only [Act.put, pA, pB, pC])
          refine hKT _ ?_
          clear KT hKT
          refine wpAnyH_done (by kernel_rfl) ?_ _
          go_wp2_with fail
          go_meet
          exact ⟨bx, pb, pn, pc, rfl, rfl, rfl, rfl, hE, HPE.row Bc.out, HBR.out.trans (Bc.out.mono HBR.out.size)⟩
        · skip
          have HSZ := Lib.hid Bc.out.size
          go_simp
          refine held_more hK HS0.out hlt (Bc.out.alloc Bc.out.size _) (fun Bc hSn => ?_)
          clear hK
          have HN := Lib.hid (nod_new w' noughtS 0 (.slice none 0 0))
          change wpAnyH _ _ _ _ _ _ _ _ (w'.alloc (boxN noughtS 0 (.slice none 0 0)))
          have Bc2 := Lib.hid (show Below V.heap.size V (w'.alloc (boxN noughtS 0 (.slice none 0 0))) from Bc.out)
          clear Bc
          have Bc := Bc2
          clear Bc2
          change Holds _ (w'.alloc (boxN noughtS 0 (.slice none 0 0))) at hSn
          generalize w'.alloc (boxN noughtS 0 (.slice none 0 0)) = Xn at *
          obtain ⟨bx, hbx⟩ : ∃ bx, bx = w'.heap.size := ⟨_, rfl⟩
          have HLX := Lib.hid (show V.heap.size ≤ bx by rw [hbx]; exact HSZ.out)
          rw [← hbx] at HN ⊢
          clear hbx HSZ
          refine wpAnyH_ready (rs := [6]) (by kernel_rfl) (by simp) ?_
          refine AllReadyH.cons (o := ?oz262) ?iz262 (fun K hK => ?kz262) AllReadyH.nil
          case iz262 => (simp only [List.getElem?_toArray, List.getElem?_cons_zero, List.getElem?_cons_succ]; rfl)
          go_simp
          change Calls _ _ #[insV I0 (.slice ad I0.l.length cap), nodeV (rootS I0) 0 (.slice none 0 0), .int .i64 (bs1.cost + 1), .int .i64 1000] _ _
          refine (ebest_any (I := I0) (n := rootN' I0) (up := (bs1.cost + 1)) (most := 1000) (w0 := V) (HR.out.below Bc.out) Bc.out (root_setsE I0) (root_fit I0) (by show Fit 0; unfold Fit; decide) (.inl (row_nil V)) (Nat.zero_le _) (by decide)).mono ?_
          rw [HO3.out, HAL3.out, HST3.out, HBS3.out, HIS3.out]
          rintro e w6 ⟨pb, pn, pc, rfl, hp, hb⟩
          refine held_more hK HS0.out hlt (Bc.out.trans (hb.mono Bc.out.size)) (fun Bc hSn => ?_)
          have HNn := Lib.hid (HN.out.later hb)
          clear HN
          have HN := HNn
          clear HNn
          have HPX := Lib.hid hp
          clear hb hK hp
          unfold nodeV
          refine tks [7, 8, 9, 10, 11] 5 rfl (by kernel_rfl) (fun _ _ _ _ h => h) (by assumption) (fun KT hKT => ?_)
          iterate 5 (refine tkT (by (simp only [gA, gB, gC]; rfl)) (by rfl) (by (intro w hSw; (simp only [Holds] at hSw); go_simp <;> with_reducible rfl)) ?_; simp only [Act.put, pA, pB, pC])
          refine hKT _ ?_
          clear KT hKT
          refine wpAnyH_ready (rs := [13]) (by kernel_rfl) (by simp) ?_
          refine (AllReadyH.cons (o := ?oz263) ?iz263 (fun K hK => ?kz263) AllReadyH.nil)
          case iz263 => (simp only [List.getElem?_toArray, List.getElem?_cons_zero, List.getElem?_cons_succ]; rfl)
          simp only [Act.put]
          rw [if_pos (by rfl)]
          refine wp_store_node (.tmp 12) (.tmp 66) (by rfl) bx _ _ _ ⟨bs3.s, bs3.cost, pb, pn, pc⟩ (by rfl) (by rfl) HN.out ?_
          intro wE hE hbE hoE hgE
          refine held_more hK HS0.out hlt (Bc.out.trans (hbE _ HLX.out)) (fun Bc hSn => ?_)
          have HPE := HPX.out.kept hgE HN.out
          clear hK
          refine tks [14, 15, 16] 3 rfl (by kernel_rfl) (fun _ _ _ _ h => h) (by assumption) (fun KT hKT => ?_)
          iterate 3 (refine tkT (by (simp only [gA, gB, gC]; rfl)) (by rfl) (by (intro w hSw; (simp only [Holds] at hSw); go_simp <;> with_reducible rfl)) ?_; simp only [Act.put, pA, pB, pC])
          refine hKT _ ?_
          clear KT hKT
          refine wpAnyH_done (by kernel_rfl) ?_ _
          go_wp2_with fail
          go_meet
          exact ⟨bx, pb, pn, pc, rfl, rfl, rfl, rfl, hE, HPE.row Bc.out, HBR.out.trans (Bc.out.mono HBR.out.size)⟩
      · skip
        have HSZ := Lib.hid Bc.out.size
        go_simp
        refine held_more hK HS0.out hlt (Bc.out.alloc Bc.out.size _) (fun Bc hSn => ?_)
        clear hK
        have HN := Lib.hid (nod_new V noughtS 0 (.slice none 0 0))
        change wpAnyH _ _ _ _ _ _ _ _ (V.alloc (boxN noughtS 0 (.slice none 0 0)))
        have Bc2 := Lib.hid (show Below V.heap.size V (V.alloc (boxN noughtS 0 (.slice none 0 0))) from Bc.out)
        clear Bc
        have Bc := Bc2
        clear Bc2
        change Holds _ (V.alloc (boxN noughtS 0 (.slice none 0 0))) at hSn
        generalize V.alloc (boxN noughtS 0 (.slice none 0 0)) = Xn at *
        obtain ⟨bx, hbx⟩ : ∃ bx, bx = V.heap.size := ⟨_, rfl⟩
        have HLX := Lib.hid (show V.heap.size ≤ bx by rw [hbx]; exact HSZ.out)
        rw [← hbx] at HN ⊢
        clear hbx HSZ
        refine wpAnyH_ready (rs := [2]) (by kernel_rfl) (by simp) ?_
        refine AllReadyH.cons (o := ?oz264) ?iz264 (fun K hK => ?kz264) AllReadyH.nil
        case iz264 => (simp only [List.getElem?_toArray, List.getElem?_cons_zero, List.getElem?_cons_succ]; rfl)
        go_simp
        change Calls _ _ #[insV I0 (.slice ad I0.l.length cap)] _ _
        refine (eroot_any (HR.out.below Bc.out)).mono ?_
        rintro e w' ⟨rfl, hb⟩
        refine held_more hK HS0.out hlt (Bc.out.trans (hb.mono Bc.out.size)) (fun Bc hSn => ?_)
        have HNn := Lib.hid (HN.out.later hb)
        clear HN
        have HN := HNn
        clear HNn
        clear hb hK
        refine wpAnyH_ready (rs := [6]) (by kernel_rfl) (by simp) ?_
        refine AllReadyH.cons (o := ?oz265) ?iz265 (fun K hK => ?kz265) AllReadyH.nil
        case iz265 => (simp only [List.getElem?_toArray, List.getElem?_cons_zero, List.getElem?_cons_succ]; rfl)
        go_simp
        change Calls _ _ #[insV I0 (.slice ad I0.l.length cap), nodeV (rootS I0) 0 (.slice none 0 0), .int .i64 (bs1.cost + 1), .int .i64 1000] _ _
        refine (ebest_any (I := I0) (n := rootN' I0) (up := (bs1.cost + 1)) (most := 1000) (w0 := V) (HR.out.below Bc.out) Bc.out (root_setsE I0) (root_fit I0) (by show Fit 0; unfold Fit; decide) (.inl (row_nil V)) (Nat.zero_le _) (by decide)).mono ?_
        rw [HO3.out, HAL3.out, HST3.out, HBS3.out, HIS3.out]
        rintro e w6 ⟨pb, pn, pc, rfl, hp, hb⟩
        refine held_more hK HS0.out hlt (Bc.out.trans (hb.mono Bc.out.size)) (fun Bc hSn => ?_)
        have HNn := Lib.hid (HN.out.later hb)
        clear HN
        have HN := HNn
        clear HNn
        have HPX := Lib.hid hp
        clear hb hK hp
        unfold nodeV
        refine tks [7, 8, 9, 10, 11] 5 rfl (by kernel_rfl) (fun _ _ _ _ h => h) (by assumption) (fun KT hKT => ?_)
        iterate 5 (refine tkT (by (simp only [gA, gB, gC]; rfl)) (by rfl) (by (intro w hSw; (simp only [Holds] at hSw); go_simp <;> with_reducible rfl)) ?_; simp only [Act.put, pA, pB, pC])
        refine hKT _ ?_
        clear KT hKT
        refine wpAnyH_ready (rs := [13]) (by kernel_rfl) (by simp) ?_
        refine (AllReadyH.cons (o := ?oz266) ?iz266 (fun K hK => ?kz266) AllReadyH.nil)
        case iz266 => (simp only [List.getElem?_toArray, List.getElem?_cons_zero, List.getElem?_cons_succ]; rfl)
        simp only [Act.put]
        rw [if_pos (by rfl)]
        refine wp_store_node (.tmp 12) (.tmp 66) (by rfl) bx _ _ _ ⟨bs3.s, bs3.cost, pb, pn, pc⟩ (by rfl) (by rfl) HN.out ?_
        intro wE hE hbE hoE hgE
        refine held_more hK HS0.out hlt (Bc.out.trans (hbE _ HLX.out)) (fun Bc hSn => ?_)
        have HPE := HPX.out.kept hgE HN.out
        clear hK
        refine tks [14, 15, 16] 3 rfl (by kernel_rfl) (fun _ _ _ _ h => h) (by assumption) (fun KT hKT => ?_)
        iterate 3 (refine tkT (by (simp only [gA, gB, gC]; rfl)) (by rfl) (by (intro w hSw; (simp only [Holds] at hSw); go_simp <;> with_reducible rfl)) ?_; simp only [Act.put, pA, pB, pC])
        refine hKT _ ?_
        clear KT hKT
        refine wpAnyH_done (by kernel_rfl) ?_ _
        go_wp2_with fail
        go_meet
        exact ⟨bx, pb, pn, pc, rfl, rfl, rfl, rfl, hE, HPE.row Bc.out, HBR.out.trans (Bc.out.mono HBR.out.size)⟩
    case rest =>
    obtain ⟨bb3, pb3, pn3, pc3, rfl, rfl, rfl, rfl, f1, f2, hb⟩ := hcut
    have HN3 := Lib.hid f1
    have HP3 := Lib.hid f2
    clear f1 f2
    have HYn := Lib.hid (HY.out.later hb)
    clear HY
    have HY := HYn
    clear HYn
    have HRn := Lib.hid (HR.out.below hb)
    clear HR
    have HR := HRn
    clear HRn
    have HN1n := Lib.hid (HN1.out.later hb)
    clear HN1
    have HN1 := HN1n
    clear HN1n
    have HBn := Lib.hid (HB.out.trans (hb.mono HB.out.size))
    clear HB
    have HB := HBn
    clear HBn
    clear hb
    generalize wc = W6 at *
    have HZ := Lib.hid (show is2 = false ∧ al2 = true ∧ is3 = true ∧ al3 = true ∧ bs3.cost = bs1.cost by
      have a2 : al2 = true := by
        rw [← HAL2.out]
        exact run_all HM.out (by have := HPT.out; omega) (by decide) 44 [rootN' I0] none bs1.cost 0 0 (level_root I0)
      have a3 : al3 = true := by
        rw [← HAL3.out]
        exact run_all HM.out (by have := HPT.out; omega) (by decide) 44 [rootN' I0] none (bs1.cost + 1) 0 0 (level_root I0)
      have h1 := HIS1.out
      have h2 := HAL1.out
      have h3 := HO1.out
      have h4 := HBS1.out
      have h5 := HAL3.out
      rw [a3] at h5
      cases o1 with
      | none => cases h1
      | some n =>
        have hn : n = bs1 := h4
        subst hn
        obtain ⟨k1, q, k2, k3⟩ := exact_bound HM.out (most := 1000) (lim := 1152921504606846976) HRK.out h2 h3 (m1 := 1000) h5 (m2 := 1000)
        rw [HO2.out] at k1
        rw [HO3.out] at k2
        refine ⟨?_, a2, ?_, a3, ?_⟩
        · rw [← HIS2.out, k1]; rfl
        · rw [← HIS3.out, k2]; rfl
        · rw [← HBS3.out, k2]; exact k3)
    obtain ⟨rfl, rfl, rfl, rfl, h5⟩ := HZ.out
    have x8 := HN1.out.c8
    have q8 := HN3.out.c8
    rw [h5] at q8
    have b3 : (bs1.cost == bs1.cost) = true := by simp
    clear HO1 HAL1 HST1 HBS1 HIS1 HO2 HAL2 HST2 HBS2 HIS2 HO3 HAL3 HST3 HBS3 HIS3 HZ h5 e1
    go_wp2
    go_ret
    exact ⟨by first | rfl | simp, HB.out⟩

set_option maxRecDepth 100000 in
theorem lifted (os : Os) (started : os.Started) (H : Type) (enc : TypeId × Value → H) :
    ReturnsInHanded {} Try.checked os 10 .any (Rows.exactBoundSpec.pre6 enc Try.prog Try.f10 Rows.exactBoundRow.domain false) (Rows.exactBoundSpec.post enc Try.prog Try.f10 false true false false) := by
  refine returnsInHanded_of_change (C := Try.checked) own started (by kernel_rfl) Try.func10
    (ChangeSpec.witness6 (enc := enc) (C := Try.checked) false ⟨#[], #[.agg #[.int .i64 0, .int .i64 0, .int .i64 0, .slice none 0 0]], []⟩ 8 (by kernel_rfl) (by kernel_rfl) (by kernel_rfl) (by kernel_rfl)) ?_
  intro W base args ds gs before hval0 hW hcnd _
  have hval : ∀ (j : Nat) t v, Try.f10.params[j]? = some t → args[j]? = some v → Value.okWide Try.prog W .any base t v := hval0
  have hW' := hW
  obtain ⟨p, q, hA0, hV, rfl, hfz, hnd⟩ := hW
  have hA : DataW.TrodAll enc Try.prog W 0 (fun _ => true) true Try.f10.params.toList args.toList ds p := hA0
  rw [Try.params10] at hA hval
  obtain ⟨v0, vs0, d0, ds0, p0, q0, hargs, rfl, rfl, h0, r0⟩ := trodAll_cons hA
  obtain ⟨rfl, rfl, rfl⟩ := trodAll_nil r0
  obtain rfl : args = #[v0] := by cases args; simp_all
  obtain ⟨rfl, rfl⟩ := trodVars_none hV
  have k0 := h0
  have lt0 : ∀ x ∈ p0, x.block < W.heap.size := by obtain ⟨m, hm⟩ := k0; exact DataW.trod_lt m _ _ _ hm
  obtain ⟨I0, u0, rfl, e0, _⟩ := open_inst (hval 0 24 v0 rfl rfl) h0
  clear hA0 hval0
  refine (walk I0 _ W e0).mono fun e W' ⟨he, bel⟩ => ?_
  subst he
  exact ⟨_, rfl, _, _, _, [], _, [], hW', trodAll_mk1 (shut_bool Try.underlying4 _), (trodAll_cons_mk (Below.trod laidOut (by kernel_rfl) (of_decide_eq_true (by kernel_rfl)) k0 bel lt0) trodAll_mk0), rfl, bel.frame _, fun h => by cases h⟩

theorem over : Rows.exactBoundRow.holds Try.pinned (OpenSpec.ofChange Rows.exactBoundSpec) :=
  OpenClaim.holds_of_wide 10 Try.f10 rfl rfl rfl rfl rfl rfl rfl ⟨rfl, rfl, rfl, rfl, rfl⟩ rfl rfl rfl rfl rfl (by kernel_rfl) Try.func10 (by show joinedFacts Try.checked.prog _ _ _ _ = true; unfold joinedFacts; rw [ord_may, ord_lifts, ord_make]; kernel_rfl)
    (of_decide_eq_true (by kernel_rfl)) (by unfold Func.isWrapper; first | (rw [if_pos (by decide +kernel)]; kernel_rfl) | (rw [if_neg (by decide +kernel)]; exact ⟨rfl, rfl⟩))
    (fun os started H enc _ => lifted os started H enc)

theorem proved : Rows.ExactBoundSaid := over
#print axioms proved
end Go.Proofs.Ytaaljploegiihaa.exactBound
