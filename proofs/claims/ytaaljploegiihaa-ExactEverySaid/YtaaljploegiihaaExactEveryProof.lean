/- ExactEvery (P15.2) -/
import Derived.Test.YtaaljploegiihaaOrd
import Derived.Test.YtaaljploegiihaaRows
import Derived.Test.YtaaljploegiihaaEAwake
import Derived.Test.YtaaljploegiihaaEMore
import Derived.Test.YtaaljploegiihaaEProg
import Derived.Test.YtaaljploegiihaaEOpen
import Derived.Test.YtaaljploegiihaaYL
import Derived.Test.YtaaljploegiihaaQEvW
import Derived.Test.YtaaljploegiihaaXIMay
import Derived.Test.YtaaljploegiihaaYM
import Derived.Test.YtaaljploegiihaaYI
import Derived.Test.YtaaljploegiihaaXN
import Derived.Test.YtaaljploegiihaaYF
import Derived.Test.YtaaljploegiihaaYG
namespace Go.Proofs.Ytaaljploegiihaa.exactEvery
open Go.ChangeShapes Go.WideShapes Go.ChangeAt Go.RowKit

set_option maxRecDepth 1000000 in
set_option maxHeartbeats 4000000 in
theorem walk (I0 : Ins) (v0 : Value) (w : World) (e0 : SRow w v0 I0.l) :
    Calls Try.prog 9 #[insV I0 v0] w fun e w' => e = .returned (.bool true) ∧ Below w.heap.size w w' := by
  have HR := Lib.hid e0
  obtain ⟨ad, cap, rfl, hlm, _⟩ := e0.form
  clear e0
  unfold insV
  go_enter Try.func9, Try.ntmps9
  go_upto_region 1 with fail
  have HY := Lib.hid (ybox_new w I0 (.slice ad I0.l.length cap))
  have HB := Lib.hid ((Below.refl w.heap.size w).alloc (Nat.le_refl _) (boxI I0 (.slice ad I0.l.length cap)))
  change Code.wp _ _ _ _ (w.alloc (boxI I0 (.slice ad I0.l.length cap)))
  generalize hW : w.alloc (boxI I0 (.slice ad I0.l.length cap)) = W at *
  have HRn := Lib.hid (HR.out.below HB.out)
  clear HR
  have HR := HRn
  clear HRn
  clear hW
  go_wp2_with fail
  refine (eawake_any _).mono ?_
  rintro e w1 ⟨rfl, hb⟩
  have HYn := Lib.hid (HY.out.later hb)
  clear HY
  have HY := HYn
  clear HYn
  have HRn := Lib.hid (HR.out.below hb)
  clear HR
  have HR := HRn
  clear HRn
  have HBn := Lib.hid (HB.out.trans (hb.mono HB.out.size))
  clear HB
  have HB := HBn
  clear HBn
  clear hb
  obtain ⟨y0, y1, y2, y3⟩ := HY.out.cells
  by_cases g1 : 5 < I0.l.length
  · have d1 : decide ((5 : Int) < (I0.l.length : Int)) = true := decide_eq_true (by omega)
    have d2 := decide_eq_true g1
    clear g1
    go_wp2
    go_ret
    exact ⟨rfl, HB.out⟩
  have d1 : decide ((5 : Int) < (I0.l.length : Int)) = false := decide_eq_false (by omega)
  have d2 := decide_eq_false g1
  have HLEN := Lib.hid g1
  clear g1
  go_wp2_with fail
  clear y0 y1 y2 y3
  change Calls _ _ #[insV I0 (.slice ad I0.l.length cap)] _ _
  refine (may_any HR.out).mono ?_
  rintro e w2 ⟨rfl, hb⟩
  have HYn := Lib.hid (HY.out.later hb)
  clear HY
  have HY := HYn
  clear HYn
  have HRn := Lib.hid (HR.out.below hb)
  clear HR
  have HR := HRn
  clear HRn
  have HBn := Lib.hid (HB.out.trans (hb.mono HB.out.size))
  clear HB
  have HB := HBn
  clear HBn
  clear hb
  by_cases hm : mayB I0 = true
  rotate_left
  · have hmf : mayB I0 = false := by simpa using hm
    rw [hmf]
    clear hm hmf
    go_wp2
    go_ret
    exact ⟨rfl, HB.out⟩
  rw [hm]
  have HM := Lib.hid hm
  have HPT := Lib.hid (show I0.p ≤ 2 by have h1 := (fine_of hm).len; have := HLEN.out; omega)
  have HRK := Lib.hid (show rankS I0 (rootS I0) < 44 by have h1 := rank_root hm; have h2 := (fine_of hm).p1; have h3 := (inb_iff _ _ _).1 ((may_iff I0).1 hm).2.1; omega)
  clear hm
  obtain ⟨o1, ho1⟩ : ∃ o, (exactRun I0 1000 44 [rootN' I0] none 1152921504606846976 0).1 = o := ⟨_, rfl⟩
  obtain ⟨al1, hal1⟩ : ∃ o, (exactRun I0 1000 44 [rootN' I0] none 1152921504606846976 0).2.1 = o := ⟨_, rfl⟩
  obtain ⟨st1, hst1⟩ : ∃ o, (exactRun I0 1000 44 [rootN' I0] none 1152921504606846976 0).2.2 = o := ⟨_, rfl⟩
  obtain ⟨bs1, hbs1⟩ : ∃ b, bestV o1 = b := ⟨_, rfl⟩
  obtain ⟨is1, his1⟩ : ∃ b, o1.isSome = b := ⟨_, rfl⟩
  have HO1 := Lib.hid ho1
  have HAL1 := Lib.hid hal1
  have HST1 := Lib.hid hst1
  have HBS1 := Lib.hid hbs1
  have HIS1 := Lib.hid his1
  clear ho1 hal1 hst1 hbs1 his1
  go_upto_region 4 with fail
  go_cut [4, 5, 6, 7] from 24 (fun p v0 v1 v2 wx => ∃ bb pb pn pc, p = .pointer (some ⟨bb, 0, none⟩) ∧ v0 = .bool is1 ∧ v1 = .bool al1 ∧ v2 = .int .i64 st1 ∧ NodB wx bb bs1.s bs1.cost (.slice pb pn pc) ∧ Row wx (.slice pb pn pc) (ints bs1.path) ∧ Below w2.heap.size w2 wx)
  case first =>
    have HBR := Lib.hid (Below.refl w2.heap.size w2).drew
    have HYn := Lib.hid (HY.out.later (Below.refl _ w2).drew)
    have HRn := Lib.hid (HR.out.below (Below.refl _ w2).drew)
    have HBn := Lib.hid HB.out.drew
    clear HY HR HB
    have HY := HYn
    have HR := HRn
    have HB := HBn
    clear HYn HRn HBn
    have HS0 := Lib.hid (show Holds (cellsI w.heap.size I0 (.slice ad I0.l.length cap)) w2.drew from ⟨HY.out.cells.1, HY.out.cells.2.1, HY.out.cells.2.2.1, HY.out.cells.2.2.2, trivial⟩)
    refine wp_region_held_drew (S := Holds (cellsI w.heap.size I0 (.slice ad I0.l.length cap))) (by kernel_rfl) HS0.out (fun hSn => ?_)
    generalize w2.drew = V at *
    have hlt := Lib.hid (show Lows V.heap.size (cellsI w.heap.size I0 (.slice ad I0.l.length cap)) from (show Lows _ (cellsI w.heap.size I0 (.slice ad I0.l.length cap)) from ⟨HY.out.lt, HY.out.lt, HY.out.lt, HY.out.lt, trivial⟩))
    have Bc := Lib.hid (Below.refl V.heap.size V)
    simp only [cellsI] at HS0 hlt hSn ⊢
    refine tks [0, 1] 2 rfl (by kernel_rfl) (fun _ _ _ _ h => h) (by assumption) (fun KT hKT => ?_)
    iterate 2 (refine tkT (by (simp only [gA, gB, gC]; rfl)) (by rfl) (by (intro w hSw; (simp only [Holds] at hSw); go_simp <;> with_reducible rfl)) ?_; simp only [Act.put, pA, pB, pC])
    refine hKT _ ?_
    clear KT hKT
    refine wpAnyH_ready (rs := [2, 9]) (by kernel_rfl) (by simp) ?_
    refine (AllReadyH.cons (o := ?oz223) ?iz223 (fun K hK => ?kz223) (AllReadyH.cons (o := ?oz224) ?iz224 (fun K hK => ?kz224) AllReadyH.nil))
    case iz223 => (simp only [List.getElem?_toArray, List.getElem?_cons_zero, List.getElem?_cons_succ]; rfl)
    case iz224 => (simp only [List.getElem?_toArray, List.getElem?_cons_zero, List.getElem?_cons_succ]; rfl)
    · skip
      go_simp
      change Calls _ _ #[insV I0 (.slice ad I0.l.length cap)] _ _
      refine (eroot_any (HR.out.below Bc.out)).mono ?_
      rintro e w' ⟨rfl, hb⟩
      refine held_more hK HS0.out hlt (Bc.out.trans (hb.mono Bc.out.size)) (fun Bc hSn => ?_)
      clear hb hK
      refine wpAnyH_ready (rs := [3, 9]) (by kernel_rfl) (by simp) ?_
      refine (AllReadyH.cons (o := ?oz225) ?iz225 (fun K hK => ?kz225) (AllReadyH.cons (o := ?oz226) ?iz226 (fun K hK => ?kz226) AllReadyH.nil))
      case iz225 => (simp only [List.getElem?_toArray, List.getElem?_cons_zero, List.getElem?_cons_succ]; rfl)
      case iz226 => (simp only [List.getElem?_toArray, List.getElem?_cons_zero, List.getElem?_cons_succ]; rfl)
      · skip
        go_simp
        change Calls _ _ #[insV I0 (.slice ad I0.l.length cap), nodeV (rootS I0) 0 (.slice none 0 0), .int .i64 1152921504606846976, .int .i64 1000] _ _
        refine (ebest_any (I := I0) (n := rootN' I0) (up := 1152921504606846976) (most := 1000) (w0 := V) (HR.out.below Bc.out) Bc.out (root_setsE I0) (root_fit I0) (by show Fit 0; unfold Fit; decide) (.inl (row_nil V)) (Nat.zero_le _) (by decide)).mono ?_
        rw [HO1.out, HAL1.out, HST1.out, HBS1.out, HIS1.out]
        rintro e w6 ⟨pb, pn, pc, rfl, hp, hb⟩
        refine held_more hK HS0.out hlt (Bc.out.trans (hb.mono Bc.out.size)) (fun Bc hSn => ?_)
        have HPX := Lib.hid hp
        clear hb hK hp
        unfold nodeV
        refine tks [4, 5, 6, 7, 8] 5 rfl (by kernel_rfl) (fun _ _ _ _ h => h) (by assumption) (fun KT hKT => ?_)
        iterate 5 (refine tkT (by (simp only [gA, gB, gC]; rfl)) (by rfl) (by (intro w hSw; (simp only [Holds] at hSw); go_simp <;> with_reducible rfl)) ?_; simp only [Act.put, pA, pB, pC])
        refine hKT _ ?_
        clear KT hKT
        have HSZ := Lib.hid Bc.out.size
        refine wpAnyH_ready (rs := [9]) (by kernel_rfl) (by simp) ?_
        refine AllReadyH.cons (o := ?oz227) ?iz227 (fun K hK => ?kz227) AllReadyH.nil
        case iz227 => (simp only [List.getElem?_toArray, List.getElem?_cons_zero, List.getElem?_cons_succ]; rfl)
        go_simp
        refine held_more hK HS0.out hlt (Bc.out.alloc Bc.out.size _) (fun Bc hSn => ?_)
        have HN := Lib.hid (nod_new w6 noughtS 0 (.slice none 0 0))
        change wpAnyH _ _ _ _ _ _ _ _ (w6.alloc (boxN noughtS 0 (.slice none 0 0)))
        have Bc2 := Lib.hid (show Below V.heap.size V (w6.alloc (boxN noughtS 0 (.slice none 0 0))) from Bc.out)
        clear Bc
        have Bc := Bc2
        clear Bc2
        change Holds _ (w6.alloc (boxN noughtS 0 (.slice none 0 0))) at hSn
        have HPXn := Lib.hid (HPX.out.below ((Below.refl w6.heap.size w6).alloc (Nat.le_refl _) (boxN noughtS 0 (.slice none 0 0))))
        clear HPX
        have HPX := HPXn
        clear HPXn
        generalize w6.alloc (boxN noughtS 0 (.slice none 0 0)) = Xn at *
        obtain ⟨bx, hbx⟩ : ∃ bx, bx = w6.heap.size := ⟨_, rfl⟩
        have HLX := Lib.hid (show V.heap.size ≤ bx by rw [hbx]; exact HSZ.out)
        rw [← hbx] at HN ⊢
        clear hbx HSZ
        refine wpAnyH_ready (rs := [10]) (by kernel_rfl) (by simp) ?_
        refine (AllReadyH.cons (o := ?oz228) ?iz228 (fun K hK => ?kz228) AllReadyH.nil)
        case iz228 => (simp only [List.getElem?_toArray, List.getElem?_cons_zero, List.getElem?_cons_succ]; rfl)
        simp only [Act.put]
        rw [if_pos (by rfl)]
        refine wp_store_node (.tmp 4) (.tmp 29) (by rfl) bx _ _ _ ⟨bs1.s, bs1.cost, pb, pn, pc⟩ (by rfl) (by rfl) HN.out ?_
        intro wE hE hbE hoE hgE
        refine held_more hK HS0.out hlt (Bc.out.trans (hbE _ HLX.out)) (fun Bc hSn => ?_)
        have HPE := HPX.out.kept hgE HN.out
        clear hK
        refine tks [11, 12, 13] 3 rfl (by kernel_rfl) (fun _ _ _ _ h => h) (by assumption) (fun KT hKT => ?_)
        iterate 3 (refine tkT (by (simp only [gA, gB, gC]; rfl)) (by rfl) (by (intro w hSw; (simp only [Holds] at hSw); go_simp <;> with_reducible rfl)) ?_; simp only [Act.put, pA, pB, pC])
        refine hKT _ ?_
        clear KT hKT
        refine wpAnyH_done (by kernel_rfl) ?_ _
        go_wp2_with fail
        go_meet
        exact ⟨bx, pb, pn, pc, rfl, rfl, rfl, rfl, hE, HPE.row Bc.out, HBR.out.trans (Bc.out.mono HBR.out.size)⟩
      · skip
        have HSZ := Lib.hid Bc.out.size
        go_simp
        refine held_more hK HS0.out hlt (Bc.out.alloc Bc.out.size _) (fun Bc hSn => ?_)
        clear hK
        have HN := Lib.hid (nod_new w' noughtS 0 (.slice none 0 0))
        change wpAnyH _ _ _ _ _ _ _ _ (w'.alloc (boxN noughtS 0 (.slice none 0 0)))
        have Bc2 := Lib.hid (show Below V.heap.size V (w'.alloc (boxN noughtS 0 (.slice none 0 0))) from Bc.out)
        clear Bc
        have Bc := Bc2
        clear Bc2
        change Holds _ (w'.alloc (boxN noughtS 0 (.slice none 0 0))) at hSn
        generalize w'.alloc (boxN noughtS 0 (.slice none 0 0)) = Xn at *
        obtain ⟨bx, hbx⟩ : ∃ bx, bx = w'.heap.size := ⟨_, rfl⟩
        have HLX := Lib.hid (show V.heap.size ≤ bx by rw [hbx]; exact HSZ.out)
        rw [← hbx] at HN ⊢
        clear hbx HSZ
        refine wpAnyH_ready (rs := [3]) (by kernel_rfl) (by simp) ?_
        refine AllReadyH.cons (o := ?oz229) ?iz229 (fun K hK => ?kz229) AllReadyH.nil
        case iz229 => (simp only [List.getElem?_toArray, List.getElem?_cons_zero, List.getElem?_cons_succ]; rfl)
        go_simp
        change Calls _ _ #[insV I0 (.slice ad I0.l.length cap), nodeV (rootS I0) 0 (.slice none 0 0), .int .i64 1152921504606846976, .int .i64 1000] _ _
        refine (ebest_any (I := I0) (n := rootN' I0) (up := 1152921504606846976) (most := 1000) (w0 := V) (HR.out.below Bc.out) Bc.out (root_setsE I0) (root_fit I0) (by show Fit 0; unfold Fit; decide) (.inl (row_nil V)) (Nat.zero_le _) (by decide)).mono ?_
        rw [HO1.out, HAL1.out, HST1.out, HBS1.out, HIS1.out]
        rintro e w6 ⟨pb, pn, pc, rfl, hp, hb⟩
        refine held_more hK HS0.out hlt (Bc.out.trans (hb.mono Bc.out.size)) (fun Bc hSn => ?_)
        have HNn := Lib.hid (HN.out.later hb)
        clear HN
        have HN := HNn
        clear HNn
        have HPX := Lib.hid hp
        clear hb hK hp
        unfold nodeV
        refine tks [4, 5, 6, 7, 8] 5 rfl (by kernel_rfl) (fun _ _ _ _ h => h) (by assumption) (fun KT hKT => ?_)
        iterate 5 (refine tkT (by (simp only [gA, gB, gC]; rfl)) (by rfl) (by (intro w hSw; (simp only [Holds] at hSw); go_simp <;> with_reducible rfl)) ?_; simp only [Act.put, pA, pB, pC])
        refine hKT _ ?_
        clear KT hKT
        refine wpAnyH_ready (rs := [10]) (by kernel_rfl) (by simp) ?_
        refine (AllReadyH.cons (o := ?oz230) ?iz230 (fun K hK => ?kz230) AllReadyH.nil)
        case iz230 => (simp only [List.getElem?_toArray, List.getElem?_cons_zero, List.getElem?_cons_succ]; rfl)
        simp only [Act.put]
        rw [if_pos (by rfl)]
        refine wp_store_node (.tmp 4) (.tmp 29) (by rfl) bx _ _ _ ⟨bs1.s, bs1.cost, pb, pn, pc⟩ (by rfl) (by rfl) HN.out ?_
        intro wE hE hbE hoE hgE
        refine held_more hK HS0.out hlt (Bc.out.trans (hbE _ HLX.out)) (fun Bc hSn => ?_)
        have HPE := HPX.out.kept hgE HN.out
        clear hK
        refine tks [11, 12, 13] 3 rfl (by kernel_rfl) (fun _ _ _ _ h => h) (by assumption) (fun KT hKT => ?_)
        iterate 3 (refine tkT (by (simp only [gA, gB, gC]; rfl)) (by rfl) (by (intro w hSw; (simp only [Holds] at hSw); go_simp <;> with_reducible rfl)) ?_; simp only [Act.put, pA, pB, pC])
        refine hKT _ ?_
        clear KT hKT
        refine wpAnyH_done (by kernel_rfl) ?_ _
        go_wp2_with fail
        go_meet
        exact ⟨bx, pb, pn, pc, rfl, rfl, rfl, rfl, hE, HPE.row Bc.out, HBR.out.trans (Bc.out.mono HBR.out.size)⟩
    · skip
      have HSZ := Lib.hid Bc.out.size
      go_simp
      refine held_more hK HS0.out hlt (Bc.out.alloc Bc.out.size _) (fun Bc hSn => ?_)
      clear hK
      have HN := Lib.hid (nod_new V noughtS 0 (.slice none 0 0))
      change wpAnyH _ _ _ _ _ _ _ _ (V.alloc (boxN noughtS 0 (.slice none 0 0)))
      have Bc2 := Lib.hid (show Below V.heap.size V (V.alloc (boxN noughtS 0 (.slice none 0 0))) from Bc.out)
      clear Bc
      have Bc := Bc2
      clear Bc2
      change Holds _ (V.alloc (boxN noughtS 0 (.slice none 0 0))) at hSn
      generalize V.alloc (boxN noughtS 0 (.slice none 0 0)) = Xn at *
      obtain ⟨bx, hbx⟩ : ∃ bx, bx = V.heap.size := ⟨_, rfl⟩
      have HLX := Lib.hid (show V.heap.size ≤ bx by rw [hbx]; exact HSZ.out)
      rw [← hbx] at HN ⊢
      clear hbx HSZ
      refine wpAnyH_ready (rs := [2]) (by kernel_rfl) (by simp) ?_
      refine AllReadyH.cons (o := ?oz231) ?iz231 (fun K hK => ?kz231) AllReadyH.nil
      case iz231 => (simp only [List.getElem?_toArray, List.getElem?_cons_zero, List.getElem?_cons_succ]; rfl)
      go_simp
      change Calls _ _ #[insV I0 (.slice ad I0.l.length cap)] _ _
      refine (eroot_any (HR.out.below Bc.out)).mono ?_
      rintro e w' ⟨rfl, hb⟩
      refine held_more hK HS0.out hlt (Bc.out.trans (hb.mono Bc.out.size)) (fun Bc hSn => ?_)
      have HNn := Lib.hid (HN.out.later hb)
      clear HN
      have HN := HNn
      clear HNn
      clear hb hK
      refine wpAnyH_ready (rs := [3]) (by kernel_rfl) (by simp) ?_
      refine AllReadyH.cons (o := ?oz232) ?iz232 (fun K hK => ?kz232) AllReadyH.nil
      case iz232 => (simp only [List.getElem?_toArray, List.getElem?_cons_zero, List.getElem?_cons_succ]; rfl)
      go_simp
      change Calls _ _ #[insV I0 (.slice ad I0.l.length cap), nodeV (rootS I0) 0 (.slice none 0 0), .int .i64 1152921504606846976, .int .i64 1000] _ _
      refine (ebest_any (I := I0) (n := rootN' I0) (up := 1152921504606846976) (most := 1000) (w0 := V) (HR.out.below Bc.out) Bc.out (root_setsE I0) (root_fit I0) (by show Fit 0; unfold Fit; decide) (.inl (row_nil V)) (Nat.zero_le _) (by decide)).mono ?_
      rw [HO1.out, HAL1.out, HST1.out, HBS1.out, HIS1.out]
      rintro e w6 ⟨pb, pn, pc, rfl, hp, hb⟩
      refine held_more hK HS0.out hlt (Bc.out.trans (hb.mono Bc.out.size)) (fun Bc hSn => ?_)
      have HNn := Lib.hid (HN.out.later hb)
      clear HN
      have HN := HNn
      clear HNn
      have HPX := Lib.hid hp
      clear hb hK hp
      unfold nodeV
      refine tks [4, 5, 6, 7, 8] 5 rfl (by kernel_rfl) (fun _ _ _ _ h => h) (by assumption) (fun KT hKT => ?_)
      iterate 5 (refine tkT (by (simp only [gA, gB, gC]; rfl)) (by rfl) (by (intro w hSw; (simp only [Holds] at hSw); go_simp <;> with_reducible rfl)) ?_; simp only [Act.put, pA, pB, pC])
      refine hKT _ ?_
      clear KT hKT
      refine wpAnyH_ready (rs := [10]) (by kernel_rfl) (by simp) ?_
      refine (AllReadyH.cons (o := ?oz233) ?iz233 (fun K hK => ?kz233) AllReadyH.nil)
      case iz233 => (simp only [List.getElem?_toArray, List.getElem?_cons_zero, List.getElem?_cons_succ]; rfl)
      simp only [Act.put]
      rw [if_pos (by rfl)]
      refine wp_store_node (.tmp 4) (.tmp 29) (by rfl) bx _ _ _ ⟨bs1.s, bs1.cost, pb, pn, pc⟩ (by rfl) (by rfl) HN.out ?_
      intro wE hE hbE hoE hgE
      refine held_more hK HS0.out hlt (Bc.out.trans (hbE _ HLX.out)) (fun Bc hSn => ?_)
      have HPE := HPX.out.kept hgE HN.out
      clear hK
      refine tks [11, 12, 13] 3 rfl (by kernel_rfl) (fun _ _ _ _ h => h) (by assumption) (fun KT hKT => ?_)
      iterate 3 (refine tkT (by (simp only [gA, gB, gC]; rfl)) (by rfl) (by (intro w hSw; (simp only [Holds] at hSw); go_simp <;> with_reducible rfl)) ?_; simp only [Act.put, pA, pB, pC])
      refine hKT _ ?_
      clear KT hKT
      refine wpAnyH_done (by kernel_rfl) ?_ _
      go_wp2_with fail
      go_meet
      exact ⟨bx, pb, pn, pc, rfl, rfl, rfl, rfl, hE, HPE.row Bc.out, HBR.out.trans (Bc.out.mono HBR.out.size)⟩
  case rest =>
  obtain ⟨bb1, pb1, pn1, pc1, rfl, rfl, rfl, rfl, f1, f2, hb⟩ := hcut
  have HN1 := Lib.hid f1
  have HP1 := Lib.hid f2
  clear f1 f2
  have HYn := Lib.hid (HY.out.later hb)
  clear HY
  have HY := HYn
  clear HYn
  have HRn := Lib.hid (HR.out.below hb)
  clear HR
  have HR := HRn
  clear HRn
  have HBn := Lib.hid (HB.out.trans (hb.mono HB.out.size))
  clear HB
  have HB := HBn
  clear HBn
  clear hb
  generalize wc = W4 at *
  have HT1 := Lib.hid (show al1 = true by
    rw [← HAL1.out]
    exact run_all HM.out (by have := HPT.out; omega) (by decide) 44 [rootN' I0] none 1152921504606846976 0 0 (level_root I0))
  obtain rfl := HT1.out
  clear HT1
  obtain ⟨y0, y1, y2, y3⟩ := HY.out.cells
  go_wp2_with fail
  clear y0 y1 y2 y3
  change Calls _ _ #[insV I0 (.slice ad I0.l.length cap)] _ _
  refine (qevery_any HR.out HM.out).mono ?_
  rintro e w5 ⟨rfl, hb⟩
  have HYn := Lib.hid (HY.out.later hb)
  clear HY
  have HY := HYn
  clear HYn
  have HRn := Lib.hid (HR.out.below hb)
  clear HR
  have HR := HRn
  clear HRn
  have HN1n := Lib.hid (HN1.out.later hb)
  clear HN1
  have HN1 := HN1n
  clear HN1n
  have HBn := Lib.hid (HB.out.trans (hb.mono HB.out.size))
  clear HB
  have HB := HBn
  clear HBn
  clear hb
  obtain ⟨E, hE⟩ : ∃ E, everyF I0 (2 * I0.p + I0.c - 1).toNat (rootS I0) = E := ⟨_, rfl⟩
  rw [hE]
  have HZ := Lib.hid (show (is1 = true ∧ E < 1152921504606846976 ∧ bs1.cost = E) ∨ (is1 = false ∧ ¬ E < 1152921504606846976) by
    have hr := rank_root HM.out
    obtain ⟨k1, k2⟩ := exact_every HM.out (most := 1000) (d := (2 * I0.p + I0.c - 1).toNat) HRK.out (by omega) HAL1.out
    rw [hE] at k1 k2
    have h3 := HO1.out
    change (exactRun I0 1000 44 [rootN' I0] none infN 0).1 = o1 at h3
    rw [h3] at k1 k2
    have h1 := HIS1.out
    have h4 := HBS1.out
    cases o1 with
    | none => exact .inr ⟨h1.symm, fun h => (k1.2 h) rfl⟩
    | some n =>
      have hn : n = bs1 := h4
      subst hn
      exact .inl ⟨h1.symm, k1.1 (by simp), k2 n rfl⟩)
  clear HO1 HAL1 HST1 HBS1 HIS1 hE
  have x8 := HN1.out.c8
  rcases HZ.out with ⟨rfl, h2, h3⟩ | ⟨rfl, h2⟩
  · rw [h3] at x8
    have d8 := decide_eq_true h2
    have b3 : (E == E) = true := by simp
    clear HZ h2 h3
    go_wp2
    go_ret
    exact ⟨by first | rfl | simp, HB.out⟩
  · have d8 := decide_eq_false h2
    clear HZ h2
    go_wp2
    go_ret
    exact ⟨by first | rfl | simp, HB.out⟩

set_option maxRecDepth 100000 in
theorem lifted (os : Os) (started : os.Started) (H : Type) (enc : TypeId × Value → H) :
    ReturnsInHanded {} Try.checked os 9 .any (Rows.exactEverySpec.pre6 enc Try.prog Try.f9 Rows.exactEveryRow.domain false) (Rows.exactEverySpec.post enc Try.prog Try.f9 false true false false) := by
  refine returnsInHanded_of_change (C := Try.checked) own started (by kernel_rfl) Try.func9
    (ChangeSpec.witness6 (enc := enc) (C := Try.checked) false ⟨#[], #[.agg #[.int .i64 0, .int .i64 0, .int .i64 0, .slice none 0 0]], []⟩ 8 (by kernel_rfl) (by kernel_rfl) (by kernel_rfl) (by kernel_rfl)) ?_
  intro W base args ds gs before hval0 hW hcnd _
  have hval : ∀ (j : Nat) t v, Try.f9.params[j]? = some t → args[j]? = some v → Value.okWide Try.prog W .any base t v := hval0
  have hW' := hW
  obtain ⟨p, q, hA0, hV, rfl, hfz, hnd⟩ := hW
  have hA : DataW.TrodAll enc Try.prog W 0 (fun _ => true) true Try.f9.params.toList args.toList ds p := hA0
  rw [Try.params9] at hA hval
  obtain ⟨v0, vs0, d0, ds0, p0, q0, hargs, rfl, rfl, h0, r0⟩ := trodAll_cons hA
  obtain ⟨rfl, rfl, rfl⟩ := trodAll_nil r0
  obtain rfl : args = #[v0] := by cases args; simp_all
  obtain ⟨rfl, rfl⟩ := trodVars_none hV
  have k0 := h0
  have lt0 : ∀ x ∈ p0, x.block < W.heap.size := by obtain ⟨m, hm⟩ := k0; exact DataW.trod_lt m _ _ _ hm
  obtain ⟨I0, u0, rfl, e0, _⟩ := open_inst (hval 0 24 v0 rfl rfl) h0
  clear hA0 hval0
  refine (walk I0 _ W e0).mono fun e W' ⟨he, bel⟩ => ?_
  subst he
  exact ⟨_, rfl, _, _, _, [], _, [], hW', trodAll_mk1 (shut_bool Try.underlying4 _), (trodAll_cons_mk (Below.trod laidOut (by kernel_rfl) (of_decide_eq_true (by kernel_rfl)) k0 bel lt0) trodAll_mk0), rfl, bel.frame _, fun h => by cases h⟩

theorem over : Rows.exactEveryRow.holds Try.pinned (OpenSpec.ofChange Rows.exactEverySpec) :=
  OpenClaim.holds_of_wide 9 Try.f9 rfl rfl rfl rfl rfl rfl rfl ⟨rfl, rfl, rfl, rfl, rfl⟩ rfl rfl rfl rfl rfl (by kernel_rfl) Try.func9 (by show joinedFacts Try.checked.prog _ _ _ _ = true; unfold joinedFacts; rw [ord_may, ord_lifts, ord_make]; kernel_rfl)
    (of_decide_eq_true (by kernel_rfl)) (by unfold Func.isWrapper; first | (rw [if_pos (by decide +kernel)]; kernel_rfl) | (rw [if_neg (by decide +kernel)]; exact ⟨rfl, rfl⟩))
    (fun os started H enc _ => lifted os started H enc)

theorem proved : Rows.ExactEverySaid := over
#print axioms proved
end Go.Proofs.Ytaaljploegiihaa.exactEvery
