/- Whether a node leaves another one without use: the document's answer; few nodes. -/
import Derived.Test.YtgplajofemencaaGreatXN
import Derived.Test.YtgplajofemencaaGreatYG
import Derived.Test.YtgplajofemencaaGreatYC
namespace Go.Proofs.YtgplajofemencaaGreat
open Go.ChangeShapes Go.WideShapes Go.ChangeAt Go.RowKit

/-- At most 60 nodes, of at most 100 moves each. -/
def FewN (l : List Nod) : Prop := l.length ≤ 60 ∧ ∀ n ∈ l, n.path.length ≤ 100
instance (l : List Nod) : Decidable (FewN l) := by unfold FewN; infer_instance
theorem nodAt_is {l : List Nod} {k : Nat} (hk : k < l.length) : l[k]? = some (nodAt l k) := by
  unfold nodAt; rw [List.getD_eq_getElem?_getD, List.getElem?_eq_getElem hk]; rfl
end Go.Proofs.YtgplajofemencaaGreat
/- Which nodes are left: the document's answer. -/
namespace Go.Proofs.YtgplajofemencaaGreat
open Go.ChangeShapes Go.WideShapes Go.ChangeAt Go.RowKit

end Go.Proofs.YtgplajofemencaaGreat
/- Whether two lists of nodes are the same. -/
namespace Go.Proofs.YtgplajofemencaaGreat
open Go.ChangeShapes Go.WideShapes Go.ChangeAt Go.RowKit

set_option maxRecDepth 1000000 in
set_option maxHeartbeats 4000000 in
theorem sameN_any {w : World} {u v : Value} {A B : List Nod} (hA : NRow w u A) (hB : NRow w v B) :
    Calls Tryz.prog 11 #[u, v] w fun e w' => e = .returned (.bool (decide (A = B))) ∧ Below w.heap.size w w' := by
  have HA := Lib.hid hA
  have HB := Lib.hid hB
  obtain ⟨a, capa, rfl, hma, _⟩ := hA.form
  obtain ⟨b, capb, rfl, hmb, _⟩ := hB.form
  unfold maxLen at hma hmb
  clear hA hB
  have hm1 : A.length ≤ 9223372036854775807 := by omega
  have hm2 : B.length ≤ 9223372036854775807 := by omega
  clear hma hmb
  by_cases hl : A.length = B.length
  rotate_left
  · have HL := Lib.hid hl
    have hne : ((A.length : Int) != (B.length : Int)) = true := by simp; omega
    clear hl
    go_enter Tryz.func11, Tryz.ntmps11
    go_wp2
    go_ret
    exact ⟨ret_bool (decide_eq_false (fun e => HL.out (by rw [e]))).symm, Below.refl _ _⟩
  have HL := Lib.hid hl
  rw [← hl] at HB ⊢
  have hne : ((A.length : Int) != (A.length : Int)) = false := by simp
  clear hl hm2
  go_enter Tryz.func11, Tryz.ntmps11
  go_wp2_with fail
  go_loopw [5] (fun i wr => ∃ j : Nat, j ≤ A.length ∧ i = .int .i64 j ∧ A.take j = B.take j ∧ Below w.heap.size w wr) (fun i _ => A.length - (intOf i).toNat)
  case atStart => exact ⟨0, Nat.zero_le _, rfl, by simp, Below.refl _ _⟩
  case round =>
    obtain ⟨k, hk, rfl, htk, hbk⟩ := hrel
    have HTK := Lib.hid htk
    have HW := Lib.hid hbk
    clear htk hbk
    by_cases hkl : k < A.length
    rotate_left
    · obtain rfl : k = A.length := by omega
      have HEQ := Lib.hid (take_all HL.out HTK.out)
      clear hkl hk
      go_wp2
      go_ret
      exact ⟨ret_bool (decide_eq_true HEQ.out).symm, HW.out⟩
    have HK := Lib.hid hkl
    obtain ⟨b1, o1, pa, pc, ha, hn1, hl1, hr1⟩ := nrow_at (HA.out.below HW.out) k _ (nodAt_is hkl)
    obtain ⟨b2, o2, qa, qc, hb, hn2, hl2, hr2⟩ := nrow_at (HB.out.below HW.out) k _ (nodAt_is (by have := HL.out; omega))
    subst ha hb
    have HON := Lib.hid (fun h => take_on (d := nod0) HL.out hkl HTK.out (show A.getD k nod0 = B.getD k nod0 from h))
    have HOF := Lib.hid (show nodAt A k ≠ nodAt B k → decide (A = B) = false from fun h => decide_eq_false (fun e => h (by rw [e])))
    change Hid (nodAt A k = nodAt B k → _) at HON
    generalize nodAt A k = n at *
    generalize nodAt B k = m at *
    have HN1 := Lib.hid hn1
    have HN2 := Lib.hid hn2
    have HR1 := Lib.hid hr1
    have HR2 := Lib.hid hr2
    have hki : (k : Int) < (A.length : Int) := by omega
    have hk2 : IntKind.i64.wrap ((k : Int) + 1) = (k : Int) + 1 := IntWalk.i64_in _ (by omega)
    have HB1 := Lib.hid hl1
    have HB2 := Lib.hid hl2
    clear hn1 hn2 hr1 hr2 hk hkl hl1 hl2
    go_upto_region 6 with fail
    go_cut [6] from 18 to 56 (fun p wx => p = .bool (decide (n.path = m.path)) ∧ Below wr.heap.size wr wx)
    case first =>
      have HS0 := Lib.hid (show Holds (cellsRN b1 (o1 + k * 10) n.s n.cost (.slice pa n.path.length pc) ++ cellsRN b2 (o2 + k * 10) m.s m.cost (.slice qa m.path.length qc)) wr.drew from Holds.app.2 ⟨(holds_RN HN1.out), (holds_RN HN2.out)⟩)
      have hlt := Lib.hid (show Lows wr.drew.heap.size (cellsRN b1 (o1 + k * 10) n.s n.cost (.slice pa n.path.length pc) ++ cellsRN b2 (o2 + k * 10) m.s m.cost (.slice qa m.path.length qc)) from Lows.app (lows_RN HB1.out) (lows_RN HB2.out))
      refine wp_region_held_drew (S := Holds (cellsRN b1 (o1 + k * 10) n.s n.cost (.slice pa n.path.length pc) ++ cellsRN b2 (o2 + k * 10) m.s m.cost (.slice qa m.path.length qc))) (by kernel_rfl) HS0.out (fun hSn => ?_)
      have HV1 := Lib.hid (HR1.out.below (Below.refl _ _).drew)
      have HV2 := Lib.hid (HR2.out.below (Below.refl _ _).drew)
      have HWD := Lib.hid ((Below.refl wr.heap.size wr).drew)
      generalize wr.drew = V at *
      have Bc := Lib.hid (Below.refl V.heap.size V)
      simp only [cellsRN, List.cons_append, List.nil_append] at HS0 hlt hSn ⊢
      refine tks [0, 1, 2, 3, 4, 5, 6, 7, 8, 9] 10 rfl (by kernel_rfl) (fun _ _ _ _ h => h) (by assumption) (fun KT hKT => ?_)
      iterate 10 (refine tkT (by (simp only [gA, gB, gC]; rfl)) (by rfl) (by (intro w hSw; (simp only [Holds] at hSw); go_simp <;> with_reducible rfl)) ?_; simp only [Act.put, pA, pB, pC])
      refine hKT _ ?_
      clear KT hKT
      refine wpAnyH_ready (rs := [10]) (by kernel_rfl) (by simp) ?_
      refine AllReadyH.cons (o := ?oz212) ?iz212 (fun K hK => ?kz212) AllReadyH.nil
      case iz212 => (simp only [List.getElem?_toArray, List.getElem?_cons_zero, List.getElem?_cons_succ]; rfl)
      go_simp
      refine (same2_any (HV1.out.below Bc.out) (HV2.out.below Bc.out)).mono ?_
      rintro e w' ⟨rfl, hb⟩
      refine held_more hK HS0.out hlt (Bc.out.trans (hb.mono Bc.out.size)) (fun Bc hSn => ?_)
      clear hb hK
      refine tks [11] 1 rfl (by kernel_rfl) (fun _ _ _ _ h => h) (by assumption) (fun KT hKT => ?_)
      refine tkT (by (simp only [gA, gB, gC]; rfl)) (by rfl) (by (intro w hSw; (simp only [Holds] at hSw); go_simp <;> with_reducible rfl)) ?_
      simp only [Act.put, pA, pB, pC]
      refine hKT _ ?_
      clear KT hKT
      refine wpAnyH_done (by kernel_rfl) ?_ _
      go_wp2_with fail
      go_meet
      exact ⟨rfl, HWD.out.trans (Bc.out.mono HWD.out.size)⟩
    case rest =>
    obtain ⟨rfl, hbx⟩ := hcut
    have HX := Lib.hid hbx
    have HM1 := Lib.hid (HN1.out.below HB1.out hbx)
    have HM2 := Lib.hid (HN2.out.below HB2.out hbx)
    have HBX1 := Lib.hid (Nat.lt_of_lt_of_le HB1.out hbx.size)
    have HBX2 := Lib.hid (Nat.lt_of_lt_of_le HB2.out hbx.size)
    clear hbx HN1 HN2 HB1 HB2
    generalize wc = W7 at *
    obtain ⟨pe, hpe⟩ : ∃ pe, decide (n.path = m.path) = pe := ⟨_, rfl⟩
    rw [hpe]
    have HPE := Lib.hid hpe
    clear hpe
    have kg := guardSta
    obtain ⟨df, hdf⟩ : ∃ df, decide (n = m) = df := ⟨_, rfl⟩
    have HDF := Lib.hid hdf
    clear hdf
    go_upto_region 7 with fail
    go_cut [56] from 29 to 56 (fun p wx => p = .bool (!df) ∧ Below wr.heap.size wr wx)
    case first =>
      have HS0 := Lib.hid (show Holds (cellsRN b1 (o1 + k * 10) n.s n.cost (.slice pa n.path.length pc) ++ cellsRN b2 (o2 + k * 10) m.s m.cost (.slice qa m.path.length qc)) W7.drew from Holds.app.2 ⟨(holds_RN HM1.out), (holds_RN HM2.out)⟩)
      have hlt := Lib.hid (show Lows W7.drew.heap.size (cellsRN b1 (o1 + k * 10) n.s n.cost (.slice pa n.path.length pc) ++ cellsRN b2 (o2 + k * 10) m.s m.cost (.slice qa m.path.length qc)) from Lows.app (lows_RN HBX1.out) (lows_RN HBX2.out))
      refine wp_region_held_drew (S := Holds (cellsRN b1 (o1 + k * 10) n.s n.cost (.slice pa n.path.length pc) ++ cellsRN b2 (o2 + k * 10) m.s m.cost (.slice qa m.path.length qc))) (by kernel_rfl) HS0.out (fun hSn => ?_)
      have HXD := Lib.hid HX.out.drew
      generalize W7.drew = V at *
      have Bc := Lib.hid (Below.refl V.heap.size V)
      simp only [cellsRN, List.cons_append, List.nil_append] at HS0 hlt hSn ⊢
      have fin := Lib.hid (show Below wr.heap.size wr V from HXD.out)
      cases pe with
      | false =>
        have HF := Lib.hid (show df = false by rw [← HDF.out]; exact decide_eq_false (fun e => of_decide_eq_false HPE.out (by rw [e])))
        refine tks [0, 1, 2] 3 rfl (by kernel_rfl) (fun _ _ _ _ h => h) (by assumption) (fun KT hKT => ?_)
        iterate 3 (refine tkT (by (simp only [gA, gB, gC]; rfl)) (by rfl) (by (intro w hSw; (simp only [Holds] at hSw); go_simp <;> with_reducible rfl)) ?_; simp only [Act.put, pA, pB, pC])
        refine hKT _ ?_
        clear KT hKT
        refine tks [3, 4, 5, 6, 7, 8, 9, 10, 11, 12, 13] 11 rfl (by kernel_rfl) (fun _ _ _ _ h => h) (by assumption) (fun KT hKT => ?_)
        iterate 11 (refine tkS (by (simp only [gA, gB, gC]; rfl)) (by rfl) ?_; simp only [Act.put, pA, pB, pC])
        refine hKT _ ?_
        clear KT hKT
        refine tks [14, 15] 2 rfl (by kernel_rfl) (fun _ _ _ _ h => h) (by assumption) (fun KT hKT => ?_)
        iterate 2 (refine tkT (by (simp only [gA, gB, gC]; rfl)) (by rfl) (by (intro w hSw; (simp only [Holds] at hSw); go_simp <;> with_reducible rfl)) ?_; simp only [Act.put, pA, pB, pC])
        refine hKT _ ?_
        clear KT hKT
        refine tks [16, 17, 18, 19, 20, 21, 22, 23, 24, 25, 26] 11 rfl (by kernel_rfl) (fun _ _ _ _ h => h) (by assumption) (fun KT hKT => ?_)
        iterate 11 (refine tkS (by (simp only [gA, gB, gC]; rfl)) (by rfl) ?_; simp only [Act.put, pA, pB, pC])
        refine hKT _ ?_
        clear KT hKT
        refine tks [27] 1 rfl (by kernel_rfl) (fun _ _ _ _ h => h) (by assumption) (fun KT hKT => ?_)
        refine tkT (by (simp only [gA, gB, gC]; rfl)) (by rfl) (by (intro w hSw; (simp only [Holds] at hSw); go_simp <;> with_reducible rfl)) ?_
        simp only [Act.put, pA, pB, pC]
        refine hKT _ ?_
        clear KT hKT
        refine wpAnyH_done (by kernel_rfl) ?_ _
        go_wp2_with fail
        go_meet
        exact ⟨by rw [HF.out]; rfl, fin.out⟩
      | true =>
        have keq := fun w => equalSta n.s m.s w
        by_cases hs : n.s = m.s
        rotate_left
        · rw [decide_eq_false hs] at keq
          have HF := Lib.hid (show df = false by rw [← HDF.out]; exact decide_eq_false (fun e => hs (by rw [e])))
          clear hs
          refine tks [0, 1, 2, 3, 4, 5, 6, 7, 8, 9, 10, 11, 12, 13, 14, 15] 16 rfl (by kernel_rfl) (fun _ _ _ _ h => h) (by assumption) (fun KT hKT => ?_)
          iterate 16 (refine tkT (by (simp only [gA, gB, gC]; rfl)) (by rfl) (by (intro w hSw; (simp only [Holds] at hSw); go_simp <;> with_reducible rfl)) ?_; simp only [Act.put, pA, pB, pC])
          refine hKT _ ?_
          clear KT hKT
          refine tks [16, 17, 18, 19, 20, 21, 22, 23, 24, 25, 26] 11 rfl (by kernel_rfl) (fun _ _ _ _ h => h) (by assumption) (fun KT hKT => ?_)
          iterate 11 (refine tkS (by (simp only [gA, gB, gC]; rfl)) (by rfl) ?_; simp only [Act.put, pA, pB, pC])
          refine hKT _ ?_
          clear KT hKT
          refine tks [27] 1 rfl (by kernel_rfl) (fun _ _ _ _ h => h) (by assumption) (fun KT hKT => ?_)
          refine tkT (by (simp only [gA, gB, gC]; rfl)) (by rfl) (by (intro w hSw; (simp only [Holds] at hSw); go_simp <;> with_reducible rfl)) ?_
          simp only [Act.put, pA, pB, pC]
          refine hKT _ ?_
          clear KT hKT
          refine wpAnyH_done (by kernel_rfl) ?_ _
          go_wp2_with fail
          go_meet
          exact ⟨by rw [HF.out]; rfl, fin.out⟩
        · rw [decide_eq_true hs] at keq
          have HSS := Lib.hid hs
          clear hs
          by_cases hc : n.cost = m.cost
          · have b1 : (n.cost != m.cost) = false := by simp [hc]
            have HF := Lib.hid (show df = true by
              rw [← HDF.out]
              have h1 := of_decide_eq_true HPE.out
              have h2 := HSS.out
              obtain ⟨a1, a2, a3⟩ := n
              obtain ⟨c1, c2, c3⟩ := m
              simp only at h1 h2 hc
              subst h1 h2 hc
              exact decide_eq_true rfl)
            clear hc
            refine tks [0, 1, 2, 3, 4, 5, 6, 7, 8, 9, 10, 11, 12, 13, 14, 15, 16, 17, 18, 19, 20, 21, 22, 23, 24, 25, 26, 27] 28 rfl (by kernel_rfl) (fun _ _ _ _ h => h) (by assumption) (fun KT hKT => ?_)
            iterate 28 (refine tkT (by (simp only [gA, gB, gC]; rfl)) (by rfl) (by (intro w hSw; (simp only [Holds] at hSw); go_simp <;> with_reducible rfl)) ?_; simp only [Act.put, pA, pB, pC])
            refine hKT _ ?_
            clear KT hKT
            refine wpAnyH_done (by kernel_rfl) ?_ _
            go_wp2_with fail
            go_meet
            exact ⟨by rw [HF.out]; rfl, fin.out⟩
          · have b1 : (n.cost != m.cost) = true := by simp [hc]
            have HF := Lib.hid (show df = false by rw [← HDF.out]; exact decide_eq_false (fun e => hc (by rw [e])))
            clear hc
            refine tks [0, 1, 2, 3, 4, 5, 6, 7, 8, 9, 10, 11, 12, 13, 14, 15, 16, 17, 18, 19, 20, 21, 22, 23, 24, 25, 26, 27] 28 rfl (by kernel_rfl) (fun _ _ _ _ h => h) (by assumption) (fun KT hKT => ?_)
            iterate 28 (refine tkT (by (simp only [gA, gB, gC]; rfl)) (by rfl) (by (intro w hSw; (simp only [Holds] at hSw); go_simp <;> with_reducible rfl)) ?_; simp only [Act.put, pA, pB, pC])
            refine hKT _ ?_
            clear KT hKT
            refine wpAnyH_done (by kernel_rfl) ?_ _
            go_wp2_with fail
            go_meet
            exact ⟨by rw [HF.out]; rfl, fin.out⟩
    case rest =>
    obtain ⟨rfl, hbx⟩ := hcut
    have HW9 := Lib.hid (HW.out.trans (hbx.mono HW.out.size))
    clear hbx HX HM1 HM2 HBX1 HBX2 HW
    generalize wc = W9 at *
    cases df with
    | false =>
      have HF := Lib.hid (HOF.out (of_decide_eq_false HDF.out))
      go_wp2
      go_ret
      exact ⟨ret_bool HF.out.symm, HW9.out⟩
    | true =>
      have HF := Lib.hid (HON.out (of_decide_eq_true HDF.out))
      go_wp2_with fail
      go_roundw
      case rel => exact ⟨k + 1, by have := HK.out; omega, by go_num, HF.out, HW9.out⟩
      case measure => have := HK.out; simp [intOf]; omega
end Go.Proofs.YtgplajofemencaaGreat
