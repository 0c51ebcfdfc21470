/- The program's own seen and Than. -/
import Derived.Test.YtgplajofemencaaGreatYJ
import Derived.Test.YtgplajofemencaaGreatGAm
import Derived.Test.YtgplajofemencaaGreatYG
import Derived.Test.YtgplajofemencaaGreatYF
namespace Go.Proofs.YtgplajofemencaaGreat
open Go.ChangeShapes Go.WideShapes Go.ChangeAt Go.RowKit

set_option maxRecDepth 1000000 in
set_option maxHeartbeats 4000000 in
theorem gseen_any (s : Sta) (w : World) : Calls Tryz.prog 83 #[staV s] w fun e w' => e = .returned (staV (sawS s)) ∧ Below w.heap.size w w' := by
  unfold staV
  go_enter Tryz.func83, Tryz.ntmps83
  go_upto_region 1 with fail
  obtain ⟨k1, k2, k3⟩ := boxes_st w s noughtS
  have HX := Lib.hid k1
  have HZ := Lib.hid k2
  have HB := Lib.hid k3
  clear k1 k2 k3
  change Code.wp _ _ _ _ ((w.alloc (boxSt s)).alloc (boxSt noughtS))
  generalize (w.alloc (boxSt s)).alloc (boxSt noughtS) = W at *
  have q0 := HX.out.c0
  have q5 := HX.out.c5
  have q6 := HX.out.c6
  have q7 := HX.out.c7
  go_wp2_with (refine wpList_store_state (by rfl) (.tmp 2) (.tmp 11) (by rfl) (w.heap.size + 1) _ (sawS s) (by rfl) (by rfl) HZ.out ?_)
  clear q0 q5 q6 q7
  intro WE hE hbE
  have z0 := hE.c0
  have z1 := hE.c1
  have z2 := hE.c2
  have z3 := hE.c3
  have z4 := hE.c4
  have z5 := hE.c5
  have z6 := hE.c6
  have z7 := hE.c7
  go_wp2
  exact bodyPost_ret (v := staV (sawS s)) (by simp [results, Tryz.results83, go_sem, z0, z1, z2, z3, z4, z5, z6, z7, staV]) rfl ⟨rfl, HB.out.trans (hbE _ (Nat.le_succ _))⟩
set_option maxRecDepth 1000000 in
set_option maxHeartbeats 4000000 in
theorem gthan_any {a b : Nod} {xa xb : Option Addr} {na ca nb cb : Nat} (w : World) (ha : SetsOk a.s) (hb : SetsOk b.s) :
    Calls Tryz.prog 85 #[nodeV a.s a.cost (.slice xa na ca), nodeV b.s b.cost (.slice xb nb cb)] w fun e w' => e = .returned (.bool (decide (Than a b))) ∧ Below w.heap.size w w' := by
  have H1 := Lib.hid ha
  have H2 := Lib.hid hb
  have HT := Lib.hid (saw_same a b)
  clear ha hb
  unfold nodeV
  go_enter Tryz.func85, Tryz.ntmps85
  go_upto_region 1 with fail
  obtain ⟨k1, k2, k3⟩ := boxes_nn w a.s b.s a.cost b.cost (.slice xa na ca) (.slice xb nb cb)
  have HA := Lib.hid k1
  have HC := Lib.hid k2
  have HB := Lib.hid k3
  clear k1 k2 k3
  change Code.wp _ _ _ _ ((w.alloc (boxN a.s a.cost (.slice xa na ca))).alloc (boxN b.s b.cost (.slice xb nb cb)))
  generalize (w.alloc (boxN a.s a.cost (.slice xa na ca))).alloc (boxN b.s b.cost (.slice xb nb cb)) = W at *
  have HBd := Lib.hid HB.out.drew
  have HS0 := Lib.hid (show Holds (cellsN w.heap.size a.s a.cost (.slice xa na ca) ++ cellsN (w.heap.size + 1) b.s b.cost (.slice xb nb cb)) W.drew from Holds.app.2 ⟨HA.out.holds, HC.out.holds⟩)
  have hlt := Lib.hid (show Lows W.drew.heap.size (cellsN w.heap.size a.s a.cost (.slice xa na ca) ++ cellsN (w.heap.size + 1) b.s b.cost (.slice xb nb cb)) from Lows.app (lows_N HA.out.lt) (lows_N HC.out.lt))
  refine wp_region_held_drew (S := Holds (cellsN w.heap.size a.s a.cost (.slice xa na ca) ++ cellsN (w.heap.size + 1) b.s b.cost (.slice xb nb cb))) (by kernel_rfl) HS0.out (fun hSn => ?_)
  generalize W.drew = V at *
  have Bc := Lib.hid (Below.refl V.heap.size V)
  simp only [cellsN, List.cons_append, List.nil_append] at HS0 hlt hSn ⊢
  have keq := fun w => equalSta (sawS a.s) (sawS b.s) w
  have kg := guardSta
  refine tks [0, 1, 3, 4] 4 rfl (by kernel_rfl) (fun _ _ _ _ h => h) (by assumption) (fun KT hKT => ?_)
  iterate 4 (refine tkT (by (simp only [gA, gB, gC]; rfl)) (by rfl) (by (intro w hSw; (simp only [Holds] at hSw); go_simp <;> with_reducible rfl)) ?_; simp only [Act.put, pA, pB, pC])
  refine hKT _ ?_
  clear KT hKT
  refine wpAnyH_ready (rs := [2]) (by kernel_rfl) (by simp) ?_
  refine AllReadyH.cons (o := ?oz275) ?iz275 (fun K hK => ?kz275) AllReadyH.nil
  case iz275 => (simp only [List.getElem?_toArray, List.getElem?_cons_zero, List.getElem?_cons_succ]; rfl)
  go_simp
  change Calls _ _ #[staV a.s] _ _
  refine (gseen_any a.s _).mono ?_
  rintro e w' ⟨rfl, hb⟩
  refine held_more hK HS0.out hlt (Bc.out.trans (hb.mono Bc.out.size)) (fun Bc hSn => ?_)
  clear hb hK
  refine wpAnyH_ready (rs := [5]) (by kernel_rfl) (by simp) ?_
  refine AllReadyH.cons (o := ?oz276) ?iz276 (fun K hK => ?kz276) AllReadyH.nil
  case iz276 => (simp only [List.getElem?_toArray, List.getElem?_cons_zero, List.getElem?_cons_succ]; rfl)
  go_simp
  change Calls _ _ #[staV b.s] _ _
  refine (gseen_any b.s _).mono ?_
  rintro e w' ⟨rfl, hb⟩
  refine held_more hK HS0.out hlt (Bc.out.trans (hb.mono Bc.out.size)) (fun Bc hSn => ?_)
  clear hb hK
  unfold staV
  by_cases g0 : sawS a.s = sawS b.s
  rotate_left
  · rw [decide_eq_false g0] at keq
    have HE := Lib.hid (show decide (Than a b) = false from decide_eq_false (fun h => g0 (HT.out.1 h).1))
    clear g0
    refine tks [6, 7] 2 rfl (by kernel_rfl) (fun _ _ _ _ h => h) (by assumption) (fun KT hKT => ?_)
    iterate 2 (refine tkT (by (simp only [gA, gB, gC]; rfl)) (by rfl) (by (intro w hSw; (simp only [Holds] at hSw); go_simp <;> with_reducible rfl)) ?_; simp only [Act.put, pA, pB, pC])
    refine hKT _ ?_
    clear KT hKT
    refine tks [8, 9, 10, 11, 12] 5 rfl (by kernel_rfl) (fun _ _ _ _ h => h) (by assumption) (fun KT hKT => ?_)
    iterate 5 (refine tkS (by (simp only [gA, gB, gC]; rfl)) (by rfl) ?_; simp only [Act.put, pA, pB, pC])
    refine hKT _ ?_
    clear KT hKT
    refine tks [13, 14] 2 rfl (by kernel_rfl) (fun _ _ _ _ h => h) (by assumption) (fun KT hKT => ?_)
    iterate 2 (refine tkT (by (simp only [gA, gB, gC]; rfl)) (by rfl) (by (intro w hSw; (simp only [Holds] at hSw); go_simp <;> with_reducible rfl)) ?_; simp only [Act.put, pA, pB, pC])
    refine hKT _ ?_
    clear KT hKT
    refine tks [15, 16, 17, 18, 19] 5 rfl (by kernel_rfl) (fun _ _ _ _ h => h) (by assumption) (fun KT hKT => ?_)
    iterate 5 (refine tkS (by (simp only [gA, gB, gC]; rfl)) (by rfl) ?_; simp only [Act.put, pA, pB, pC])
    refine hKT _ ?_
    clear KT hKT
    refine tks [20, 21] 2 rfl (by kernel_rfl) (fun _ _ _ _ h => h) (by assumption) (fun KT hKT => ?_)
    iterate 2 (refine tkT (by (simp only [gA, gB, gC]; rfl)) (by rfl) (by (intro w hSw; (simp only [Holds] at hSw); go_simp <;> with_reducible rfl)) ?_; simp only [Act.put, pA, pB, pC])
    refine hKT _ ?_
    clear KT hKT
    refine wpAnyH_done (by kernel_rfl) ?_ _
    go_wp2
    go_ret
    exact ⟨ret_bool HE.out.symm, HBd.out.trans (Bc.out.mono HBd.out.size)⟩
  rw [decide_eq_true g0] at keq
  have G0 := Lib.hid g0
  clear g0
  refine tks [6, 7] 2 rfl (by kernel_rfl) (fun _ _ _ _ h => h) (by assumption) (fun KT hKT => ?_)
  iterate 2 (refine tkT (by (simp only [gA, gB, gC]; rfl)) (by rfl) (by (intro w hSw; (simp only [Holds] at hSw); go_simp <;> with_reducible rfl)) ?_; simp only [Act.put, pA, pB, pC])
  refine hKT _ ?_
  clear KT hKT
  refine tks [8, 9, 10, 11] 4 rfl (by kernel_rfl) (fun _ _ _ _ h => h) (by assumption) (fun KT hKT => ?_)
  iterate 4 (refine tkT (by (simp only [gA, gB, gC]; rfl)) (by rfl) (by (intro w hSw; (simp only [Holds] at hSw); go_simp <;> with_reducible rfl)) ?_; simp only [Act.put, pA, pB, pC])
  refine hKT _ ?_
  clear KT hKT
  refine wpAnyH_ready (rs := [12]) (by kernel_rfl) (by simp) ?_
  refine AllReadyH.cons (o := ?oz277) ?iz277 (fun K hK => ?kz277) AllReadyH.nil
  case iz277 => (simp only [List.getElem?_toArray, List.getElem?_cons_zero, List.getElem?_cons_succ]; rfl)
  go_simp
  change Calls _ _ #[staV a.s, staV b.s] _ _
  refine (covers_any _ H1.out H2.out).mono ?_
  rintro e w' ⟨rfl, hb⟩
  refine held_more hK HS0.out hlt (Bc.out.trans (hb.mono Bc.out.size)) (fun Bc hSn => ?_)
  clear hb hK
  by_cases g1 : Covers a.s b.s
  rotate_left
  · rw [decide_eq_false g1]
    have HE := Lib.hid (show decide (Than a b) = false from decide_eq_false (fun h => g1 (HT.out.1 h).2.1))
    clear g1
    refine tks [13, 14] 2 rfl (by kernel_rfl) (fun _ _ _ _ h => h) (by assumption) (fun KT hKT => ?_)
    iterate 2 (refine tkT (by (simp only [gA, gB, gC]; rfl)) (by rfl) (by (intro w hSw; (simp only [Holds] at hSw); go_simp <;> with_reducible rfl)) ?_; simp only [Act.put, pA, pB, pC])
    refine hKT _ ?_
    clear KT hKT
    refine tks [15, 16, 17, 18, 19] 5 rfl (by kernel_rfl) (fun _ _ _ _ h => h) (by assumption) (fun KT hKT => ?_)
    iterate 5 (refine tkS (by (simp only [gA, gB, gC]; rfl)) (by rfl) ?_; simp only [Act.put, pA, pB, pC])
    refine hKT _ ?_
    clear KT hKT
    refine tks [20, 21] 2 rfl (by kernel_rfl) (fun _ _ _ _ h => h) (by assumption) (fun KT hKT => ?_)
    iterate 2 (refine tkT (by (simp only [gA, gB, gC]; rfl)) (by rfl) (by (intro w hSw; (simp only [Holds] at hSw); go_simp <;> with_reducible rfl)) ?_; simp only [Act.put, pA, pB, pC])
    refine hKT _ ?_
    clear KT hKT
    refine wpAnyH_done (by kernel_rfl) ?_ _
    go_wp2
    go_ret
    exact ⟨ret_bool HE.out.symm, HBd.out.trans (Bc.out.mono HBd.out.size)⟩
  rw [decide_eq_true g1]
  have G1 := Lib.hid g1
  clear g1
  refine tks [13, 14] 2 rfl (by kernel_rfl) (fun _ _ _ _ h => h) (by assumption) (fun KT hKT => ?_)
  iterate 2 (refine tkT (by (simp only [gA, gB, gC]; rfl)) (by rfl) (by (intro w hSw; (simp only [Holds] at hSw); go_simp <;> with_reducible rfl)) ?_; simp only [Act.put, pA, pB, pC])
  refine hKT _ ?_
  clear KT hKT
  refine tks [15, 16, 17, 18] 4 rfl (by kernel_rfl) (fun _ _ _ _ h => h) (by assumption) (fun KT hKT => ?_)
  iterate 4 (refine tkT (by (simp only [gA, gB, gC]; rfl)) (by rfl) (by (intro w hSw; (simp only [Holds] at hSw); go_simp <;> with_reducible rfl)) ?_; simp only [Act.put, pA, pB, pC])
  refine hKT _ ?_
  clear KT hKT
  by_cases g2 : a.cost ≤ b.cost
  · have b2 := decide_eq_true g2
    have HE := Lib.hid (show decide (Than a b) = true from decide_eq_true (HT.out.2 ⟨G0.out, G1.out, g2⟩))
    clear g2
    refine tks [19, 20, 21] 3 rfl (by kernel_rfl) (fun _ _ _ _ h => h) (by assumption) (fun KT hKT => ?_)
    iterate 3 (refine tkT (by (simp only [gA, gB, gC]; rfl)) (by rfl) (by (intro w hSw; (simp only [Holds] at hSw); go_simp <;> with_reducible rfl)) ?_; simp only [Act.put, pA, pB, pC])
    refine hKT _ ?_
    clear KT hKT
    refine wpAnyH_done (by kernel_rfl) ?_ _
    go_wp2
    go_ret
    exact ⟨ret_bool HE.out.symm, HBd.out.trans (Bc.out.mono HBd.out.size)⟩
  · have b2 := decide_eq_false g2
    have HE := Lib.hid (show decide (Than a b) = false from decide_eq_false (fun h => g2 (HT.out.1 h).2.2))
    clear g2
    refine tks [19, 20, 21] 3 rfl (by kernel_rfl) (fun _ _ _ _ h => h) (by assumption) (fun KT hKT => ?_)
    iterate 3 (refine tkT (by (simp only [gA, gB, gC]; rfl)) (by rfl) (by (intro w hSw; (simp only [Holds] at hSw); go_simp <;> with_reducible rfl)) ?_; simp only [Act.put, pA, pB, pC])
    refine hKT _ ?_
    clear KT hKT
    refine wpAnyH_done (by kernel_rfl) ?_ _
    go_wp2
    go_ret
    exact ⟨ret_bool HE.out.symm, HBd.out.trans (Bc.out.mono HBd.out.size)⟩
end Go.Proofs.YtgplajofemencaaGreat
