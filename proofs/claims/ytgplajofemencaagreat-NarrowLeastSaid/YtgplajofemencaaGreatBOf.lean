/- What a node costs at least in the end: bound.Of. -/
import Derived.Test.YtgplajofemencaaGreatBAt
import Derived.Test.YtgplajofemencaaGreatYI
namespace Go.Proofs.YtgplajofemencaaGreat
open Go.ChangeShapes Go.WideShapes Go.ChangeAt Go.RowKit

set_option maxRecDepth 1000000 in
set_option maxHeartbeats 4000000 in
theorem bof_any {w : World} {v u : Value} {I : Ins} {s : Sta} {c : Int} {l : List Int} (h : SRow w v I.l) (hs : SetsOk s) (hu : Row w u (ints l)) :
    Calls Tryz.prog 46 #[insV I v, nodeV s c u] w fun e w' => e = .returned (.int .i64 (sumOf [c, boundS I s])) ∧ Below w.heap.size w w' := by
  have HR := Lib.hid h
  have HS := Lib.hid hs
  obtain ⟨ad, cap, rfl, _⟩ := h.form
  obtain ⟨au, cu, rfl, _⟩ := hu.form
  rw [ints_len] at *
  clear h hs hu
  unfold insV nodeV
  go_enter Tryz.func46, Tryz.ntmps46
  go_upto_region 1 with fail
  obtain ⟨k1, k2, k3⟩ := boxes_in w I (.slice ad I.l.length cap) s c (.slice au l.length cu)
  have HY := Lib.hid k1
  have HA := Lib.hid k2
  have HB := Lib.hid k3
  clear k1 k2 k3
  change Code.wp _ _ _ _ ((w.alloc (boxI I (.slice ad I.l.length cap))).alloc (boxN s c (.slice au l.length cu)))
  generalize (w.alloc (boxI I (.slice ad I.l.length cap))).alloc (boxN s c (.slice au l.length cu)) = W at *
  have HYn := Lib.hid (HY.out.later (Below.refl _ W).drew)
  have HAn := Lib.hid (HA.out.later (Below.refl _ W).drew)
  have HBn := Lib.hid HB.out.drew
  clear HY HA HB
  have HY := HYn
  have HA := HAn
  have HB := HBn
  clear HYn HAn HBn
  have HS0 := Lib.hid (show Holds (cellsI w.heap.size I (.slice ad I.l.length cap) ++ cellsN (w.heap.size + 1) s c (.slice au l.length cu)) W.drew from (Holds.app.2 ⟨⟨HY.out.cells.1, HY.out.cells.2.1, HY.out.cells.2.2.1, HY.out.cells.2.2.2, trivial⟩, HA.out.holds⟩))
  refine wp_region_held_drew (S := Holds (cellsI w.heap.size I (.slice ad I.l.length cap) ++ cellsN (w.heap.size + 1) s c (.slice au l.length cu))) (by kernel_rfl) HS0.out (fun hSn => ?_)
  generalize W.drew = V at *
  have hlt := Lib.hid (show Lows V.heap.size (cellsI w.heap.size I (.slice ad I.l.length cap) ++ cellsN (w.heap.size + 1) s c (.slice au l.length cu)) from (Lows.app (show Lows _ (cellsI w.heap.size I (.slice ad I.l.length cap)) from ⟨HY.out.lt, HY.out.lt, HY.out.lt, HY.out.lt, trivial⟩) (lows_N HA.out.lt)))
  have Bc := Lib.hid (Below.refl V.heap.size V)
  simp only [cellsI, cellsN, List.cons_append, List.nil_append] at HS0 hlt hSn ⊢
  have HRV := Lib.hid (HR.out.below HB.out)
  refine tks [0, 1, 2, 3, 4] 5 rfl (by kernel_rfl) (fun _ _ _ _ h => h) (by assumption) (fun KT hKT => ?_)
  iterate 5 (refine tkT (by (simp only [gA, gB, gC]; rfl)) (by rfl) (by (intro w hSw; (simp only [Holds] at hSw); go_simp <;> with_reducible rfl)) ?_; simp only [Act.put, pA, pB, pC])
  refine hKT _ ?_
  clear KT hKT
  refine wpAnyH_ready (rs := [5]) (by kernel_rfl) (by simp) ?_
  refine AllReadyH.cons (o := ?oz234) ?iz234 (fun K hK => ?kz234) AllReadyH.nil
  case iz234 => (simp only [List.getElem?_toArray, List.getElem?_cons_zero, List.getElem?_cons_succ]; rfl)
  go_simp
  change Calls _ _ #[insV I (.slice ad I.l.length cap), staV s] _ _
  refine (bat_any (HRV.out.below Bc.out) HS.out).mono ?_
  rintro e w1 ⟨rfl, hb⟩
  refine held_more hK HS0.out hlt (Bc.out.trans (hb.mono Bc.out.size)) (fun Bc hSn => ?_)
  clear hb hK
  obtain ⟨n, hn⟩ : ∃ n, boundS I s = n := ⟨_, rfl⟩
  rw [hn]
  have HN := Lib.hid hn
  clear hn
  refine wpAnyH_ready (rs := [6]) (by kernel_rfl) (by simp) ?_
  refine AllReadyH.cons (o := ?oz235) ?iz235 (fun K hK => ?kz235) AllReadyH.nil
  case iz235 => (simp only [List.getElem?_toArray, List.getElem?_cons_zero, List.getElem?_cons_succ]; rfl)
  go_simp
  refine held_more hK HS0.out hlt (Bc.out.alloc Bc.out.size _) (fun Bc hSn => ?_)
  refine wpAnyH_ready (rs := [7]) (by kernel_rfl) (by simp) ?_
  refine AllReadyH.cons (o := ?oz236) ?iz236 (fun K hK => ?kz236) AllReadyH.nil
  case iz236 => (simp only [List.getElem?_toArray, List.getElem?_cons_zero, List.getElem?_cons_succ]; rfl)
  go_simp
  refine (sum_any (row_two w1 c n)).mono ?_
  rintro e w' ⟨rfl, rfl⟩
  refine held_more hK HS0.out hlt Bc.out (fun Bc hSn => ?_)
  clear hK
  refine tks [8] 1 rfl (by kernel_rfl) (fun _ _ _ _ h => h) (by assumption) (fun KT hKT => ?_)
  refine tkT (by (simp only [gA, gB, gC]; rfl)) (by rfl) (by (intro w hSw; (simp only [Holds] at hSw); go_simp <;> with_reducible rfl)) ?_
  simp only [Act.put, pA, pB, pC]
  refine hKT _ ?_
  clear KT hKT
  refine wpAnyH_done (by kernel_rfl) ?_ _
  go_wp2
  go_ret
  exact ⟨by rw [HN.out]; rfl, HB.out.trans (Bc.out.mono HB.out.size)⟩
end Go.Proofs.YtgplajofemencaaGreat
