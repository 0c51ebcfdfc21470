/- The chapter's example. -/
import Derived.Test.YtpgbbnmflnhlbaaXSMove
import Derived.Test.YtpgbbnmflnhlbaaSArgs
import Derived.Test.YtpgbbnmflnhlbaaXTSched
namespace Go.Proofs.Ytpgbbnmflnhlbaa
open Go.ChangeShapes Go.WideShapes Go.ChangeAt Go.RowKit

def sg0 : Sta := ⟨0, 1, 0, 0, 0, 0, 0, 0⟩
def sg1 : Sta := ⟨1, 1, 4, 2, 1, 2, 2, 2⟩
def sg2 : Sta := ⟨2, 1, 10, 0, 1, 6, 6, 0⟩
theorem sg_may : mayB smallI = true := small_ok.2.2.1
theorem sg_root : rootS smallI = sg0 := root_may sg_may
theorem sg_go0 : GoOn smallI sg0 := ⟨sg_may, by decide, by decide, by decide, by decide⟩
theorem sg_go1 : GoOn smallI sg1 := ⟨sg_may, by decide, by decide, by decide, by decide⟩
theorem sg_go2 : GoOn smallI sg2 := ⟨sg_may, by decide, by decide, by decide, by decide⟩
theorem sg_beg1 : begS smallI sg0 1 = 3 := by
  unfold begS comeS
  rw [show farF (stp smallI sg0.pos) (stp smallI 1) = 3 from small_f1]; rfl
theorem sg_beg2 : begS smallI sg1 2 = 9 := by
  unfold begS comeS
  rw [show farF (stp smallI sg1.pos) (stp smallI 2) = 5 from small_f2]; rfl
theorem sg_come : comeS smallI sg2 0 = 14 := by
  unfold comeS
  rw [show farF (stp smallI sg2.pos) (stp smallI 0) = 4 from small_f3]; rfl
theorem sg_can1 : Can smallI sg0 1 := ⟨sg_go0, .inl ⟨by decide, by decide +kernel, by decide, by rw [sg_beg1]; decide, fun _ => by decide⟩⟩
theorem sg_not0 : ¬ Can smallI sg0 0 := fun h => (can_zero h).2.1 rfl
theorem sg_not2 : ¬ Can smallI sg0 2 := fun h => by
  rcases h.2 with h | h | h
  · have := h.1.2; revert this; decide
  · exact h.2.1 rfl
  · have := h.1; revert this; decide
theorem sg_can2 : Can smallI sg1 2 := ⟨sg_go1, .inr (.inl ⟨by decide, by decide, by decide +kernel, by decide +kernel, by rw [sg_beg2]; decide⟩)⟩
theorem sg_next1 : nextS smallI sg0 1 = sg1 := by
  unfold nextS visitS
  rw [sg_beg1]
  decide +kernel
theorem sg_next2 : nextS smallI sg1 2 = sg2 := by
  unfold nextS visitS
  rw [sg_beg2]
  decide +kernel
theorem sg_moves : movesS smallI (rootS smallI) = [1] := by
  rw [sg_root]
  show movesN smallI sg0 3 = [1]
  rw [movesN_succ, if_neg (by exact sg_not2), movesN_succ, if_pos (by exact sg_can1), movesN_succ, if_neg (by exact sg_not0), movesN_zero]; rfl
theorem sg_follow : followS smallI [1, 2] = some (sg2, 8) := by
  have h0 : followS smallI [] = some (sg0, 0) := by rw [follow_nil, sg_root]
  have h1 := follow_more h0 sg_can1
  have h2 := follow_more h1 (show Can smallI (nextS smallI sg0 1) 2 by rw [sg_next1]; exact sg_can2)
  have f1 : farS1 smallI sg0 1 = 3 := small_f1
  have f2 : farS1 smallI sg1 2 = 5 := small_f2
  rw [sg_next1, sg_next2, f1, f2] at h2
  exact h2
theorem sg_fol : folS smallI [1, 2] = some (sg2, 8) ∧ folE smallI [1, 2] = 0 := fol_yes sg_may sg_follow
theorem sg_end : EndS smallI sg2 := .inr ⟨sg_go2, by decide, by decide, by decide +kernel, by rw [sg_come]; decide⟩
theorem sg_cost : endC smallI sg2 = 4 := (endC_is sg_end).trans small_f3
set_option maxRecDepth 1000000 in
set_option maxHeartbeats 4000000 in
theorem sawake_any (w : World) : Calls Try.prog 47 #[] w fun e w' => e = .returned (.bool true) ∧ Below w.heap.size w w' := by
  have kc := fun w s => Lib.run_convert_string_bytes (P := Try.prog) w 9 104 5 s Try.underlying9 Try.underlying104 Try.underlying5
  go_enter Try.func47, Try.ntmps47
  go_wp2_with fail
  refine (small_any _).mono ?_
  rintro e w' ⟨rfl, rfl⟩
  obtain ⟨sv, hsv⟩ : ∃ sv, strOfNums smallB = sv := ⟨_, rfl⟩
  rw [hsv]
  have HR := Lib.hid (conv_back (w := w) hsv.symm (by decide) (by decide))
  have HB0 := Lib.hid (conv_below w sv)
  clear hsv
  go_wp2_with fail
  refine (parse_any HR.out).mono ?_
  rintro e w1 ⟨v, rfl, hv, hb⟩
  rw [small_ok.1, small_ok.2.1] at *
  have HB1 := Lib.hid (HB0.out.trans (hb.mono HB0.out.size))
  have HV1 := Lib.hid hv
  obtain ⟨va, vc, rfl⟩ := hv.shape
  clear hv hb
  unfold insV
  go_upto_region 2 with fail
  have HY := Lib.hid (ybox_new w1 smallI (.slice va 3 vc))
  have HB2 := Lib.hid (HB1.out.alloc HB1.out.size (boxI smallI (.slice va 3 vc)))
  have HV2 := Lib.hid (HV1.out.alloc (boxI smallI (.slice va 3 vc)))
  change Code.wp _ _ _ _ (w1.alloc (boxI smallI (.slice va 3 vc)))
  generalize w1.alloc (boxI smallI (.slice va 3 vc)) = W at *
  generalize w1.heap.size = bx at *
  have HYd := Lib.hid (HY.out.later (Below.refl _ _).drew)
  have HVd := Lib.hid (HV2.out.below (Below.refl _ _).drew)
  have HBd := Lib.hid HB2.out.drew
  have HS0 := Lib.hid (show Holds (cellsI bx smallI (.slice va 3 vc)) W.drew from ⟨HYd.out.cells.1, HYd.out.cells.2.1, HYd.out.cells.2.2.1, HYd.out.cells.2.2.2, trivial⟩)
  refine wp_region_held_drew (S := Holds (cellsI bx smallI (.slice va 3 vc))) (by kernel_rfl) HS0.out (fun hSn => ?_)
  generalize W.drew = V at *
  have hlt := Lib.hid (show Lows V.heap.size (cellsI bx smallI (.slice va 3 vc)) from ⟨HYd.out.lt, HYd.out.lt, HYd.out.lt, HYd.out.lt, trivial⟩)
  have Bc := Lib.hid (Below.refl V.heap.size V)
  simp only [cellsI] at HS0 hlt hSn ⊢
  refine tks [0, 1] 2 rfl (by kernel_rfl) (fun _ _ _ _ h => h) (by assumption) (fun KT hKT => ?_)
  iterate 2 (refine tkT (by (simp only [gA, gB, gC]; rfl)) (by rfl) (by (intro w hSw; (simp only [Holds] at hSw); go_simp <;> with_reducible rfl)) ?_; simp only [Act.put, pA, pB, pC])
  refine hKT _ ?_
  clear KT hKT
  refine wpAnyH_ready (rs := [2]) (by kernel_rfl) (by simp) ?_
  refine AllReadyH.cons (o := ?oz278) ?iz278 (fun K hK => ?kz278) AllReadyH.nil
  case iz278 => (simp only [List.getElem?_toArray, List.getElem?_cons_zero, List.getElem?_cons_succ]; rfl)
  go_simp
  change Calls _ _ #[insV smallI (.slice va 3 vc)] _ _
  refine (sroot_any (I := smallI) (HVd.out.below Bc.out).row).mono ?_
  rintro e w' ⟨rfl, hb⟩
  refine held_more hK HS0.out hlt (Bc.out.trans (hb.mono Bc.out.size)) (fun Bc hSn => ?_)
  clear hb hK
  refine wpAnyH_ready (rs := [3]) (by kernel_rfl) (by simp) ?_
  refine AllReadyH.cons (o := ?oz279) ?iz279 (fun K hK => ?kz279) AllReadyH.nil
  case iz279 => (simp only [List.getElem?_toArray, List.getElem?_cons_zero, List.getElem?_cons_succ]; rfl)
  go_simp
  change Calls _ _ #[insV smallI (.slice va 3 vc), staV (rootS smallI)] _ _
  refine (smoves_any (I := smallI) (HVd.out.below Bc.out).row (by rw [sg_root]; exact ⟨by decide, by decide, by decide⟩)).mono ?_
  rintro e w2 ⟨u, rfl, hu, hb⟩
  rw [sg_moves] at hu
  have HU := Lib.hid hu
  obtain ⟨ua, uc, rfl⟩ := hu.shape
  refine held_more hK HS0.out hlt (Bc.out.trans (hb.mono Bc.out.size)) (fun Bc hSn => ?_)
  clear hb hK hu
  refine tks [4] 1 rfl (by kernel_rfl) (fun _ _ _ _ h => h) (by assumption) (fun KT hKT => ?_)
  refine tkT (by (simp only [gA, gB, gC]; rfl)) (by rfl) (by (intro w hSw; (simp only [Holds] at hSw); go_simp <;> with_reducible rfl)) ?_
  simp only [Act.put, pA, pB, pC]
  refine hKT _ ?_
  clear KT hKT
  refine wpAnyH_done (by kernel_rfl) ?_ _
  have HY3 := Lib.hid (HYd.out.later Bc.out)
  have HV3 := Lib.hid (HVd.out.below Bc.out)
  have HB3 := Lib.hid (HBd.out.trans (Bc.out.mono HBd.out.size))
  clear HYd HVd HBd HS0 hlt Bc hSn HY HV2 HB2
  unfold staV
  obtain ⟨y0, y1, y2, y3⟩ := HY3.out.cells
  go_wp2_with fail
  have HL4 := Lib.hid (row_two w2 1 2)
  have HY4 := Lib.hid (HY3.out.later ((Below.refl _ w2).alloc (Nat.le_refl _) (.cells #[.int .i64 1, .int .i64 2] 3)))
  have HV4 := Lib.hid (HV3.out.alloc (.cells #[.int .i64 1, .int .i64 2] 3))
  have HU4 := Lib.hid (HU.out.alloc (.cells #[.int .i64 1, .int .i64 2] 3))
  have HB4 := Lib.hid (HB3.out.alloc HB3.out.size (.cells #[.int .i64 1, .int .i64 2] 3))
  clear HY3 HV3 HU HB3 y0 y1 y2 y3
  change Calls _ _ #[insV smallI (.slice va 3 vc), _] _ _
  generalize w2.alloc (.cells #[.int .i64 1, .int .i64 2] 3) = W4 at *
  refine (sfollow_any (I := smallI) HV4.out.row HL4.out).mono ?_
  rw [sg_fol.1, sg_fol.2]
  rintro e w5 ⟨rfl, hb⟩
  have HY5 := Lib.hid (HY4.out.later hb)
  have HV5 := Lib.hid (HV4.out.below hb)
  have HU5 := Lib.hid (HU4.out.below hb)
  have HB5 := Lib.hid (HB4.out.trans (hb.mono HB4.out.size))
  clear hb HY4 HV4 HU4 HB4
  rw [show staV (stO (some (sg2, 8))) = .agg #[.int .i64 2, .int .i64 1, .int .i64 10, .int .i64 0, .int .i64 1, .int .u64 6, .int .u64 6, .int .u64 0] from rfl, show coO (some (sg2, 8)) = 8 from rfl]
  have y5 : ∀ O : Obj, (w5.alloc O).cell? ⟨bx, 0, none⟩ = some (.int .i64 1) ∧ (w5.alloc O).cell? ⟨bx, 1, none⟩ = some (.int .i64 1) ∧ (w5.alloc O).cell? ⟨bx, 2, none⟩ = some (.int .i64 5) ∧ (w5.alloc O).cell? ⟨bx, 3, none⟩ = some (.slice va 3 vc) := fun O =>
    (HY5.out.later ((Below.refl _ w5).alloc (Nat.le_refl _) O)).cells
  go_upto_region 4 with fail
  have HT6 := Lib.hid (st_new w5 sg2)
  have HY6 := Lib.hid (HY5.out.later ((Below.refl _ w5).alloc (Nat.le_refl _) (boxSt sg2)))
  have HV6 := Lib.hid (HV5.out.alloc (boxSt sg2))
  have HU6 := Lib.hid (HU5.out.alloc (boxSt sg2))
  have HB6 := Lib.hid (HB5.out.alloc HB5.out.size (boxSt sg2))
  clear HY5 HV5 HU5 HB5 y5
  change Code.wp _ _ _ _ (w5.alloc (boxSt sg2))
  generalize w5.alloc (boxSt sg2) = W6 at *
  generalize w5.heap.size = bs at *
  obtain ⟨y0, y1, y2, y3⟩ := HY6.out.cells
  have z0 := HT6.out.c0
  have z1 := HT6.out.c1
  have z2 := HT6.out.c2
  have z3 := HT6.out.c3
  have z4 := HT6.out.c4
  have z5 := HT6.out.c5
  have z6 := HT6.out.c6
  have z7 := HT6.out.c7
  go_wp2_with fail
  clear y0 y1 y2 y3 z0 z1 z2 z3 z4 z5 z6 z7
  change Calls _ _ #[insV smallI (.slice va 3 vc), staV sg2] _ _
  refine (send_any (I := smallI) HV6.out.row ⟨by decide, by decide, by decide⟩).mono ?_
  rw [sg_cost, decide_eq_true sg_end]
  rintro e w7 ⟨rfl, hb⟩
  have HT7 := Lib.hid (HT6.out.later hb)
  have HU7 := Lib.hid (HU6.out.below hb)
  have HB7 := Lib.hid (HB6.out.trans (hb.mono HB6.out.size))
  clear hb HT6 HU6 HB6
  obtain ⟨b1, o1, c1, he1, hc1, _, _⟩ := row_at (p := 0) HU7.out.row (by decide)
  rw [ints_at _ 0 (by decide)] at hc1
  simp only [Value.slice.injEq] at he1
  obtain ⟨rfl, _, rfl⟩ := he1
  have hc2 : w7.cell? ⟨b1, o1, none⟩ = some (.int .i64 1) := hc1
  have z2 : w7.cell? ⟨bs, 2, none⟩ = some (.int .i64 10) := HT7.out.c2
  clear hc1
  go_wp2
  go_ret
  exact ⟨rfl, HB7.out⟩
/-- The boxes of a law's instance and state. -/
theorem boxes_two (w : World) (I : Ins) (v : Value) (s : Sta) : YBox ((w.alloc (boxI I v)).alloc (boxSt s)) w.heap.size I v ∧ StB ((w.alloc (boxI I v)).alloc (boxSt s)) (w.heap.size + 1) s ∧ Below w.heap.size w ((w.alloc (boxI I v)).alloc (boxSt s)) := by
  have h1 : (w.alloc (boxI I v)).heap.size = w.heap.size + 1 := by simp
  have a1 := st_new (w.alloc (boxI I v)) s
  rw [h1] at a1
  exact ⟨(ybox_new w I v).later ((Below.refl _ _).alloc (Nat.le_refl _) _), a1, ((Below.refl w.heap.size w).alloc (Nat.le_refl _) _).alloc (by rw [h1]; omega) _⟩
end Go.Proofs.Ytpgbbnmflnhlbaa
