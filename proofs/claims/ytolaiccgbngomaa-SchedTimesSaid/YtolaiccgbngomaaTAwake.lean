/- The chapter's example. -/
import Derived.Test.YtolaiccgbngomaaTSched
import Derived.Test.YtolaiccgbngomaaIAwake
namespace Go.Proofs.Ytolaiccgbngomaa
open Go.ChangeShapes Go.WideShapes Go.ChangeAt Go.RowKit

theorem small_f1 : farF (nth smallI.l 0) (stp smallI 1) = 3 := rootOf_eq 9 3 (by decide) (by decide) ⟨by decide, by decide, by decide⟩
theorem small_f2 : farF (stp smallI 1) (stp smallI 2) = 5 := rootOf_eq 25 5 (by decide) (by decide) ⟨by decide, by decide, by decide⟩
theorem small_f3 : farF (stp smallI 2) (nth smallI.l 0) = 4 := rootOf_eq 16 4 (by decide) (by decide) ⟨by decide, by decide, by decide⟩
theorem small_t1 : tmAt (startT smallI) (stp smallI 1) = ⟨3, 3, 4⟩ := by
  unfold tmAt
  rw [show farF (startT smallI).last (stp smallI 1) = 3 from small_f1]; rfl
theorem small_t2 : tmAt (nextT (startT smallI) 1 (stp smallI 1)) (stp smallI 2) = ⟨9, 9, 10⟩ := by
  unfold tmAt
  rw [show farF (nextT (startT smallI) 1 (stp smallI 1)).last (stp smallI 2) = 5 from small_f2, show (nextT (startT smallI) 1 (stp smallI 1)).now = 4 by unfold nextT; rw [small_t1]]; rfl
theorem small_times : ∃ s, timesE smallI [1, 2] = .ok s ∧ s.out = [⟨3, 3, 4⟩, ⟨9, 9, 10⟩] ∧ s.far + farF s.last (nth smallI.l 0) = 12 := by
  have hs1 : stepE smallI (startT smallI) 1 = .ok (nextT (startT smallI) 1 (stp smallI 1)) := by
    unfold stepE
    rw [small_t1, if_neg (by decide), if_neg (by decide)]
  have hs2 : stepE smallI (nextT (startT smallI) 1 (stp smallI 1)) 2 = .ok (nextT (nextT (startT smallI) 1 (stp smallI 1)) 2 (stp smallI 2)) := by
    unfold stepE
    rw [small_t2, if_neg (by show ¬ wrongE smallI [1] 2 ≠ 0; decide), if_neg (by decide)]
  have hg : goE smallI [1, 2] = .ok (nextT (nextT (startT smallI) 1 (stp smallI 1)) 2 (stp smallI 2)) := by
    show (stepE smallI (startT smallI) 1).bind (fun s => stepE smallI s 2) = _
    rw [hs1]; exact hs2
  refine ⟨_, timesE_of small_ok.2.2.1 hg (by decide) ?_, ?_, ?_⟩
  · unfold backT
    rw [show farF (nextT (nextT (startT smallI) 1 (stp smallI 1)) 2 (stp smallI 2)).last (nth smallI.l 0) = 4 from small_f3]
    show (tmAt (nextT (startT smallI) 1 (stp smallI 1)) (stp smallI 2)).leave + 4 ≤ _
    rw [small_t2]; decide
  · show ((startT smallI).out ++ [tmAt (startT smallI) (stp smallI 1)]) ++ [tmAt (nextT (startT smallI) 1 (stp smallI 1)) (stp smallI 2)] = _
    rw [small_t1, small_t2]; rfl
  · show (startT smallI).far + farF (nth smallI.l 0) (stp smallI 1) + farF (stp smallI 1) (stp smallI 2) + farF (stp smallI 2) (nth smallI.l 0) = 12
    rw [small_f1, small_f2, small_f3]; rfl
theorem small_all : errT smallI [1, 2] = 0 ∧ outT smallI [1, 2] = [⟨3, 3, 4⟩, ⟨9, 9, 10⟩] ∧ farT smallI [1, 2] = 12 := by
  obtain ⟨s, h1, h2, h3⟩ := small_times
  obtain ⟨t1, t2, t3, _⟩ := ok_of h1
  exact ⟨t1, t2.trans h2, t3.trans h3⟩
/-- Two numbers in a list made on the spot. -/
theorem row_two (w : World) (a b : Int) : Row (w.alloc (.cells #[.int .i64 a, .int .i64 b] 3)) (.slice (some ⟨w.heap.size, 0, none⟩) 2 2) (ints [a, b]) := by
  refine ⟨by simp [ints, maxLen], _, _, rfl, by simp [ints], ⟨by simp [maxLen], by simp⟩, .inr ⟨_, _, rfl, fun i hi => ?_⟩⟩
  rw [cell_of_row _ _ _ _ _ _ (heap_alloc_new w _), Nat.zero_add]
  simp [ints]
set_option maxRecDepth 1000000 in
set_option maxHeartbeats 1000000 in
theorem tawake_any (w : World) : Calls Try.prog 10 #[] w fun e w' => e = .returned (.bool true) ∧ Below w.heap.size w w' := by
  have kc := fun w s => Lib.run_convert_string_bytes (P := Try.prog) w 9 49 5 s Try.underlying9 Try.underlying49 Try.underlying5
  go_enter Try.func10, Try.ntmps10
  go_wp2_with fail
  refine (small_any _).mono ?_
  rintro e w' ⟨rfl, rfl⟩
  obtain ⟨sv, hsv⟩ : ∃ sv, strOfNums smallB = sv := ⟨_, rfl⟩
  rw [hsv]
  have HR := Lib.hid (conv_back (w := w) hsv.symm (by decide) (by decide))
  have HB0 := Lib.hid (conv_below w sv)
  clear hsv
  go_wp2_with fail
  refine (parse_any HR.out).mono ?_
  rintro e w1 ⟨v, rfl, hv, hb⟩
  rw [small_ok.1, small_ok.2.1] at *
  have HV := Lib.hid hv
  have HB1 := Lib.hid (HB0.out.trans (hb.mono HB0.out.size))
  obtain ⟨va, vc, rfl⟩ := hv.shape
  clear hv hb
  unfold insV
  go_wp2_with fail
  change Calls _ _ #[insV smallI (.slice va 3 vc), _] ((w1.alloc (boxI smallI (.slice va 3 vc))).alloc _) _
  have HB2 := Lib.hid ((HB1.out.alloc HB1.out.size (boxI smallI (.slice va 3 vc))).alloc (by have := HB1.out.size; simp; omega) (.cells #[.int .i64 1, .int .i64 2] 3))
  have HV2 := Lib.hid ((HV.out.alloc (boxI smallI (.slice va 3 vc))).alloc (.cells #[.int .i64 1, .int .i64 2] 3))
  have HL2 := Lib.hid (row_two (w1.alloc (boxI smallI (.slice va 3 vc))) 1 2)
  generalize (w1.alloc (boxI smallI (.slice va 3 vc))).alloc (.cells #[.int .i64 1, .int .i64 2] 3) = W at *
  have hrow := HL2.out
  rw [show (w1.alloc (boxI smallI (.slice va 3 vc))).heap.size = w1.heap.size + 1 by simp] at hrow
  refine (times_any (I := smallI) HV2.out.row hrow).mono ?_
  rw [small_all.1, small_all.2.1, small_all.2.2]
  rintro e w2 ⟨u, rfl, ht, hb⟩
  have HB3 := Lib.hid (HB2.out.trans (hb.mono HB2.out.size))
  have HT := Lib.hid ht.row
  obtain ⟨ua, uc, rfl⟩ := ht.shape
  obtain ⟨tb, off, rfl, hat, _⟩ := trow_at HT.out 0 (by decide)
  have hat1 := trow_here HT.out 1 (by decide)
  have y0 : w2.cell? ⟨tb, off, none⟩ = some (.int .i64 3) := hat.1
  have y1 : w2.cell? ⟨tb, off + 3, none⟩ = some (.int .i64 9) := hat1.1
  clear ht hb hat hat1 hrow
  go_wp2
  go_ret
  exact ⟨rfl, HB3.out⟩
end Go.Proofs.Ytolaiccgbngomaa
