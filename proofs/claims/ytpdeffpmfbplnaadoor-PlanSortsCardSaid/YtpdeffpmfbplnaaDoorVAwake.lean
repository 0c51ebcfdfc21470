/- The chapter's example. -/
import Derived.Test.YtpdeffpmfbplnaaDoorXVD
import Derived.Test.YtpdeffpmfbplnaaDoorXTSched
import Derived.Test.YtpdeffpmfbplnaaDoorXIOwn
namespace Go.Proofs.YtpdeffpmfbplnaaDoor
open Go.ChangeShapes Go.WideShapes Go.ChangeAt Go.RowKit

theorem vLL_two (w : World) (u1 u2 : Value) (l1 l2 : List Int) (h1 : Row w u1 (ints l1)) (h2 : Row w u2 (ints l2)) :
    IsLL (w.alloc (.cells #[u1, u2] 42)) (.slice (some ⟨w.heap.size, 0, none⟩) 2 2) [l1, l2] := by
  have hb := (Below.refl w.heap.size w).alloc (Nat.le_refl _) (.cells #[u1, u2] 42)
  refine ⟨[u1, u2], ⟨by simp [maxLen], _, _, rfl, by simp, ⟨by simp [maxLen], by simp⟩, .inr ⟨w.heap.size, 0, rfl, fun i hi => ?_⟩⟩, h1.below hb, h2.below hb, trivial⟩
  rw [Nat.zero_add, cell_of_row _ _ _ _ _ _ (heap_alloc_new w _)]
  simp
theorem vLL_one (w : World) (u1 : Value) (l1 : List Int) (h1 : Row w u1 (ints l1)) :
    IsLL (w.alloc (.cells #[u1] 42)) (.slice (some ⟨w.heap.size, 0, none⟩) 1 1) [l1] := by
  have hb := (Below.refl w.heap.size w).alloc (Nat.le_refl _) (.cells #[u1] 42)
  refine ⟨[u1], ⟨by simp [maxLen], _, _, rfl, by simp, ⟨by simp [maxLen], by simp⟩, .inr ⟨w.heap.size, 0, rfl, fun i hi => ?_⟩⟩, h1.below hb, trivial⟩
  rw [Nat.zero_add, cell_of_row _ _ _ _ _ _ (heap_alloc_new w _)]
  simp
theorem small_cost : costE smallI [[1, 2]] = 0 ∧ costN smallI [[1, 2]] = 12 := by
  have h1 : errR smallI [1, 2] = 0 := by unfold errR; rw [if_neg (by decide)]; exact small_all.1
  have h2 : firstE smallI [[1, 2]] = 0 := by simp [firstE, h1]
  have h3 : costE smallI [[1, 2]] = 0 := by rw [costE_of small_ok.2.2.1 (by decide) h2]; decide
  refine ⟨h3, ?_⟩
  rw [costN_ok h3]
  simp [farS, small_all.2.2]
theorem eg_ord : ordL [[3, 4], [1, 2]] = [[1, 2], [3, 4]] := by decide +kernel
theorem eg_txt : textOf [[1, 2], [3, 4]] = [49, 32, 50, 10, 51, 32, 52, 10] := by decide +kernel
set_option maxRecDepth 1000000 in
set_option maxHeartbeats 4000000 in
theorem vawake_any {w : World} (ht : Tab w.heap.size w) : Calls Tryd.prog 10 #[] w fun e w' => e = .returned (.bool true) ∧ Below w.heap.size w w' := by
  have HT := Lib.hid ht
  clear ht
  have kc := fun w s => Lib.run_convert_string_bytes (P := Tryd.prog) w 9 34 5 s Tryd.underlying9 Tryd.underlying34 Tryd.underlying5
  go_enter Tryd.func10, Tryd.ntmps10
  go_wp2_with fail
  refine (small_any _).mono ?_
  rintro e w' ⟨rfl, rfl⟩
  obtain ⟨sv, hsv⟩ : ∃ sv, strOfNums smallB = sv := ⟨_, rfl⟩
  rw [hsv]
  have HR := Lib.hid (conv_back (w := w) hsv.symm (by decide) (by decide))
  have HB0 := Lib.hid (conv_below w sv)
  clear hsv
  go_wp2_with fail
  refine (parse_any HR.out).mono ?_
  rintro e w1 ⟨v, rfl, hv, hb⟩
  rw [small_ok.1, small_ok.2.1] at *
  have HV := Lib.hid hv
  have HB1 := Lib.hid (HB0.out.trans (hb.mono HB0.out.size))
  obtain ⟨va, vc, rfl⟩ := hv.shape
  clear hv hb
  unfold insV
  go_wp2_with fail
  have HB2 := Lib.hid (HB1.out.alloc HB1.out.size (boxI smallI (.slice va 3 vc)))
  have HV2 := Lib.hid (HV.out.alloc (boxI smallI (.slice va 3 vc)))
  have HL2 := Lib.hid (vLL_one ((w1.alloc (boxI smallI (.slice va 3 vc))).alloc (.cells #[.int .i64 1, .int .i64 2] 3)) _ [1, 2] (row_two (w1.alloc (boxI smallI (.slice va 3 vc))) 1 2))
  have HB3 := Lib.hid ((HB2.out.alloc HB2.out.size (.cells #[.int .i64 1, .int .i64 2] 3)).alloc (by have := HB2.out.size; simp at this ⊢; omega) (.cells #[.slice (some ⟨w1.heap.size + 1, 0, none⟩) 2 2] 42))
  have HV3 := Lib.hid ((HV2.out.alloc (.cells #[.int .i64 1, .int .i64 2] 3)).alloc (.cells #[.slice (some ⟨w1.heap.size + 1, 0, none⟩) 2 2] 42))
  rw [show ((w1.alloc (boxI smallI (.slice va 3 vc))).alloc (.cells #[.int .i64 1, .int .i64 2] 3)).heap.size = w1.heap.size + 1 + 1 by simp, show (w1.alloc (boxI smallI (.slice va 3 vc))).heap.size = w1.heap.size + 1 by simp] at HL2
  change Calls _ _ #[insV smallI (.slice va 3 vc), planV _] (((w1.alloc (boxI smallI (.slice va 3 vc))).alloc (.cells #[.int .i64 1, .int .i64 2] 3)).alloc (.cells #[.slice (some ⟨w1.heap.size + 1, 0, none⟩) 2 2] 42)) _
  generalize ((w1.alloc (boxI smallI (.slice va 3 vc))).alloc (.cells #[.int .i64 1, .int .i64 2] 3)).alloc (.cells #[.slice (some ⟨w1.heap.size + 1, 0, none⟩) 2 2] 42) = W at *
  refine (cost_any (I := smallI) (L := [[1, 2]]) HV3.out.row HL2.out).mono ?_
  rw [small_cost.1, small_cost.2]
  rintro e w2 ⟨rfl, hb⟩
  have HB4 := Lib.hid (HB3.out.trans (hb.mono HB3.out.size))
  clear hb
  go_wp2_with fail
  have HL3 := Lib.hid (vLL_two ((w2.alloc (.cells #[.int .i64 3, .int .i64 4] 3)).alloc (.cells #[.int .i64 1, .int .i64 2] 3)) _ _ [3, 4] [1, 2] ((row_two w2 3 4).below ((Below.refl _ _).alloc (Nat.le_refl _) _)) (row_two (w2.alloc (.cells #[.int .i64 3, .int .i64 4] 3)) 1 2))
  have HB5 := Lib.hid (((HB4.out.alloc HB4.out.size (.cells #[.int .i64 3, .int .i64 4] 3)).alloc (by have := HB4.out.size; simp; omega) (.cells #[.int .i64 1, .int .i64 2] 3)).alloc (by have := HB4.out.size; simp; omega) (.cells #[.slice (some ⟨w2.heap.size, 0, none⟩) 2 2, .slice (some ⟨w2.heap.size + 1, 0, none⟩) 2 2] 42))
  rw [show ((w2.alloc (.cells #[.int .i64 3, .int .i64 4] 3)).alloc (.cells #[.int .i64 1, .int .i64 2] 3)).heap.size = w2.heap.size + 1 + 1 by simp, show (w2.alloc (.cells #[.int .i64 3, .int .i64 4] 3)).heap.size = w2.heap.size + 1 by simp] at HL3
  change Calls _ _ #[planV _] (((w2.alloc (.cells #[.int .i64 3, .int .i64 4] 3)).alloc (.cells #[.int .i64 1, .int .i64 2] 3)).alloc (.cells #[.slice (some ⟨w2.heap.size, 0, none⟩) 2 2, .slice (some ⟨w2.heap.size + 1, 0, none⟩) 2 2] 42)) _
  generalize ((w2.alloc (.cells #[.int .i64 3, .int .i64 4] 3)).alloc (.cells #[.int .i64 1, .int .i64 2] 3)).alloc (.cells #[.slice (some ⟨w2.heap.size, 0, none⟩) 2 2, .slice (some ⟨w2.heap.size + 1, 0, none⟩) 2 2] 42) = W2 at *
  refine (vprint_any HL3.out (by decide) (by intro l hl n hn; simp at hl; rcases hl with rfl | rfl <;> simp at hn <;> omega) ((HT.out.on HB5.out).up HB5.out.size)).mono ?_
  rw [eg_ord, eg_txt]
  rintro e w3 ⟨u, rfl, hu, hb⟩
  have HB6 := Lib.hid (HB5.out.trans (hb.mono HB5.out.size))
  have hcv := conv_row hu.row
  obtain ⟨ua, uc, rfl⟩ := own_shape (show w3.ownsRow _ 5 1 u _ (byts _) from hu)
  clear hu hb
  have hst : strOfNums [49, 32, 50, 10, 51, 32, 52, 10] = ⟨#[49, 32, 50, 10, 51, 32, 52, 10]⟩ := by decide +kernel
  rw [hst] at hcv
  clear hst
  generalize ([49, 32, 50, 10, 51, 32, 52, 10] : List Int).length = nn at hcv ⊢
  go_wp2
  go_ret
  exact ⟨rfl, HB6.out⟩
end Go.Proofs.YtpdeffpmfbplnaaDoor
