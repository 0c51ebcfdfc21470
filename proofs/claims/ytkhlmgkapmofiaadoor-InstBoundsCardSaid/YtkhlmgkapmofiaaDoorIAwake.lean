/- The chapter's example. -/
import Derived.Test.YtkhlmgkapmofiaaDoorIParse
import Derived.Test.YtkhlmgkapmofiaaDoorIPrint
import Derived.Lib.ConvBytes
namespace Go.Proofs.YtkhlmgkapmofiaaDoor
open Go.ChangeShapes Go.WideShapes Go.ChangeAt Go.RowKit

def smallB : List Int := [49, 32, 49, 32, 53, 10, 48, 32, 48, 32, 48, 32, 48, 32, 49, 48, 48, 32, 48, 10, 51, 32, 48, 32, 50, 32, 48, 32, 53, 48, 32, 49, 10, 48, 32, 52, 32, 45, 50, 32, 48, 32, 57, 48, 32, 49, 10]
def smallI : Ins := ⟨1, 1, 5, [⟨0, 0, 0, 0, 100, 0⟩, ⟨3, 0, 2, 0, 50, 1⟩, ⟨0, 4, -2, 0, 90, 1⟩]⟩
theorem small_ok : perr smallB = 0 ∧ pins smallB = smallI ∧ mayB smallI = true ∧ textOf (linesI smallI) = smallB := by decide +kernel
theorem small_any (w : World) : Calls Tryd.prog 18 #[] w fun e w' => e = .returned (.string (strOfNums smallB)) ∧ w = w' := by
  go_enter Tryd.func18, Tryd.ntmps18
  go_wp2
  go_ret
  exact ⟨by congr 2, rfl⟩
/-- A text made of a string. -/
theorem conv_back {w : World} {s : ByteArray} {xs : List Int} (hs : s = strOfNums xs) (hx : ∀ c ∈ xs, 0 ≤ c ∧ c ≤ 255) (hl : xs.length ≤ 1000000) :
    Row (Lib.bytesWorld w 5 s) (.slice (some ⟨w.heap.size, 0, none⟩) s.size (grownCap w s.size 0 5)) (byts xs) := by
  subst hs
  rw [strOfNums_size]
  refine ⟨by rw [byts_len]; unfold maxLen; omega, _, _, by rw [byts_len], by rw [byts_len]; exact grownCap_ge _ _ _ _, ⟨grownCap_le_maxLen _ _ _ _ (by unfold maxLen; omega), by simp⟩, .inr ⟨w.heap.size, 0, rfl, fun i hi => ?_⟩⟩
  rw [byts_len] at hi
  rw [Nat.zero_add, Lib.bytesWorld_cell w 5 _ i (by rw [strOfNums_size]; exact hi), byts_at _ _ hi]
  have hc := hx (xs.getD i 0) (by rw [List.getD_eq_getElem?_getD, List.getElem?_eq_getElem hi]; simp)
  have hn : (strOfNums xs).data.toList.getD i 0 = UInt8.ofNat (xs.getD i 0).toNat := by
    simp [strOfNums, List.getD_eq_getElem?_getD, hi]
  rw [hn]
  have : ((UInt8.ofNat (xs.getD i 0).toNat).toNat : Int) = xs.getD i 0 := by
    simp only [UInt8.toNat_ofNat']
    omega
  rw [this]
theorem conv_below (w : World) (s : ByteArray) : Below w.heap.size w (Lib.bytesWorld w 5 s) :=
  ⟨rfl, rfl, rfl, by rw [Lib.bytesWorld_size]; omega, fun k hk => Lib.bytesWorld_at_old w 5 s k hk⟩
set_option maxRecDepth 1000000 in
set_option maxHeartbeats 1000000 in
theorem iawake_any (w : World) (ht : Tab w.heap.size w) : Calls Tryd.prog 9 #[] w fun e w' => e = .returned (.bool true) ∧ Below w.heap.size w w' := by
  have HT := Lib.hid ht
  clear ht
  have kc := fun w s => Lib.run_convert_string_bytes (P := Tryd.prog) w 9 22 5 s Tryd.underlying9 Tryd.underlying22 Tryd.underlying5
  go_enter Tryd.func9, Tryd.ntmps9
  go_wp2_with fail
  refine (small_any _).mono ?_
  rintro e w' ⟨rfl, rfl⟩
  obtain ⟨sv, hsv⟩ : ∃ sv, strOfNums smallB = sv := ⟨_, rfl⟩
  rw [hsv]
  have HSV := Lib.hid hsv
  have HR := Lib.hid (conv_back (w := w) hsv.symm (by decide) (by decide))
  have HB0 := Lib.hid (conv_below w sv)
  clear hsv
  go_wp2_with fail
  refine (parse_any HR.out).mono ?_
  rintro e w1 ⟨v, rfl, hv, hb⟩
  rw [small_ok.1, small_ok.2.1] at *
  have HV := Lib.hid hv
  have HB1 := Lib.hid (HB0.out.trans (hb.mono HB0.out.size))
  obtain ⟨va, vc, rfl⟩ := hv.shape
  clear hv hb
  unfold insV
  go_wp2_with fail
  change Calls _ _ #[insV smallI (.slice va 3 vc)] (w1.alloc (boxI smallI (.slice va 3 vc))) _
  have HB2 := Lib.hid (HB1.out.alloc HB1.out.size (boxI smallI (.slice va 3 vc)))
  have HS0 := Lib.hid (holds_box w1 smallI (.slice va 3 vc))
  have HV2 := Lib.hid (HV.out.alloc (boxI smallI (.slice va 3 vc)))
  have hltW : w1.heap.size < (w1.alloc (boxI smallI (.slice va 3 vc))).heap.size := by simp
  generalize w1.alloc (boxI smallI (.slice va 3 vc)) = W at *
  refine (iprint_any HV2.out.row ((HT.out.on HB2.out).up HB2.out.size)).mono ?_
  intro e w2 hP
  rcases hP with ⟨hno, _⟩ | ⟨_, pv, rfl, hp, hb⟩
  · rw [small_ok.2.2.1] at hno; simp at hno
  rw [small_ok.2.2.2] at hp
  have hcv := conv_row hp.row
  rw [HSV.out] at hcv
  have HCV := Lib.hid (conv_row (hp.below ((Below.refl _ w2).drew)).row)
  rw [HSV.out] at HCV
  have hc := Holds.below hb HS0.out ⟨hltW, hltW, hltW, hltW, trivial⟩
  simp only [cellsI, Holds] at hc
  obtain ⟨c0, c1, c2, c3, _⟩ := hc
  obtain ⟨tb, off, rfl, hat, _⟩ := srow_at (HV2.out.below hb).row 2 (by decide)
  have y4 : w2.cell? ⟨tb, off + 12 + 1, none⟩ = some (.int .i64 4) := hat.2.1
  have HB3 := Lib.hid (HB2.out.trans (hb.mono HB2.out.size))
  have hsz := hb.size
  clear hp hb hat c1 c2
  change w2.cell? ⟨w1.heap.size, 0, none⟩ = some (.int .i64 1) at c0
  go_wp2_with fail
  have HSD := Lib.hid (show (Holds [(⟨w1.heap.size, 0, none⟩, .int .i64 1), (⟨w1.heap.size, 3, none⟩, .slice (some ⟨tb, off, none⟩) 3 vc), (⟨tb, off + 12 + 1, none⟩, .int .i64 4)] w2.drew ∧ (convert 22 9 pv).run Tryd.prog w2.drew = .ok (.string sv) w2.drew) from ⟨⟨c0, c3, y4, trivial⟩, HCV.out⟩)
  have HB4 := Lib.hid HB3.out.drew
  refine wp_region_held_drew (S := fun w' => Holds [(⟨w1.heap.size, 0, none⟩, .int .i64 1), (⟨w1.heap.size, 3, none⟩, .slice (some ⟨tb, off, none⟩) 3 vc), (⟨tb, off + 12 + 1, none⟩, .int .i64 4)] w' ∧ (convert 22 9 pv).run Tryd.prog w' = .ok (.string sv) w') (by kernel_rfl) HSD.out (fun hSn => ?_)
  refine wpAnyH_take (i := 0) (oi := ?oz1) (v := ?vz1) ?iz1 (by kernel_rfl) (by kernel_rfl) (by kernel_rfl) ?qz1 (Or.inl ⟨?gz1, ?hz1⟩) (by assumption) ?rz1
  case iz1 => (simp only [List.getElem?_toArray, List.getElem?_cons_zero]; rfl)
  case qz1 => exact fun _ _ _ h => h
  case gz1 => rfl
  case hz1 => (intro w hSw; (simp only [Holds] at hSw); go_simp <;> with_reducible rfl)
  simp only [Act.put, List.setIfInBounds_toArray, List.set_cons_zero, List.set_cons_succ]
  refine wpAnyH_take (i := 1) (oi := ?oz2) (v := ?vz2) ?iz2 (by kernel_rfl) (by kernel_rfl) (by kernel_rfl) ?qz2 (Or.inl ⟨?gz2, ?hz2⟩) (by assumption) ?rz2
  case iz2 => (simp only [List.getElem?_toArray, List.getElem?_cons_zero, List.getElem?_cons_succ]; rfl)
  case qz2 => exact fun _ _ _ h => h
  case gz2 => rfl
  case hz2 => (intro w hSw; (simp only [Holds] at hSw); go_simp <;> with_reducible rfl)
  simp only [Act.put, List.setIfInBounds_toArray, List.set_cons_zero, List.set_cons_succ]
  refine wpAnyH_take (i := 2) (oi := ?oz3) (v := ?vz3) ?iz3 (by kernel_rfl) (by kernel_rfl) (by kernel_rfl) ?qz3 (Or.inl ⟨?gz3, ?hz3⟩) (by assumption) ?rz3
  case iz3 => (simp only [List.getElem?_toArray, List.getElem?_cons_zero, List.getElem?_cons_succ]; rfl)
  case qz3 => exact fun _ _ _ h => h
  case gz3 => rfl
  case hz3 => (intro w hSw; (simp only [Holds] at hSw); go_simp <;> with_reducible rfl)
  simp only [Act.put, List.setIfInBounds_toArray, List.set_cons_zero, List.set_cons_succ]
  refine wpAnyH_take (i := 3) (oi := ?oz4) (v := ?vz4) ?iz4 (by kernel_rfl) (by kernel_rfl) (by kernel_rfl) ?qz4 (Or.inl ⟨?gz4, ?hz4⟩) (by assumption) ?rz4
  case iz4 => (simp only [List.getElem?_toArray, List.getElem?_cons_zero, List.getElem?_cons_succ]; rfl)
  case qz4 => exact fun _ _ _ h => h
  case gz4 => rfl
  case hz4 => (intro w hSw; (simp only [Holds] at hSw); go_simp <;> with_reducible rfl)
  simp only [Act.put, List.setIfInBounds_toArray, List.set_cons_zero, List.set_cons_succ]
  refine wpAnyH_take (i := 4) (oi := ?oz5) (v := ?vz5) ?iz5 (by kernel_rfl) (by kernel_rfl) (by kernel_rfl) ?qz5 (Or.inl ⟨?gz5, ?hz5⟩) (by assumption) ?rz5
  case iz5 => (simp only [List.getElem?_toArray, List.getElem?_cons_zero, List.getElem?_cons_succ]; rfl)
  case qz5 => exact fun _ _ _ h => h
  case gz5 => rfl
  case hz5 => (intro w hSw; (simp only [Holds] at hSw); go_simp <;> with_reducible rfl)
  simp only [Act.put, List.setIfInBounds_toArray, List.set_cons_zero, List.set_cons_succ]
  refine wpAnyH_take (i := 5) (oi := ?oz6) (v := ?vz6) ?iz6 (by kernel_rfl) (by kernel_rfl) (by kernel_rfl) ?qz6 (Or.inl ⟨?gz6, ?hz6⟩) (by assumption) ?rz6
  case iz6 => (simp only [List.getElem?_toArray, List.getElem?_cons_zero, List.getElem?_cons_succ]; rfl)
  case qz6 => exact fun _ _ _ h => h
  case gz6 => rfl
  case hz6 => (intro w hSw; (simp only [Holds] at hSw); go_simp <;> with_reducible rfl)
  simp only [Act.put, List.setIfInBounds_toArray, List.set_cons_zero, List.set_cons_succ]
  refine wpAnyH_take (i := 6) (oi := ?oz7) (v := ?vz7) ?iz7 (by kernel_rfl) (by kernel_rfl) (by kernel_rfl) ?qz7 (Or.inl ⟨?gz7, ?hz7⟩) (by assumption) ?rz7
  case iz7 => (simp only [List.getElem?_toArray, List.getElem?_cons_zero, List.getElem?_cons_succ]; rfl)
  case qz7 => exact fun _ _ _ h => h
  case gz7 => rfl
  case hz7 => (intro w hSw; (simp only [Holds] at hSw); go_simp <;> with_reducible rfl)
  simp only [Act.put, List.setIfInBounds_toArray, List.set_cons_zero, List.set_cons_succ]
  refine wpAnyH_take (i := 7) (oi := ?oz8) (v := ?vz8) ?iz8 (by kernel_rfl) (by kernel_rfl) (by kernel_rfl) ?qz8 (Or.inl ⟨?gz8, ?hz8⟩) (by assumption) ?rz8
  case iz8 => (simp only [List.getElem?_toArray, List.getElem?_cons_zero, List.getElem?_cons_succ]; rfl)
  case qz8 => exact fun _ _ _ h => h
  case gz8 => rfl
  case hz8 => (intro w hSw; (simp only [Holds] at hSw); go_simp <;> with_reducible rfl)
  simp only [Act.put, List.setIfInBounds_toArray, List.set_cons_zero, List.set_cons_succ]
  refine wpAnyH_take (i := 8) (oi := ?oz9) (v := ?vz9) ?iz9 (by kernel_rfl) (by kernel_rfl) (by kernel_rfl) ?qz9 (Or.inl ⟨?gz9, ?hz9⟩) (by assumption) ?rz9
  case iz9 => (simp only [List.getElem?_toArray, List.getElem?_cons_zero, List.getElem?_cons_succ]; rfl)
  case qz9 => exact fun _ _ _ h => h
  case gz9 => rfl
  case hz9 => (intro w hSw; (simp only [Holds] at hSw); go_simp <;> with_reducible rfl)
  simp only [Act.put, List.setIfInBounds_toArray, List.set_cons_zero, List.set_cons_succ]
  refine wpAnyH_take (i := 9) (oi := ?oz10) (v := ?vz10) ?iz10 (by kernel_rfl) (by kernel_rfl) (by kernel_rfl) ?qz10 (Or.inl ⟨?gz10, ?hz10⟩) (by assumption) ?rz10
  case iz10 => (simp only [List.getElem?_toArray, List.getElem?_cons_zero, List.getElem?_cons_succ]; rfl)
  case qz10 => exact fun _ _ _ h => h
  case gz10 => rfl
  case hz10 => (intro w hSw; (simp only [Holds] at hSw); go_simp <;> with_reducible rfl)
  simp only [Act.put, List.setIfInBounds_toArray, List.set_cons_zero, List.set_cons_succ]
  refine wpAnyH_take (i := 10) (oi := ?oz11) (v := ?vz11) ?iz11 (by kernel_rfl) (by kernel_rfl) (by kernel_rfl) ?qz11 (Or.inl ⟨?gz11, ?hz11⟩) (by assumption) ?rz11
  case iz11 => (simp only [List.getElem?_toArray, List.getElem?_cons_zero, List.getElem?_cons_succ]; rfl)
  case qz11 => exact fun _ _ _ h => h
  case gz11 => rfl
  case hz11 => (intro w hSw; (simp only [Holds] at hSw); go_simp <;> with_reducible rfl)
  simp only [Act.put, List.setIfInBounds_toArray, List.set_cons_zero, List.set_cons_succ]
  refine wpAnyH_take (i := 11) (oi := ?oz12) (v := ?vz12) ?iz12 (by kernel_rfl) (by kernel_rfl) (by kernel_rfl) ?qz12 (Or.inl ⟨?gz12, ?hz12⟩) (by assumption) ?rz12
  case iz12 => (simp only [List.getElem?_toArray, List.getElem?_cons_zero, List.getElem?_cons_succ]; rfl)
  case qz12 => exact fun _ _ _ h => h
  case gz12 => rfl
  case hz12 => (intro w hSw; (simp only [Holds] at hSw); go_simp <;> with_reducible rfl)
  simp only [Act.put, List.setIfInBounds_toArray, List.set_cons_zero, List.set_cons_succ]
  refine wpAnyH_take (i := 12) (oi := ?oz13) (v := ?vz13) ?iz13 (by kernel_rfl) (by kernel_rfl) (by kernel_rfl) ?qz13 (Or.inl ⟨?gz13, ?hz13⟩) (by assumption) ?rz13
  case iz13 => (simp only [List.getElem?_toArray, List.getElem?_cons_zero, List.getElem?_cons_succ]; rfl)
  case qz13 => exact fun _ _ _ h => h
  case gz13 => rfl
  case hz13 => (intro w hSw; (simp only [Holds] at hSw); go_simp <;> with_reducible rfl)
  simp only [Act.put, List.setIfInBounds_toArray, List.set_cons_zero, List.set_cons_succ]
  refine wpAnyH_take (i := 13) (oi := ?oz14) (v := ?vz14) ?iz14 (by kernel_rfl) (by kernel_rfl) (by kernel_rfl) ?qz14 (Or.inl ⟨?gz14, ?hz14⟩) (by assumption) ?rz14
  case iz14 => (simp only [List.getElem?_toArray, List.getElem?_cons_zero, List.getElem?_cons_succ]; rfl)
  case qz14 => exact fun _ _ _ h => h
  case gz14 => rfl
  case hz14 => (intro w hSw; (simp only [Holds] at hSw); go_simp <;> with_reducible rfl)
  simp only [Act.put, List.setIfInBounds_toArray, List.set_cons_zero, List.set_cons_succ]
  refine wpAnyH_take (i := 14) (oi := ?oz15) (v := ?vz15) ?iz15 (by kernel_rfl) (by kernel_rfl) (by kernel_rfl) ?qz15 (Or.inl ⟨?gz15, ?hz15⟩) (by assumption) ?rz15
  case iz15 => (simp only [List.getElem?_toArray, List.getElem?_cons_zero, List.getElem?_cons_succ]; rfl)
  case qz15 => exact fun _ _ _ h => h
  case gz15 => rfl
  case hz15 => (intro w hSw; (simp only [Holds] at hSw); go_simp <;> with_reducible rfl)
  simp only [Act.put, List.setIfInBounds_toArray, List.set_cons_zero, List.set_cons_succ]
  refine wpAnyH_take (i := 15) (oi := ?oz16) (v := ?vz16) ?iz16 (by kernel_rfl) (by kernel_rfl) (by kernel_rfl) ?qz16 (Or.inl ⟨?gz16, ?hz16⟩) (by assumption) ?rz16
  case iz16 => (simp only [List.getElem?_toArray, List.getElem?_cons_zero, List.getElem?_cons_succ]; rfl)
  case qz16 => exact fun _ _ _ h => h
  case gz16 => rfl
  case hz16 => (intro w hSw; (simp only [Holds] at hSw); go_simp <;> with_reducible rfl)
  simp only [Act.put, List.setIfInBounds_toArray, List.set_cons_zero, List.set_cons_succ]
  refine wpAnyH_take (i := 16) (oi := ?oz17) (v := ?vz17) ?iz17 (by kernel_rfl) (by kernel_rfl) (by kernel_rfl) ?qz17 (Or.inl ⟨?gz17, ?hz17⟩) (by assumption) ?rz17
  case iz17 => (simp only [List.getElem?_toArray, List.getElem?_cons_zero, List.getElem?_cons_succ]; rfl)
  case qz17 => exact fun _ _ _ h => h
  case gz17 => rfl
  case hz17 => (intro w hSw; (simp only [Holds] at hSw); go_simp <;> with_reducible rfl)
  simp only [Act.put, List.setIfInBounds_toArray, List.set_cons_zero, List.set_cons_succ]
  refine wpAnyH_take (i := 17) (oi := ?oz18) (v := ?vz18) ?iz18 (by kernel_rfl) (by kernel_rfl) (by kernel_rfl) ?qz18 (Or.inl ⟨?gz18, ?hz18⟩) (by assumption) ?rz18
  case iz18 => (simp only [List.getElem?_toArray, List.getElem?_cons_zero, List.getElem?_cons_succ]; rfl)
  case qz18 => exact fun _ _ _ h => h
  case gz18 => rfl
  case hz18 => (intro w hSw; (simp only [Holds] at hSw); go_simp <;> with_reducible rfl)
  simp only [Act.put, List.setIfInBounds_toArray, List.set_cons_zero, List.set_cons_succ]
  refine wpAnyH_take (i := 18) (oi := ?oz19) (v := ?vz19) ?iz19 (by kernel_rfl) (by kernel_rfl) (by kernel_rfl) ?qz19 (Or.inl ⟨?gz19, ?hz19⟩) (by assumption) ?rz19
  case iz19 => (simp only [List.getElem?_toArray, List.getElem?_cons_zero, List.getElem?_cons_succ]; rfl)
  case qz19 => exact fun _ _ _ h => h
  case gz19 => rfl
  case hz19 => (intro w hSw; (simp only [Holds] at hSw); go_simp <;> with_reducible rfl)
  simp only [Act.put, List.setIfInBounds_toArray, List.set_cons_zero, List.set_cons_succ]
  refine wpAnyH_take (i := 19) (oi := ?oz20) (v := ?vz20) ?iz20 (by kernel_rfl) (by kernel_rfl) (by kernel_rfl) ?qz20 (Or.inl ⟨?gz20, ?hz20⟩) (by assumption) ?rz20
  case iz20 => (simp only [List.getElem?_toArray, List.getElem?_cons_zero, List.getElem?_cons_succ]; rfl)
  case qz20 => exact fun _ _ _ h => h
  case gz20 => rfl
  case hz20 => (intro w hSw; (simp only [Holds] at hSw); go_simp <;> with_reducible rfl)
  simp only [Act.put, List.setIfInBounds_toArray, List.set_cons_zero, List.set_cons_succ]
  refine wpAnyH_take (i := 20) (oi := ?oz21) (v := ?vz21) ?iz21 (by kernel_rfl) (by kernel_rfl) (by kernel_rfl) ?qz21 (Or.inl ⟨?gz21, ?hz21⟩) (by assumption) ?rz21
  case iz21 => (simp only [List.getElem?_toArray, List.getElem?_cons_zero, List.getElem?_cons_succ]; rfl)
  case qz21 => exact fun _ _ _ h => h
  case gz21 => rfl
  case hz21 => (intro w hSw; (simp only [Holds] at hSw); go_simp <;> with_reducible rfl)
  simp only [Act.put, List.setIfInBounds_toArray, List.set_cons_zero, List.set_cons_succ]
  refine wpAnyH_take (i := 21) (oi := ?oz22) (v := ?vz22) ?iz22 (by kernel_rfl) (by kernel_rfl) (by kernel_rfl) ?qz22 (Or.inl ⟨?gz22, ?hz22⟩) (by assumption) ?rz22
  case iz22 => (simp only [List.getElem?_toArray, List.getElem?_cons_zero, List.getElem?_cons_succ]; rfl)
  case qz22 => exact fun _ _ _ h => h
  case gz22 => rfl
  case hz22 => (intro w hSw; (simp only [Holds] at hSw); go_simp <;> with_reducible rfl)
  simp only [Act.put, List.setIfInBounds_toArray, List.set_cons_zero, List.set_cons_succ]
  refine wpAnyH_take (i := 22) (oi := ?oz23) (v := ?vz23) ?iz23 (by kernel_rfl) (by kernel_rfl) (by kernel_rfl) ?qz23 (Or.inl ⟨?gz23, ?hz23⟩) (by assumption) ?rz23
  case iz23 => (simp only [List.getElem?_toArray, List.getElem?_cons_zero, List.getElem?_cons_succ]; rfl)
  case qz23 => exact fun _ _ _ h => h
  case gz23 => rfl
  case hz23 => (intro w hSw; (simp only [Holds] at hSw); go_simp <;> with_reducible rfl)
  simp only [Act.put, List.setIfInBounds_toArray, List.set_cons_zero, List.set_cons_succ]
  refine wpAnyH_take (i := 23) (oi := ?oz24) (v := ?vz24) ?iz24 (by kernel_rfl) (by kernel_rfl) (by kernel_rfl) ?qz24 (Or.inl ⟨?gz24, ?hz24⟩) (by assumption) ?rz24
  case iz24 => (simp only [List.getElem?_toArray, List.getElem?_cons_zero, List.getElem?_cons_succ]; rfl)
  case qz24 => exact fun _ _ _ h => h
  case gz24 => rfl
  case hz24 => (intro w hSw; (simp only [Holds] at hSw); go_simp <;> with_reducible rfl)
  simp only [Act.put, List.setIfInBounds_toArray, List.set_cons_zero, List.set_cons_succ]
  refine wpAnyH_take (i := 24) (oi := ?oz25) (v := ?vz25) ?iz25 (by kernel_rfl) (by kernel_rfl) (by kernel_rfl) ?qz25 (Or.inl ⟨?gz25, ?hz25⟩) (by assumption) ?rz25
  case iz25 => (simp only [List.getElem?_toArray, List.getElem?_cons_zero, List.getElem?_cons_succ]; rfl)
  case qz25 => exact fun _ _ _ h => h
  case gz25 => rfl
  case hz25 => (intro w hSw; (simp only [Holds] at hSw); go_simp <;> with_reducible rfl)
  simp only [Act.put, List.setIfInBounds_toArray, List.set_cons_zero, List.set_cons_succ]
  refine wpAnyH_take (i := 25) (oi := ?oz26) (v := ?vz26) ?iz26 (by kernel_rfl) (by kernel_rfl) (by kernel_rfl) ?qz26 (Or.inl ⟨?gz26, ?hz26⟩) (by assumption) ?rz26
  case iz26 => (simp only [List.getElem?_toArray, List.getElem?_cons_zero, List.getElem?_cons_succ]; rfl)
  case qz26 => exact fun _ _ _ h => h
  case gz26 => rfl
  case hz26 => (intro w hSw; (simp only [Holds] at hSw); go_simp <;> with_reducible rfl)
  simp only [Act.put, List.setIfInBounds_toArray, List.set_cons_zero, List.set_cons_succ]
  refine wpAnyH_take (i := 26) (oi := ?oz27) (v := ?vz27) ?iz27 (by kernel_rfl) (by kernel_rfl) (by kernel_rfl) ?qz27 (Or.inl ⟨?gz27, ?hz27⟩) (by assumption) ?rz27
  case iz27 => (simp only [List.getElem?_toArray, List.getElem?_cons_zero, List.getElem?_cons_succ]; rfl)
  case qz27 => exact fun _ _ _ h => h
  case gz27 => rfl
  case hz27 => (intro w hSw; (simp only [Holds] at hSw); go_simp <;> with_reducible rfl)
  simp only [Act.put, List.setIfInBounds_toArray, List.set_cons_zero, List.set_cons_succ]
  refine wpAnyH_take (i := 27) (oi := ?oz28) (v := ?vz28) ?iz28 (by kernel_rfl) (by kernel_rfl) (by kernel_rfl) ?qz28 (Or.inl ⟨?gz28, ?hz28⟩) (by assumption) ?rz28
  case iz28 => (simp only [List.getElem?_toArray, List.getElem?_cons_zero, List.getElem?_cons_succ]; rfl)
  case qz28 => exact fun _ _ _ h => h
  case gz28 => rfl
  case hz28 => (intro w hSw; (simp only [Holds] at hSw); go_simp <;> with_reducible rfl)
  simp only [Act.put, List.setIfInBounds_toArray, List.set_cons_zero, List.set_cons_succ]
  refine wpAnyH_ready (rs := [28]) (by kernel_rfl) (by simp) ?_
  refine AllReadyH.cons (o := ?oz29) ?iz29 (fun K hK => ?kz29) AllReadyH.nil
  case iz29 => (simp only [List.getElem?_toArray, List.getElem?_cons_zero, List.getElem?_cons_succ]; rfl)
  go_simp
  refine (small_any _).mono ?_
  rw [HSV.out]
  rintro e w' ⟨rfl, rfl⟩
  refine hK.out _ _ hSn (fun hSn => ?_)
  clear hK
  refine wpAnyH_take (i := 29) (oi := ?oz30) (v := ?vz30) ?iz30 (by kernel_rfl) (by kernel_rfl) (by kernel_rfl) ?qz30 (Or.inl ⟨?gz30, ?hz30⟩) (by assumption) ?rz30
  case iz30 => (simp only [List.getElem?_toArray, List.getElem?_cons_zero, List.getElem?_cons_succ]; rfl)
  case qz30 => exact fun _ _ _ h => h
  case gz30 => rfl
  case hz30 => (intro w hSw; (simp only [Holds] at hSw); go_simp <;> with_reducible rfl)
  simp only [Act.put, List.setIfInBounds_toArray, List.set_cons_zero, List.set_cons_succ]
  refine wpAnyH_take (i := 30) (oi := ?oz31) (v := ?vz31) ?iz31 (by kernel_rfl) (by kernel_rfl) (by kernel_rfl) ?qz31 (Or.inl ⟨?gz31, ?hz31⟩) (by assumption) ?rz31
  case iz31 => (simp only [List.getElem?_toArray, List.getElem?_cons_zero, List.getElem?_cons_succ]; rfl)
  case qz31 => exact fun _ _ _ h => h
  case gz31 => rfl
  case hz31 => (intro w hSw; (simp only [Holds] at hSw); go_simp <;> with_reducible rfl)
  simp only [Act.put, List.setIfInBounds_toArray, List.set_cons_zero, List.set_cons_succ]
  refine wpAnyH_take (i := 31) (oi := ?oz32) (v := ?vz32) ?iz32 (by kernel_rfl) (by kernel_rfl) (by kernel_rfl) ?qz32 (Or.inl ⟨?gz32, ?hz32⟩) (by assumption) ?rz32
  case iz32 => (simp only [List.getElem?_toArray, List.getElem?_cons_zero, List.getElem?_cons_succ]; rfl)
  case qz32 => exact fun _ _ _ h => h
  case gz32 => rfl
  case hz32 => (intro w hSw; (simp only [Holds] at hSw); go_simp <;> with_reducible rfl)
  simp only [Act.put, List.setIfInBounds_toArray, List.set_cons_zero]
  refine wpAnyH_done (by kernel_rfl) ?_ _
  go_wp2
  go_ret
  exact ⟨rfl, HB4.out⟩
end Go.Proofs.YtkhlmgkapmofiaaDoor
