/- The document's Parse. -/
import Derived.Test.YtkhlmgkapmofiaaDoorIParse
import Derived.Test.YtkhlmgkapmofiaaDoorIRMay
namespace Go.Proofs.YtkhlmgkapmofiaaDoor
open Go.ChangeShapes Go.WideShapes Go.ChangeAt Go.RowKit

theorem FJ.z {w wr : World} {z b : Nat} {p c r : Int} {l : List Stp} {v : Value} (h : FJ w z b p c r l v wr) : ZBox z wr := h.zero
set_option maxRecDepth 1000000 in
set_option maxHeartbeats 4000000 in
theorem rparse_any {w : World} {tv : Value} {bs : List Int} (h : Row w tv (byts bs)) :
    Calls Tryd.prog 11 #[tv] w fun e w' => Parsed w w' bs e := by
  have H := Lib.hid h
  obtain ⟨ad, cap0, rfl, _⟩ := h.form
  clear h
  go_enter Tryd.func11, Tryd.ntmps11
  go_wp2_with fail
  have HB0 := Lib.hid (((Below.refl _ w).alloc (Nat.le_refl _) (.cells #[.int .i64 0, .int .i64 0, .int .i64 0, .slice none 0 0] 26)).alloc (by simp) (.cells #[.int .i64 0, .int .i64 0, .int .i64 0, .slice none 0 0] 26))
  have HZ0 := Lib.hid ((zbox_new w).below (by simp) ((Below.refl _ (w.alloc (.cells #[.int .i64 0, .int .i64 0, .int .i64 0, .slice none 0 0] 26))).alloc (Nat.le_refl _) (.cells #[.int .i64 0, .int .i64 0, .int .i64 0, .slice none 0 0] 26)))
  have hy0 := zbox_new (w.alloc (.cells #[.int .i64 0, .int .i64 0, .int .i64 0, .slice none 0 0] 26))
  rw [show (w.alloc (.cells #[.int .i64 0, .int .i64 0, .int .i64 0, .slice none 0 0] 26)).heap.size = w.heap.size + 1 by simp] at hy0
  have HY0 := Lib.hid hy0
  have hs0 : w.heap.size + 1 < ((w.alloc (.cells #[.int .i64 0, .int .i64 0, .int .i64 0, .slice none 0 0] 26)).alloc (.cells #[.int .i64 0, .int .i64 0, .int .i64 0, .slice none 0 0] 26)).heap.size := by simp
  clear hy0
  generalize (w.alloc (.cells #[.int .i64 0, .int .i64 0, .int .i64 0, .slice none 0 0] 26)).alloc (.cells #[.int .i64 0, .int .i64 0, .int .i64 0, .slice none 0 0] 26) = W at *
  refine (refLines_any (H.out.below HB0.out)).mono ?_
  rintro e w1 ⟨lv, rfl, hl, hb⟩
  have HL := Lib.hid (hl.is)
  obtain ⟨la, cap, rfl, hm⟩ := hl.is.form
  have hcc := hl.is.cap
  have HZ1 := Lib.hid (HZ0.out.below (by omega) hb)
  have HY1 := Lib.hid (HY0.out.below hs0 hb)
  have HB1 := Lib.hid (HB0.out.trans (hb.mono HB0.out.size))
  have hs1 : w.heap.size + 1 < w1.heap.size := by have := hb.size; omega
  have HSM := Lib.hid (res_small bs)
  clear hl hb
  by_cases he : errOf bs = 0
  · rw [he]
    have HE := Lib.hid he
    have HP2 := Lib.hid (fun h => perr_2 (bs := bs) he h)
    have HP3 := Lib.hid (fun h => perr_3 (bs := bs) he h)
    have HP4 := Lib.hid (fun h => perr_4 (bs := bs) he h)
    clear he
    have HRES0 := Lib.hid (rfl : resOf bs = resOf bs)
    generalize hL : resOf bs = L at *
    have HRES := Lib.hid hL
    clear hL HRES0
    have hm1 : L.length ≤ 9223372036854775807 := by have := HSM.out; omega
    by_cases h0 : L.length = 0
    · have HP := Lib.hid (HP2.out (wf_no0 h0))
      have d1 : ((L.length : Int) == 0) = true := by simp [h0]
      clear h0
      have z0 : w1.cell? ⟨w.heap.size, 0, none⟩ = some (.int .i64 0) := HZ1.out.cell 0
      have z1 : w1.cell? ⟨w.heap.size, 1, none⟩ = some (.int .i64 0) := HZ1.out.cell 1
      have z2 : w1.cell? ⟨w.heap.size, 2, none⟩ = some (.int .i64 0) := HZ1.out.cell 2
      have z3 : w1.cell? ⟨w.heap.size, 3, none⟩ = some (.slice none 0 0) := HZ1.out.cell 3
      have f0 := HZ1.out.free 0
      have f1 := HZ1.out.free 1
      have f2 := HZ1.out.free 2
      have f3 := HZ1.out.free 3
      have y0 : w1.cell? ⟨w.heap.size + 1, 0, none⟩ = some (.int .i64 0) := HY1.out.cell 0
      have y1 : w1.cell? ⟨w.heap.size + 1, 1, none⟩ = some (.int .i64 0) := HY1.out.cell 1
      have y2 : w1.cell? ⟨w.heap.size + 1, 2, none⟩ = some (.int .i64 0) := HY1.out.cell 2
      have y3 : w1.cell? ⟨w.heap.size + 1, 3, none⟩ = some (.slice none 0 0) := HY1.out.cell 3
      go_wp2
      exact bodyPost_ret (v := .tuple #[.agg #[.int .i64 0, .int .i64 0, .int .i64 0, .slice none 0 0], .int .i64 2]) (by simp [results, Tryd.results11, go_sem, z0, z1, z2, z3]) rfl (parsed_bad HP.out (by decide) (by
        repeat' (first | exact HB1.out | (refine Below.setCell ?_ ?_ _) | (simp; omega) | simp)))
    have d1 : ((L.length : Int) == 0) = false := by rw [beq_eq_false_iff_ne]; omega
    have hpos : (0 : Int) < (L.length : Int) := by omega
    have hposn : 0 < L.length := by omega
    obtain ⟨tb, off, a1, n1, c1, rfl, htb, hc, hn1, hx1, r1⟩ := ll_at HL.out 0 hposn
    rw [Nat.add_zero] at hc
    have HN := Lib.hid hn1
    clear hn1
    by_cases h3 : n1 = 3
    · have hl3 : (L.getD 0 []).length = 3 := by rw [← HN.out]; exact h3
      subst h3
      obtain ⟨p, q, r, hpqr⟩ : ∃ p q r, L.getD 0 [] = [p, q, r] := by
        match hx : L.getD 0 [], hl3 with
        | [p, q, r], _ => exact ⟨p, q, r, rfl⟩
      rw [hpqr] at r1
      obtain ⟨b, o, rfl, e0, hb0⟩ := row_cell r1 0 (by simp [ints])
      have e1 := row_here r1 1 (by simp [ints])
      have e2 := row_here r1 2 (by simp [ints])
      simp [ints] at e0 e1 e2
      have HP := Lib.hid hpqr
      have HN3 := Lib.hid hl3
      clear r1 hpqr hl3
      go_wp2_with fail
      have HS0 := Lib.hid (show Holds [(⟨tb, off, none⟩, .slice (some ⟨b, o, none⟩) 3 c1), (⟨b, o, none⟩, .int .i64 p), (⟨b, o + 1, none⟩, .int .i64 q), (⟨b, o + 2, none⟩, .int .i64 r)] w1.drew from ⟨hc, e0, e1, e2, trivial⟩)
      have hlt := Lib.hid (show Lows w1.drew.heap.size [((⟨tb, off, none⟩ : Addr), (.slice (some ⟨b, o, none⟩) 3 c1 : Value)), (⟨b, o, none⟩, .int .i64 p), (⟨b, o + 1, none⟩, .int .i64 q), (⟨b, o + 2, none⟩, .int .i64 r)] from ⟨htb, hb0, hb0, hb0, trivial⟩)
      refine wp_region_held_drew (S := Holds [(⟨tb, off, none⟩, .slice (some ⟨b, o, none⟩) 3 c1), (⟨b, o, none⟩, .int .i64 p), (⟨b, o + 1, none⟩, .int .i64 q), (⟨b, o + 2, none⟩, .int .i64 r)]) (by kernel_rfl) HS0.out (fun hSn => ?_)
      have Bc := Lib.hid (Below.refl w1.drew.heap.size w1.drew)
      clear hc e0 e1 e2
      refine wpAnyH_take (i := 0) (oi := ?oz1) (v := ?vz1) ?iz1 (by kernel_rfl) (by kernel_rfl) (by kernel_rfl) ?qz1 (Or.inl ⟨?gz1, ?hz1⟩) (by assumption) ?rz1
      case iz1 => (simp only [List.getElem?_toArray, List.getElem?_cons_zero]; rfl)
      case qz1 => exact fun _ _ _ h => h
      case gz1 => rfl
      case hz1 => (intro w hSw; (simp only [Holds] at hSw); go_simp <;> with_reducible rfl)
      simp only [Act.put, List.setIfInBounds_toArray, List.set_cons_zero, List.set_cons_succ]
      refine wpAnyH_take (i := 1) (oi := ?oz2) (v := ?vz2) ?iz2 (by kernel_rfl) (by kernel_rfl) (by kernel_rfl) ?qz2 (Or.inl ⟨?gz2, ?hz2⟩) (by assumption) ?rz2
      case iz2 => (simp only [List.getElem?_toArray, List.getElem?_cons_zero, List.getElem?_cons_succ]; rfl)
      case qz2 => exact fun _ _ _ h => h
      case gz2 => rfl
      case hz2 => (intro w hSw; (simp only [Holds] at hSw); go_simp <;> with_reducible rfl)
      simp only [Act.put, List.setIfInBounds_toArray, List.set_cons_zero, List.set_cons_succ]
      refine wpAnyH_take (i := 2) (oi := ?oz3) (v := ?vz3) ?iz3 (by kernel_rfl) (by kernel_rfl) (by kernel_rfl) ?qz3 (Or.inl ⟨?gz3, ?hz3⟩) (by assumption) ?rz3
      case iz3 => (simp only [List.getElem?_toArray, List.getElem?_cons_zero, List.getElem?_cons_succ]; rfl)
      case qz3 => exact fun _ _ _ h => h
      case gz3 => rfl
      case hz3 => (intro w hSw; (simp only [Holds] at hSw); go_simp <;> with_reducible rfl)
      simp only [Act.put, List.setIfInBounds_toArray, List.set_cons_zero, List.set_cons_succ]
      refine wpAnyH_take (i := 3) (oi := ?oz4) (v := ?vz4) ?iz4 (by kernel_rfl) (by kernel_rfl) (by kernel_rfl) ?qz4 (Or.inl ⟨?gz4, ?hz4⟩) (by assumption) ?rz4
      case iz4 => (simp only [List.getElem?_toArray, List.getElem?_cons_zero, List.getElem?_cons_succ]; rfl)
      case qz4 => exact fun _ _ _ h => h
      case gz4 => rfl
      case hz4 => (intro w hSw; (simp only [Holds] at hSw); go_simp <;> with_reducible rfl)
      simp only [Act.put, List.setIfInBounds_toArray, List.set_cons_zero, List.set_cons_succ]
      refine wpAnyH_take (i := 4) (oi := ?oz5) (v := ?vz5) ?iz5 (by kernel_rfl) (by kernel_rfl) (by kernel_rfl) ?qz5 (Or.inl ⟨?gz5, ?hz5⟩) (by assumption) ?rz5
      case iz5 => (simp only [List.getElem?_toArray, List.getElem?_cons_zero, List.getElem?_cons_succ]; rfl)
      case qz5 => exact fun _ _ _ h => h
      case gz5 => rfl
      case hz5 => (intro w hSw; (simp only [Holds] at hSw); go_simp <;> with_reducible rfl)
      simp only [Act.put, List.setIfInBounds_toArray, List.set_cons_zero, List.set_cons_succ]
      refine wpAnyH_take (i := 5) (oi := ?oz6) (v := ?vz6) ?iz6 (by kernel_rfl) (by kernel_rfl) (by kernel_rfl) ?qz6 (Or.inl ⟨?gz6, ?hz6⟩) (by assumption) ?rz6
      case iz6 => (simp only [List.getElem?_toArray, List.getElem?_cons_zero, List.getElem?_cons_succ]; rfl)
      case qz6 => exact fun _ _ _ h => h
      case gz6 => rfl
      case hz6 => (intro w hSw; (simp only [Holds] at hSw); go_simp <;> with_reducible rfl)
      simp only [Act.put, List.setIfInBounds_toArray, List.set_cons_zero, List.set_cons_succ]
      refine wpAnyH_take (i := 6) (oi := ?oz7) (v := ?vz7) ?iz7 (by kernel_rfl) (by kernel_rfl) (by kernel_rfl) ?qz7 (Or.inl ⟨?gz7, ?hz7⟩) (by assumption) ?rz7
      case iz7 => (simp only [List.getElem?_toArray, List.getElem?_cons_zero, List.getElem?_cons_succ]; rfl)
      case qz7 => exact fun _ _ _ h => h
      case gz7 => rfl
      case hz7 => (intro w hSw; (simp only [Holds] at hSw); go_simp <;> with_reducible rfl)
      simp only [Act.put, List.setIfInBounds_toArray, List.set_cons_zero, List.set_cons_succ]
      refine wpAnyH_take (i := 7) (oi := ?oz8) (v := ?vz8) ?iz8 (by kernel_rfl) (by kernel_rfl) (by kernel_rfl) ?qz8 (Or.inl ⟨?gz8, ?hz8⟩) (by assumption) ?rz8
      case iz8 => (simp only [List.getElem?_toArray, List.getElem?_cons_zero, List.getElem?_cons_succ]; rfl)
      case qz8 => exact fun _ _ _ h => h
      case gz8 => rfl
      case hz8 => (intro w hSw; (simp only [Holds] at hSw); go_simp <;> with_reducible rfl)
      simp only [Act.put, List.setIfInBounds_toArray, List.set_cons_zero, List.set_cons_succ]
      refine wpAnyH_take (i := 8) (oi := ?oz9) (v := ?vz9) ?iz9 (by kernel_rfl) (by kernel_rfl) (by kernel_rfl) ?qz9 (Or.inl ⟨?gz9, ?hz9⟩) (by assumption) ?rz9
      case iz9 => (simp only [List.getElem?_toArray, List.getElem?_cons_zero, List.getElem?_cons_succ]; rfl)
      case qz9 => exact fun _ _ _ h => h
      case gz9 => rfl
      case hz9 => (intro w hSw; (simp only [Holds] at hSw); go_simp <;> with_reducible rfl)
      simp only [Act.put, List.setIfInBounds_toArray, List.set_cons_zero, List.set_cons_succ]
      refine wpAnyH_take (i := 9) (oi := ?oz10) (v := ?vz10) ?iz10 (by kernel_rfl) (by kernel_rfl) (by kernel_rfl) ?qz10 (Or.inl ⟨?gz10, ?hz10⟩) (by assumption) ?rz10
      case iz10 => (simp only [List.getElem?_toArray, List.getElem?_cons_zero, List.getElem?_cons_succ]; rfl)
      case qz10 => exact fun _ _ _ h => h
      case gz10 => rfl
      case hz10 => (intro w hSw; (simp only [Holds] at hSw); go_simp <;> with_reducible rfl)
      simp only [Act.put, List.setIfInBounds_toArray, List.set_cons_zero, List.set_cons_succ]
      refine wpAnyH_take (i := 10) (oi := ?oz11) (v := ?vz11) ?iz11 (by kernel_rfl) (by kernel_rfl) (by kernel_rfl) ?qz11 (Or.inl ⟨?gz11, ?hz11⟩) (by assumption) ?rz11
      case iz11 => (simp only [List.getElem?_toArray, List.getElem?_cons_zero, List.getElem?_cons_succ]; rfl)
      case qz11 => exact fun _ _ _ h => h
      case gz11 => rfl
      case hz11 => (intro w hSw; (simp only [Holds] at hSw); go_simp <;> with_reducible rfl)
      simp only [Act.put, List.setIfInBounds_toArray, List.set_cons_zero, List.set_cons_succ]
      refine wpAnyH_take (i := 11) (oi := ?oz12) (v := ?vz12) ?iz12 (by kernel_rfl) (by kernel_rfl) (by kernel_rfl) ?qz12 (Or.inl ⟨?gz12, ?hz12⟩) (by assumption) ?rz12
      case iz12 => (simp only [List.getElem?_toArray, List.getElem?_cons_zero, List.getElem?_cons_succ]; rfl)
      case qz12 => exact fun _ _ _ h => h
      case gz12 => rfl
      case hz12 => (intro w hSw; (simp only [Holds] at hSw); go_simp <;> with_reducible rfl)
      simp only [Act.put, List.setIfInBounds_toArray, List.set_cons_zero, List.set_cons_succ]
      refine wpAnyH_take (i := 12) (oi := ?oz13) (v := ?vz13) ?iz13 (by kernel_rfl) (by kernel_rfl) (by kernel_rfl) ?qz13 (Or.inl ⟨?gz13, ?hz13⟩) (by assumption) ?rz13
      case iz13 => (simp only [List.getElem?_toArray, List.getElem?_cons_zero, List.getElem?_cons_succ]; rfl)
      case qz13 => exact fun _ _ _ h => h
      case gz13 => rfl
      case hz13 => (intro w hSw; (simp only [Holds] at hSw); go_simp <;> with_reducible rfl)
      simp only [Act.put, List.setIfInBounds_toArray, List.set_cons_zero, List.set_cons_succ]
      refine wpAnyH_take (i := 13) (oi := ?oz14) (v := ?vz14) ?iz14 (by kernel_rfl) (by kernel_rfl) (by kernel_rfl) ?qz14 (Or.inl ⟨?gz14, ?hz14⟩) (by assumption) ?rz14
      case iz14 => (simp only [List.getElem?_toArray, List.getElem?_cons_zero, List.getElem?_cons_succ]; rfl)
      case qz14 => exact fun _ _ _ h => h
      case gz14 => rfl
      case hz14 => (intro w hSw; (simp only [Holds] at hSw); go_simp <;> with_reducible rfl)
      simp only [Act.put, List.setIfInBounds_toArray, List.set_cons_zero, List.set_cons_succ]
      refine wpAnyH_take (i := 14) (oi := ?oz15) (v := ?vz15) ?iz15 (by kernel_rfl) (by kernel_rfl) (by kernel_rfl) ?qz15 (Or.inl ⟨?gz15, ?hz15⟩) (by assumption) ?rz15
      case iz15 => (simp only [List.getElem?_toArray, List.getElem?_cons_zero, List.getElem?_cons_succ]; rfl)
      case qz15 => exact fun _ _ _ h => h
      case gz15 => rfl
      case hz15 => (intro w hSw; (simp only [Holds] at hSw); go_simp <;> with_reducible rfl)
      simp only [Act.put, List.setIfInBounds_toArray, List.set_cons_zero, List.set_cons_succ]
      refine wpAnyH_take (i := 15) (oi := ?oz16) (v := ?vz16) ?iz16 (by kernel_rfl) (by kernel_rfl) (by kernel_rfl) ?qz16 (Or.inl ⟨?gz16, ?hz16⟩) (by assumption) ?rz16
      case iz16 => (simp only [List.getElem?_toArray, List.getElem?_cons_zero, List.getElem?_cons_succ]; rfl)
      case qz16 => exact fun _ _ _ h => h
      case gz16 => rfl
      case hz16 => (intro w hSw; (simp only [Holds] at hSw); go_simp <;> with_reducible rfl)
      simp only [Act.put, List.setIfInBounds_toArray, List.set_cons_zero, List.set_cons_succ]
      refine wpAnyH_ready (rs := [16]) (by kernel_rfl) (by simp) ?_
      refine AllReadyH.cons (o := ?oz17) ?iz17 (fun K hK => ?kz17) AllReadyH.nil
      case iz17 => (simp only [List.getElem?_toArray, List.getElem?_cons_zero, List.getElem?_cons_succ]; rfl)
      go_simp
      refine held_more hK HS0.out hlt (Bc.out.alloc Bc.out.size _) (fun Bc hSn => ?_)
      refine wpAnyH_ready (rs := [17]) (by kernel_rfl) (by simp) ?_
      refine (AllReadyH.cons (o := ?oz18) ?iz18 (fun K hK => ?kz18) AllReadyH.nil)
      case iz18 => (simp only [List.getElem?_toArray, List.getElem?_cons_zero, List.getElem?_cons_succ]; rfl)
      go_simp
      have HX0 := Lib.hid (((Below.refl _ w1).alloc (Nat.le_refl _) (.cells #[.int .i64 p, .int .i64 q, .int .i64 r, .slice none 0 0] 26)).drew)
      refine hK.out _ _ (Holds.below HX0.out HS0.out hlt.out) (fun hSn => ?_)
      refine wpAnyH_done (by kernel_rfl) ?_ _
      have HF0 := Lib.hid (show FJ w w.heap.size w1.heap.size p q r (((L.drop 1).take (1 - 1)).map stpOf) (.slice none 0 0) (w1.alloc (.cells #[.int .i64 p, .int .i64 q, .int .i64 r, .slice none 0 0] 26)).drew from
        ⟨⟨Nat.le_refl _, by omega⟩, HZ1.out.below (by omega) HX0.out, heap_alloc_new w1 _, ownS_nil _ _, HB1.out.trans (HX0.out.mono HB1.out.size)⟩)
      have HY0' := Lib.hid (show ZBox (w.heap.size + 1) (w1.alloc (.cells #[.int .i64 p, .int .i64 q, .int .i64 r, .slice none 0 0] 26)).drew from HY1.out.below hs1 HX0.out)
      generalize (w1.alloc (.cells #[.int .i64 p, .int .i64 q, .int .i64 r, .slice none 0 0] 26)).drew = W2 at *
      obtain ⟨i0, hi, hz0, hz1, hz2⟩ := info_parts infoStop
      have HI0 := Lib.hid (And.intro hi (And.intro hz0 (And.intro hz1 hz2)))
      clear hi hz0 hz1 hz2 hSn
      go_wp2_with fail
      go_loopw [8] (fun i wr => ∃ (k : Nat) (v : Value), 1 ≤ k ∧ k ≤ L.length ∧ i = .int .i64 k ∧ FJ w w.heap.size w1.heap.size p q r (((L.drop 1).take (k - 1)).map stpOf) v wr ∧ ZBox (w.heap.size + 1) wr ∧ Below w1.heap.size w1 wr ∧ ∀ j, 1 ≤ j → j < k → (L.getD j []).length = 6) (fun i _ => L.length - (intOf i).toNat)
      case atStart => exact ⟨1, _, Nat.le_refl _, hposn, rfl, HF0.out, HY0'.out, HX0.out, fun j h1 h2 => by omega⟩
      case round =>
        obtain ⟨k, v, hk1, hk, rfl, hF, hYk, hBk, hAll⟩ := hrel
        have HF := Lib.hid hF
        have HYk := Lib.hid hYk
        have HBk := Lib.hid hBk
        have HA := Lib.hid hAll
        clear hF hYk hBk hAll
        by_cases hlt3 : k < L.length
        · obtain ⟨tb', off', a2, n2, c2, he, _, hc2, hn2, hx2, r2⟩ := ll_at HL.out k hlt3
          simp only [Option.some.injEq, Addr.mk.injEq, and_true] at he
          obtain ⟨rfl, rfl⟩ := he
          have d2 := (HBk.out.cell (p := ⟨tb, off + k, none⟩) htb).trans hc2
          have HN2 := Lib.hid hn2
          clear hn2 hc2
          by_cases h6 : n2 = 6
          · have hl6 : (L.getD k []).length = 6 := by rw [← HN2.out]; exact h6
            subst h6
            obtain ⟨b2, o2, rfl, hat2, hb2⟩ := line_stop r2 hl6
            have HA6 := Lib.hid (show ∀ j, 1 ≤ j → j < k + 1 → (L.getD j []).length = 6 from fun j h1 h2 => by
              by_cases c : j < k
              · exact HA.out j h1 c
              · obtain rfl : j = k := by omega
                exact hl6)
            have HAT := Lib.hid (hat2.below hb2 HBk.out)
            have HST := Lib.hid (show ((L.drop 1).take (k - 1)).map stpOf ++ [stpOf (L.getD k [])] = ((L.drop 1).take k).map stpOf by
              have := stops_map L (k - 1) (by omega)
              rw [show k - 1 + 1 = k by omega] at this; exact this)
            have hLn : (((L.drop 1).take (k - 1)).map stpOf).length ≤ k := by simp; omega
            have hsm := HSM.out
            generalize ((L.drop 1).take (k - 1)).map stpOf = l at *
            generalize stpOf (L.getD k []) = t at *
            have hszk := HBk.out.size
            have hszf := HF.out.size
            clear hat2 r2 hl6
            go_wp2_with fail
            obtain ⟨hi, hz0, hz1, hz2⟩ := HI0.out
            have HF1 := Lib.hid (HF.out.below ((Below.refl _ wr).drew))
            have HX := Lib.hid (HF.out.below (((Below.refl _ wr).alloc (Nat.le_refl _) (.cells #[.int .i64 t.x, .int .i64 t.y, .int .i64 t.d, .int .i64 t.r, .int .i64 t.u, .int .i64 t.s] 36)).drew))
            have HYX := Lib.hid (show ZBox (w.heap.size + 1) (wr.alloc (.cells #[.int .i64 t.x, .int .i64 t.y, .int .i64 t.d, .int .i64 t.r, .int .i64 t.u, .int .i64 t.s] 36)).drew from HYk.out.below (by omega) (((Below.refl _ wr).alloc (Nat.le_refl _) (.cells #[.int .i64 t.x, .int .i64 t.y, .int .i64 t.d, .int .i64 t.r, .int .i64 t.u, .int .i64 t.s] 36)).drew))
            have HBX := Lib.hid (HBk.out.trans ((((Below.refl _ wr).alloc (Nat.le_refl _) (.cells #[.int .i64 t.x, .int .i64 t.y, .int .i64 t.d, .int .i64 t.r, .int .i64 t.u, .int .i64 t.s] 36)).drew).mono hszk))
            have HS0 := Lib.hid (show Holds ((⟨tb, off + k, none⟩, .slice (some ⟨b2, o2, none⟩) 6 c2) :: cellsF b2 o2 t) wr.drew from ⟨d2, holds_at (HAT.out.below HAT.out.lt ((Below.refl _ wr).drew))⟩)
            have hlt2 := Lib.hid (show Lows w1.heap.size ((⟨tb, off + k, none⟩, .slice (some ⟨b2, o2, none⟩) 6 c2) :: cellsF b2 o2 t) from ⟨htb, lows_at hb2⟩)
            have hlt := Lib.hid (show Lows wr.drew.heap.size ((⟨tb, off + k, none⟩, .slice (some ⟨b2, o2, none⟩) 6 c2) :: cellsF b2 o2 t) from ⟨by show tb < wr.heap.size; omega, lows_at (by show b2 < wr.heap.size; omega)⟩)
            have x3 : wr.drew.cell? ⟨w1.heap.size, 3, none⟩ = some v := HF1.out.cell 3
            refine wp_region_held_drew (S := Holds ((⟨tb, off + k, none⟩, .slice (some ⟨b2, o2, none⟩) 6 c2) :: cellsF b2 o2 t)) (by kernel_rfl) HS0.out (fun hSn => ?_)
            have Bc := Lib.hid (Below.refl wr.drew.heap.size wr.drew)
            unfold cellsF at *
            clear d2
            refine wpAnyH_take (i := 0) (oi := ?oz19) (v := ?vz19) ?iz19 (by kernel_rfl) (by kernel_rfl) (by kernel_rfl) ?qz19 (Or.inl ⟨?gz19, ?hz19⟩) (by assumption) ?rz19
            case iz19 => (simp only [List.getElem?_toArray, List.getElem?_cons_zero]; rfl)
            case qz19 => exact fun _ _ _ h => h
            case gz19 => rfl
            case hz19 => (intro w hSw; (simp only [Holds] at hSw); go_simp <;> with_reducible rfl)
            simp only [Act.put, List.setIfInBounds_toArray, List.set_cons_zero, List.set_cons_succ]
            refine wpAnyH_take (i := 2) (oi := ?oz20) (v := ?vz20) ?iz20 (by kernel_rfl) (by kernel_rfl) (by kernel_rfl) ?qz20 (Or.inl ⟨?gz20, ?hz20⟩) (by assumption) ?rz20
            case iz20 => (simp only [List.getElem?_toArray, List.getElem?_cons_zero, List.getElem?_cons_succ]; rfl)
            case qz20 => exact fun _ _ _ h => h
            case gz20 => rfl
            case hz20 => (intro w hSw; (simp only [Holds] at hSw); go_simp <;> with_reducible rfl)
            simp only [Act.put, List.setIfInBounds_toArray, List.set_cons_zero, List.set_cons_succ]
            refine wpAnyH_take (i := 3) (oi := ?oz21) (v := ?vz21) ?iz21 (by kernel_rfl) (by kernel_rfl) (by kernel_rfl) ?qz21 (Or.inl ⟨?gz21, ?hz21⟩) (by assumption) ?rz21
            case iz21 => (simp only [List.getElem?_toArray, List.getElem?_cons_zero, List.getElem?_cons_succ]; rfl)
            case qz21 => exact fun _ _ _ h => h
            case gz21 => rfl
            case hz21 => (intro w hSw; (simp only [Holds] at hSw); go_simp <;> with_reducible rfl)
            simp only [Act.put, List.setIfInBounds_toArray, List.set_cons_zero, List.set_cons_succ]
            refine wpAnyH_take (i := 4) (oi := ?oz22) (v := ?vz22) ?iz22 (by kernel_rfl) (by kernel_rfl) (by kernel_rfl) ?qz22 (Or.inl ⟨?gz22, ?hz22⟩) (by assumption) ?rz22
            case iz22 => (simp only [List.getElem?_toArray, List.getElem?_cons_zero, List.getElem?_cons_succ]; rfl)
            case qz22 => exact fun _ _ _ h => h
            case gz22 => rfl
            case hz22 => (intro w hSw; (simp only [Holds] at hSw); go_simp <;> with_reducible rfl)
            simp only [Act.put, List.setIfInBounds_toArray, List.set_cons_zero, List.set_cons_succ]
            refine wpAnyH_take (i := 5) (oi := ?oz23) (v := ?vz23) ?iz23 (by kernel_rfl) (by kernel_rfl) (by kernel_rfl) ?qz23 (Or.inl ⟨?gz23, ?hz23⟩) (by assumption) ?rz23
            case iz23 => (simp only [List.getElem?_toArray, List.getElem?_cons_zero, List.getElem?_cons_succ]; rfl)
            case qz23 => exact fun _ _ _ h => h
            case gz23 => rfl
            case hz23 => (intro w hSw; (simp only [Holds] at hSw); go_simp <;> with_reducible rfl)
            simp only [Act.put, List.setIfInBounds_toArray, List.set_cons_zero, List.set_cons_succ]
            refine wpAnyH_take (i := 6) (oi := ?oz24) (v := ?vz24) ?iz24 (by kernel_rfl) (by kernel_rfl) (by kernel_rfl) ?qz24 (Or.inl ⟨?gz24, ?hz24⟩) (by assumption) ?rz24
            case iz24 => (simp only [List.getElem?_toArray, List.getElem?_cons_zero, List.getElem?_cons_succ]; rfl)
            case qz24 => exact fun _ _ _ h => h
            case gz24 => rfl
            case hz24 => (intro w hSw; (simp only [Holds] at hSw); go_simp <;> with_reducible rfl)
            simp only [Act.put, List.setIfInBounds_toArray, List.set_cons_zero, List.set_cons_succ]
            refine wpAnyH_take (i := 7) (oi := ?oz25) (v := ?vz25) ?iz25 (by kernel_rfl) (by kernel_rfl) (by kernel_rfl) ?qz25 (Or.inl ⟨?gz25, ?hz25⟩) (by assumption) ?rz25
            case iz25 => (simp only [List.getElem?_toArray, List.getElem?_cons_zero, List.getElem?_cons_succ]; rfl)
            case qz25 => exact fun _ _ _ h => h
            case gz25 => rfl
            case hz25 => (intro w hSw; (simp only [Holds] at hSw); go_simp <;> with_reducible rfl)
            simp only [Act.put, List.setIfInBounds_toArray, List.set_cons_zero, List.set_cons_succ]
            refine wpAnyH_take (i := 8) (oi := ?oz26) (v := ?vz26) ?iz26 (by kernel_rfl) (by kernel_rfl) (by kernel_rfl) ?qz26 (Or.inl ⟨?gz26, ?hz26⟩) (by assumption) ?rz26
            case iz26 => (simp only [List.getElem?_toArray, List.getElem?_cons_zero, List.getElem?_cons_succ]; rfl)
            case qz26 => exact fun _ _ _ h => h
            case gz26 => rfl
            case hz26 => (intro w hSw; (simp only [Holds] at hSw); go_simp <;> with_reducible rfl)
            simp only [Act.put, List.setIfInBounds_toArray, List.set_cons_zero, List.set_cons_succ]
            refine wpAnyH_take (i := 9) (oi := ?oz27) (v := ?vz27) ?iz27 (by kernel_rfl) (by kernel_rfl) (by kernel_rfl) ?qz27 (Or.inl ⟨?gz27, ?hz27⟩) (by assumption) ?rz27
            case iz27 => (simp only [List.getElem?_toArray, List.getElem?_cons_zero, List.getElem?_cons_succ]; rfl)
            case qz27 => exact fun _ _ _ h => h
            case gz27 => rfl
            case hz27 => (intro w hSw; (simp only [Holds] at hSw); go_simp <;> with_reducible rfl)
            simp only [Act.put, List.setIfInBounds_toArray, List.set_cons_zero, List.set_cons_succ]
            refine wpAnyH_take (i := 10) (oi := ?oz28) (v := ?vz28) ?iz28 (by kernel_rfl) (by kernel_rfl) (by kernel_rfl) ?qz28 (Or.inl ⟨?gz28, ?hz28⟩) (by assumption) ?rz28
            case iz28 => (simp only [List.getElem?_toArray, List.getElem?_cons_zero, List.getElem?_cons_succ]; rfl)
            case qz28 => exact fun _ _ _ h => h
            case gz28 => rfl
            case hz28 => (intro w hSw; (simp only [Holds] at hSw); go_simp <;> with_reducible rfl)
            simp only [Act.put, List.setIfInBounds_toArray, List.set_cons_zero, List.set_cons_succ]
            refine wpAnyH_take (i := 11) (oi := ?oz29) (v := ?vz29) ?iz29 (by kernel_rfl) (by kernel_rfl) (by kernel_rfl) ?qz29 (Or.inl ⟨?gz29, ?hz29⟩) (by assumption) ?rz29
            case iz29 => (simp only [List.getElem?_toArray, List.getElem?_cons_zero, List.getElem?_cons_succ]; rfl)
            case qz29 => exact fun _ _ _ h => h
            case gz29 => rfl
            case hz29 => (intro w hSw; (simp only [Holds] at hSw); go_simp <;> with_reducible rfl)
            simp only [Act.put, List.setIfInBounds_toArray, List.set_cons_zero, List.set_cons_succ]
            refine wpAnyH_take (i := 12) (oi := ?oz30) (v := ?vz30) ?iz30 (by kernel_rfl) (by kernel_rfl) (by kernel_rfl) ?qz30 (Or.inl ⟨?gz30, ?hz30⟩) (by assumption) ?rz30
            case iz30 => (simp only [List.getElem?_toArray, List.getElem?_cons_zero, List.getElem?_cons_succ]; rfl)
            case qz30 => exact fun _ _ _ h => h
            case gz30 => rfl
            case hz30 => (intro w hSw; (simp only [Holds] at hSw); go_simp <;> with_reducible rfl)
            simp only [Act.put, List.setIfInBounds_toArray, List.set_cons_zero, List.set_cons_succ]
            refine wpAnyH_take (i := 13) (oi := ?oz31) (v := ?vz31) ?iz31 (by kernel_rfl) (by kernel_rfl) (by kernel_rfl) ?qz31 (Or.inl ⟨?gz31, ?hz31⟩) (by assumption) ?rz31
            case iz31 => (simp only [List.getElem?_toArray, List.getElem?_cons_zero, List.getElem?_cons_succ]; rfl)
            case qz31 => exact fun _ _ _ h => h
            case gz31 => rfl
            case hz31 => (intro w hSw; (simp only [Holds] at hSw); go_simp <;> with_reducible rfl)
            simp only [Act.put, List.setIfInBounds_toArray, List.set_cons_zero, List.set_cons_succ]
            refine wpAnyH_take (i := 14) (oi := ?oz32) (v := ?vz32) ?iz32 (by kernel_rfl) (by kernel_rfl) (by kernel_rfl) ?qz32 (Or.inl ⟨?gz32, ?hz32⟩) (by assumption) ?rz32
            case iz32 => (simp only [List.getElem?_toArray, List.getElem?_cons_zero, List.getElem?_cons_succ]; rfl)
            case qz32 => exact fun _ _ _ h => h
            case gz32 => rfl
            case hz32 => (intro w hSw; (simp only [Holds] at hSw); go_simp <;> with_reducible rfl)
            simp only [Act.put, List.setIfInBounds_toArray, List.set_cons_zero, List.set_cons_succ]
            refine wpAnyH_take (i := 15) (oi := ?oz33) (v := ?vz33) ?iz33 (by kernel_rfl) (by kernel_rfl) (by kernel_rfl) ?qz33 (Or.inl ⟨?gz33, ?hz33⟩) (by assumption) ?rz33
            case iz33 => (simp only [List.getElem?_toArray, List.getElem?_cons_zero, List.getElem?_cons_succ]; rfl)
            case qz33 => exact fun _ _ _ h => h
            case gz33 => rfl
            case hz33 => (intro w hSw; (simp only [Holds] at hSw); go_simp <;> with_reducible rfl)
            simp only [Act.put, List.setIfInBounds_toArray, List.set_cons_zero, List.set_cons_succ]
            refine wpAnyH_take (i := 16) (oi := ?oz34) (v := ?vz34) ?iz34 (by kernel_rfl) (by kernel_rfl) (by kernel_rfl) ?qz34 (Or.inl ⟨?gz34, ?hz34⟩) (by assumption) ?rz34
            case iz34 => (simp only [List.getElem?_toArray, List.getElem?_cons_zero, List.getElem?_cons_succ]; rfl)
            case qz34 => exact fun _ _ _ h => h
            case gz34 => rfl
            case hz34 => (intro w hSw; (simp only [Holds] at hSw); go_simp <;> with_reducible rfl)
            simp only [Act.put, List.setIfInBounds_toArray, List.set_cons_zero, List.set_cons_succ]
            refine wpAnyH_take (i := 17) (oi := ?oz35) (v := ?vz35) ?iz35 (by kernel_rfl) (by kernel_rfl) (by kernel_rfl) ?qz35 (Or.inl ⟨?gz35, ?hz35⟩) (by assumption) ?rz35
            case iz35 => (simp only [List.getElem?_toArray, List.getElem?_cons_zero, List.getElem?_cons_succ]; rfl)
            case qz35 => exact fun _ _ _ h => h
            case gz35 => rfl
            case hz35 => (intro w hSw; (simp only [Holds] at hSw); go_simp <;> with_reducible rfl)
            simp only [Act.put, List.setIfInBounds_toArray, List.set_cons_zero, List.set_cons_succ]
            refine wpAnyH_take (i := 18) (oi := ?oz36) (v := ?vz36) ?iz36 (by kernel_rfl) (by kernel_rfl) (by kernel_rfl) ?qz36 (Or.inl ⟨?gz36, ?hz36⟩) (by assumption) ?rz36
            case iz36 => (simp only [List.getElem?_toArray, List.getElem?_cons_zero, List.getElem?_cons_succ]; rfl)
            case qz36 => exact fun _ _ _ h => h
            case gz36 => rfl
            case hz36 => (intro w hSw; (simp only [Holds] at hSw); go_simp <;> with_reducible rfl)
            simp only [Act.put, List.setIfInBounds_toArray, List.set_cons_zero, List.set_cons_succ]
            refine wpAnyH_take (i := 19) (oi := ?oz37) (v := ?vz37) ?iz37 (by kernel_rfl) (by kernel_rfl) (by kernel_rfl) ?qz37 (Or.inl ⟨?gz37, ?hz37⟩) (by assumption) ?rz37
            case iz37 => (simp only [List.getElem?_toArray, List.getElem?_cons_zero, List.getElem?_cons_succ]; rfl)
            case qz37 => exact fun _ _ _ h => h
            case gz37 => rfl
            case hz37 => (intro w hSw; (simp only [Holds] at hSw); go_simp <;> with_reducible rfl)
            simp only [Act.put, List.setIfInBounds_toArray, List.set_cons_zero, List.set_cons_succ]
            refine wpAnyH_take (i := 20) (oi := ?oz38) (v := ?vz38) ?iz38 (by kernel_rfl) (by kernel_rfl) (by kernel_rfl) ?qz38 (Or.inl ⟨?gz38, ?hz38⟩) (by assumption) ?rz38
            case iz38 => (simp only [List.getElem?_toArray, List.getElem?_cons_zero, List.getElem?_cons_succ]; rfl)
            case qz38 => exact fun _ _ _ h => h
            case gz38 => rfl
            case hz38 => (intro w hSw; (simp only [Holds] at hSw); go_simp <;> with_reducible rfl)
            simp only [Act.put, List.setIfInBounds_toArray, List.set_cons_zero, List.set_cons_succ]
            refine wpAnyH_take (i := 21) (oi := ?oz39) (v := ?vz39) ?iz39 (by kernel_rfl) (by kernel_rfl) (by kernel_rfl) ?qz39 (Or.inl ⟨?gz39, ?hz39⟩) (by assumption) ?rz39
            case iz39 => (simp only [List.getElem?_toArray, List.getElem?_cons_zero, List.getElem?_cons_succ]; rfl)
            case qz39 => exact fun _ _ _ h => h
            case gz39 => rfl
            case hz39 => (intro w hSw; (simp only [Holds] at hSw); go_simp <;> with_reducible rfl)
            simp only [Act.put, List.setIfInBounds_toArray, List.set_cons_zero, List.set_cons_succ]
            refine wpAnyH_take (i := 22) (oi := ?oz40) (v := ?vz40) ?iz40 (by kernel_rfl) (by kernel_rfl) (by kernel_rfl) ?qz40 (Or.inl ⟨?gz40, ?hz40⟩) (by assumption) ?rz40
            case iz40 => (simp only [List.getElem?_toArray, List.getElem?_cons_zero, List.getElem?_cons_succ]; rfl)
            case qz40 => exact fun _ _ _ h => h
            case gz40 => rfl
            case hz40 => (intro w hSw; (simp only [Holds] at hSw); go_simp <;> with_reducible rfl)
            simp only [Act.put, List.setIfInBounds_toArray, List.set_cons_zero, List.set_cons_succ]
            refine wpAnyH_take (i := 23) (oi := ?oz41) (v := ?vz41) ?iz41 (by kernel_rfl) (by kernel_rfl) (by kernel_rfl) ?qz41 (Or.inl ⟨?gz41, ?hz41⟩) (by assumption) ?rz41
            case iz41 => (simp only [List.getElem?_toArray, List.getElem?_cons_zero, List.getElem?_cons_succ]; rfl)
            case qz41 => exact fun _ _ _ h => h
            case gz41 => rfl
            case hz41 => (intro w hSw; (simp only [Holds] at hSw); go_simp <;> with_reducible rfl)
            simp only [Act.put, List.setIfInBounds_toArray, List.set_cons_zero, List.set_cons_succ]
            refine wpAnyH_take (i := 24) (oi := ?oz42) (v := ?vz42) ?iz42 (by kernel_rfl) (by kernel_rfl) (by kernel_rfl) ?qz42 (Or.inl ⟨?gz42, ?hz42⟩) (by assumption) ?rz42
            case iz42 => (simp only [List.getElem?_toArray, List.getElem?_cons_zero, List.getElem?_cons_succ]; rfl)
            case qz42 => exact fun _ _ _ h => h
            case gz42 => rfl
            case hz42 => (intro w hSw; (simp only [Holds] at hSw); go_simp <;> with_reducible rfl)
            simp only [Act.put, List.setIfInBounds_toArray, List.set_cons_zero, List.set_cons_succ]
            refine wpAnyH_take (i := 25) (oi := ?oz43) (v := ?vz43) ?iz43 (by kernel_rfl) (by kernel_rfl) (by kernel_rfl) ?qz43 (Or.inl ⟨?gz43, ?hz43⟩) (by assumption) ?rz43
            case iz43 => (simp only [List.getElem?_toArray, List.getElem?_cons_zero, List.getElem?_cons_succ]; rfl)
            case qz43 => exact fun _ _ _ h => h
            case gz43 => rfl
            case hz43 => (intro w hSw; (simp only [Holds] at hSw); go_simp <;> with_reducible rfl)
            simp only [Act.put, List.setIfInBounds_toArray, List.set_cons_zero, List.set_cons_succ]
            refine wpAnyH_take (i := 26) (oi := ?oz44) (v := ?vz44) ?iz44 (by kernel_rfl) (by kernel_rfl) (by kernel_rfl) ?qz44 (Or.inl ⟨?gz44, ?hz44⟩) (by assumption) ?rz44
            case iz44 => (simp only [List.getElem?_toArray, List.getElem?_cons_zero, List.getElem?_cons_succ]; rfl)
            case qz44 => exact fun _ _ _ h => h
            case gz44 => rfl
            case hz44 => (intro w hSw; (simp only [Holds] at hSw); go_simp <;> with_reducible rfl)
            simp only [Act.put, List.setIfInBounds_toArray, List.set_cons_zero, List.set_cons_succ]
            refine wpAnyH_take (i := 27) (oi := ?oz45) (v := ?vz45) ?iz45 (by kernel_rfl) (by kernel_rfl) (by kernel_rfl) ?qz45 (Or.inl ⟨?gz45, ?hz45⟩) (by assumption) ?rz45
            case iz45 => (simp only [List.getElem?_toArray, List.getElem?_cons_zero, List.getElem?_cons_succ]; rfl)
            case qz45 => exact fun _ _ _ h => h
            case gz45 => rfl
            case hz45 => (intro w hSw; (simp only [Holds] at hSw); go_simp <;> with_reducible rfl)
            simp only [Act.put, List.setIfInBounds_toArray, List.set_cons_zero, List.set_cons_succ]
            refine wpAnyH_take (i := 28) (oi := ?oz46) (v := ?vz46) ?iz46 (by kernel_rfl) (by kernel_rfl) (by kernel_rfl) ?qz46 (Or.inl ⟨?gz46, ?hz46⟩) (by assumption) ?rz46
            case iz46 => (simp only [List.getElem?_toArray, List.getElem?_cons_zero, List.getElem?_cons_succ]; rfl)
            case qz46 => exact fun _ _ _ h => h
            case gz46 => rfl
            case hz46 => (intro w hSw; (simp only [Holds] at hSw); go_simp <;> with_reducible rfl)
            simp only [Act.put, List.setIfInBounds_toArray, List.set_cons_zero, List.set_cons_succ]
            refine wpAnyH_take (i := 29) (oi := ?oz47) (v := ?vz47) ?iz47 (by kernel_rfl) (by kernel_rfl) (by kernel_rfl) ?qz47 (Or.inl ⟨?gz47, ?hz47⟩) (by assumption) ?rz47
            case iz47 => (simp only [List.getElem?_toArray, List.getElem?_cons_zero, List.getElem?_cons_succ]; rfl)
            case qz47 => exact fun _ _ _ h => h
            case gz47 => rfl
            case hz47 => (intro w hSw; (simp only [Holds] at hSw); go_simp <;> with_reducible rfl)
            simp only [Act.put, List.setIfInBounds_toArray, List.set_cons_zero, List.set_cons_succ]
            refine wpAnyH_take (i := 30) (oi := ?oz48) (v := ?vz48) ?iz48 (by kernel_rfl) (by kernel_rfl) (by kernel_rfl) ?qz48 (Or.inl ⟨?gz48, ?hz48⟩) (by assumption) ?rz48
            case iz48 => (simp only [List.getElem?_toArray, List.getElem?_cons_zero, List.getElem?_cons_succ]; rfl)
            case qz48 => exact fun _ _ _ h => h
            case gz48 => rfl
            case hz48 => (intro w hSw; (simp only [Holds] at hSw); go_simp <;> with_reducible rfl)
            simp only [Act.put, List.setIfInBounds_toArray, List.set_cons_zero, List.set_cons_succ]
            refine wpAnyH_take (i := 31) (oi := ?oz49) (v := ?vz49) ?iz49 (by kernel_rfl) (by kernel_rfl) (by kernel_rfl) ?qz49 (Or.inl ⟨?gz49, ?hz49⟩) (by assumption) ?rz49
            case iz49 => (simp only [List.getElem?_toArray, List.getElem?_cons_zero, List.getElem?_cons_succ]; rfl)
            case qz49 => exact fun _ _ _ h => h
            case gz49 => rfl
            case hz49 => (intro w hSw; (simp only [Holds] at hSw); go_simp <;> with_reducible rfl)
            simp only [Act.put, List.setIfInBounds_toArray, List.set_cons_zero, List.set_cons_succ]
            refine wpAnyH_take (i := 32) (oi := ?oz50) (v := ?vz50) ?iz50 (by kernel_rfl) (by kernel_rfl) (by kernel_rfl) ?qz50 (Or.inl ⟨?gz50, ?hz50⟩) (by assumption) ?rz50
            case iz50 => (simp only [List.getElem?_toArray, List.getElem?_cons_zero, List.getElem?_cons_succ]; rfl)
            case qz50 => exact fun _ _ _ h => h
            case gz50 => rfl
            case hz50 => (intro w hSw; (simp only [Holds] at hSw); go_simp <;> with_reducible rfl)
            simp only [Act.put, List.setIfInBounds_toArray, List.set_cons_zero, List.set_cons_succ]
            refine wpAnyH_take (i := 33) (oi := ?oz51) (v := ?vz51) ?iz51 (by kernel_rfl) (by kernel_rfl) (by kernel_rfl) ?qz51 (Or.inl ⟨?gz51, ?hz51⟩) (by assumption) ?rz51
            case iz51 => (simp only [List.getElem?_toArray, List.getElem?_cons_zero, List.getElem?_cons_succ]; rfl)
            case qz51 => exact fun _ _ _ h => h
            case gz51 => rfl
            case hz51 => (intro w hSw; (simp only [Holds] at hSw); go_simp <;> with_reducible rfl)
            simp only [Act.put, List.setIfInBounds_toArray, List.set_cons_zero, List.set_cons_succ]
            refine wpAnyH_take (i := 34) (oi := ?oz52) (v := ?vz52) ?iz52 (by kernel_rfl) (by kernel_rfl) (by kernel_rfl) ?qz52 (Or.inl ⟨?gz52, ?hz52⟩) (by assumption) ?rz52
            case iz52 => (simp only [List.getElem?_toArray, List.getElem?_cons_zero, List.getElem?_cons_succ]; rfl)
            case qz52 => exact fun _ _ _ h => h
            case gz52 => rfl
            case hz52 => (intro w hSw; (simp only [Holds] at hSw); go_simp <;> with_reducible rfl)
            simp only [Act.put, List.setIfInBounds_toArray, List.set_cons_zero, List.set_cons_succ]
            refine wpAnyH_take (i := 35) (oi := ?oz53) (v := ?vz53) ?iz53 (by kernel_rfl) (by kernel_rfl) (by kernel_rfl) ?qz53 (Or.inl ⟨?gz53, ?hz53⟩) (by assumption) ?rz53
            case iz53 => (simp only [List.getElem?_toArray, List.getElem?_cons_zero, List.getElem?_cons_succ]; rfl)
            case qz53 => exact fun _ _ _ h => h
            case gz53 => rfl
            case hz53 => (intro w hSw; (simp only [Holds] at hSw); go_simp <;> with_reducible rfl)
            simp only [Act.put, List.setIfInBounds_toArray, List.set_cons_zero, List.set_cons_succ]
            refine wpAnyH_take (i := 36) (oi := ?oz54) (v := ?vz54) ?iz54 (by kernel_rfl) (by kernel_rfl) (by kernel_rfl) ?qz54 (Or.inl ⟨?gz54, ?hz54⟩) (by assumption) ?rz54
            case iz54 => (simp only [List.getElem?_toArray, List.getElem?_cons_zero, List.getElem?_cons_succ]; rfl)
            case qz54 => exact fun _ _ _ h => h
            case gz54 => rfl
            case hz54 => (intro w hSw; (simp only [Holds] at hSw); go_simp <;> with_reducible rfl)
            simp only [Act.put, List.setIfInBounds_toArray, List.set_cons_zero, List.set_cons_succ]
            refine wpAnyH_take (i := 37) (oi := ?oz55) (v := ?vz55) ?iz55 (by kernel_rfl) (by kernel_rfl) (by kernel_rfl) ?qz55 (Or.inl ⟨?gz55, ?hz55⟩) (by assumption) ?rz55
            case iz55 => (simp only [List.getElem?_toArray, List.getElem?_cons_zero, List.getElem?_cons_succ]; rfl)
            case qz55 => exact fun _ _ _ h => h
            case gz55 => rfl
            case hz55 => (intro w hSw; (simp only [Holds] at hSw); go_simp <;> with_reducible rfl)
            simp only [Act.put, List.setIfInBounds_toArray, List.set_cons_zero, List.set_cons_succ]
            refine wpAnyH_take (i := 38) (oi := ?oz56) (v := ?vz56) ?iz56 (by kernel_rfl) (by kernel_rfl) (by kernel_rfl) ?qz56 (Or.inl ⟨?gz56, ?hz56⟩) (by assumption) ?rz56
            case iz56 => (simp only [List.getElem?_toArray, List.getElem?_cons_zero, List.getElem?_cons_succ]; rfl)
            case qz56 => exact fun _ _ _ h => h
            case gz56 => rfl
            case hz56 => (intro w hSw; (simp only [Holds] at hSw); go_simp <;> with_reducible rfl)
            simp only [Act.put, List.setIfInBounds_toArray, List.set_cons_zero, List.set_cons_succ]
            refine wpAnyH_ready (rs := [1, 39]) (by kernel_rfl) (by simp) ?_
            refine (AllReadyH.cons (o := ?oz57) ?iz57 (fun K hK => ?kz57) (AllReadyH.cons (o := ?oz58) ?iz58 (fun K hK => ?kz58) AllReadyH.nil))
            case iz57 => (simp only [List.getElem?_toArray, List.getElem?_cons_zero, List.getElem?_cons_succ]; rfl)
            case iz58 => (simp only [List.getElem?_toArray, List.getElem?_cons_zero, List.getElem?_cons_succ]; rfl)
            · go_simp
              refine held_more hK HS0.out hlt Bc.out (fun Bc hSn => ?_)
              refine wpAnyH_ready (rs := [39]) (by kernel_rfl) (by simp) ?_
              refine AllReadyH.cons (o := ?oz59) ?iz59 (fun K hK => ?kz59) AllReadyH.nil
              case iz59 => (simp only [List.getElem?_toArray, List.getElem?_cons_zero, List.getElem?_cons_succ]; rfl)
              go_simp
              refine held_more hK HS0.out hlt (Bc.out.alloc Bc.out.size _) (fun Bc hSn => ?_)
              refine wpAnyH_ready (rs := [40]) (by kernel_rfl) (by simp) ?_
              refine (AllReadyH.cons (o := ?oz60) ?iz60 (fun K hK => ?kz60) AllReadyH.nil)
              case iz60 => (simp only [List.getElem?_toArray, List.getElem?_cons_zero, List.getElem?_cons_succ]; rfl)
              simp only [Act.put, List.setIfInBounds_toArray, List.set_cons_zero, List.set_cons_succ]
              rw [if_pos (by rfl)]
              refine wp_append_lies _ _ _ _ (by rfl) (w1.heap.size + 1) 36 i0 _ 6 48 Tryd.underlying24 hi hz0 hz1 hz2 rfl (by decide) v l.length (flat l) (by rfl) HX.out.own ⟨wr.heap.size, 0, none⟩ 1 1 (rowV t) (by rfl) rfl (news_row t) (rowV_one t) (by decide) (by unfold maxLen; omega) (by omega) HX.out.size _ rfl ?_
              intro g cp w3 hown hgrow _ _
              have HN := Lib.hid (HX.out.next (ownS_more hown) hgrow)
              obtain ⟨y3, y4⟩ := HX.out.grown hgrow
              have hrow : ∀ q, v.ownBlock = some q → w1.heap.size + 1 ≤ q := fun q hq => (World.ownsRow.lt HX.out.own q hq).1
              have HYN := Lib.hid (show ZBox (w.heap.size + 1) (w3.setCell ⟨w1.heap.size, 3, none⟩ (.slice (some ⟨g, 0, none⟩) (l.length + 1) cp)) from by
                unfold ZBox
                rw [heap_setCell_other w3 ⟨w1.heap.size, 3, none⟩ (w.heap.size + 1) _ (by simp; omega), hgrow.block (w.heap.size + 1) (by simp; omega) (fun e => by have := hrow _ e.symm; omega)]
                exact HYX.out)
              have HBN := Lib.hid ((HBX.out.grown hgrow (by simp; omega) (fun q hq => by have := hrow q hq; omega)).setCell (p := ⟨w1.heap.size, 3, none⟩) (Nat.le_refl _) (.slice (some ⟨g, 0, none⟩) (l.length + 1) cp))
              refine hK.out _ _ (Holds.grown hgrow (by simp; omega) (fun q hq => by have := hrow q hq; omega) hSn hlt2.out) (fun hSn => ?_)
              clear hown hgrow x3 hrow
              refine wpAnyH_take (i := 41) (oi := ?oz61) (v := ?vz61) ?iz61 (by kernel_rfl) (by kernel_rfl) (by kernel_rfl) ?qz61 (Or.inl ⟨?gz61, ?hz61⟩) (by assumption) ?rz61
              case iz61 => (simp only [List.getElem?_toArray, List.getElem?_cons_zero, List.getElem?_cons_succ]; rfl)
              case qz61 => exact fun _ _ _ h => h
              case gz61 => rfl
              case hz61 => (intro w hSw; (simp only [Holds] at hSw); go_simp <;> with_reducible rfl)
              simp only [Act.put, List.setIfInBounds_toArray, List.set_cons_zero, List.set_cons_succ]
              refine wpAnyH_ready (rs := [42]) (by kernel_rfl) (by simp) ?_
              refine (AllReadyH.cons (o := ?oz62) ?iz62 (fun K hK => ?kz62) AllReadyH.nil)
              case iz62 => (simp only [List.getElem?_toArray, List.getElem?_cons_zero, List.getElem?_cons_succ]; rfl)
              go_simp
              refine hK.out _ _ (Holds.set (Nat.le_refl _) hSn hlt2.out) (fun hSn => ?_)
              refine wpAnyH_done (by kernel_rfl) ?_ _
              go_wp2
              go_roundw
              case rel => exact ⟨k + 1, _, by omega, by omega, by go_num, by rw [show k + 1 - 1 = k by omega, ← HST.out]; exact HN.out, HYN.out, HBN.out, HA6.out⟩
              case measure => simp [intOf]; omega
            · go_simp
              refine held_more hK HS0.out hlt (Bc.out.alloc Bc.out.size _) (fun Bc hSn => ?_)
              have x3 : (wr.alloc (.cells #[.int .i64 t.x, .int .i64 t.y, .int .i64 t.d, .int .i64 t.r, .int .i64 t.u, .int .i64 t.s] 36)).drew.cell? ⟨w1.heap.size, 3, none⟩ = some v := HX.out.cell 3
              refine wpAnyH_ready (rs := [1]) (by kernel_rfl) (by simp) ?_
              refine (AllReadyH.cons (o := ?oz63) ?iz63 (fun K hK => ?kz63) AllReadyH.nil)
              case iz63 => (simp only [List.getElem?_toArray, List.getElem?_cons_zero, List.getElem?_cons_succ]; rfl)
              go_simp
              refine held_more hK HS0.out hlt Bc.out (fun Bc hSn => ?_)
              refine wpAnyH_ready (rs := [40]) (by kernel_rfl) (by simp) ?_
              refine (AllReadyH.cons (o := ?oz64) ?iz64 (fun K hK => ?kz64) AllReadyH.nil)
              case iz64 => (simp only [List.getElem?_toArray, List.getElem?_cons_zero, List.getElem?_cons_succ]; rfl)
              simp only [Act.put, List.setIfInBounds_toArray, List.set_cons_zero, List.set_cons_succ]
              rw [if_pos (by rfl)]
              refine wp_append_lies _ _ _ _ (by rfl) (w1.heap.size + 1) 36 i0 _ 6 48 Tryd.underlying24 hi hz0 hz1 hz2 rfl (by decide) v l.length (flat l) (by rfl) HX.out.own ⟨wr.heap.size, 0, none⟩ 1 1 (rowV t) (by rfl) rfl (news_row t) (rowV_one t) (by decide) (by unfold maxLen; omega) (by omega) HX.out.size _ rfl ?_
              intro g cp w3 hown hgrow _ _
              have HN := Lib.hid (HX.out.next (ownS_more hown) hgrow)
              obtain ⟨y3, y4⟩ := HX.out.grown hgrow
              have hrow : ∀ q, v.ownBlock = some q → w1.heap.size + 1 ≤ q := fun q hq => (World.ownsRow.lt HX.out.own q hq).1
              have HYN := Lib.hid (show ZBox (w.heap.size + 1) (w3.setCell ⟨w1.heap.size, 3, none⟩ (.slice (some ⟨g, 0, none⟩) (l.length + 1) cp)) from by
                unfold ZBox
                rw [heap_setCell_other w3 ⟨w1.heap.size, 3, none⟩ (w.heap.size + 1) _ (by simp; omega), hgrow.block (w.heap.size + 1) (by simp; omega) (fun e => by have := hrow _ e.symm; omega)]
                exact HYX.out)
              have HBN := Lib.hid ((HBX.out.grown hgrow (by simp; omega) (fun q hq => by have := hrow q hq; omega)).setCell (p := ⟨w1.heap.size, 3, none⟩) (Nat.le_refl _) (.slice (some ⟨g, 0, none⟩) (l.length + 1) cp))
              refine hK.out _ _ (Holds.grown hgrow (by simp; omega) (fun q hq => by have := hrow q hq; omega) hSn hlt2.out) (fun hSn => ?_)
              clear hown hgrow x3 hrow
              refine wpAnyH_take (i := 41) (oi := ?oz65) (v := ?vz65) ?iz65 (by kernel_rfl) (by kernel_rfl) (by kernel_rfl) ?qz65 (Or.inl ⟨?gz65, ?hz65⟩) (by assumption) ?rz65
              case iz65 => (simp only [List.getElem?_toArray, List.getElem?_cons_zero, List.getElem?_cons_succ]; rfl)
              case qz65 => exact fun _ _ _ h => h
              case gz65 => rfl
              case hz65 => (intro w hSw; (simp only [Holds] at hSw); go_simp <;> with_reducible rfl)
              simp only [Act.put, List.setIfInBounds_toArray, List.set_cons_zero, List.set_cons_succ]
              refine wpAnyH_ready (rs := [42]) (by kernel_rfl) (by simp) ?_
              refine (AllReadyH.cons (o := ?oz66) ?iz66 (fun K hK => ?kz66) AllReadyH.nil)
              case iz66 => (simp only [List.getElem?_toArray, List.getElem?_cons_zero, List.getElem?_cons_succ]; rfl)
              go_simp
              refine hK.out _ _ (Holds.set (Nat.le_refl _) hSn hlt2.out) (fun hSn => ?_)
              refine wpAnyH_done (by kernel_rfl) ?_ _
              go_wp2
              go_roundw
              case rel => exact ⟨k + 1, _, by omega, by omega, by go_num, by rw [show k + 1 - 1 = k by omega, ← HST.out]; exact HN.out, HYN.out, HBN.out, HA6.out⟩
              case measure => simp [intOf]; omega
          · have HP := Lib.hid (HP2.out (wf_no2 (L := L) k hk1 hlt3 (by rw [← HN2.out]; exact h6)))
            have d6 : ((n2 : Int) != 6) = true := by simp; omega
            have HZ3 := Lib.hid HF.out.z
            have HB3 := Lib.hid HF.out.bel
            clear h6 r2
            have z0 : wr.cell? ⟨w.heap.size, 0, none⟩ = some (.int .i64 0) := HZ3.out.cell 0
            have z1 : wr.cell? ⟨w.heap.size, 1, none⟩ = some (.int .i64 0) := HZ3.out.cell 1
            have z2 : wr.cell? ⟨w.heap.size, 2, none⟩ = some (.int .i64 0) := HZ3.out.cell 2
            have z3 : wr.cell? ⟨w.heap.size, 3, none⟩ = some (.slice none 0 0) := HZ3.out.cell 3
            have f0 := HZ3.out.free 0
            have f1 := HZ3.out.free 1
            have f2 := HZ3.out.free 2
            have f3 := HZ3.out.free 3
            have y0 : wr.cell? ⟨w.heap.size + 1, 0, none⟩ = some (.int .i64 0) := HYk.out.cell 0
            have y1 : wr.cell? ⟨w.heap.size + 1, 1, none⟩ = some (.int .i64 0) := HYk.out.cell 1
            have y2 : wr.cell? ⟨w.heap.size + 1, 2, none⟩ = some (.int .i64 0) := HYk.out.cell 2
            have y3 : wr.cell? ⟨w.heap.size + 1, 3, none⟩ = some (.slice none 0 0) := HYk.out.cell 3
            go_wp2
            exact bodyPost_ret (v := .tuple #[.agg #[.int .i64 0, .int .i64 0, .int .i64 0, .slice none 0 0], .int .i64 2]) (by simp [results, Tryd.results11, go_sem, z0, z1, z2, z3]) rfl (parsed_bad HP.out (by decide) (by
              repeat' (first | exact HB3.out | (refine Below.setCell ?_ ?_ _) | (simp; omega) | simp)))
        · obtain rfl : k = L.length := by omega
          obtain ⟨va, vc, hv⟩ := HF.out.own.shape
          rw [show (((L.drop 1).take (L.length - 1)).map stpOf).length = L.length - 1 by simp] at hv
          subst hv
          have HWF := Lib.hid (wf_mk hposn HN3.out (fun j h1 h2 => HA.out j h1 h2))
          have HI := Lib.hid (show insOf L = ⟨p, q, r, ((L.drop 1).take (L.length - 1)).map stpOf⟩ by
            unfold insOf; rw [HP.out, List.take_of_length_le (by simp)]; rfl)
          have HI2 := Lib.hid (show ((mayB (insOf L) = true → perr bs = 0 ∧ pins bs = insOf L) ∧ (mayB (insOf L) = false → perr bs = 1)) from
            ⟨fun h => ⟨HP4.out HWF.out h, by unfold pins; rw [if_pos (HP4.out HWF.out h), HRES.out]⟩, fun h => HP3.out HWF.out h⟩)
          have HJ := Lib.hid (show ∀ J : Ins, J = ⟨p, q, r, ((L.drop 1).take (L.length - 1)).map stpOf⟩ → (mayB J = true → perr bs = 0 ∧ pins bs = J) ∧ (mayB J = false → perr bs = 1) from fun J hJ => by rw [← HI.out] at hJ; subst hJ; exact HI2.out)
          have HJ1 := Lib.hid (HJ.out _ rfl)
          have HLL := Lib.hid (show (((L.drop 1).take (L.length - 1)).map stpOf).length = L.length - 1 by simp)
          generalize ((L.drop 1).take (L.length - 1)).map stpOf = l at *
          have x0 : wr.cell? ⟨w1.heap.size, 0, none⟩ = some (.int .i64 p) := HF.out.cell 0
          have x1 : wr.cell? ⟨w1.heap.size, 1, none⟩ = some (.int .i64 q) := HF.out.cell 1
          have x2 : wr.cell? ⟨w1.heap.size, 2, none⟩ = some (.int .i64 r) := HF.out.cell 2
          have x3 : wr.cell? ⟨w1.heap.size, 3, none⟩ = some (.slice va (L.length - 1) vc) := HF.out.cell 3
          clear hlt3 hk HJ HI HI2
          go_wp2_with fail
          change Calls _ _ #[insV ⟨p, q, r, l⟩ (.slice va (L.length - 1) vc)] _ _
          refine (rmay_any (I := ⟨p, q, r, l⟩) HF.out.own.row).mono ?_
          rintro e w3 ⟨rfl, hb⟩
          have HF3 := Lib.hid (HF.out.below hb)
          have HZ3 := Lib.hid HF3.out.z
          have HY3 := Lib.hid (HYk.out.below (by have := HBk.out.size; omega) hb)
          have HB3 := Lib.hid HF3.out.bel
          have x0 : w3.cell? ⟨w1.heap.size, 0, none⟩ = some (.int .i64 p) := HF3.out.cell 0
          have x1 : w3.cell? ⟨w1.heap.size, 1, none⟩ = some (.int .i64 q) := HF3.out.cell 1
          have x2 : w3.cell? ⟨w1.heap.size, 2, none⟩ = some (.int .i64 r) := HF3.out.cell 2
          have x3 : w3.cell? ⟨w1.heap.size, 3, none⟩ = some (.slice va (L.length - 1) vc) := HF3.out.cell 3
          clear hb
          have z0 : w3.cell? ⟨w.heap.size, 0, none⟩ = some (.int .i64 0) := HZ3.out.cell 0
          have z1 : w3.cell? ⟨w.heap.size, 1, none⟩ = some (.int .i64 0) := HZ3.out.cell 1
          have z2 : w3.cell? ⟨w.heap.size, 2, none⟩ = some (.int .i64 0) := HZ3.out.cell 2
          have z3 : w3.cell? ⟨w.heap.size, 3, none⟩ = some (.slice none 0 0) := HZ3.out.cell 3
          have f0 := HZ3.out.free 0
          have f1 := HZ3.out.free 1
          have f2 := HZ3.out.free 2
          have f3 := HZ3.out.free 3
          have y0 : w3.cell? ⟨w.heap.size + 1, 0, none⟩ = some (.int .i64 0) := HY3.out.cell 0
          have y1 : w3.cell? ⟨w.heap.size + 1, 1, none⟩ = some (.int .i64 0) := HY3.out.cell 1
          have y2 : w3.cell? ⟨w.heap.size + 1, 2, none⟩ = some (.int .i64 0) := HY3.out.cell 2
          have y3 : w3.cell? ⟨w.heap.size + 1, 3, none⟩ = some (.slice none 0 0) := HY3.out.cell 3
          cases hmay : mayB ⟨p, q, r, l⟩
          · have HP := Lib.hid (HJ1.out.2 hmay)
            clear hmay
            go_wp2
            exact bodyPost_ret (v := .tuple #[.agg #[.int .i64 0, .int .i64 0, .int .i64 0, .slice none 0 0], .int .i64 1]) (by simp [results, Tryd.results11, go_sem, z0, z1, z2, z3]) rfl (parsed_bad HP.out (by decide) (by
              repeat' (first | exact HB3.out | (refine Below.setCell ?_ ?_ _) | (simp; omega) | simp)))
          · have HP := Lib.hid (HJ1.out.1 hmay)
            clear hmay
            go_wp2
            exact bodyPost_ret (v := .tuple #[.agg #[.int .i64 p, .int .i64 q, .int .i64 r, .slice va (L.length - 1) vc], .int .i64 0]) (by simp [results, Tryd.results11, go_sem, z0, z1, z2, z3]) rfl ⟨.slice va (L.length - 1) vc, by rw [HP.out.1, HP.out.2]; rfl, by
              rw [HP.out.2]
              refine OwnS.less (B := w1.heap.size + 1) ?_ (by omega)
              repeat' (first | exact HF3.out.own | (refine ownsRow_setCell_below ?_ ?_ _) | (simp; omega) | simp), by
              repeat' (first | exact HB3.out | (refine Below.setCell ?_ ?_ _) | (simp; omega) | simp)⟩
    · have HP := Lib.hid (HP2.out (wf_no1 (by rw [← HN.out]; exact h3)))
      have d3 : ((n1 : Int) != 3) = true := by simp; omega
      clear h3 r1
      have z0 : w1.cell? ⟨w.heap.size, 0, none⟩ = some (.int .i64 0) := HZ1.out.cell 0
      have z1 : w1.cell? ⟨w.heap.size, 1, none⟩ = some (.int .i64 0) := HZ1.out.cell 1
      have z2 : w1.cell? ⟨w.heap.size, 2, none⟩ = some (.int .i64 0) := HZ1.out.cell 2
      have z3 : w1.cell? ⟨w.heap.size, 3, none⟩ = some (.slice none 0 0) := HZ1.out.cell 3
      have f0 := HZ1.out.free 0
      have f1 := HZ1.out.free 1
      have f2 := HZ1.out.free 2
      have f3 := HZ1.out.free 3
      have y0 : w1.cell? ⟨w.heap.size + 1, 0, none⟩ = some (.int .i64 0) := HY1.out.cell 0
      have y1 : w1.cell? ⟨w.heap.size + 1, 1, none⟩ = some (.int .i64 0) := HY1.out.cell 1
      have y2 : w1.cell? ⟨w.heap.size + 1, 2, none⟩ = some (.int .i64 0) := HY1.out.cell 2
      have y3 : w1.cell? ⟨w.heap.size + 1, 3, none⟩ = some (.slice none 0 0) := HY1.out.cell 3
      go_wp2
      exact bodyPost_ret (v := .tuple #[.agg #[.int .i64 0, .int .i64 0, .int .i64 0, .slice none 0 0], .int .i64 2]) (by simp [results, Tryd.results11, go_sem, z0, z1, z2, z3]) rfl (parsed_bad HP.out (by decide) (by
        repeat' (first | exact HB1.out | (refine Below.setCell ?_ ?_ _) | (simp; omega) | simp)))
  · have HP := Lib.hid (perr_1 he)
    have hne : (errOf bs != 0) = true := by simp [he]
    have HN := Lib.hid he
    generalize errOf bs = ee at *
    clear he
    have z0 : w1.cell? ⟨w.heap.size, 0, none⟩ = some (.int .i64 0) := HZ1.out.cell 0
    have z1 : w1.cell? ⟨w.heap.size, 1, none⟩ = some (.int .i64 0) := HZ1.out.cell 1
    have z2 : w1.cell? ⟨w.heap.size, 2, none⟩ = some (.int .i64 0) := HZ1.out.cell 2
    have z3 : w1.cell? ⟨w.heap.size, 3, none⟩ = some (.slice none 0 0) := HZ1.out.cell 3
    have f0 := HZ1.out.free 0
    have f1 := HZ1.out.free 1
    have f2 := HZ1.out.free 2
    have f3 := HZ1.out.free 3
    have y0 : w1.cell? ⟨w.heap.size + 1, 0, none⟩ = some (.int .i64 0) := HY1.out.cell 0
    have y1 : w1.cell? ⟨w.heap.size + 1, 1, none⟩ = some (.int .i64 0) := HY1.out.cell 1
    have y2 : w1.cell? ⟨w.heap.size + 1, 2, none⟩ = some (.int .i64 0) := HY1.out.cell 2
    have y3 : w1.cell? ⟨w.heap.size + 1, 3, none⟩ = some (.slice none 0 0) := HY1.out.cell 3
    go_wp2
    exact bodyPost_ret (v := .tuple #[.agg #[.int .i64 0, .int .i64 0, .int .i64 0, .slice none 0 0], .int .i64 ee]) (by simp [results, Tryd.results11, go_sem, z0, z1, z2, z3]) rfl (parsed_bad HP.out HN.out (by
      repeat' (first | exact HB1.out | (refine Below.setCell ?_ ?_ _) | (simp; omega) | simp)))
end Go.Proofs.YtkhlmgkapmofiaaDoor
