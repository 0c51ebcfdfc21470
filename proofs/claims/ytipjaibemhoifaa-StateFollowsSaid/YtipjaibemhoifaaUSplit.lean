/- What tour.Split answers. -/
import Derived.Test.YtipjaibemhoifaaUCut
namespace Go.Proofs.Ytipjaibemhoifaa
open Go.ChangeShapes Go.WideShapes Go.ChangeAt Go.RowKit

set_option maxRecDepth 1000000 in
set_option maxHeartbeats 4000000 in
theorem split_any {w : World} {v : Value} {t : List Int} (h : Row w v (ints t)) (hlen : t.length ≤ 1048576) :
    Calls Try.prog 26 #[v] w fun e w' => ∃ u, e = .returned (.tuple #[planV u, .int .i64 (splitE t)]) ∧ OwnLL w' w.heap.size u (splitR t) ∧ Below w.heap.size w w' := by
  have HB0 := Lib.hid ((Below.refl w.heap.size w).alloc (Nat.le_refl _) (.cells #[.slice none 0 0] 44))
  have H := Lib.hid (h.below ((Below.refl w.heap.size w).alloc (Nat.le_refl _) (.cells #[.slice none 0 0] 44)))
  have HZ := Lib.hid (pbox_new w (.slice none 0 0))
  have HSZ := Lib.hid (show (w.alloc (.cells #[.slice none 0 0] 44)).heap.size = w.heap.size + 1 by simp)
  obtain ⟨ta, tc, rfl, _⟩ := h.form
  rw [ints_len] at *
  clear h
  unfold planV
  go_enter Try.func26, Try.ntmps26
  go_upto_region 1 with fail
  generalize w.alloc (.cells #[.slice none 0 0] 44) = W at *
  have z0 := HZ.out.cell
  have f0 := HZ.out.free 0
  by_cases h0 : t = []
  · have HE := Lib.hid split_nil
    rw [← h0] at HE
    have hl0 : ((t.length : Int) == 0) = true := by rw [h0]; rfl
    have HB2 := Lib.hid (HB0.out.setCell (p := ⟨w.heap.size, 0, none⟩) (Nat.le_refl _) (.slice none 0 0))
    clear h0
    go_wp2
    refine bodyPost_ret (v := .tuple #[.agg #[.slice none 0 0], .int .i64 0]) (by simp [results, Try.results26, go_sem, z0]) rfl ?_
    exact ⟨_, by rw [HE.out.1], by rw [HE.out.2]; exact ownLL_nil _ _, HB2.out⟩
  · have hl0 : ((t.length : Int) == 0) = false := by simpa using h0
    have H0 := Lib.hid h0
    have HC := Lib.hid (formed_any H.out h0)
    obtain ⟨fb, hfb⟩ : ∃ fb, decide (FormT t) = fb := ⟨_, rfl⟩
    rw [hfb] at HC
    have HFB := Lib.hid hfb
    clear h0 hfb
    go_wp2_with fail
    refine HC.out.mono ?_
    rintro e w1 ⟨rfl, rfl⟩
    clear HC
    cases fb with
    | false =>
      have HE := Lib.hid (split_form H0.out (of_decide_eq_false HFB.out))
      have HB2 := Lib.hid (HB0.out.setCell (p := ⟨w.heap.size, 0, none⟩) (Nat.le_refl _) (.slice none 0 0))
      go_wp2
      refine bodyPost_ret (v := .tuple #[.agg #[.slice none 0 0], .int .i64 2]) (by simp [results, Try.results26, go_sem, z0]) rfl ?_
      exact ⟨_, by rw [HE.out.1], by rw [HE.out.2]; exact ownLL_nil _ _, HB2.out⟩
    | true =>
      have HF := Lib.hid ((form_iff H0.out).1 (of_decide_eq_true HFB.out))
      go_wp2_with fail
      refine (cut_any H.out HF.out.1 HF.out.2 hlen).mono ?_
      rintro e w2 ⟨u, rfl, hu, hb⟩
      have HU := Lib.hid hu
      have HB1 := Lib.hid (HB0.out.trans (hb.mono HB0.out.size))
      have HZ2 := Lib.hid (HZ.out.later hb)
      have HSZ2 := Lib.hid (show w.heap.size + 1 ≤ w1.heap.size by have := HSZ.out; omega)
      have HRI := Lib.hid (rising_any hu.is HF.out.2)
      clear hu hb z0 f0
      obtain ⟨rb, hrb⟩ : ∃ rb, decide (RiseL (cutL t)) = rb := ⟨_, rfl⟩
      rw [hrb] at HRI
      have HRB := Lib.hid hrb
      obtain ⟨ua, uc, rfl⟩ := HU.out.shape
      generalize (cutL t).length = un at *
      clear hrb
      go_wp2_with fail
      refine HRI.out.mono ?_
      rintro e w3 ⟨rfl, hb⟩
      have HU3 := Lib.hid (HU.out.below hb)
      have HB3 := Lib.hid (HB1.out.trans (hb.mono HB1.out.size))
      have HZ3 := Lib.hid (HZ2.out.later hb)
      clear hb HRI
      have z0 := HZ3.out.cell
      have f0 := HZ3.out.free 0
      cases rb with
      | false =>
        have HE := Lib.hid (split_order H0.out (of_decide_eq_true HFB.out) (of_decide_eq_false HRB.out))
        have HB4 := Lib.hid (HB3.out.setCell (p := ⟨w.heap.size, 0, none⟩) (Nat.le_refl _) (.slice none 0 0))
        go_wp2
        refine bodyPost_ret (v := .tuple #[.agg #[.slice none 0 0], .int .i64 8]) (by simp [results, Try.results26, go_sem, z0]) rfl ?_
        exact ⟨_, by rw [HE.out.1], by rw [HE.out.2]; exact ownLL_nil _ _, HB4.out⟩
      | true =>
        have HE := Lib.hid (split_fine H0.out (of_decide_eq_true HFB.out) (of_decide_eq_true HRB.out))
        have hgr : w3.grownBy (w3.setCell ⟨w.heap.size, 0, none⟩ (.slice ua un uc)) (some w.heap.size) := ⟨rfl, rfl, rfl, by simp [World.setCell], fun k _ hk => heap_setCell_other w3 ⟨w.heap.size, 0, none⟩ k _ (fun e => hk (by rw [e]))⟩
        have HO4 := Lib.hid ((HU3.out.later hgr (fun g hg => by simp at hg; have := HSZ2.out; omega)).less (B' := w.heap.size) (by have := HSZ2.out; omega))
        have HB4 := Lib.hid (HB3.out.setCell (p := ⟨w.heap.size, 0, none⟩) (Nat.le_refl _) (.slice ua un uc))
        clear hgr
        go_wp2
        refine bodyPost_ret (v := .tuple #[.agg #[.slice ua un uc], .int .i64 0]) (by simp [results, Try.results26, go_sem, z0]) rfl ?_
        exact ⟨_, by rw [HE.out.1], by rw [HE.out.2]; exact HO4.out, HB4.out⟩
end Go.Proofs.Ytipjaibemhoifaa
