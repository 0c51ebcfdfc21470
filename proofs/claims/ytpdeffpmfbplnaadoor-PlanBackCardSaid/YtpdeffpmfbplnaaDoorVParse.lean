/- What Parse answers. -/
import Derived.Test.YtpdeffpmfbplnaaDoorVSameP
import Derived.Test.YtpdeffpmfbplnaaDoorLines
namespace Go.Proofs.YtpdeffpmfbplnaaDoor
open Go.ChangeShapes Go.WideShapes Go.ChangeAt Go.RowKit

def lowLL (L : List (List Int)) : Bool := L.any lowR
theorem lowLL_take {L : List (List Int)} {k : Nat} (hk : k < L.length) : lowLL (L.take (k + 1)) = (lowLL (L.take k) || lowR (L.getD k [])) := by
  rw [take_getD hk]; simp [lowLL]
theorem lowLL_at {L : List (List Int)} {k : Nat} (hk : k < L.length) (h : lowR (L.getD k []) = true) : lowLL L = true := by
  unfold lowLL
  rw [List.any_eq_true]
  refine ⟨L.getD k [], ?_, h⟩
  rw [List.getD_eq_getElem?_getD, List.getElem?_eq_getElem hk]; exact List.getElem_mem hk
def pErr (bs : List Int) : Int := if errOf bs ≠ 0 then errOf bs else if lowLL (resOf bs) = true then 2 else 0
def pRes (bs : List Int) : List (List Int) := if pErr bs = 0 then resOf bs else []
theorem pErr_scan {bs : List Int} (h : errOf bs ≠ 0) : pErr bs = errOf bs ∧ pRes bs = [] := by
  have h1 : pErr bs = errOf bs := by unfold pErr; rw [if_pos h]
  exact ⟨h1, by unfold pRes; rw [if_neg (by rw [h1]; exact h)]⟩
theorem pErr_low {bs : List Int} (h : errOf bs = 0) (hl : lowLL (resOf bs) = true) : pErr bs = 2 ∧ pRes bs = [] := by
  have h1 : pErr bs = 2 := by unfold pErr; rw [if_neg (by simpa using h), if_pos hl]
  exact ⟨h1, by unfold pRes; rw [if_neg (by rw [h1]; simp)]⟩
theorem pErr_ok {bs : List Int} (h : errOf bs = 0) (hl : lowLL (resOf bs) = false) : pErr bs = 0 ∧ pRes bs = resOf bs := by
  have h1 : pErr bs = 0 := by unfold pErr; rw [if_neg (by simpa using h), if_neg (by simp [hl])]
  exact ⟨h1, by unfold pRes; rw [if_pos h1]⟩
set_option maxRecDepth 1000000 in
set_option maxHeartbeats 4000000 in
theorem vparse_any {w : World} {tv : Value} {bs : List Int} (h : Row w tv (byts bs)) :
    Calls Tryd.prog 17 #[tv] w fun e w' => ∃ u, e = .returned (.tuple #[planV u, .int .i64 (pErr bs)]) ∧ OwnLL w' w.heap.size u (pRes bs) ∧ Below w.heap.size w w' := by
  have HB0 := Lib.hid ((Below.refl w.heap.size w).alloc (Nat.le_refl _) (.cells #[.slice none 0 0] 27))
  have H := Lib.hid (h.below ((Below.refl w.heap.size w).alloc (Nat.le_refl _) (.cells #[.slice none 0 0] 27)))
  have HZ := Lib.hid (heap_alloc_new w (.cells #[.slice none 0 0] 27))
  have hsz : (w.alloc (.cells #[.slice none 0 0] 27)).heap.size = w.heap.size + 1 := by simp
  have HSZ := Lib.hid hsz
  obtain ⟨ta, tc, rfl, _⟩ := h.form
  clear h hsz
  unfold planV
  go_enter Tryd.func17, Tryd.ntmps17
  go_wp2_with fail
  generalize w.alloc (.cells #[.slice none 0 0] 27) = W at *
  refine (lines_any H.out).mono ?_
  rintro e w1 ⟨v, rfl, hv, hb⟩
  have HV := Lib.hid hv
  have HB1 := Lib.hid (HB0.out.trans (hb.mono HB0.out.size))
  have HZ1 := Lib.hid (show w1.heap[w.heap.size]? = some (.cells #[.slice none 0 0] 27 (0, 0)) by rw [hb.block _ (by have := HSZ.out; omega)]; exact HZ.out)
  have HSZ1 := Lib.hid (show w.heap.size + 1 ≤ w1.heap.size by have := HSZ.out; have := hb.size; omega)
  obtain ⟨la, lc, rfl, hlm⟩ := hv.is.form
  have hlm1 : (resOf bs).length ≤ 9223372036854775807 := by unfold maxLen at hlm; omega
  clear hv hb hlm
  obtain ⟨er, her⟩ : ∃ er, errOf bs = er := ⟨_, rfl⟩
  rw [her]
  by_cases he : er = 0
  · have HEZ := Lib.hid (show errOf bs = 0 by rw [her, he])
    clear her
    subst he
    obtain ⟨L, hL⟩ : ∃ L, resOf bs = L := ⟨_, rfl⟩
    rw [hL] at HV hlm1 ⊢
    have HRL := Lib.hid hL
    clear hL
    go_wp2_with fail
    go_loop [19] (fun i => ∃ (k : Nat), k ≤ L.length ∧ i = .int .i64 k ∧ lowLL (L.take k) = false) (fun i => L.length - (intOf i).toNat)
    case atStart => exact ⟨0, Nat.zero_le _, rfl, rfl⟩
    case round =>
      obtain ⟨k, hk, rfl, htk⟩ := hrel
      have HTK := Lib.hid htk
      clear htk
      have f0 := frozen_of_row w1 w.heap.size 0 _ _ HZ1.out
      have z0 : w1.cell? ⟨w.heap.size, 0, none⟩ = some (.slice none 0 0) := by rw [cell_of_row w1 _ 0 _ _ _ HZ1.out]; rfl
      by_cases hlt : k < L.length
      · have hlt2 : (k : Int) < (L.length : Int) := by omega
        obtain ⟨b1, o1, a1, n1, c1, rfl, _, hc1, hn1, _, hw1⟩ := ll_at HV.out.is k hlt
        have HNX := Lib.hid (lowLL_take hlt)
        have HAT := Lib.hid (fun h => lowLL_at hlt h)
        have HC := Lib.hid (containsLow_any hw1)
        generalize L.getD k [] = l at *
        clear hw1 hn1
        go_wp2_with fail
        refine HC.out.mono ?_
        rintro e w2 ⟨rfl, rfl⟩
        clear HC
        cases hlow : lowR l with
        | true =>
          have HE := Lib.hid (pErr_low HEZ.out (by rw [HRL.out]; exact HAT.out hlow))
          have HB2 := Lib.hid (HB1.out.setCell (p := ⟨w.heap.size, 0, none⟩) (Nat.le_refl _) (.slice none 0 0))
          go_wp2
          refine bodyPost_ret (v := .tuple #[.agg #[.slice none 0 0], .int .i64 2]) (by simp [results, Tryd.results17, go_sem, z0]) rfl ?_
          exact ⟨_, by rw [HE.out.1], by rw [HE.out.2]; exact ownLL_nil _ _, HB2.out⟩
        | false =>
          have HD := Lib.hid (show lowLL (L.take (k + 1)) = false by rw [HNX.out, HTK.out, hlow]; rfl)
          go_wp2_with fail
          go_round
          case rel => exact ⟨k + 1, by omega, by go_num, HD.out⟩
          case measure => simp [intOf]; omega
      · obtain rfl : k = L.length := by omega
        have hlt2 : ¬ (L.length : Int) < (L.length : Int) := by omega
        have HE := Lib.hid (pErr_ok HEZ.out (by rw [HRL.out]; have := HTK.out; rwa [List.take_length] at this))
        have hgr : w1.grownBy (w1.setCell ⟨w.heap.size, 0, none⟩ (.slice la L.length lc)) (some w.heap.size) := ⟨rfl, rfl, rfl, by simp [World.setCell], fun k _ hk => heap_setCell_other w1 ⟨w.heap.size, 0, none⟩ k _ (fun e => hk (by rw [e]))⟩
        have HO4 := Lib.hid ((HV.out.later hgr (fun g hg => by simp at hg; have := HSZ.out; omega)).less (B' := w.heap.size) (by have := HSZ.out; omega))
        have HB2 := Lib.hid (HB1.out.setCell (p := ⟨w.heap.size, 0, none⟩) (Nat.le_refl _) (.slice la L.length lc))
        clear hgr
        go_wp2
        refine bodyPost_ret (v := .tuple #[.agg #[.slice la L.length lc], .int .i64 0]) (by simp [results, Tryd.results17, go_sem, z0]) rfl ?_
        exact ⟨_, by rw [HE.out.1], by rw [HE.out.2, HRL.out]; exact HO4.out, HB2.out⟩
  · have HE := Lib.hid (pErr_scan (bs := bs) (by rw [her]; exact he))
    have HER := Lib.hid her
    have heb : (er != 0) = true := by simpa using he
    have f0 := frozen_of_row w1 w.heap.size 0 _ _ HZ1.out
    have z0 : w1.cell? ⟨w.heap.size, 0, none⟩ = some (.slice none 0 0) := by rw [cell_of_row w1 _ 0 _ _ _ HZ1.out]; rfl
    have HB2 := Lib.hid (HB1.out.setCell (p := ⟨w.heap.size, 0, none⟩) (Nat.le_refl _) (.slice none 0 0))
    clear her
    go_wp2
    refine bodyPost_ret (v := .tuple #[.agg #[.slice none 0 0], .int .i64 er]) (by simp [results, Tryd.results17, go_sem, z0]) rfl ?_
    exact ⟨_, by rw [HE.out.1, HER.out], by rw [HE.out.2]; exact ownLL_nil _ _, HB2.out⟩
end Go.Proofs.YtpdeffpmfbplnaaDoor
