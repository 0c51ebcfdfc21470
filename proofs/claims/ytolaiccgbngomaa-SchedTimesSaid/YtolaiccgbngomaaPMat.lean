/- What plane's row and Matrix answer. -/
import Derived.Test.YtolaiccgbngomaaPConcat
namespace Go.Proofs.Ytolaiccgbngomaa
open Go.ChangeShapes Go.WideShapes Go.ChangeAt Go.RowKit

/-- A list of which the first ones are as they should be. -/
def Fill {α : Type} (d : α) (k n : Nat) (f : Nat → α) (ys : List α) : Prop := ys.length = n ∧ ∀ i, i < k → ys.getD i d = f i
theorem Fill.none {α : Type} (d x : α) (n : Nat) (f : Nat → α) : Fill d 0 n f (List.replicate n x) := ⟨by simp, fun i hi => by omega⟩
theorem Fill.next {α : Type} {d : α} {k n : Nat} {f : Nat → α} {ys : List α} (h : Fill d k n f ys) (hk : k < n) {x : α} (hx : x = f k) : Fill d (k + 1) n f (ys.set k x) := by
  refine ⟨by rw [List.length_set]; exact h.1, fun i hi => ?_⟩
  by_cases c : i = k
  · subst c
    rw [List.getD_eq_getElem?_getD, List.getElem?_set_self (by rw [h.1]; exact hk), hx]
    rfl
  · rw [List.getD_eq_getElem?_getD, List.getElem?_set_ne (fun e => c e.symm), ← List.getD_eq_getElem?_getD]
    exact h.2 i (by omega)
theorem Fill.all {α : Type} {d : α} {n : Nat} {f : Nat → α} {ys : List α} (h : Fill d n n f ys) : ys = (List.range n).map f := by
  apply List.ext_getElem
  · simp [h.1]
  · intro i h1 h2
    have := h.2 i (by rw [← h.1]; exact h1)
    rw [List.getD_eq_getElem?_getD, List.getElem?_eq_getElem h1] at this
    simpa using this
/-- How far it is from a stop to each; from each to each. -/
def rowF (l : List Stp) (t : Stp) : List Int := (List.range l.length).map (fun i => farF t (nth l i))
def matF (l : List Stp) : List (List Int) := (List.range l.length).map (fun i => rowF l (nth l i))
def matI (I : Ins) : List (List Int) := if mayB I = true then matF I.l else []
theorem rowF_len (l : List Stp) (t : Stp) : (rowF l t).length = l.length := by simp [rowF]
theorem matF_len (l : List Stp) : (matF l).length = l.length := by simp [matF]
theorem rowF_at (l : List Stp) (t : Stp) (i : Nat) (hi : i < l.length) : (rowF l t).getD i 0 = farF t (nth l i) := by
  unfold rowF
  rw [List.getD_eq_getElem?_getD, List.getElem?_map, List.getElem?_range hi]; rfl
theorem matF_at (l : List Stp) (i : Nat) (hi : i < l.length) : (matF l).getD i [] = rowF l (nth l i) := by
  unfold matF
  rw [List.getD_eq_getElem?_getD, List.getElem?_map, List.getElem?_range hi]; rfl
theorem pmay_len {I : Ins} (h : mayB I = true) : 0 < I.l.length ∧ I.l.length ≤ 33 := by
  have h1 := (may_iff I).1 h
  have h2 := (inb_iff _ _ _).1 h1.1
  have h3 := h1.2.2.2.1
  unfold lenOk at h3
  have := decide_eq_true_iff.1 h3
  omega
theorem OwnI.cell {w : World} {B g n cap : Nat} {l : List Int} (h : OwnI w B (.slice (some ⟨g, 0, none⟩) n cap) l) (i : Nat) (hi : i < l.length) : w.cell? ⟨g, i, none⟩ = some (.int .i64 (l.getD i 0)) := by
  have hn : n = l.length := by
    obtain ⟨a, c, he⟩ := h.shape
    simp at he; exact he.2.1
  subst hn
  rw [(show w.ownsRow B 3 1 (.slice (some ⟨g, 0, none⟩) l.length cap) l.length (ints l) from h).cellAt i (by omega)]
  exact ints_at l i hi
theorem OwnLL.cell {w : World} {B g n cap : Nat} {L : List (List Int)} (h : OwnLL w B (.slice (some ⟨g, 0, none⟩) n cap) L) (i : Nat) (hi : i < L.length) : ∃ x, w.cell? ⟨g, i, none⟩ = some x := by
  obtain ⟨vs, h1, h2⟩ := h
  have hl := h2.in.len
  have hn : n = vs.length := by
    obtain ⟨a, c, he⟩ := own_shape h1
    simp at he; exact he.2.1
  subst hn
  rw [h1.cellAt i (by omega)]
  exact ⟨_, List.getElem?_eq_getElem (by omega)⟩
set_option maxRecDepth 1000000 in
set_option maxHeartbeats 1000000 in
theorem row_any {w : World} {v : Value} {l : List Stp} (t : Stp) (h : SRow w v l) (hs : l.length ≤ 1000000) :
    Calls Try.prog 28 #[stopV t, v] w fun e w' => ∃ u, e = .returned u ∧ OwnI w' w.heap.size u (rowF l t) ∧ Below w.heap.size w w' := by
  have H := Lib.hid h
  obtain ⟨ad, cap, rfl, hm, _⟩ := h.form
  have hm1 : l.length ≤ 9223372036854775807 := by omega
  clear h hm
  unfold stopV
  go_enter Try.func28, Try.ntmps28
  go_wp2_with (first | (at_make; refine make_ints rfl _ _ rfl w.heap.size l.length rfl rfl hs (by simp) ?_))
  intro w1 hown hgrow
  have HO := Lib.hid (show OwnI w1 w.heap.size (.slice (some ⟨w.heap.size + 1, 0, none⟩) l.length l.length) (List.replicate l.length 0) by simpa using hown)
  have HB1 := Lib.hid (show Below (w.heap.size + 1) (w.alloc (boxS t)) w1 from grown_below hgrow (by simp) (fun q hq => by simp at hq))
  have HB0 := Lib.hid (show Below w.heap.size w (w.alloc (boxS t)) from (Below.refl _ w).alloc (Nat.le_refl _) _)
  have HS0 := Lib.hid (holds_boxS w t)
  have hW : (w.alloc (boxS t)).heap.size = w.heap.size + 1 := by simp
  clear hown hgrow
  generalize w.alloc (boxS t) = W at *
  go_wp2_with fail
  go_loopw [13] (fun i wr => ∃ (k : Nat) (ys : List Int), k ≤ l.length ∧ i = .int .i64 k ∧ OwnI wr w.heap.size (.slice (some ⟨w.heap.size + 1, 0, none⟩) l.length l.length) ys ∧ Fill 0 k l.length (fun i => farF t (nth l i)) ys ∧ Below (w.heap.size + 1) W wr) (fun i _ => l.length - (intOf i).toNat)
  case atStart => exact ⟨0, _, Nat.zero_le _, rfl, HO.out, Fill.none _ _ _ _, HB1.out⟩
  case round =>
    obtain ⟨k, ys, hk, rfl, hon, hfl, hbw⟩ := hrel
    have HON := Lib.hid hon
    have HF := Lib.hid hfl
    have HBW := Lib.hid hbw
    have HBB := Lib.hid (HB0.out.trans (hbw.mono (Nat.le_succ _)))
    have hsz : w.heap.size + 1 ≤ wr.heap.size := by have := hbw.size; omega
    have hz0 : w.heap.size < wr.heap.size := by omega
    have hc := Holds.below hbw HS0.out (lows_P (by omega))
    clear hon hfl hbw
    by_cases hlt : k < l.length
    · obtain ⟨tb, off, rfl, hat, htb⟩ := srow_at H.out k hlt
      obtain ⟨e0, e1, e2, e3, e4, e5⟩ := hat.below htb HBB.out
      have HFX := Lib.hid (show ∀ x : Int, x = farF t (nth l k) → Fill 0 (k + 1) l.length (fun i => farF t (nth l i)) (ys.set k x) from fun x hx => HF.out.next hlt hx)
      simp only [cellsP, Holds] at hc
      obtain ⟨c0, c1, c2, c3, c4, c5, _⟩ := hc
      generalize nth l k = u at *
      clear hat
      go_wp2_with fail
      change Calls _ _ #[stopV t, stopV u] _ _
      refine (far_any t u _).mono ?_
      rintro e w2 ⟨rfl, hb⟩
      have HB2 := Lib.hid (((Below.refl _ wr).alloc (Nat.le_refl _) (.cells #[.int .i64 u.x, .int .i64 u.y, .int .i64 u.d, .int .i64 u.r, .int .i64 u.u, .int .i64 u.s] 38)).trans (hb.mono (by simp)))
      obtain ⟨ho2, hge, hlt2, hfr⟩ := (HON.out.below HB2.out).stored k (farF t u)
      have HO2 := Lib.hid ho2
      have hcl := (HON.out.below HB2.out).cell k (by rw [HF.out.1]; exact hlt)
      have HB3 := Lib.hid (HBW.out.trans (HB2.out.mono hsz))
      clear hb ho2 c0 c1 c2 c3 c4 c5 e0 e1 e2 e3 e4 e5
      go_wp2_with fail
      go_roundw
      case rel => exact ⟨k + 1, _, by omega, by go_num, HO2.out, HFX.out _ rfl, HB3.out.setCell (p := ⟨w.heap.size + 1, k, none⟩) (Nat.le_refl _) _⟩
      case measure => simp [intOf]; omega
    · obtain rfl : k = l.length := by omega
      have HR := Lib.hid (show ys = rowF l t from HF.out.all)
      clear hlt hk hc
      go_wp2
      go_ret
      exact ⟨_, rfl, by rw [← HR.out]; exact HON.out, HBB.out⟩
set_option maxRecDepth 1000000 in
set_option maxHeartbeats 1000000 in
theorem matrix_any {w : World} {v : Value} {I : Ins} (h : SRow w v I.l) :
    Calls Try.prog 17 #[insV I v] w fun e w' => ∃ u, e = .returned u ∧ OwnLL w' w.heap.size u (matI I) ∧ Below w.heap.size w w' := by
  have H := Lib.hid h
  obtain ⟨ad, cap, rfl, hm, _⟩ := h.form
  have hm1 : I.l.length ≤ 9223372036854775807 := by unfold maxLen at hm; omega
  clear h hm
  unfold insV
  go_enter Try.func17, Try.ntmps17
  go_wp2_with fail
  change Calls _ _ #[insV I (.slice ad I.l.length cap)] (w.alloc (boxI I (.slice ad I.l.length cap))) _
  have HB0 := Lib.hid ((Below.refl _ w).alloc (Nat.le_refl _) (boxI I (.slice ad I.l.length cap)))
  have HS0 := Lib.hid (holds_box w I (.slice ad I.l.length cap))
  have hW : (w.alloc (boxI I (.slice ad I.l.length cap))).heap.size = w.heap.size + 1 := by simp
  generalize w.alloc (boxI I (.slice ad I.l.length cap)) = W at *
  refine (may_any (H.out.below HB0.out)).mono ?_
  rintro e w1 ⟨rfl, hb⟩
  have HB1 := Lib.hid hb
  have hc := Holds.below hb HS0.out (show Lows W.heap.size (cellsI w.heap.size I (.slice ad I.l.length cap)) from ⟨by show w.heap.size < _; omega, by show w.heap.size < _; omega, by show w.heap.size < _; omega, by show w.heap.size < _; omega, trivial⟩)
  simp only [cellsI, Holds] at hc
  obtain ⟨c0, c1, c2, c3, _⟩ := hc
  have hsz1 : w.heap.size + 1 ≤ w1.heap.size := by have := hb.size; omega
  have hz1 : w.heap.size < w1.heap.size := by omega
  clear hb
  cases hmy : mayB I
  · have HM := Lib.hid (show matI I = [] by unfold matI; rw [hmy]; rfl)
    have HBB := Lib.hid (HB0.out.trans (HB1.out.mono (by omega)))
    clear hmy
    go_wp2
    go_ret
    exact ⟨_, rfl, by rw [HM.out]; exact ownLL_nil _ _, HBB.out⟩
  have HM := Lib.hid (show matI I = (List.range I.l.length).map (fun i => rowF I.l (nth I.l i)) by unfold matI; rw [hmy]; rfl)
  have hl33 := (pmay_len hmy).2
  have hl3 : I.l.length ≤ 1000000 := by omega
  clear hmy
  go_wp2_with (first | (at_make; refine make_lines rfl _ _ rfl w.heap.size I.l.length rfl rfl hl3 (by omega) ?_))
  intro w2 hown hgrow
  have HO := Lib.hid hown
  have HB2 := Lib.hid (HB1.out.trans ((grown_below hgrow (Nat.le_refl _) (fun q hq => by simp at hq)).mono (by omega)))
  have d3 : w2.cell? ⟨w.heap.size, 3, none⟩ = some (.slice ad I.l.length cap) := (HB2.out.cell (p := ⟨w.heap.size, 3, none⟩) (by show w.heap.size < _; omega)).trans HS0.out.2.2.2.1
  have hg : w.heap.size + 1 ≤ w1.heap.size := hsz1
  generalize w1.heap.size = g at *
  clear hown hgrow c0 c1 c2 c3
  go_wp2_with fail
  go_loopw [16] (fun i wr => ∃ (k : Nat) (L : List (List Int)), k ≤ I.l.length ∧ i = .int .i64 k ∧ OwnLL wr w.heap.size (.slice (some ⟨g, 0, none⟩) I.l.length I.l.length) L ∧ Fill [] k I.l.length (fun i => rowF I.l (nth I.l i)) L ∧ Below (w.heap.size + 1) W wr) (fun i _ => I.l.length - (intOf i).toNat)
  case atStart => exact ⟨0, _, Nat.zero_le _, rfl, HO.out, Fill.none _ _ _ _, HB2.out.mono (by omega)⟩
  case round =>
    obtain ⟨k, L, hk, rfl, hon, hfl, hbw⟩ := hrel
    have HON := Lib.hid hon
    have HF := Lib.hid hfl
    have HBW := Lib.hid hbw
    have HBB := Lib.hid (HB0.out.trans (hbw.mono (Nat.le_succ _)))
    have hsz : w.heap.size + 1 ≤ wr.heap.size := by have := hbw.size; omega
    have hz0 : w.heap.size < wr.heap.size := by omega
    have b3 : wr.cell? ⟨w.heap.size, 3, none⟩ = some (.slice ad I.l.length cap) := (hbw.cell (p := ⟨w.heap.size, 3, none⟩) (by show w.heap.size < _; omega)).trans HS0.out.2.2.2.1
    clear hon hfl hbw
    by_cases hlt : k < I.l.length
    · obtain ⟨tb, off, rfl, hat, htb⟩ := srow_at H.out k hlt
      obtain ⟨e0, e1, e2, e3, e4, e5⟩ := hat.below htb HBB.out
      have HFX := Lib.hid (show ∀ x : List Int, x = rowF I.l (nth I.l k) → Fill [] (k + 1) I.l.length (fun i => rowF I.l (nth I.l i)) (L.set k x) from fun x hx => HF.out.next hlt hx)
      generalize nth I.l k = u at *
      clear hat
      go_wp2_with fail
      change Calls _ _ #[stopV u, .slice (some ⟨tb, off, none⟩) I.l.length cap] _ _
      have HBa := Lib.hid ((Below.refl _ wr).alloc (Nat.le_refl _) (.cells #[.int .i64 u.x, .int .i64 u.y, .int .i64 u.d, .int .i64 u.r, .int .i64 u.u, .int .i64 u.s] 38))
      have hWa : (wr.alloc (.cells #[.int .i64 u.x, .int .i64 u.y, .int .i64 u.d, .int .i64 u.r, .int .i64 u.u, .int .i64 u.s] 38)).heap.size = wr.heap.size + 1 := by simp
      refine (row_any u ((H.out.below HBB.out).below HBa.out) hl3).mono ?_
      rintro e w3 ⟨z, rfl, hz, hb⟩
      have HB3 := Lib.hid (HBa.out.trans (hb.mono (by omega)))
      have hz' := hz.less (B' := w.heap.size) (by omega)
      obtain ⟨za, zc, rfl⟩ := hz'.shape
      obtain ⟨ho2, hge, hlt2, hfr⟩ := (HON.out.below HB3.out).stored k _ _ hz'
      have HO2 := Lib.hid ho2
      obtain ⟨x0, hcl⟩ := (HON.out.below HB3.out).cell k (by rw [HF.out.1]; exact hlt)
      have HB4 := Lib.hid (HBW.out.trans (HB3.out.mono hsz))
      clear hb hz hz' ho2 e0 e1 e2 e3 e4 e5 hWa
      go_wp2_with fail
      go_roundw
      case rel => exact ⟨k + 1, _, by omega, by go_num, HO2.out, HFX.out _ rfl, HB4.out.setCell (p := ⟨g, k, none⟩) hg _⟩
      case measure => simp [intOf]; omega
    · obtain rfl : k = I.l.length := by omega
      have HR := Lib.hid (show L = matI I from HF.out.all.trans HM.out.symm)
      clear hlt hk b3
      go_wp2
      go_ret
      exact ⟨_, rfl, by rw [← HR.out]; exact HON.out, HBB.out⟩
end Go.Proofs.Ytolaiccgbngomaa
