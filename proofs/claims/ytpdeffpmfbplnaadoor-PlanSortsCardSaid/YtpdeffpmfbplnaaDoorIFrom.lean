/- What fromLines answers. -/
import Derived.Test.YtpdeffpmfbplnaaDoorXIForm
import Derived.Laws.Cover3
import Derived.Deep.AppendLies
namespace Go.Proofs.YtpdeffpmfbplnaaDoor
open Go.ChangeShapes Go.WideShapes Go.ChangeAt Go.RowKit

/-- A line of six numbers. -/
theorem line_stop {w : World} {a : Option Addr} {n c : Nat} {l : List Int} (h : Row w (.slice a n c) (ints l)) (h6 : l.length = 6) : ∃ b o, a = some ⟨b, o, none⟩ ∧ At w b o (stpOf l) ∧ b < w.heap.size := by
  obtain ⟨b, o, rfl, _, hlt⟩ := row_cell h 0 (by rw [ints_len]; omega)
  refine ⟨b, o, rfl, at_of (fun k hk => ?_), hlt⟩
  obtain ⟨b', o', he, hc, _⟩ := row_cell h k (by rw [ints_len]; omega)
  simp only [Option.some.injEq, Addr.mk.injEq, and_true] at he
  obtain ⟨rfl, rfl⟩ := he
  rw [hc]
  conv => lhs; rw [← row_stpOf l h6]
  rfl
/-- A round of fromLines, and of the document's Parse: x is in block b, made of p, c, r and the stops v; the answer's block z waits. -/
structure FJ (w : World) (z b : Nat) (p c r : Int) (l : List Stp) (v : Value) (wr : World) : Prop where
  zb : w.heap.size ≤ z ∧ z < b
  zero : wr.heap[z]? = some (.cells #[.int .i64 0, .int .i64 0, .int .i64 0, .slice none 0 0] 24 (0, 0))
  blk : wr.heap[b]? = some (.cells #[.int .i64 p, .int .i64 c, .int .i64 r, v] 24 (0, 0))
  own : OwnS wr (b + 1) v l
  bel : Below w.heap.size w wr
section
variable {w wr : World} {z b : Nat} {p c r : Int} {l : List Stp} {v : Value}
theorem FJ.size (h : FJ w z b p c r l v wr) : b < wr.heap.size := (Array.getElem?_eq_some_iff.1 h.blk).1
theorem FJ.cell (h : FJ w z b p c r l v wr) (i : Nat) : wr.cell? ⟨b, i, none⟩ = [Value.int .i64 p, .int .i64 c, .int .i64 r, v][i]? := by rw [cell_of_row wr b i _ _ _ h.blk]; simp
theorem FJ.free (h : FJ w z b p c r l v wr) (i : Nat) : wr.frozen? ⟨b, i, none⟩ = false := frozen_of_row wr b i _ _ h.blk
theorem FJ.cellz (h : FJ w z b p c r l v wr) (i : Nat) : wr.cell? ⟨z, i, none⟩ = [Value.int .i64 0, .int .i64 0, .int .i64 0, .slice none 0 0][i]? := by rw [cell_of_row wr z i _ _ _ h.zero]; simp
theorem FJ.freez (h : FJ w z b p c r l v wr) (i : Nat) : wr.frozen? ⟨z, i, none⟩ = false := frozen_of_row wr z i _ _ h.zero
/-- What is made beside leaves all. -/
theorem FJ.below (h : FJ w z b p c r l v wr) {w2 : World} (hb : Below wr.heap.size wr w2) : FJ w z b p c r l v w2 :=
  ⟨h.zb, by rw [hb.block _ (by have := h.size; have := h.zb; omega)]; exact h.zero, by rw [hb.block _ h.size]; exact h.blk, h.own.below hb, h.bel.trans (hb.mono h.bel.size)⟩
/-- Behind an append to v. -/
theorem FJ.grown (h : FJ w z b p c r l v wr) {w2 : World} (hg : wr.grownBy w2 v.ownBlock) : w2.cell? ⟨b, 3, none⟩ = some v ∧ w2.frozen? ⟨b, 3, none⟩ = false := by
  have hb : w2.heap[b]? = some (.cells #[.int .i64 p, .int .i64 c, .int .i64 r, v] 24 (0, 0)) := by
    rw [hg.block b h.size (fun e => by have := (World.ownsRow.lt h.own b e.symm).1; omega)]; exact h.blk
  exact ⟨by rw [cell_of_row w2 b 3 _ _ _ hb]; rfl, frozen_of_row w2 b 3 _ _ hb⟩
theorem ownS_more {w : World} {B g n cp : Nat} {l : List Stp} {t : Stp} (h : w.ownsRow B 76 6 (.slice (some ⟨g, 0, none⟩) n cp) (l.length + 1) (flat l ++ rowV t)) : OwnS w B (.slice (some ⟨g, 0, none⟩) n cp) (l ++ [t]) := by
  unfold OwnS
  rw [List.length_append, flat_append]
  simpa [flat] using h
theorem news_row {w : World} (t : Stp) : ∀ j u, (rowV t)[j]? = some u → (w.alloc (.cells #[.int .i64 t.x, .int .i64 t.y, .int .i64 t.d, .int .i64 t.r, .int .i64 t.u, .int .i64 t.s] 76)).cell? ((⟨w.heap.size, 0, none⟩ : Addr).add j) = some u :=
  World.news_of_block (cs := #[.int .i64 t.x, .int .i64 t.y, .int .i64 t.d, .int .i64 t.r, .int .i64 t.u, .int .i64 t.s]) (heap_alloc_new w _)
theorem rowV_one (t : Stp) : ∀ u ∈ rowV t, u.oneCell' = true := by
  intro u hu
  have := flat_one [t] u (by rw [flat]; simp [hu])
  exact this
/-- A stop is put behind, and stored. -/
theorem FJ.next (h : FJ w z b p c r l v wr) {w2 : World} {v' : Value} {l' : List Stp} (hown : OwnS w2 (b + 1) v' l') (hg : wr.grownBy w2 v.ownBlock) : FJ w z b p c r l' v' (w2.setCell ⟨b, 3, none⟩ v') := by
  have hsz := h.size
  have hzb := h.zb
  have hne : ∀ k, k ≤ b → some k ≠ v.ownBlock := fun k hk e => by have := (World.ownsRow.lt h.own k e.symm).1; omega
  have hb : w2.heap[b]? = some (.cells #[.int .i64 p, .int .i64 c, .int .i64 r, v] 24 (0, 0)) := by rw [hg.block b hsz (hne b (Nat.le_refl _))]; exact h.blk
  refine ⟨h.zb, ?_, ?_, ownsRow_setCell_below hown (by simp) _, ?_⟩
  · rw [heap_setCell_other w2 ⟨b, 3, none⟩ z _ (by simp; omega), hg.block z (by omega) (hne z (by omega))]; exact h.zero
  · rw [heap_setCell_same w2 b 3 _ _ _ hb]; rfl
  · exact (h.bel.grown hg (by omega) (fun k hk => by have := (World.ownsRow.lt h.own k hk).1; omega)).setCell (by simp; omega) _
end
theorem FJ.start (w : World) (p q r : Int) : FJ w w.heap.size (w.heap.size + 1 + 1) p q r [] (.slice none 0 0) (((w.alloc (.cells #[.int .i64 0, .int .i64 0, .int .i64 0, .slice none 0 0] 24)).alloc (.cells #[.int .i64 p, .int .i64 q, .int .i64 r] 101)).alloc (.cells #[.int .i64 p, .int .i64 q, .int .i64 r, .slice none 0 0] 24)) :=
    ⟨⟨Nat.le_refl _, by omega⟩, by
      rw [Below.heap_alloc _ _ _ (by simp; omega), Below.heap_alloc _ _ _ (by simp)]; exact heap_alloc_new w _, by
      have := heap_alloc_new ((w.alloc (.cells #[.int .i64 0, .int .i64 0, .int .i64 0, .slice none 0 0] 24)).alloc (.cells #[.int .i64 p, .int .i64 q, .int .i64 r] 101)) (.cells #[.int .i64 p, .int .i64 q, .int .i64 r, .slice none 0 0] 24)
      simpa using this, ownS_nil _ _, (((Below.refl _ w).alloc (Nat.le_refl _) _).alloc (by simp) _).alloc (by simp; omega) _⟩
theorem stops_map (L : List (List Int)) (k : Nat) (hk : k + 1 < L.length) : (((L.drop 1).take k).map stpOf) ++ [stpOf (L.getD (k + 1) [])] = ((L.drop 1).take (k + 1)).map stpOf := by
  rw [List.take_add_one, List.map_append, List.getElem?_drop, List.getD_eq_getElem?_getD, show 1 + k = k + 1 by omega, List.getElem?_eq_getElem hk]
  rfl
def cellsF (b o : Nat) (t : Stp) : List (Addr × Value) := [(⟨b, o, none⟩, .int .i64 t.x), (⟨b, o + 1, none⟩, .int .i64 t.y), (⟨b, o + 2, none⟩, .int .i64 t.d), (⟨b, o + 3, none⟩, .int .i64 t.r), (⟨b, o + 4, none⟩, .int .i64 t.u), (⟨b, o + 5, none⟩, .int .i64 t.s)]
theorem holds_at {w : World} {b o : Nat} {t : Stp} (h : At w b o t) : Holds (cellsF b o t) w := by
  obtain ⟨h0, h1, h2, h3, h4, h5⟩ := h
  exact ⟨h0, h1, h2, h3, h4, h5, trivial⟩
theorem lows_at {M b o : Nat} {t : Stp} (h : b < M) : Lows M (cellsF b o t) := ⟨h, h, h, h, h, h, trivial⟩
/-- What grows elsewhere leaves cells that lie below. -/
theorem Holds.grown {w w' : World} {M : Nat} {row : Option Nat} (hg : w.grownBy w' row) (hM : M ≤ w.heap.size) (hr : ∀ k, row = some k → M ≤ k) : ∀ {cs : List (Addr × Value)}, Holds cs w → Lows M cs → Holds cs w'
  | [], _, _ => trivial
  | x :: _, h, k => ⟨(hg.cell_far x.1 (by have := k.1; omega) (fun e => by have := hr _ e.symm; have := k.1; omega)).trans h.1, Holds.grown hg hM hr h.2 k.2⟩
theorem Holds.set {w : World} {M : Nat} {a : Addr} {u : Value} (ha : M ≤ a.block) : ∀ {cs : List (Addr × Value)}, Holds cs w → Lows M cs → Holds cs (w.setCell a u)
  | [], _, _ => trivial
  | _ :: _, h, k => ⟨((Below.refl M w).setCell ha u).cell k.1 |>.trans h.1, Holds.set ha h.2 k.2⟩
set_option maxRecDepth 1000000 in
set_option maxHeartbeats 1000000 in
theorem fromLines_any {w : World} {lv : Value} {L : List (List Int)} (h : IsLL w lv L) (hw : wf L = true) (hsm : L.length ≤ 1000000) :
    Calls Tryd.prog 46 #[lv] w fun e w' => ∃ v, e = .returned (insV (insOf L) v) ∧ OwnS w' w.heap.size v (insOf L).l ∧ Below w.heap.size w w' := by
  have H := Lib.hid h
  have HW := Lib.hid hw
  obtain ⟨a, cap, rfl, hm⟩ := h.form
  have hm1 : L.length ≤ 9223372036854775807 := by unfold maxLen at hm; omega
  have hcc := h.cap
  obtain ⟨hpos, hl3⟩ := wf_first hw
  obtain ⟨tb, off, a1, n1, c1, rfl, htb, hc, hn1, _, r1⟩ := ll_at H.out 0 hpos
  rw [Nat.add_zero] at hc
  rw [hl3] at hn1
  subst hn1
  obtain ⟨p, q, r, hpqr⟩ : ∃ p q r, L.getD 0 [] = [p, q, r] := by
    match hx : L.getD 0 [], hl3 with
    | [p, q, r], _ => exact ⟨p, q, r, rfl⟩
  rw [hpqr] at r1
  obtain ⟨b, o, rfl, e0, hb0⟩ := row_cell r1 0 (by simp [ints])
  have e1 := row_here r1 1 (by simp [ints])
  have e2 := row_here r1 2 (by simp [ints])
  simp [ints] at e0 e1 e2
  have HP := Lib.hid hpqr
  have hposi : (0 : Int) < (L.length : Int) := by omega
  have hl0 : (0 : Int) ≤ (L.length : Int) - 1 := by omega
  clear h hw hm hl3 r1 hpqr
  have HC := Lib.hid hcc
  have hat : ∀ w, (Instr.arrayAt 101 (.slice (some ⟨b, o, none⟩) 3 c1)).run Tryd.prog w = .ok (.pointer (some ⟨b, o, none⟩)) w := fun w => run_arrayAt w 101 _ 3 _ 3 c1 Tryd.underlying101 (Nat.le_refl _)
  by_cases hc1 : cap = 1
  · subst hc1
    have hl1 : L.length = 1 := by have := HC.out; omega
    have HI := Lib.hid (show insOf L = ⟨p, q, r, []⟩ by
      unfold insOf; rw [HP.out, List.drop_of_length_le (by omega)]; rfl)
    rw [hl1] at *
    clear hl1 hm1 hcc hsm hl0
    go_enter Tryd.func46, Tryd.ntmps46
    go_wp2_with fail
    have HF0 := Lib.hid (FJ.start w p q r)
    go_loopw [22] (fun i wr => ∃ v, i = .int .i64 0 ∧ FJ w w.heap.size (w.heap.size + 1 + 1) p q r [] v wr) (fun _ _ => 0)
    case atStart => exact ⟨_, rfl, HF0.out⟩
    case round =>
      obtain ⟨v, rfl, hF⟩ := hrel
      obtain ⟨va, vc, rfl⟩ := hF.own.shape
      have HF := Lib.hid hF
      clear hF
      have c0 : wr.cell? ⟨w.heap.size + 1 + 1, 0, none⟩ = some (.int .i64 p) := HF.out.cell 0
      have c1' : wr.cell? ⟨w.heap.size + 1 + 1, 1, none⟩ = some (.int .i64 q) := HF.out.cell 1
      have c2' : wr.cell? ⟨w.heap.size + 1 + 1, 2, none⟩ = some (.int .i64 r) := HF.out.cell 2
      have c3 : wr.cell? ⟨w.heap.size + 1 + 1, 3, none⟩ = some (.slice va _ vc) := HF.out.cell 3
      have z0 : wr.cell? ⟨w.heap.size, 0, none⟩ = some (.int .i64 0) := HF.out.cellz 0
      have z1 : wr.cell? ⟨w.heap.size, 1, none⟩ = some (.int .i64 0) := HF.out.cellz 1
      have z2 : wr.cell? ⟨w.heap.size, 2, none⟩ = some (.int .i64 0) := HF.out.cellz 2
      have z3 : wr.cell? ⟨w.heap.size, 3, none⟩ = some (.slice none 0 0) := HF.out.cellz 3
      have f0 := HF.out.freez 0
      have f1 := HF.out.freez 1
      have f2 := HF.out.freez 2
      have f3 := HF.out.freez 3
      go_wp2
      exact bodyPost_ret (v := .agg #[.int .i64 p, .int .i64 q,   .int .i64 r, .slice va 0 vc]) (by simp [results, Tryd.results46, go_sem, z0, z1, z2, z3]) rfl ⟨_, by rw [HI.out]; rfl, by
          rw [HI.out]
          refine OwnS.less (B := w.heap.size + 1 + 1 + 1) ?_ (by omega)
          repeat' (first | exact HF.out.own | (refine ownsRow_setCell_below ?_ ?_ _) | (simp; omega) | simp), by
          repeat' (first | exact HF.out.bel | (refine Below.setCell ?_ ?_ _) | (simp; omega) | simp)⟩
  obtain ⟨i0, hi, hz0, hz1, hz2⟩ := info_parts infoStop
  go_enter Tryd.func46, Tryd.ntmps46
  go_wp2_with fail
  have HF0 := Lib.hid (FJ.start w p q r)
  go_loopw [22] (fun i wr => ∃ (k : Nat) (v : Value), k ≤ L.length - 1 ∧ i = .int .i64 k ∧ FJ w w.heap.size (w.heap.size + 1 + 1) p q r (((L.drop 1).take k).map stpOf) v wr) (fun i _ => L.length - 1 - (intOf i).toNat)
  case atStart => exact ⟨0, _, Nat.zero_le _, rfl, HF0.out⟩
  case round =>
    obtain ⟨k, v, hk, rfl, hF⟩ := hrel
    have HF := Lib.hid hF
    clear hF
    by_cases hlt : k < L.length - 1
    · obtain ⟨tb', off', a2, n2, c2, he, _, hc2, hn2, hx2, r2⟩ := ll_at H.out (k + 1) (by omega)
      simp only [Option.some.injEq, Addr.mk.injEq, and_true] at he
      obtain ⟨rfl, rfl⟩ := he
      have h6 := wf_at HW.out (k + 1) (by omega) (by omega)
      rw [show off + (k + 1) = off + 1 + k by omega] at hc2
      rw [h6] at hn2
      subst hn2
      obtain ⟨b2, o2, rfl, hat2, hb2⟩ := line_stop r2 h6
      have d2 := (HF.out.bel.cell (p := ⟨tb, off + 1 + k, none⟩) htb).trans hc2
      have HAT := Lib.hid (hat2.below hb2 HF.out.bel)
      have HST := Lib.hid (stops_map L k (by omega))
      have hLn : ((((L.drop 1).take k).map stpOf).length) ≤ k := by simp; omega
      generalize ((L.drop 1).take k).map stpOf = l at *
      generalize stpOf (L.getD (k + 1) []) = t at *
      have hat6 : ∀ w, (Instr.arrayAt 103 (.slice (some ⟨b2, o2, none⟩) 6 c2)).run Tryd.prog w = .ok (.pointer (some ⟨b2, o2, none⟩)) w := fun w => run_arrayAt w 103 _ 6 _ 6 c2 Tryd.underlying103 (Nat.le_refl _)
      have hb3 : b2 < wr.heap.size := Nat.lt_of_lt_of_le hb2 HF.out.bel.size
      clear hat2 r2 hc2 h6 hx2 hc e0 e1 e2
      go_wp2_with fail
      have HF1 := Lib.hid (HF.out.below ((Below.refl _ wr).drew))
      have HS0 := Lib.hid (show Holds (cellsF b2 o2 t) wr.drew from holds_at (HAT.out.below HAT.out.lt ((Below.refl _ wr).drew)))
      have hlt2 := Lib.hid (show Lows w.heap.size (cellsF b2 o2 t) from lows_at hb2)
      have hlt := Lib.hid (show Lows wr.drew.heap.size (cellsF b2 o2 t) from lows_at hb3)
      have x3 : wr.drew.cell? ⟨w.heap.size + 1 + 1, 3, none⟩ = some v := HF1.out.cell 3
      refine wp_region_held_drew (S := Holds (cellsF b2 o2 t)) (by kernel_rfl) HS0.out (fun hSn => ?_)
      have Bc := Lib.hid (Below.refl wr.drew.heap.size wr.drew)
      unfold cellsF at *
      refine tks [0, 2, 3, 4] 4 rfl (by kernel_rfl) (fun _ _ _ _ h => h) (by assumption) (fun KT hKT => ?_)
      iterate 4 (refine tkT (by (simp only [gA, gB, gC]; rfl)) (by rfl) (by (intro w hSw; (simp only [Holds] at hSw); go_simp <;> with_reducible rfl)) ?_; simp only [Act.put, pA, pB, pC])
      refine hKT _ ?_
      clear KT hKT
      refine wpAnyH_ready (rs := [1, 5]) (by kernel_rfl) (by simp) ?_
      refine (AllReadyH.cons (o := ?oz16) ?iz16 (fun K hK => ?kz16) (AllReadyH.cons (o := ?oz17) ?iz17 (fun K hK => ?kz17) AllReadyH.nil))
      case iz16 => (simp only [List.getElem?_toArray, List.getElem?_cons_zero, List.getElem?_cons_succ]; rfl)
      case iz17 => (simp only [List.getElem?_toArray, List.getElem?_cons_zero, List.getElem?_cons_succ]; rfl)
      · go_simp
        refine held_more hK HS0.out hlt Bc.out (fun Bc hSn => ?_)
        refine wpAnyH_ready (rs := [5]) (by kernel_rfl) (by simp) ?_
        refine (AllReadyH.cons (o := ?oz18) ?iz18 (fun K hK => ?kz18) AllReadyH.nil)
        case iz18 => (simp only [List.getElem?_toArray, List.getElem?_cons_zero, List.getElem?_cons_succ]; rfl)
        go_simp
        refine (rowStop_any t _).mono ?_
        rintro e w2 ⟨rfl, hb⟩
        refine held_more hK HS0.out hlt (Bc.out.trans (hb.mono Bc.out.size)) (fun Bc hSn => ?_)
        clear hb hK
        have x3 : w2.cell? ⟨w.heap.size + 1 + 1, 3, none⟩ = some v := (HF1.out.below Bc.out).cell 3
        refine wpAnyH_ready (rs := [6]) (by kernel_rfl) (by simp) ?_
        refine AllReadyH.cons (o := ?oz19) ?iz19 (fun K hK => ?kz19) AllReadyH.nil
        case iz19 => (simp only [List.getElem?_toArray, List.getElem?_cons_zero, List.getElem?_cons_succ]; rfl)
        go_simp
        refine held_more hK HS0.out hlt (Bc.out.alloc Bc.out.size _) (fun Bc hSn => ?_)
        refine wpAnyH_ready (rs := [7]) (by kernel_rfl) (by simp) ?_
        refine (AllReadyH.cons (o := ?oz20) ?iz20 (fun K hK => ?kz20) AllReadyH.nil)
        case iz20 => (simp only [List.getElem?_toArray, List.getElem?_cons_zero, List.getElem?_cons_succ]; rfl)
        simp only [Act.put, List.setIfInBounds_toArray, List.set_cons_zero, List.set_cons_succ]
        rw [if_pos (by rfl)]
        refine wp_append_lies _ _ _ _ (by rfl) (w.heap.size + 1 + 1 + 1) 76 i0 _ 6 48 Tryd.underlying22 hi hz0 hz1 hz2 rfl (by decide) v l.length (flat l) (by rfl) (HF1.out.below Bc.out).own ⟨w2.heap.size, 0, none⟩ 1 1 (rowV t) (by rfl) rfl (news_row t) (rowV_one t) (by decide) (by unfold maxLen; omega) (by omega) (HF1.out.below Bc.out).size _ rfl ?_
        intro g cp w3 hown hgrow _ _
        have HN := Lib.hid ((HF1.out.below Bc.out).next (ownS_more hown) hgrow)
        obtain ⟨y3, y4⟩ := (HF1.out.below Bc.out).grown hgrow
        refine hK.out _ _ (Holds.grown hgrow (Nat.le_trans HF.out.bel.size Bc.out.size) (fun k hk => by have := (World.ownsRow.lt (HF1.out.below Bc.out).own k hk).1; omega) hSn hlt2.out) (fun hSn => ?_)
        clear hown hgrow x3
        refine tks [8] 1 rfl (by kernel_rfl) (fun _ _ _ _ h => h) (by assumption) (fun KT hKT => ?_)
        refine tkT (by (simp only [gA, gB, gC]; rfl)) (by rfl) (by (intro w hSw; (simp only [Holds] at hSw); go_simp <;> with_reducible rfl)) ?_
        simp only [Act.put, pA, pB, pC]
        refine hKT _ ?_
        clear KT hKT
        refine wpAnyH_ready (rs := [9]) (by kernel_rfl) (by simp) ?_
        refine (AllReadyH.cons (o := ?oz21) ?iz21 (fun K hK => ?kz21) AllReadyH.nil)
        case iz21 => (simp only [List.getElem?_toArray, List.getElem?_cons_zero, List.getElem?_cons_succ]; rfl)
        go_simp
        refine hK.out _ _ (Holds.set (by simp; omega) hSn hlt2.out) (fun hSn => ?_)
        refine wpAnyH_done (by kernel_rfl) ?_ _
        go_wp2
        go_roundw
        case rel => exact ⟨k + 1, _, by omega, by go_num, by rw [← HST.out]; exact HN.out⟩
        case measure => simp [intOf]; omega
      · go_simp
        refine (rowStop_any t _).mono ?_
        rintro e w2 ⟨rfl, hb⟩
        refine held_more hK HS0.out hlt (Bc.out.trans (hb.mono Bc.out.size)) (fun Bc hSn => ?_)
        clear hb hK
        have x3 : w2.cell? ⟨w.heap.size + 1 + 1, 3, none⟩ = some v := (HF1.out.below Bc.out).cell 3
        refine wpAnyH_ready (rs := [1, 6]) (by kernel_rfl) (by simp) ?_
        refine (AllReadyH.cons (o := ?oz22) ?iz22 (fun K hK => ?kz22) (AllReadyH.cons (o := ?oz23) ?iz23 (fun K hK => ?kz23) AllReadyH.nil))
        case iz22 => (simp only [List.getElem?_toArray, List.getElem?_cons_zero, List.getElem?_cons_succ]; rfl)
        case iz23 => (simp only [List.getElem?_toArray, List.getElem?_cons_zero, List.getElem?_cons_succ]; rfl)
        · go_simp
          refine held_more hK HS0.out hlt Bc.out (fun Bc hSn => ?_)
          refine wpAnyH_ready (rs := [6]) (by kernel_rfl) (by simp) ?_
          refine AllReadyH.cons (o := ?oz24) ?iz24 (fun K hK => ?kz24) AllReadyH.nil
          case iz24 => (simp only [List.getElem?_toArray, List.getElem?_cons_zero, List.getElem?_cons_succ]; rfl)
          go_simp
          refine held_more hK HS0.out hlt (Bc.out.alloc Bc.out.size _) (fun Bc hSn => ?_)
          refine wpAnyH_ready (rs := [7]) (by kernel_rfl) (by simp) ?_
          refine (AllReadyH.cons (o := ?oz25) ?iz25 (fun K hK => ?kz25) AllReadyH.nil)
          case iz25 => (simp only [List.getElem?_toArray, List.getElem?_cons_zero, List.getElem?_cons_succ]; rfl)
          simp only [Act.put, List.setIfInBounds_toArray, List.set_cons_zero, List.set_cons_succ]
          rw [if_pos (by rfl)]
          refine wp_append_lies _ _ _ _ (by rfl) (w.heap.size + 1 + 1 + 1) 76 i0 _ 6 48 Tryd.underlying22 hi hz0 hz1 hz2 rfl (by decide) v l.length (flat l) (by rfl) (HF1.out.below Bc.out).own ⟨w2.heap.size, 0, none⟩ 1 1 (rowV t) (by rfl) rfl (news_row t) (rowV_one t) (by decide) (by unfold maxLen; omega) (by omega) (HF1.out.below Bc.out).size _ rfl ?_
          intro g cp w3 hown hgrow _ _
          have HN := Lib.hid ((HF1.out.below Bc.out).next (ownS_more hown) hgrow)
          obtain ⟨y3, y4⟩ := (HF1.out.below Bc.out).grown hgrow
          refine hK.out _ _ (Holds.grown hgrow (Nat.le_trans HF.out.bel.size Bc.out.size) (fun k hk => by have := (World.ownsRow.lt (HF1.out.below Bc.out).own k hk).1; omega) hSn hlt2.out) (fun hSn => ?_)
          clear hown hgrow x3
          refine tks [8] 1 rfl (by kernel_rfl) (fun _ _ _ _ h => h) (by assumption) (fun KT hKT => ?_)
          refine tkT (by (simp only [gA, gB, gC]; rfl)) (by rfl) (by (intro w hSw; (simp only [Holds] at hSw); go_simp <;> with_reducible rfl)) ?_
          simp only [Act.put, pA, pB, pC]
          refine hKT _ ?_
          clear KT hKT
          refine wpAnyH_ready (rs := [9]) (by kernel_rfl) (by simp) ?_
          refine (AllReadyH.cons (o := ?oz26) ?iz26 (fun K hK => ?kz26) AllReadyH.nil)
          case iz26 => (simp only [List.getElem?_toArray, List.getElem?_cons_zero, List.getElem?_cons_succ]; rfl)
          go_simp
          refine hK.out _ _ (Holds.set (by simp; omega) hSn hlt2.out) (fun hSn => ?_)
          refine wpAnyH_done (by kernel_rfl) ?_ _
          go_wp2
          go_roundw
          case rel => exact ⟨k + 1, _, by omega, by go_num, by rw [← HST.out]; exact HN.out⟩
          case measure => simp [intOf]; omega
        · go_simp
          refine held_more hK HS0.out hlt (Bc.out.alloc Bc.out.size _) (fun Bc hSn => ?_)
          have x3 : (w2.alloc (.cells #[.int .i64 t.x, .int .i64 t.y, .int .i64 t.d, .int .i64 t.r, .int .i64 t.u, .int .i64 t.s] 76)).cell? ⟨w.heap.size + 1 + 1, 3, none⟩ = some v := (HF1.out.below Bc.out).cell 3
          refine wpAnyH_ready (rs := [1]) (by kernel_rfl) (by simp) ?_
          refine (AllReadyH.cons (o := ?oz27) ?iz27 (fun K hK => ?kz27) AllReadyH.nil)
          case iz27 => (simp only [List.getElem?_toArray, List.getElem?_cons_zero, List.getElem?_cons_succ]; rfl)
          go_simp
          refine held_more hK HS0.out hlt Bc.out (fun Bc hSn => ?_)
          refine wpAnyH_ready (rs := [7]) (by kernel_rfl) (by simp) ?_
          refine (AllReadyH.cons (o := ?oz28) ?iz28 (fun K hK => ?kz28) AllReadyH.nil)
          case iz28 => (simp only [List.getElem?_toArray, List.getElem?_cons_zero, List.getElem?_cons_succ]; rfl)
          simp only [Act.put, List.setIfInBounds_toArray, List.set_cons_zero, List.set_cons_succ]
          rw [if_pos (by rfl)]
          refine wp_append_lies _ _ _ _ (by rfl) (w.heap.size + 1 + 1 + 1) 76 i0 _ 6 48 Tryd.underlying22 hi hz0 hz1 hz2 rfl (by decide) v l.length (flat l) (by rfl) (HF1.out.below Bc.out).own ⟨w2.heap.size, 0, none⟩ 1 1 (rowV t) (by rfl) rfl (news_row t) (rowV_one t) (by decide) (by unfold maxLen; omega) (by omega) (HF1.out.below Bc.out).size _ rfl ?_
          intro g cp w3 hown hgrow _ _
          have HN := Lib.hid ((HF1.out.below Bc.out).next (ownS_more hown) hgrow)
          obtain ⟨y3, y4⟩ := (HF1.out.below Bc.out).grown hgrow
          refine hK.out _ _ (Holds.grown hgrow (Nat.le_trans HF.out.bel.size Bc.out.size) (fun k hk => by have := (World.ownsRow.lt (HF1.out.below Bc.out).own k hk).1; omega) hSn hlt2.out) (fun hSn => ?_)
          clear hown hgrow x3
          refine tks [8] 1 rfl (by kernel_rfl) (fun _ _ _ _ h => h) (by assumption) (fun KT hKT => ?_)
          refine tkT (by (simp only [gA, gB, gC]; rfl)) (by rfl) (by (intro w hSw; (simp only [Holds] at hSw); go_simp <;> with_reducible rfl)) ?_
          simp only [Act.put, pA, pB, pC]
          refine hKT _ ?_
          clear KT hKT
          refine wpAnyH_ready (rs := [9]) (by kernel_rfl) (by simp) ?_
          refine (AllReadyH.cons (o := ?oz29) ?iz29 (fun K hK => ?kz29) AllReadyH.nil)
          case iz29 => (simp only [List.getElem?_toArray, List.getElem?_cons_zero, List.getElem?_cons_succ]; rfl)
          go_simp
          refine hK.out _ _ (Holds.set (by simp; omega) hSn hlt2.out) (fun hSn => ?_)
          refine wpAnyH_done (by kernel_rfl) ?_ _
          go_wp2
          go_roundw
          case rel => exact ⟨k + 1, _, by omega, by go_num, by rw [← HST.out]; exact HN.out⟩
          case measure => simp [intOf]; omega
    · obtain rfl : k = L.length - 1 := by omega
      obtain ⟨va, vc, hv⟩ := HF.out.own.shape
      rw [show (((L.drop 1).take (L.length - 1)).map stpOf).length = L.length - 1 by simp] at hv
      subst hv
      have HI := Lib.hid (show insOf L = ⟨p, q, r, ((L.drop 1).take (L.length - 1)).map stpOf⟩ by
        unfold insOf; rw [HP.out, List.take_of_length_le (by simp)]; rfl)
      clear hlt hk
      have c0 : wr.cell? ⟨w.heap.size + 1 + 1, 0, none⟩ = some (.int .i64 p) := HF.out.cell 0
      have c1' : wr.cell? ⟨w.heap.size + 1 + 1, 1, none⟩ = some (.int .i64 q) := HF.out.cell 1
      have c2' : wr.cell? ⟨w.heap.size + 1 + 1, 2, none⟩ = some (.int .i64 r) := HF.out.cell 2
      have c3 : wr.cell? ⟨w.heap.size + 1 + 1, 3, none⟩ = some (.slice va _ vc) := HF.out.cell 3
      have z0 : wr.cell? ⟨w.heap.size, 0, none⟩ = some (.int .i64 0) := HF.out.cellz 0
      have z1 : wr.cell? ⟨w.heap.size, 1, none⟩ = some (.int .i64 0) := HF.out.cellz 1
      have z2 : wr.cell? ⟨w.heap.size, 2, none⟩ = some (.int .i64 0) := HF.out.cellz 2
      have z3 : wr.cell? ⟨w.heap.size, 3, none⟩ = some (.slice none 0 0) := HF.out.cellz 3
      have f0 := HF.out.freez 0
      have f1 := HF.out.freez 1
      have f2 := HF.out.freez 2
      have f3 := HF.out.freez 3
      go_wp2
      exact bodyPost_ret (v := .agg #[.int .i64 p, .int .i64 q,   .int .i64 r, .slice va (L.length - 1) vc]) (by simp [results, Tryd.results46, go_sem, z0, z1, z2, z3]) rfl ⟨_, by rw [HI.out]; rfl, by
          rw [HI.out]
          refine OwnS.less (B := w.heap.size + 1 + 1 + 1) ?_ (by omega)
          repeat' (first | exact HF.out.own | (refine ownsRow_setCell_below ?_ ?_ _) | (simp; omega) | simp), by
          repeat' (first | exact HF.out.bel | (refine Below.setCell ?_ ?_ _) | (simp; omega) | simp)⟩
end Go.Proofs.YtpdeffpmfbplnaaDoor
