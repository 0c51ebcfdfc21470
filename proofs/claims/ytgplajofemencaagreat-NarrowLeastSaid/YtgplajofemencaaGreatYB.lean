/- Heads and rows as arrays: headOf, rowOf, stop. -/
import Derived.Test.YtgplajofemencaaGreatXIMem
import Derived.Test.YtgplajofemencaaGreatXIMay
import Derived.Laws.Cover3
import Derived.Deep.AppendLies
import Derived.Lib.ConvBytes
import Derived.Deep.Slices
import Derived.Deep.Fields
namespace Go.Proofs.YtgplajofemencaaGreat
open Go.ChangeShapes Go.WideShapes Go.ChangeAt Go.RowKit

set_option maxRecDepth 100000 in
theorem rowStop_any (t : Stp) (w : World) : Calls Tryz.prog 61 #[.agg #[.int .i64 t.x, .int .i64 t.y, .int .i64 t.d, .int .i64 t.r, .int .i64 t.u, .int .i64 t.s]] w fun e w' => e = .returned (.agg #[.int .i64 t.x, .int .i64 t.y, .int .i64 t.d, .int .i64 t.r, .int .i64 t.u, .int .i64 t.s]) ∧ Below w.heap.size w w' := by
  go_enter Tryz.func61, Tryz.ntmps61
  go_wp2
  exact bodyPost_ret (v := .agg #[.int .i64 t.x, .int .i64 t.y, .int .i64 t.d, .int .i64 t.r, .int .i64 t.u, .int .i64 t.s]) (by simp [results, Tryz.results61, go_sem]) rfl ⟨rfl, by
    repeat' (first | exact Below.refl _ w | (refine Below.alloc ?_ ?_ _) | (refine Below.setCell ?_ ?_ _) | (simp; omega) | simp)⟩
end Go.Proofs.YtgplajofemencaaGreat
/- Lines that are made in whatever blocks; what linesOf answers. -/
namespace Go.Proofs.YtgplajofemencaaGreat
open Go.ChangeShapes Go.WideShapes Go.ChangeAt Go.RowKit

/-- A line that is all of a block. -/
def Fix (w : World) (u : Value) (l : List Int) : Prop := ∃ g e, u = .slice (some ⟨g, 0, none⟩) l.length l.length ∧ w.heap[g]? = some (.cells (ints l).toArray e (0, 0)) ∧ e ≠ 28 ∧ l.length ≤ maxLen
theorem Fix.row {w : World} {u : Value} {l : List Int} (h : Fix w u l) : Row w u (ints l) := by
  obtain ⟨g, e, rfl, hg, _, hm⟩ := h
  refine ⟨by rw [ints_len]; exact hm, _, _, by rw [ints_len], by rw [ints_len]; exact Nat.le_refl _, ⟨hm, by simp⟩, .inr ⟨g, 0, rfl, fun i hi => ?_⟩⟩
  rw [cell_of_row _ _ _ _ _ _ hg]
  simp
theorem Fix.kept {w w' : World} {u : Value} {l : List Int} {row : Option Nat} (h : Fix w u l) (hg : w.grownBy w' row) (hne : ∀ g e c fr, w.heap[g]? = some (.cells c e fr) → e ≠ 28 → row ≠ some g) : Fix w' u l := by
  obtain ⟨g, e, rfl, hb, he, hm⟩ := h
  exact ⟨g, e, rfl, by rw [hg.block g (Array.getElem?_eq_some_iff.1 hb).1 (fun x => hne g e _ _ hb he x.symm)]; exact hb, he, hm⟩
def FixIn (w : World) : List Value → List (List Int) → Prop
  | [], [] => True
  | v :: vs, l :: L => Fix w v l ∧ FixIn w vs L
  | _, _ => False
theorem FixIn.in {w : World} : ∀ {vs : List Value} {L : List (List Int)}, FixIn w vs L → In w vs L
  | [], [], _ => trivial
  | _ :: _, _ :: _, h => ⟨h.1.row, FixIn.in h.2⟩
  | [], _ :: _, h => h.elim
  | _ :: _, [], h => h.elim
theorem FixIn.kept {w w' : World} {row : Option Nat} (hg : w.grownBy w' row) (hne : ∀ g e c fr, w.heap[g]? = some (.cells c e fr) → e ≠ 28 → row ≠ some g) : ∀ {vs : List Value} {L : List (List Int)}, FixIn w vs L → FixIn w' vs L
  | [], [], _ => trivial
  | _ :: _, _ :: _, h => ⟨h.1.kept hg hne, FixIn.kept hg hne h.2⟩
  | [], _ :: _, h => h.elim
  | _ :: _, [], h => h.elim
theorem FixIn.append {w : World} : ∀ {vs : List Value} {L : List (List Int)} {us : List Value} {K : List (List Int)}, FixIn w vs L → FixIn w us K → FixIn w (vs ++ us) (L ++ K)
  | [], [], _, _, _, k => k
  | _ :: _, _ :: _, _, _, h, k => ⟨h.1, FixIn.append h.2 k⟩
  | [], _ :: _, _, _, h, _ => h.elim
  | _ :: _, [], _, _, h, _ => h.elim
/-- Lines that a call has made, each of them all of a block. -/
def MadeLL (w : World) (B : Nat) (v : Value) (L : List (List Int)) : Prop := ∃ vs, w.ownsRow B 28 1 v vs.length vs ∧ FixIn w vs L
theorem MadeLL.is {w : World} {B : Nat} {v : Value} {L : List (List Int)} (h : MadeLL w B v L) : IsLL w v L := by
  obtain ⟨vs, h1, h2⟩ := h
  exact ⟨vs, own_row h1, h2.in⟩
theorem MadeLL.below {w w' : World} {B : Nat} {v : Value} {L : List (List Int)} (h : MadeLL w B v L) (hb : Below w.heap.size w w') : MadeLL w' B v L := by
  obtain ⟨vs, h1, h2⟩ := h
  exact ⟨vs, own_below h1 hb, h2.kept (row := none) ⟨hb.os, hb.tape, hb.output, hb.size, fun k hk _ => hb.block k hk⟩ (fun _ _ _ _ _ _ => by simp)⟩
theorem MadeLL.less {w : World} {B B' : Nat} {v : Value} {L : List (List Int)} (h : MadeLL w B v L) (hB : B' ≤ B) : MadeLL w B' v L := by
  obtain ⟨vs, h1, h2⟩ := h
  exact ⟨vs, own_less h1 hB, h2⟩
theorem MadeLL.shape {w : World} {B : Nat} {v : Value} {L : List (List Int)} (h : MadeLL w B v L) : ∃ a cap, v = .slice a L.length cap := by
  obtain ⟨vs, h1, h2⟩ := h
  rw [h2.in.len] at h1
  exact own_shape h1
end Go.Proofs.YtgplajofemencaaGreat
/- Whether two instances are the same: slices.Equal, Same, the document's Same. -/
namespace Go.Proofs.YtgplajofemencaaGreat
open Go.ChangeShapes Go.WideShapes Go.ChangeAt Go.RowKit

end Go.Proofs.YtgplajofemencaaGreat
/- inst.Same, and the document's. -/
namespace Go.Proofs.YtgplajofemencaaGreat
open Go.ChangeShapes Go.WideShapes Go.ChangeAt Go.RowKit

end Go.Proofs.YtgplajofemencaaGreat
/- What wellFormed answers. -/
namespace Go.Proofs.YtgplajofemencaaGreat
open Go.ChangeShapes Go.WideShapes Go.ChangeAt Go.RowKit

theorem wf_first {L : List (List Int)} (h : wf L = true) : 0 < L.length ∧ (L.getD 0 []).length = 3 := by
  unfold wf at h
  rw [decide_eq_true_iff] at h
  exact ⟨List.length_pos_iff.2 h.1, h.2.1⟩
theorem wf_at {L : List (List Int)} (h : wf L = true) (k : Nat) (h1 : 1 ≤ k) (hk : k < L.length) : (L.getD k []).length = 6 := by
  unfold wf at h
  rw [decide_eq_true_iff] at h
  refine h.2.2 _ ?_
  obtain ⟨j, rfl⟩ : ∃ j, k = j + 1 := ⟨k - 1, by omega⟩
  rw [List.getD_eq_getElem?_getD, List.getElem?_eq_getElem hk]
  match L, hk with
  | a :: R, hk => simp
theorem wf_mk {L : List (List Int)} (h0 : 0 < L.length) (h1 : (L.getD 0 []).length = 3) (h2 : ∀ k, 1 ≤ k → k < L.length → (L.getD k []).length = 6) : wf L = true := by
  unfold wf
  rw [decide_eq_true_iff]
  refine ⟨List.length_pos_iff.1 h0, h1, fun l hl => ?_⟩
  obtain ⟨i, hi, rfl⟩ := List.getElem_of_mem hl
  have := h2 (i + 1) (by omega) (by simp at hi; omega)
  rw [List.getD_eq_getElem?_getD, List.getElem?_eq_getElem (by simp at hi; omega)] at this
  simpa using this
theorem wf_no0 {L : List (List Int)} (h : L.length = 0) : wf L = false := by
  cases hw : wf L with
  | false => rfl
  | true => have := wf_first hw; omega
theorem wf_no1 {L : List (List Int)} (h : (L.getD 0 []).length ≠ 3) : wf L = false := by
  cases hw : wf L with
  | false => rfl
  | true => exact absurd (wf_first hw).2 h
theorem wf_no2 {L : List (List Int)} (k : Nat) (h1 : 1 ≤ k) (hk : k < L.length) (h : (L.getD k []).length ≠ 6) : wf L = false := by
  cases hw : wf L with
  | false => rfl
  | true => exact absurd (wf_at hw k h1 hk) h
theorem IsLL.cap {w : World} {a : Option Addr} {n cap : Nat} {L : List (List Int)} (h : IsLL w (.slice a n cap) L) : L.length ≤ cap := by
  obtain ⟨vs, h1, h2⟩ := h
  obtain ⟨_, a', cap', hv, hc', _⟩ := h1
  rw [h2.len] at *
  simp at hv
  omega
set_option maxRecDepth 1000000 in
set_option maxHeartbeats 1000000 in
theorem wellFormed_any {w : World} {lv : Value} {L : List (List Int)} (h : IsLL w lv L) :
    Calls Tryz.prog 37 #[lv] w fun e w' => e = .returned (.bool (wf L)) ∧ w = w' := by
  have H := Lib.hid h
  obtain ⟨a, cap, rfl, hm⟩ := h.form
  have hm1 : L.length ≤ 9223372036854775807 := by unfold maxLen at hm; omega
  clear h hm
  by_cases h0 : L.length = 0
  · have HD := Lib.hid (wf_no0 h0)
    have d1 : ((L.length : Int) == 0) = true := by simp [h0]
    clear h0
    go_enter Tryz.func37, Tryz.ntmps37
    go_wp2
    go_ret
    exact ⟨ret_bool HD.out.symm, rfl⟩
  have d1 : ((L.length : Int) == 0) = false := by rw [beq_eq_false_iff_ne]; omega
  have hpos : (0 : Int) < (L.length : Int) := by omega
  have hposn : 0 < L.length := by omega
  obtain ⟨tb, off, a1, n1, c1, rfl, _, hc, hn1, hx1, r1⟩ := ll_at H.out 0 hposn
  rw [Nat.add_zero] at hc
  have HN := Lib.hid hn1
  clear hn1 r1
  by_cases h3 : n1 = 3
  · have HN3 := Lib.hid (show (L.getD 0 []).length = 3 by rw [← HN.out]; exact h3)
    subst h3
    have hcap : (1 : Int) ≤ (L.length : Int) := by omega
    have hcapn : 1 ≤ L.length := by omega
    have hcc := H.out.cap
    by_cases hc1 : cap = 1
    · subst hc1
      have hl1 : L.length = 1 := by omega
      have HD := Lib.hid (wf_mk (by omega) HN3.out (fun k h1 h2 => by omega))
      have HL1 := Lib.hid hl1
      have hl2 : (L.length : Int) - 1 = 0 := by omega
      rw [hl1] at *
      clear hl1 hl2
      go_enter Tryz.func37, Tryz.ntmps37
      go_wp2
      go_loop [18] (fun i => i = .int .i64 0) (fun _ => 0)
      case atStart => exact rfl
      case round =>
        obtain rfl := hrel
        go_wp2
        go_ret
        exact ⟨ret_bool HD.out.symm, rfl⟩
    have hl0 : (0 : Int) ≤ (L.length : Int) - 1 := by omega
    go_enter Tryz.func37, Tryz.ntmps37
    go_wp2
    go_loop [18] (fun i => ∃ k : Nat, k ≤ L.length - 1 ∧ i = .int .i64 k ∧ ∀ j, 1 ≤ j → j < k + 1 → (L.getD j []).length = 6) (fun i => L.length - 1 - (intOf i).toNat)
    case atStart => exact ⟨0, Nat.zero_le _, rfl, fun j _ _ => by omega⟩
    case round =>
      obtain ⟨k, hk, rfl, hall⟩ := hrel
      have HA := Lib.hid hall
      clear hall
      by_cases hlt : k < L.length - 1
      · obtain ⟨tb', off', a2, n2, c2, he, _, hc2, hn2, hx2, r2⟩ := ll_at H.out (k + 1) (by omega)
        simp only [Option.some.injEq, Addr.mk.injEq, and_true] at he
        obtain ⟨rfl, rfl⟩ := he
        rw [show off + (k + 1) = off + 1 + k by omega] at hc2
        have HN2 := Lib.hid hn2
        clear hn2 r2 hc
        by_cases h6 : n2 = 6
        · have HS := Lib.hid (show ∀ j, 1 ≤ j → j < k + 1 + 1 → (L.getD j []).length = 6 from fun j h1 h2 => by
            by_cases hj : j < k + 1
            · exact HA.out j h1 hj
            · obtain rfl : j = k + 1 := by omega
              rw [← HN2.out]; exact h6)
          subst h6
          go_wp2
          go_round
          case rel => exact ⟨k + 1, by omega, by go_num, HS.out⟩
          case measure => simp [intOf]; omega
        · have HD := Lib.hid (wf_no2 (L := L) (k + 1) (by omega) (by omega) (by rw [← HN2.out]; exact h6))
          have d6 : ((n2 : Int) != 6) = true := by simp; omega
          clear h6
          go_wp2
          go_ret
          exact ⟨ret_bool HD.out.symm, rfl⟩
      · have HD := Lib.hid (wf_mk hposn HN3.out (fun j h1 h2 => HA.out j h1 (by omega)))
        obtain rfl : k = L.length - 1 := by omega
        clear hlt hk
        go_wp2
        go_ret
        exact ⟨ret_bool HD.out.symm, rfl⟩
  · have HD := Lib.hid (wf_no1 (L := L) (by rw [← HN.out]; exact h3))
    have d3 : ((n1 : Int) != 3) = true := by simp; omega
    clear h3
    go_enter Tryz.func37, Tryz.ntmps37
    go_wp2
    go_ret
    exact ⟨ret_bool HD.out.symm, rfl⟩
end Go.Proofs.YtgplajofemencaaGreat
/- What fromLines answers. -/
namespace Go.Proofs.YtgplajofemencaaGreat
open Go.ChangeShapes Go.WideShapes Go.ChangeAt Go.RowKit

/-- A line of six numbers. -/
theorem line_stop {w : World} {a : Option Addr} {n c : Nat} {l : List Int} (h : Row w (.slice a n c) (ints l)) (h6 : l.length = 6) : ∃ b o, a = some ⟨b, o, none⟩ ∧ At w b o (stpOf l) ∧ b < w.heap.size := by
  obtain ⟨b, o, rfl, _, hlt⟩ := row_cell h 0 (by rw [ints_len]; omega)
  refine ⟨b, o, rfl, at_of (fun k hk => ?_), hlt⟩
  obtain ⟨b', o', he, hc, _⟩ := row_cell h k (by rw [ints_len]; omega)
  simp only [Option.some.injEq, Addr.mk.injEq, and_true] at he
  obtain ⟨rfl, rfl⟩ := he
  rw [hc]
  conv => lhs; rw [← row_stpOf l h6]
  rfl
/-- A round of fromLines, and of the document's Parse: x is in block b, made of p, c, r and the stops v; the answer's block z waits. -/
structure FJ (w : World) (z b : Nat) (p c r : Int) (l : List Stp) (v : Value) (wr : World) : Prop where
  zb : w.heap.size ≤ z ∧ z < b
  zero : wr.heap[z]? = some (.cells #[.int .i64 0, .int .i64 0, .int .i64 0, .slice none 0 0] 24 (0, 0))
  blk : wr.heap[b]? = some (.cells #[.int .i64 p, .int .i64 c, .int .i64 r, v] 24 (0, 0))
  own : OwnS wr (b + 1) v l
  bel : Below w.heap.size w wr
section
variable {w wr : World} {z b : Nat} {p c r : Int} {l : List Stp} {v : Value}
theorem FJ.size (h : FJ w z b p c r l v wr) : b < wr.heap.size := (Array.getElem?_eq_some_iff.1 h.blk).1
theorem FJ.cell (h : FJ w z b p c r l v wr) (i : Nat) : wr.cell? ⟨b, i, none⟩ = [Value.int .i64 p, .int .i64 c, .int .i64 r, v][i]? := by rw [cell_of_row wr b i _ _ _ h.blk]; simp
theorem FJ.free (h : FJ w z b p c r l v wr) (i : Nat) : wr.frozen? ⟨b, i, none⟩ = false := frozen_of_row wr b i _ _ h.blk
theorem FJ.cellz (h : FJ w z b p c r l v wr) (i : Nat) : wr.cell? ⟨z, i, none⟩ = [Value.int .i64 0, .int .i64 0, .int .i64 0, .slice none 0 0][i]? := by rw [cell_of_row wr z i _ _ _ h.zero]; simp
theorem FJ.freez (h : FJ w z b p c r l v wr) (i : Nat) : wr.frozen? ⟨z, i, none⟩ = false := frozen_of_row wr z i _ _ h.zero
/-- What is made beside leaves all. -/
theorem FJ.below (h : FJ w z b p c r l v wr) {w2 : World} (hb : Below wr.heap.size wr w2) : FJ w z b p c r l v w2 :=
  ⟨h.zb, by rw [hb.block _ (by have := h.size; have := h.zb; omega)]; exact h.zero, by rw [hb.block _ h.size]; exact h.blk, h.own.below hb, h.bel.trans (hb.mono h.bel.size)⟩
/-- Behind an append to v. -/
theorem FJ.grown (h : FJ w z b p c r l v wr) {w2 : World} (hg : wr.grownBy w2 v.ownBlock) : w2.cell? ⟨b, 3, none⟩ = some v ∧ w2.frozen? ⟨b, 3, none⟩ = false := by
  have hb : w2.heap[b]? = some (.cells #[.int .i64 p, .int .i64 c, .int .i64 r, v] 24 (0, 0)) := by
    rw [hg.block b h.size (fun e => by have := (World.ownsRow.lt h.own b e.symm).1; omega)]; exact h.blk
  exact ⟨by rw [cell_of_row w2 b 3 _ _ _ hb]; rfl, frozen_of_row w2 b 3 _ _ hb⟩
theorem ownS_more {w : World} {B g n cp : Nat} {l : List Stp} {t : Stp} (h : w.ownsRow B 65 6 (.slice (some ⟨g, 0, none⟩) n cp) (l.length + 1) (flat l ++ rowV t)) : OwnS w B (.slice (some ⟨g, 0, none⟩) n cp) (l ++ [t]) := by
  unfold OwnS
  rw [List.length_append, flat_append]
  simpa [flat] using h
theorem news_row {w : World} (t : Stp) : ∀ j u, (rowV t)[j]? = some u → (w.alloc (.cells #[.int .i64 t.x, .int .i64 t.y, .int .i64 t.d, .int .i64 t.r, .int .i64 t.u, .int .i64 t.s] 65)).cell? ((⟨w.heap.size, 0, none⟩ : Addr).add j) = some u :=
  World.news_of_block (cs := #[.int .i64 t.x, .int .i64 t.y, .int .i64 t.d, .int .i64 t.r, .int .i64 t.u, .int .i64 t.s]) (heap_alloc_new w _)
theorem rowV_one (t : Stp) : ∀ u ∈ rowV t, u.oneCell' = true := by
  intro u hu
  have := flat_one [t] u (by rw [flat]; simp [hu])
  exact this
/-- A stop is put behind, and stored. -/
theorem FJ.next (h : FJ w z b p c r l v wr) {w2 : World} {v' : Value} {l' : List Stp} (hown : OwnS w2 (b + 1) v' l') (hg : wr.grownBy w2 v.ownBlock) : FJ w z b p c r l' v' (w2.setCell ⟨b, 3, none⟩ v') := by
  have hsz := h.size
  have hzb := h.zb
  have hne : ∀ k, k ≤ b → some k ≠ v.ownBlock := fun k hk e => by have := (World.ownsRow.lt h.own k e.symm).1; omega
  have hb : w2.heap[b]? = some (.cells #[.int .i64 p, .int .i64 c, .int .i64 r, v] 24 (0, 0)) := by rw [hg.block b hsz (hne b (Nat.le_refl _))]; exact h.blk
  refine ⟨h.zb, ?_, ?_, ownsRow_setCell_below hown (by simp) _, ?_⟩
  · rw [heap_setCell_other w2 ⟨b, 3, none⟩ z _ (by simp; omega), hg.block z (by omega) (hne z (by omega))]; exact h.zero
  · rw [heap_setCell_same w2 b 3 _ _ _ hb]; rfl
  · exact (h.bel.grown hg (by omega) (fun k hk => by have := (World.ownsRow.lt h.own k hk).1; omega)).setCell (by simp; omega) _
end
theorem FJ.start (w : World) (p q r : Int) : FJ w w.heap.size (w.heap.size + 1 + 1) p q r [] (.slice none 0 0) (((w.alloc (.cells #[.int .i64 0, .int .i64 0, .int .i64 0, .slice none 0 0] 24)).alloc (.cells #[.int .i64 p, .int .i64 q, .int .i64 r] 104)).alloc (.cells #[.int .i64 p, .int .i64 q, .int .i64 r, .slice none 0 0] 24)) :=
    ⟨⟨Nat.le_refl _, by omega⟩, by
      rw [Below.heap_alloc _ _ _ (by simp; omega), Below.heap_alloc _ _ _ (by simp)]; exact heap_alloc_new w _, by
      have := heap_alloc_new ((w.alloc (.cells #[.int .i64 0, .int .i64 0, .int .i64 0, .slice none 0 0] 24)).alloc (.cells #[.int .i64 p, .int .i64 q, .int .i64 r] 104)) (.cells #[.int .i64 p, .int .i64 q, .int .i64 r, .slice none 0 0] 24)
      simpa using this, ownS_nil _ _, (((Below.refl _ w).alloc (Nat.le_refl _) _).alloc (by simp) _).alloc (by simp; omega) _⟩
theorem stops_map (L : List (List Int)) (k : Nat) (hk : k + 1 < L.length) : (((L.drop 1).take k).map stpOf) ++ [stpOf (L.getD (k + 1) [])] = ((L.drop 1).take (k + 1)).map stpOf := by
  rw [List.take_add_one, List.map_append, List.getElem?_drop, List.getD_eq_getElem?_getD, show 1 + k = k + 1 by omega, List.getElem?_eq_getElem hk]
  rfl
def cellsF (b o : Nat) (t : Stp) : List (Addr × Value) := [(⟨b, o, none⟩, .int .i64 t.x), (⟨b, o + 1, none⟩, .int .i64 t.y), (⟨b, o + 2, none⟩, .int .i64 t.d), (⟨b, o + 3, none⟩, .int .i64 t.r), (⟨b, o + 4, none⟩, .int .i64 t.u), (⟨b, o + 5, none⟩, .int .i64 t.s)]
theorem holds_at {w : World} {b o : Nat} {t : Stp} (h : At w b o t) : Holds (cellsF b o t) w := by
  obtain ⟨h0, h1, h2, h3, h4, h5⟩ := h
  exact ⟨h0, h1, h2, h3, h4, h5, trivial⟩
theorem lows_at {M b o : Nat} {t : Stp} (h : b < M) : Lows M (cellsF b o t) := ⟨h, h, h, h, h, h, trivial⟩
/-- What grows elsewhere leaves cells that lie below. -/
theorem Holds.grown {w w' : World} {M : Nat} {row : Option Nat} (hg : w.grownBy w' row) (hM : M ≤ w.heap.size) (hr : ∀ k, row = some k → M ≤ k) : ∀ {cs : List (Addr × Value)}, Holds cs w → Lows M cs → Holds cs w'
  | [], _, _ => trivial
  | x :: _, h, k => ⟨(hg.cell_far x.1 (by have := k.1; omega) (fun e => by have := hr _ e.symm; have := k.1; omega)).trans h.1, Holds.grown hg hM hr h.2 k.2⟩
theorem Holds.set {w : World} {M : Nat} {a : Addr} {u : Value} (ha : M ≤ a.block) : ∀ {cs : List (Addr × Value)}, Holds cs w → Lows M cs → Holds cs (w.setCell a u)
  | [], _, _ => trivial
  | _ :: _, h, k => ⟨((Below.refl M w).setCell ha u).cell k.1 |>.trans h.1, Holds.set ha h.2 k.2⟩
set_option maxRecDepth 1000000 in
set_option maxHeartbeats 1000000 in
theorem fromLines_any {w : World} {lv : Value} {L : List (List Int)} (h : IsLL w lv L) (hw : wf L = true) (hsm : L.length ≤ 1000000) :
    Calls Tryz.prog 38 #[lv] w fun e w' => ∃ v, e = .returned (insV (insOf L) v) ∧ OwnS w' w.heap.size v (insOf L).l ∧ Below w.heap.size w w' := by
  have H := Lib.hid h
  have HW := Lib.hid hw
  obtain ⟨a, cap, rfl, hm⟩ := h.form
  have hm1 : L.length ≤ 9223372036854775807 := by unfold maxLen at hm; omega
  have hcc := h.cap
  obtain ⟨hpos, hl3⟩ := wf_first hw
  obtain ⟨tb, off, a1, n1, c1, rfl, htb, hc, hn1, _, r1⟩ := ll_at H.out 0 hpos
  rw [Nat.add_zero] at hc
  rw [hl3] at hn1
  subst hn1
  obtain ⟨p, q, r, hpqr⟩ : ∃ p q r, L.getD 0 [] = [p, q, r] := by
    match hx : L.getD 0 [], hl3 with
    | [p, q, r], _ => exact ⟨p, q, r, rfl⟩
  rw [hpqr] at r1
  obtain ⟨b, o, rfl, e0, hb0⟩ := row_cell r1 0 (by simp [ints])
  have e1 := row_here r1 1 (by simp [ints])
  have e2 := row_here r1 2 (by simp [ints])
  simp [ints] at e0 e1 e2
  have HP := Lib.hid hpqr
  have hposi : (0 : Int) < (L.length : Int) := by omega
  have hl0 : (0 : Int) ≤ (L.length : Int) - 1 := by omega
  clear h hw hm hl3 r1 hpqr
  have HC := Lib.hid hcc
  have hat : ∀ w, (Instr.arrayAt 104 (.slice (some ⟨b, o, none⟩) 3 c1)).run Tryz.prog w = .ok (.pointer (some ⟨b, o, none⟩)) w := fun w => run_arrayAt w 104 _ 3 _ 3 c1 Tryz.underlying104 (Nat.le_refl _)
  by_cases hc1 : cap = 1
  · subst hc1
    have hl1 : L.length = 1 := by have := HC.out; omega
    have HI := Lib.hid (show insOf L = ⟨p, q, r, []⟩ by
      unfold insOf; rw [HP.out, List.drop_of_length_le (by omega)]; rfl)
    rw [hl1] at *
    clear hl1 hm1 hcc hsm hl0
    go_enter Tryz.func38, Tryz.ntmps38
    go_wp2_with fail
    have HF0 := Lib.hid (FJ.start w p q r)
    go_loopw [22] (fun i wr => ∃ v, i = .int .i64 0 ∧ FJ w w.heap.size (w.heap.size + 1 + 1) p q r [] v wr) (fun _ _ => 0)
    case atStart => exact ⟨_, rfl, HF0.out⟩
    case round =>
      obtain ⟨v, rfl, hF⟩ := hrel
      obtain ⟨va, vc, rfl⟩ := hF.own.shape
      have HF := Lib.hid hF
      clear hF
      have c0 : wr.cell? ⟨w.heap.size + 1 + 1, 0, none⟩ = some (.int .i64 p) := HF.out.cell 0
      have c1' : wr.cell? ⟨w.heap.size + 1 + 1, 1, none⟩ = some (.int .i64 q) := HF.out.cell 1
      have c2' : wr.cell? ⟨w.heap.size + 1 + 1, 2, none⟩ = some (.int .i64 r) := HF.out.cell 2
      have c3 : wr.cell? ⟨w.heap.size + 1 + 1, 3, none⟩ = some (.slice va _ vc) := HF.out.cell 3
      have z0 : wr.cell? ⟨w.heap.size, 0, none⟩ = some (.int .i64 0) := HF.out.cellz 0
      have z1 : wr.cell? ⟨w.heap.size, 1, none⟩ = some (.int .i64 0) := HF.out.cellz 1
      have z2 : wr.cell? ⟨w.heap.size, 2, none⟩ = some (.int .i64 0) := HF.out.cellz 2
      have z3 : wr.cell? ⟨w.heap.size, 3, none⟩ = some (.slice none 0 0) := HF.out.cellz 3
      have f0 := HF.out.freez 0
      have f1 := HF.out.freez 1
      have f2 := HF.out.freez 2
      have f3 := HF.out.freez 3
      go_wp2
      exact bodyPost_ret (v := .agg #[.int .i64 p, .int .i64 q,   .int .i64 r, .slice va 0 vc]) (by simp [results, Tryz.results38, go_sem, z0, z1, z2, z3]) rfl ⟨_, by rw [HI.out]; rfl, by
          rw [HI.out]
          refine OwnS.less (B := w.heap.size + 1 + 1 + 1) ?_ (by omega)
          repeat' (first | exact HF.out.own | (refine ownsRow_setCell_below ?_ ?_ _) | (simp; omega) | simp), by
          repeat' (first | exact HF.out.bel | (refine Below.setCell ?_ ?_ _) | (simp; omega) | simp)⟩
  obtain ⟨i0, hi, hz0, hz1, hz2⟩ := info_parts infoStop
  go_enter Tryz.func38, Tryz.ntmps38
  go_wp2_with fail
  have HF0 := Lib.hid (FJ.start w p q r)
  go_loopw [22] (fun i wr => ∃ (k : Nat) (v : Value), k ≤ L.length - 1 ∧ i = .int .i64 k ∧ FJ w w.heap.size (w.heap.size + 1 + 1) p q r (((L.drop 1).take k).map stpOf) v wr) (fun i _ => L.length - 1 - (intOf i).toNat)
  case atStart => exact ⟨0, _, Nat.zero_le _, rfl, HF0.out⟩
  case round =>
    obtain ⟨k, v, hk, rfl, hF⟩ := hrel
    have HF := Lib.hid hF
    clear hF
    by_cases hlt : k < L.length - 1
    · obtain ⟨tb', off', a2, n2, c2, he, _, hc2, hn2, hx2, r2⟩ := ll_at H.out (k + 1) (by omega)
      simp only [Option.some.injEq, Addr.mk.injEq, and_true] at he
      obtain ⟨rfl, rfl⟩ := he
      have h6 := wf_at HW.out (k + 1) (by omega) (by omega)
      rw [show off + (k + 1) = off + 1 + k by omega] at hc2
      rw [h6] at hn2
      subst hn2
      obtain ⟨b2, o2, rfl, hat2, hb2⟩ := line_stop r2 h6
      have d2 := (HF.out.bel.cell (p := ⟨tb, off + 1 + k, none⟩) htb).trans hc2
      have HAT := Lib.hid (hat2.below hb2 HF.out.bel)
      have HST := Lib.hid (stops_map L k (by omega))
      have hLn : ((((L.drop 1).take k).map stpOf).length) ≤ k := by simp; omega
      generalize ((L.drop 1).take k).map stpOf = l at *
      generalize stpOf (L.getD (k + 1) []) = t at *
      have hat6 : ∀ w, (Instr.arrayAt 106 (.slice (some ⟨b2, o2, none⟩) 6 c2)).run Tryz.prog w = .ok (.pointer (some ⟨b2, o2, none⟩)) w := fun w => run_arrayAt w 106 _ 6 _ 6 c2 Tryz.underlying106 (Nat.le_refl _)
      have hb3 : b2 < wr.heap.size := Nat.lt_of_lt_of_le hb2 HF.out.bel.size
      clear hat2 r2 hc2 h6 hx2 hc e0 e1 e2
      go_wp2_with fail
      have HF1 := Lib.hid (HF.out.below ((Below.refl _ wr).drew))
      have HS0 := Lib.hid (show Holds (cellsF b2 o2 t) wr.drew from holds_at (HAT.out.below HAT.out.lt ((Below.refl _ wr).drew)))
      have hlt2 := Lib.hid (show Lows w.heap.size (cellsF b2 o2 t) from lows_at hb2)
      have hlt := Lib.hid (show Lows wr.drew.heap.size (cellsF b2 o2 t) from lows_at hb3)
      have x3 : wr.drew.cell? ⟨w.heap.size + 1 + 1, 3, none⟩ = some v := HF1.out.cell 3
      refine wp_region_held_drew (S := Holds (cellsF b2 o2 t)) (by kernel_rfl) HS0.out (fun hSn => ?_)
      have Bc := Lib.hid (Below.refl wr.drew.heap.size wr.drew)
      unfold cellsF at *
      refine tks [0, 2, 3, 4] 4 rfl (by kernel_rfl) (fun _ _ _ _ h => h) (by assumption) (fun KT hKT => ?_)
      iterate 4 (refine tkT (by (simp only [gA, gB, gC]; rfl)) (by rfl) (by (intro w hSw; (simp only [Holds] at hSw); go_simp <;> with_reducible rfl)) ?_; simp only [Act.put, pA, pB, pC])
      refine hKT _ ?_
      clear KT hKT
      refine wpAnyH_ready (rs := [1, 5]) (by kernel_rfl) (by simp) ?_
      refine (AllReadyH.cons (o := ?oz16) ?iz16 (fun K hK => ?kz16) (AllReadyH.cons (o := ?oz17) ?iz17 (fun K hK => ?kz17) AllReadyH.nil))
      case iz16 => (simp only [List.getElem?_toArray, List.getElem?_cons_zero, List.getElem?_cons_succ]; rfl)
      case iz17 => (simp only [List.getElem?_toArray, List.getElem?_cons_zero, List.getElem?_cons_succ]; rfl)
      · go_simp
        refine held_more hK HS0.out hlt Bc.out (fun Bc hSn => ?_)
        refine wpAnyH_ready (rs := [5]) (by kernel_rfl) (by simp) ?_
        refine (AllReadyH.cons (o := ?oz18) ?iz18 (fun K hK => ?kz18) AllReadyH.nil)
        case iz18 => (simp only [List.getElem?_toArray, List.getElem?_cons_zero, List.getElem?_cons_succ]; rfl)
        go_simp
        refine (rowStop_any t _).mono ?_
        rintro e w2 ⟨rfl, hb⟩
        refine held_more hK HS0.out hlt (Bc.out.trans (hb.mono Bc.out.size)) (fun Bc hSn => ?_)
        clear hb hK
        have x3 : w2.cell? ⟨w.heap.size + 1 + 1, 3, none⟩ = some v := (HF1.out.below Bc.out).cell 3
        refine wpAnyH_ready (rs := [6]) (by kernel_rfl) (by simp) ?_
        refine AllReadyH.cons (o := ?oz19) ?iz19 (fun K hK => ?kz19) AllReadyH.nil
        case iz19 => (simp only [List.getElem?_toArray, List.getElem?_cons_zero, List.getElem?_cons_succ]; rfl)
        go_simp
        refine held_more hK HS0.out hlt (Bc.out.alloc Bc.out.size _) (fun Bc hSn => ?_)
        refine wpAnyH_ready (rs := [7]) (by kernel_rfl) (by simp) ?_
        refine (AllReadyH.cons (o := ?oz20) ?iz20 (fun K hK => ?kz20) AllReadyH.nil)
        case iz20 => (simp only [List.getElem?_toArray, List.getElem?_cons_zero, List.getElem?_cons_succ]; rfl)
        simp only [Act.put, List.setIfInBounds_toArray, List.set_cons_zero, List.set_cons_succ]
        rw [if_pos (by rfl)]
        refine wp_append_lies _ _ _ _ (by rfl) (w.heap.size + 1 + 1 + 1) 65 i0 _ 6 48 Tryz.underlying22 hi hz0 hz1 hz2 rfl (by decide) v l.length (flat l) (by rfl) (HF1.out.below Bc.out).own ⟨w2.heap.size, 0, none⟩ 1 1 (rowV t) (by rfl) rfl (news_row t) (rowV_one t) (by decide) (by unfold maxLen; omega) (by omega) (HF1.out.below Bc.out).size _ rfl ?_
        intro g cp w3 hown hgrow _ _
        have HN := Lib.hid ((HF1.out.below Bc.out).next (ownS_more hown) hgrow)
        obtain ⟨y3, y4⟩ := (HF1.out.below Bc.out).grown hgrow
        refine hK.out _ _ (Holds.grown hgrow (Nat.le_trans HF.out.bel.size Bc.out.size) (fun k hk => by have := (World.ownsRow.lt (HF1.out.below Bc.out).own k hk).1; omega) hSn hlt2.out) (fun hSn => ?_)
        clear hown hgrow x3
        refine tks [8] 1 rfl (by kernel_rfl) (fun _ _ _ _ h => h) (by assumption) (fun KT hKT => ?_)
        refine tkT (by (simp only [gA, gB, gC]; rfl)) (by rfl) (by (intro w hSw; (simp only [Holds] at hSw); go_simp <;> with_reducible rfl)) ?_
        simp only [Act.put, pA, pB, pC]
        refine hKT _ ?_
        clear KT hKT
        refine wpAnyH_ready (rs := [9]) (by kernel_rfl) (by simp) ?_
        refine (AllReadyH.cons (o := ?oz21) ?iz21 (fun K hK => ?kz21) AllReadyH.nil)
        case iz21 => (simp only [List.getElem?_toArray, List.getElem?_cons_zero, List.getElem?_cons_succ]; rfl)
        go_simp
        refine hK.out _ _ (Holds.set (by simp; omega) hSn hlt2.out) (fun hSn => ?_)
        refine wpAnyH_done (by kernel_rfl) ?_ _
        go_wp2
        go_roundw
        case rel => exact ⟨k + 1, _, by omega, by go_num, by rw [← HST.out]; exact HN.out⟩
        case measure => simp [intOf]; omega
      · go_simp
        refine (rowStop_any t _).mono ?_
        rintro e w2 ⟨rfl, hb⟩
        refine held_more hK HS0.out hlt (Bc.out.trans (hb.mono Bc.out.size)) (fun Bc hSn => ?_)
        clear hb hK
        have x3 : w2.cell? ⟨w.heap.size + 1 + 1, 3, none⟩ = some v := (HF1.out.below Bc.out).cell 3
        refine wpAnyH_ready (rs := [1, 6]) (by kernel_rfl) (by simp) ?_
        refine (AllReadyH.cons (o := ?oz22) ?iz22 (fun K hK => ?kz22) (AllReadyH.cons (o := ?oz23) ?iz23 (fun K hK => ?kz23) AllReadyH.nil))
        case iz22 => (simp only [List.getElem?_toArray, List.getElem?_cons_zero, List.getElem?_cons_succ]; rfl)
        case iz23 => (simp only [List.getElem?_toArray, List.getElem?_cons_zero, List.getElem?_cons_succ]; rfl)
        · go_simp
          refine held_more hK HS0.out hlt Bc.out (fun Bc hSn => ?_)
          refine wpAnyH_ready (rs := [6]) (by kernel_rfl) (by simp) ?_
          refine AllReadyH.cons (o := ?oz24) ?iz24 (fun K hK => ?kz24) AllReadyH.nil
          case iz24 => (simp only [List.getElem?_toArray, List.getElem?_cons_zero, List.getElem?_cons_succ]; rfl)
          go_simp
          refine held_more hK HS0.out hlt (Bc.out.alloc Bc.out.size _) (fun Bc hSn => ?_)
          refine wpAnyH_ready (rs := [7]) (by kernel_rfl) (by simp) ?_
          refine (AllReadyH.cons (o := ?oz25) ?iz25 (fun K hK => ?kz25) AllReadyH.nil)
          case iz25 => (simp only [List.getElem?_toArray, List.getElem?_cons_zero, List.getElem?_cons_succ]; rfl)
          simp only [Act.put, List.setIfInBounds_toArray, List.set_cons_zero, List.set_cons_succ]
          rw [if_pos (by rfl)]
          refine wp_append_lies _ _ _ _ (by rfl) (w.heap.size + 1 + 1 + 1) 65 i0 _ 6 48 Tryz.underlying22 hi hz0 hz1 hz2 rfl (by decide) v l.length (flat l) (by rfl) (HF1.out.below Bc.out).own ⟨w2.heap.size, 0, none⟩ 1 1 (rowV t) (by rfl) rfl (news_row t) (rowV_one t) (by decide) (by unfold maxLen; omega) (by omega) (HF1.out.below Bc.out).size _ rfl ?_
          intro g cp w3 hown hgrow _ _
          have HN := Lib.hid ((HF1.out.below Bc.out).next (ownS_more hown) hgrow)
          obtain ⟨y3, y4⟩ := (HF1.out.below Bc.out).grown hgrow
          refine hK.out _ _ (Holds.grown hgrow (Nat.le_trans HF.out.bel.size Bc.out.size) (fun k hk => by have := (World.ownsRow.lt (HF1.out.below Bc.out).own k hk).1; omega) hSn hlt2.out) (fun hSn => ?_)
          clear hown hgrow x3
          refine tks [8] 1 rfl (by kernel_rfl) (fun _ _ _ _ h => h) (by assumption) (fun KT hKT => ?_)
          refine tkT (by (simp only [gA, gB, gC]; rfl)) (by rfl) (by (intro w hSw; (simp only [Holds] at hSw); go_simp <;> with_reducible rfl)) ?_
          simp only [Act.put, pA, pB, pC]
          refine hKT _ ?_
          clear KT hKT
          refine wpAnyH_ready (rs := [9]) (by kernel_rfl) (by simp) ?_
          refine (AllReadyH.cons (o := ?oz26) ?iz26 (fun K hK => ?kz26) AllReadyH.nil)
          case iz26 => (simp only [List.getElem?_toArray, List.getElem?_cons_zero, List.getElem?_cons_succ]; rfl)
          go_simp
          refine hK.out _ _ (Holds.set (by simp; omega) hSn hlt2.out) (fun hSn => ?_)
          refine wpAnyH_done (by kernel_rfl) ?_ _
          go_wp2
          go_roundw
          case rel => exact ⟨k + 1, _, by omega, by go_num, by rw [← HST.out]; exact HN.out⟩
          case measure => simp [intOf]; omega
        · go_simp
          refine held_more hK HS0.out hlt (Bc.out.alloc Bc.out.size _) (fun Bc hSn => ?_)
          have x3 : (w2.alloc (.cells #[.int .i64 t.x, .int .i64 t.y, .int .i64 t.d, .int .i64 t.r, .int .i64 t.u, .int .i64 t.s] 65)).cell? ⟨w.heap.size + 1 + 1, 3, none⟩ = some v := (HF1.out.below Bc.out).cell 3
          refine wpAnyH_ready (rs := [1]) (by kernel_rfl) (by simp) ?_
          refine (AllReadyH.cons (o := ?oz27) ?iz27 (fun K hK => ?kz27) AllReadyH.nil)
          case iz27 => (simp only [List.getElem?_toArray, List.getElem?_cons_zero, List.getElem?_cons_succ]; rfl)
          go_simp
          refine held_more hK HS0.out hlt Bc.out (fun Bc hSn => ?_)
          refine wpAnyH_ready (rs := [7]) (by kernel_rfl) (by simp) ?_
          refine (AllReadyH.cons (o := ?oz28) ?iz28 (fun K hK => ?kz28) AllReadyH.nil)
          case iz28 => (simp only [List.getElem?_toArray, List.getElem?_cons_zero, List.getElem?_cons_succ]; rfl)
          simp only [Act.put, List.setIfInBounds_toArray, List.set_cons_zero, List.set_cons_succ]
          rw [if_pos (by rfl)]
          refine wp_append_lies _ _ _ _ (by rfl) (w.heap.size + 1 + 1 + 1) 65 i0 _ 6 48 Tryz.underlying22 hi hz0 hz1 hz2 rfl (by decide) v l.length (flat l) (by rfl) (HF1.out.below Bc.out).own ⟨w2.heap.size, 0, none⟩ 1 1 (rowV t) (by rfl) rfl (news_row t) (rowV_one t) (by decide) (by unfold maxLen; omega) (by omega) (HF1.out.below Bc.out).size _ rfl ?_
          intro g cp w3 hown hgrow _ _
          have HN := Lib.hid ((HF1.out.below Bc.out).next (ownS_more hown) hgrow)
          obtain ⟨y3, y4⟩ := (HF1.out.below Bc.out).grown hgrow
          refine hK.out _ _ (Holds.grown hgrow (Nat.le_trans HF.out.bel.size Bc.out.size) (fun k hk => by have := (World.ownsRow.lt (HF1.out.below Bc.out).own k hk).1; omega) hSn hlt2.out) (fun hSn => ?_)
          clear hown hgrow x3
          refine tks [8] 1 rfl (by kernel_rfl) (fun _ _ _ _ h => h) (by assumption) (fun KT hKT => ?_)
          refine tkT (by (simp only [gA, gB, gC]; rfl)) (by rfl) (by (intro w hSw; (simp only [Holds] at hSw); go_simp <;> with_reducible rfl)) ?_
          simp only [Act.put, pA, pB, pC]
          refine hKT _ ?_
          clear KT hKT
          refine wpAnyH_ready (rs := [9]) (by kernel_rfl) (by simp) ?_
          refine (AllReadyH.cons (o := ?oz29) ?iz29 (fun K hK => ?kz29) AllReadyH.nil)
          case iz29 => (simp only [List.getElem?_toArray, List.getElem?_cons_zero, List.getElem?_cons_succ]; rfl)
          go_simp
          refine hK.out _ _ (Holds.set (by simp; omega) hSn hlt2.out) (fun hSn => ?_)
          refine wpAnyH_done (by kernel_rfl) ?_ _
          go_wp2
          go_roundw
          case rel => exact ⟨k + 1, _, by omega, by go_num, by rw [← HST.out]; exact HN.out⟩
          case measure => simp [intOf]; omega
    · obtain rfl : k = L.length - 1 := by omega
      obtain ⟨va, vc, hv⟩ := HF.out.own.shape
      rw [show (((L.drop 1).take (L.length - 1)).map stpOf).length = L.length - 1 by simp] at hv
      subst hv
      have HI := Lib.hid (show insOf L = ⟨p, q, r, ((L.drop 1).take (L.length - 1)).map stpOf⟩ by
        unfold insOf; rw [HP.out, List.take_of_length_le (by simp)]; rfl)
      clear hlt hk
      have c0 : wr.cell? ⟨w.heap.size + 1 + 1, 0, none⟩ = some (.int .i64 p) := HF.out.cell 0
      have c1' : wr.cell? ⟨w.heap.size + 1 + 1, 1, none⟩ = some (.int .i64 q) := HF.out.cell 1
      have c2' : wr.cell? ⟨w.heap.size + 1 + 1, 2, none⟩ = some (.int .i64 r) := HF.out.cell 2
      have c3 : wr.cell? ⟨w.heap.size + 1 + 1, 3, none⟩ = some (.slice va _ vc) := HF.out.cell 3
      have z0 : wr.cell? ⟨w.heap.size, 0, none⟩ = some (.int .i64 0) := HF.out.cellz 0
      have z1 : wr.cell? ⟨w.heap.size, 1, none⟩ = some (.int .i64 0) := HF.out.cellz 1
      have z2 : wr.cell? ⟨w.heap.size, 2, none⟩ = some (.int .i64 0) := HF.out.cellz 2
      have z3 : wr.cell? ⟨w.heap.size, 3, none⟩ = some (.slice none 0 0) := HF.out.cellz 3
      have f0 := HF.out.freez 0
      have f1 := HF.out.freez 1
      have f2 := HF.out.freez 2
      have f3 := HF.out.freez 3
      go_wp2
      exact bodyPost_ret (v := .agg #[.int .i64 p, .int .i64 q,   .int .i64 r, .slice va (L.length - 1) vc]) (by simp [results, Tryz.results38, go_sem, z0, z1, z2, z3]) rfl ⟨_, by rw [HI.out]; rfl, by
          rw [HI.out]
          refine OwnS.less (B := w.heap.size + 1 + 1 + 1) ?_ (by omega)
          repeat' (first | exact HF.out.own | (refine ownsRow_setCell_below ?_ ?_ _) | (simp; omega) | simp), by
          repeat' (first | exact HF.out.bel | (refine Below.setCell ?_ ?_ _) | (simp; omega) | simp)⟩
end Go.Proofs.YtgplajofemencaaGreat
/- What Print answers. -/
namespace Go.Proofs.YtgplajofemencaaGreat
open Go.ChangeShapes Go.WideShapes Go.ChangeAt Go.RowKit

end Go.Proofs.YtgplajofemencaaGreat
/- What Parse answers. -/
namespace Go.Proofs.YtgplajofemencaaGreat
open Go.ChangeShapes Go.WideShapes Go.ChangeAt Go.RowKit

theorem cnt_ge : ∀ (L : List (List Int)), (∀ l ∈ L, l ≠ []) → L.length ≤ cnt L
  | [], _ => by simp [cnt]
  | l :: L, h => by
    have := cnt_ge L (fun x hx => h x (by simp [hx]))
    have := List.length_pos_iff.2 (h l (by simp))
    simp [cnt]; omega
theorem res_small (bs : List Int) : (resOf bs).length ≤ 5000 := by
  unfold resOf
  by_cases h : 4096 < bs.length
  · simp [h]
  · cases hp : parse bs with
    | none => simp [h]
    | some A =>
      obtain ⟨h1, h2⟩ := parse_good bs A hp
      have := cnt_ge A (fun l hl => (h1 l hl).1)
      simp [h]; omega
theorem pins_bad {bs : List Int} {k : Int} (hk : k ≠ 0) (h : perr bs = k) : pins bs = noIns := perr_bad (by rw [h]; exact hk)
theorem perr_1 {bs : List Int} (h : errOf bs ≠ 0) : perr bs = errOf bs := by unfold perr; rw [if_pos h]
theorem perr_2 {bs : List Int} (h : errOf bs = 0) (h2 : wf (resOf bs) = false) : perr bs = 2 := by unfold perr; simp [h, h2]
theorem perr_3 {bs : List Int} (h : errOf bs = 0) (h2 : wf (resOf bs) = true) (h3 : mayB (insOf (resOf bs)) = false) : perr bs = 1 := by unfold perr; simp [h, h2, h3]
theorem perr_4 {bs : List Int} (h : errOf bs = 0) (h2 : wf (resOf bs) = true) (h3 : mayB (insOf (resOf bs)) = true) : perr bs = 0 := by unfold perr; simp [h, h2, h3]
/-- The answer's block waits. -/
def ZBox (N : Nat) (w : World) : Prop := w.heap[N]? = some (.cells #[.int .i64 0, .int .i64 0, .int .i64 0, .slice none 0 0] 24 (0, 0))
theorem ZBox.below {N M : Nat} {w w' : World} (h : ZBox N w) (hN : N < M) (hb : Below M w w') : ZBox N w' := by unfold ZBox; rw [hb.block N hN]; exact h
theorem ZBox.cell {N : Nat} {w : World} (h : ZBox N w) (i : Nat) : w.cell? ⟨N, i, none⟩ = [Value.int .i64 0, .int .i64 0, .int .i64 0, .slice none 0 0][i]? := by rw [cell_of_row w N i _ _ _ h]; simp
theorem ZBox.free {N : Nat} {w : World} (h : ZBox N w) (i : Nat) : w.frozen? ⟨N, i, none⟩ = false := frozen_of_row w N i _ _ h
theorem zbox_new (w : World) : ZBox w.heap.size (w.alloc (.cells #[.int .i64 0, .int .i64 0, .int .i64 0, .slice none 0 0] 24)) := heap_alloc_new w _
/-- The answer of Parse. -/
def Parsed (w w' : World) (bs : List Int) (e : Ending) : Prop := ∃ v, e = .returned (.tuple #[insV (pins bs) v, .int .i64 (perr bs)]) ∧ OwnS w' w.heap.size v (pins bs).l ∧ Below w.heap.size w w'
theorem parsed_bad {w w' : World} {bs : List Int} {k : Int} (h : perr bs = k) (hk : k ≠ 0) (hb : Below w.heap.size w w') : Parsed w w' bs (.returned (.tuple #[.agg #[.int .i64 0, .int .i64 0, .int .i64 0, .slice none 0 0], .int .i64 k])) := by
  refine ⟨.slice none 0 0, ?_, ?_, hb⟩
  · rw [pins_bad hk h, h]; rfl
  · rw [pins_bad hk h]; exact ownS_nil _ _
set_option maxRecDepth 1000000 in
set_option maxHeartbeats 1000000 in
theorem parse_any {w : World} {tv : Value} {bs : List Int} (h : Row w tv (byts bs)) :
    Calls Tryz.prog 17 #[tv] w fun e w' => Parsed w w' bs e := by
  have H := Lib.hid h
  obtain ⟨ad, cap, rfl, _⟩ := h.form
  clear h
  go_enter Tryz.func17, Tryz.ntmps17
  go_wp2_with fail
  have HB0 := Lib.hid ((Below.refl _ w).alloc (Nat.le_refl _) (.cells #[.int .i64 0, .int .i64 0, .int .i64 0, .slice none 0 0] 24))
  have HZ0 := Lib.hid (zbox_new w)
  have hs0 : w.heap.size < (w.alloc (.cells #[.int .i64 0, .int .i64 0, .int .i64 0, .slice none 0 0] 24)).heap.size := by simp
  generalize w.alloc (.cells #[.int .i64 0, .int .i64 0, .int .i64 0, .slice none 0 0] 24) = W at *
  refine (lines_any (H.out.below HB0.out)).mono ?_
  rintro e w1 ⟨lv, rfl, hl, hb⟩
  have HL := Lib.hid (hl.is)
  obtain ⟨la, lc, rfl, _⟩ := hl.is.form
  have HZ1 := Lib.hid (HZ0.out.below hs0 hb)
  have HB1 := Lib.hid (HB0.out.trans (hb.mono HB0.out.size))
  have hs1 : w.heap.size < w1.heap.size := by have := hb.size; omega
  clear hl hb
  by_cases he : errOf bs = 0
  · rw [he]
    have HE := Lib.hid he
    clear he
    go_wp2_with fail
    refine (wellFormed_any HL.out).mono ?_
    rintro e w' ⟨rfl, rfl⟩
    cases hwf : wf (resOf bs)
    · have HP := Lib.hid (perr_2 HE.out hwf)
      clear hwf
      have z0 : w1.cell? ⟨w.heap.size, 0, none⟩ = some (.int .i64 0) := HZ1.out.cell 0
      have z1 : w1.cell? ⟨w.heap.size, 1, none⟩ = some (.int .i64 0) := HZ1.out.cell 1
      have z2 : w1.cell? ⟨w.heap.size, 2, none⟩ = some (.int .i64 0) := HZ1.out.cell 2
      have z3 : w1.cell? ⟨w.heap.size, 3, none⟩ = some (.slice none 0 0) := HZ1.out.cell 3
      have f0 := HZ1.out.free 0
      have f1 := HZ1.out.free 1
      have f2 := HZ1.out.free 2
      have f3 := HZ1.out.free 3
      go_wp2
      exact bodyPost_ret (v := .tuple #[.agg #[.int .i64 0, .int .i64 0, .int .i64 0, .slice none 0 0], .int .i64 2]) (by simp [results, Tryz.results17, go_sem, z0, z1, z2, z3]) rfl (parsed_bad HP.out (by decide) (by
        repeat' (first | exact HB1.out | (refine Below.setCell ?_ ?_ _) | (simp; omega) | simp)))
    · have HW := Lib.hid hwf
      clear hwf
      go_wp2_with fail
      refine (fromLines_any HL.out HW.out (by have := res_small bs; omega)).mono ?_
      rintro e w2 ⟨v, rfl, hv, hb⟩
      obtain ⟨va, vc, rfl⟩ := hv.shape
      have HV := Lib.hid hv
      have HZ2 := Lib.hid (HZ1.out.below hs1 hb)
      have HB2 := Lib.hid (HB1.out.trans (hb.mono HB1.out.size))
      have hs2 : w.heap.size < w2.heap.size := by have := hb.size; omega
      have hs12 := hb.size
      clear hv hb
      have HI := Lib.hid (show ∀ J, insOf (resOf bs) = J → (mayB J = true → perr bs = 0 ∧ pins bs = J) ∧ (mayB J = false → perr bs = 1) from fun J hJ => by
        subst hJ
        exact ⟨fun h => ⟨perr_4 HE.out HW.out h, by unfold pins; rw [if_pos (perr_4 HE.out HW.out h)]⟩, fun h => perr_3 HE.out HW.out h⟩)
      generalize hJ : insOf (resOf bs) = J at *
      have HJ := Lib.hid (HI.out J rfl)
      clear HI hJ
      unfold insV
      go_wp2_with fail
      change Calls _ _ _ (w2.alloc (boxI J (.slice va J.l.length vc))) _
      have HB3 := Lib.hid (HB2.out.alloc (by omega) (boxI J (.slice va J.l.length vc)))
      have HS0 := Lib.hid (holds_box w2 J (.slice va J.l.length vc))
      have HV3 := Lib.hid (HV.out.alloc (boxI J (.slice va J.l.length vc)))
      have HZ2b := Lib.hid (HZ2.out.below hs2 ((Below.refl _ w2).alloc (Nat.le_refl _) (boxI J (.slice va J.l.length vc))))
      have hltW : w2.heap.size < (w2.alloc (boxI J (.slice va J.l.length vc))).heap.size := by simp
      generalize w2.alloc (boxI J (.slice va J.l.length vc)) = W2 at *
      refine (may_any HV3.out.row).mono ?_
      rintro e w3 ⟨rfl, hb⟩
      have HS3 := Holds.below hb HS0.out ⟨hltW, hltW, hltW, hltW, trivial⟩
      simp only [cellsI, Holds] at HS3
      obtain ⟨c0, c1, c2, c3, _⟩ := HS3
      have HZ3 := Lib.hid (HZ2b.out.below (by omega) hb)
      have HB4 := Lib.hid (HB3.out.trans (hb.mono HB3.out.size))
      have HV4 := Lib.hid (HV3.out.below hb)
      clear hb
      have z0 : w3.cell? ⟨w.heap.size, 0, none⟩ = some (.int .i64 0) := HZ3.out.cell 0
      have z1 : w3.cell? ⟨w.heap.size, 1, none⟩ = some (.int .i64 0) := HZ3.out.cell 1
      have z2 : w3.cell? ⟨w.heap.size, 2, none⟩ = some (.int .i64 0) := HZ3.out.cell 2
      have z3 : w3.cell? ⟨w.heap.size, 3, none⟩ = some (.slice none 0 0) := HZ3.out.cell 3
      have f0 := HZ3.out.free 0
      have f1 := HZ3.out.free 1
      have f2 := HZ3.out.free 2
      have f3 := HZ3.out.free 3
      cases hmay : mayB J
      · have HP := Lib.hid (HJ.out.2 hmay)
        clear hmay
        go_wp2
        exact bodyPost_ret (v := .tuple #[.agg #[.int .i64 0, .int .i64 0, .int .i64 0, .slice none 0 0], .int .i64 1]) (by simp [results, Tryz.results17, go_sem, z0, z1, z2, z3]) rfl (parsed_bad HP.out (by decide) (by
          repeat' (first | exact HB4.out | (refine Below.setCell ?_ ?_ _) | (simp; omega) | simp)))
      · have HP := Lib.hid (HJ.out.1 hmay)
        clear hmay
        go_wp2
        exact bodyPost_ret (v := .tuple #[.agg #[.int .i64 J.p, .int .i64 J.c, .int .i64 J.r, .slice va J.l.length vc], .int .i64 0]) (by simp [results, Tryz.results17, go_sem, z0, z1, z2, z3]) rfl ⟨.slice va J.l.length vc, by rw [HP.out.1, HP.out.2]; rfl, by
          rw [HP.out.2]
          refine OwnS.less (B := w1.heap.size) ?_ (by omega)
          repeat' (first | exact HV4.out | (refine ownsRow_setCell_below ?_ ?_ _) | (simp; omega) | simp), by
          repeat' (first | exact HB4.out | (refine Below.setCell ?_ ?_ _) | (simp; omega) | simp)⟩
  · have HP := Lib.hid (perr_1 he)
    have hne : (errOf bs != 0) = true := by simp [he]
    have HN := Lib.hid he
    generalize errOf bs = ee at *
    have z0 : w1.cell? ⟨w.heap.size, 0, none⟩ = some (.int .i64 0) := HZ1.out.cell 0
    have z1 : w1.cell? ⟨w.heap.size, 1, none⟩ = some (.int .i64 0) := HZ1.out.cell 1
    have z2 : w1.cell? ⟨w.heap.size, 2, none⟩ = some (.int .i64 0) := HZ1.out.cell 2
    have z3 : w1.cell? ⟨w.heap.size, 3, none⟩ = some (.slice none 0 0) := HZ1.out.cell 3
    have f0 := HZ1.out.free 0
    have f1 := HZ1.out.free 1
    have f2 := HZ1.out.free 2
    have f3 := HZ1.out.free 3
    clear he
    go_wp2
    exact bodyPost_ret (v := .tuple #[.agg #[.int .i64 0, .int .i64 0, .int .i64 0, .slice none 0 0], .int .i64 ee]) (by simp [results, Tryz.results17, go_sem, z0, z1, z2, z3]) rfl (parsed_bad HP.out HN.out (by
      repeat' (first | exact HB1.out | (refine Below.setCell ?_ ?_ _) | (simp; omega) | simp)))
end Go.Proofs.YtgplajofemencaaGreat
/- The chapter's example. -/
namespace Go.Proofs.YtgplajofemencaaGreat
open Go.ChangeShapes Go.WideShapes Go.ChangeAt Go.RowKit

def smallB : List Int := [49, 32, 49, 32, 53, 10, 48, 32, 48, 32, 48, 32, 48, 32, 49, 48, 48, 32, 48, 10, 51, 32, 48, 32, 50, 32, 48, 32, 53, 48, 32, 49, 10, 48, 32, 52, 32, 45, 50, 32, 48, 32, 57, 48, 32, 49, 10]
def smallI : Ins := ⟨1, 1, 5, [⟨0, 0, 0, 0, 100, 0⟩, ⟨3, 0, 2, 0, 50, 1⟩, ⟨0, 4, -2, 0, 90, 1⟩]⟩
theorem small_ok : perr smallB = 0 ∧ pins smallB = smallI ∧ mayB smallI = true ∧ textOf (linesI smallI) = smallB := by decide +kernel
theorem small_any (w : World) : Calls Tryz.prog 18 #[] w fun e w' => e = .returned (.string (strOfNums smallB)) ∧ w = w' := by
  go_enter Tryz.func18, Tryz.ntmps18
  go_wp2
  go_ret
  exact ⟨by congr 2, rfl⟩
/-- A text made of a string. -/
theorem conv_back {w : World} {s : ByteArray} {xs : List Int} (hs : s = strOfNums xs) (hx : ∀ c ∈ xs, 0 ≤ c ∧ c ≤ 255) (hl : xs.length ≤ 1000000) :
    Row (Lib.bytesWorld w 5 s) (.slice (some ⟨w.heap.size, 0, none⟩) s.size (grownCap w s.size 0 5)) (byts xs) := by
  subst hs
  rw [strOfNums_size]
  refine ⟨by rw [byts_len]; unfold maxLen; omega, _, _, by rw [byts_len], by rw [byts_len]; exact grownCap_ge _ _ _ _, ⟨grownCap_le_maxLen _ _ _ _ (by unfold maxLen; omega), by simp⟩, .inr ⟨w.heap.size, 0, rfl, fun i hi => ?_⟩⟩
  rw [byts_len] at hi
  rw [Nat.zero_add, Lib.bytesWorld_cell w 5 _ i (by rw [strOfNums_size]; exact hi), byts_at _ _ hi]
  have hc := hx (xs.getD i 0) (by rw [List.getD_eq_getElem?_getD, List.getElem?_eq_getElem hi]; simp)
  have hn : (strOfNums xs).data.toList.getD i 0 = UInt8.ofNat (xs.getD i 0).toNat := by
    simp [strOfNums, List.getD_eq_getElem?_getD, hi]
  rw [hn]
  have : ((UInt8.ofNat (xs.getD i 0).toNat).toNat : Int) = xs.getD i 0 := by
    simp only [UInt8.toNat_ofNat']
    omega
  rw [this]
theorem conv_below (w : World) (s : ByteArray) : Below w.heap.size w (Lib.bytesWorld w 5 s) :=
  ⟨rfl, rfl, rfl, by rw [Lib.bytesWorld_size]; omega, fun k hk => Lib.bytesWorld_at_old w 5 s k hk⟩
end Go.Proofs.YtgplajofemencaaGreat
/- Instances that a law is handed. -/
namespace Go.Proofs.YtgplajofemencaaGreat
open Go.ChangeShapes Go.WideShapes Go.ChangeAt Go.RowKit

def Fit (n : Int) : Prop := -9223372036854775808 ≤ n ∧ n ≤ 9223372036854775807
def FitS (t : Stp) : Prop := Fit t.x ∧ Fit t.y ∧ Fit t.d ∧ Fit t.r ∧ Fit t.u ∧ Fit t.s
def FitI (I : Ins) : Prop := Fit I.p ∧ Fit I.c ∧ Fit I.r ∧ ∀ i, i < I.l.length → FitS (nth I.l i)
theorem cells_stop : Tryz.prog.cellsOf 65 = 6 := by kernel_rfl
theorem cells_inst : Tryz.prog.cellsOf 24 = 4 := by kernel_rfl
theorem cells_stops : Tryz.prog.cellsOf 22 = 1 := by kernel_rfl
section
variable {H : Type} {enc : TypeId × Value → H} {w : World} {base : Nat} {spare : Nat → Bool} {held : Bool}
theorem int_cells {fuel : Nat} {cs : List Value} {x : Option (DataW H × List MemPlace)} (hx : ∃ y, x = some y) (h : DataW.trod enc Tryz.prog w base spare held fuel 3 cs = x) : ∃ n, cs = [.int .i64 n] ∧ Fit n := by
  obtain ⟨y, rfl⟩ := hx
  obtain ⟨n, hn, _, hw⟩ := DataW.trod_int Tryz.underlying3 h
  exact ⟨n, hn, wf_fits hw⟩
set_option maxRecDepth 100000 in
theorem stop_cells {fuel : Nat} {cs : List Value} {x : DataW H × List MemPlace} (h : DataW.trod enc Tryz.prog w base spare held fuel 65 cs = some x) : ∃ t : Stp, cs = rowV t ∧ FitS t := by
  obtain ⟨xs, n, _, _, hlen, hxl, hf⟩ := DataW.trod_struct Tryz.underlying65 h
  rw [cells_stop] at hlen
  have hxl' : xs.length = 6 := hxl
  have f0 : DataW.trod enc Tryz.prog w base spare held n 3 ((cs.drop 0).take (Tryz.prog.cellsOf 3)) = xs[0]? := hf 0 _ rfl
  have f1 : DataW.trod enc Tryz.prog w base spare held n 3 ((cs.drop 1).take (Tryz.prog.cellsOf 3)) = xs[1]? := hf 1 _ rfl
  have f2 : DataW.trod enc Tryz.prog w base spare held n 3 ((cs.drop 2).take (Tryz.prog.cellsOf 3)) = xs[2]? := hf 2 _ rfl
  have f3 : DataW.trod enc Tryz.prog w base spare held n 3 ((cs.drop 3).take (Tryz.prog.cellsOf 3)) = xs[3]? := hf 3 _ rfl
  have f4 : DataW.trod enc Tryz.prog w base spare held n 3 ((cs.drop 4).take (Tryz.prog.cellsOf 3)) = xs[4]? := hf 4 _ rfl
  have f5 : DataW.trod enc Tryz.prog w base spare held n 3 ((cs.drop 5).take (Tryz.prog.cellsOf 3)) = xs[5]? := hf 5 _ rfl
  rw [cells_int] at f0 f1 f2 f3 f4 f5
  obtain ⟨n0, e0, b0⟩ := int_cells ⟨_, List.getElem?_eq_getElem (by omega)⟩ f0
  obtain ⟨n1, e1, b1⟩ := int_cells ⟨_, List.getElem?_eq_getElem (by omega)⟩ f1
  obtain ⟨n2, e2, b2⟩ := int_cells ⟨_, List.getElem?_eq_getElem (by omega)⟩ f2
  obtain ⟨n3, e3, b3⟩ := int_cells ⟨_, List.getElem?_eq_getElem (by omega)⟩ f3
  obtain ⟨n4, e4, b4⟩ := int_cells ⟨_, List.getElem?_eq_getElem (by omega)⟩ f4
  obtain ⟨n5, e5, b5⟩ := int_cells ⟨_, List.getElem?_eq_getElem (by omega)⟩ f5
  match cs, hlen with
  | [c0, c1, c2, c3, c4, c5], _ =>
    simp at e0 e1 e2 e3 e4 e5
    exact ⟨⟨n0, n1, n2, n3, n4, n5⟩, by rw [e0, e1, e2, e3, e4, e5]; rfl, b0, b1, b2, b3, b4, b5⟩
set_option maxRecDepth 100000 in
theorem stops_cells {fuel : Nat} {cs : List Value} {x : DataW H × List MemPlace} (h : DataW.trod enc Tryz.prog w base spare held fuel 22 cs = some x) : ∃ (v : Value) (l : List Stp), cs = [v] ∧ SRow w v l ∧ ∀ i, i < l.length → FitS (nth l i) := by
  rcases Go.Deep.open_slice Tryz.underlying22 h with ⟨h0, _⟩ | ⟨ad, ln, cp, m, n, D, Pl, hcs, hb, hl, hm, hmm, hx, hi⟩
  · exact ⟨_, [], h0, srow_nil w, fun i hi => by simp at hi⟩
  · have hlm : ln ≤ m := by rw [hmm]; split <;> omega
    obtain ⟨l, hll, hp⟩ := list_of (⟨0, 0, 0, 0, 0, 0⟩ : Stp) (fun i t => (∀ k, k < 6 → w.cell? ((ad.add (i * 6)).add k) = (rowV t)[k]?) ∧ FitS t) ln (fun i hil => by
      obtain ⟨cs', hc, ht⟩ := hi i (by omega)
      rw [cells_stop] at hc
      obtain ⟨t, rfl, hft⟩ := stop_cells ht
      obtain ⟨_, _, hat⟩ := World.cells?_some hc
      exact ⟨t, fun k hk => hat k hk, hft⟩)
    subst hll
    refine ⟨_, l, hcs, ?_, fun i hi => (hp i hi).2⟩
    refine ⟨by omega, some ad, cp, rfl, hl, ⟨hm, fun h => by simp at h⟩, ?_⟩
    by_cases e : l = []
    · exact .inl e
    · right
      have hpos : 0 < l.length := List.length_pos_iff.2 e
      obtain ⟨b, off, spot⟩ := ad
      have hspot : spot = none := by
        have := World.cell?_spot (show w.cell? (((⟨b, off, spot⟩ : Addr).add (0 * 6)).add 0) = some (.int .i64 (nth l 0).x) from (hp 0 hpos).1 0 (by omega))
        simpa [Addr.add] using this
      subst hspot
      refine ⟨b, off, rfl, fun i hi => at_of (fun k hk => ?_)⟩
      have := (hp i hi).1 k hk
      simp only [add_off] at this
      exact this
set_option maxRecDepth 100000 in
theorem inst_cells {fuel : Nat} {cs : List Value} {x : DataW H × List MemPlace} (h : DataW.trod enc Tryz.prog w base spare held fuel 24 cs = some x) : ∃ (I : Ins) (v : Value), cs = [.int .i64 I.p, .int .i64 I.c, .int .i64 I.r, v] ∧ SRow w v I.l ∧ FitI I := by
  obtain ⟨xs, n, _, _, hlen, hxl, hf⟩ := DataW.trod_struct Tryz.underlying24 h
  rw [cells_inst] at hlen
  have hxl' : xs.length = 4 := hxl
  have f0 : DataW.trod enc Tryz.prog w base spare held n 3 ((cs.drop 0).take (Tryz.prog.cellsOf 3)) = xs[0]? := hf 0 _ rfl
  have f1 : DataW.trod enc Tryz.prog w base spare held n 3 ((cs.drop 1).take (Tryz.prog.cellsOf 3)) = xs[1]? := hf 1 _ rfl
  have f2 : DataW.trod enc Tryz.prog w base spare held n 3 ((cs.drop 2).take (Tryz.prog.cellsOf 3)) = xs[2]? := hf 2 _ rfl
  have f3 : DataW.trod enc Tryz.prog w base spare held n 22 ((cs.drop 3).take (Tryz.prog.cellsOf 22)) = xs[3]? := hf 3 _ rfl
  rw [cells_int] at f0 f1 f2
  rw [cells_stops] at f3
  obtain ⟨n0, e0, b0⟩ := int_cells ⟨_, List.getElem?_eq_getElem (by omega)⟩ f0
  obtain ⟨n1, e1, b1⟩ := int_cells ⟨_, List.getElem?_eq_getElem (by omega)⟩ f1
  obtain ⟨n2, e2, b2⟩ := int_cells ⟨_, List.getElem?_eq_getElem (by omega)⟩ f2
  obtain ⟨v, l, e3, hs, hfl⟩ := stops_cells (f3.trans (List.getElem?_eq_getElem (by omega)))
  match cs, hlen with
  | [c0, c1, c2, c3], _ =>
    simp at e0 e1 e2 e3
    exact ⟨⟨n0, n1, n2, l⟩, v, by rw [e0, e1, e2, e3], hs, b0, b1, b2, hfl⟩
set_option maxRecDepth 100000 in
/-- An instance by value. -/
theorem open_inst {r : Reach} {b0 : Nat} {v : Value} {d : DataW H} {p : List MemPlace} (hv : Value.okWide Tryz.prog w r b0 24 v) (h : DataW.Trod enc Tryz.prog w base spare held 24 v d p) : ∃ (I : Ins) (u : Value), v = insV I u ∧ SRow w u I.l ∧ FitI I := by
  obtain ⟨cs, rfl, _⟩ := okWide_struct Tryz.underlying24 hv
  obtain ⟨fuel, hf⟩ := h
  obtain ⟨I, u, he, hs, hfi⟩ := inst_cells hf
  refine ⟨I, u, ?_, hs, hfi⟩
  obtain ⟨l⟩ := cs
  simp [Value.cells] at he
  rw [he]; rfl
end
end Go.Proofs.YtgplajofemencaaGreat
/- A number of one stop is changed; what is printed, in one word. -/
namespace Go.Proofs.YtgplajofemencaaGreat
open Go.ChangeShapes Go.WideShapes Go.ChangeAt Go.RowKit

theorem flat_set : ∀ (l : List Stp) (i k : Nat) (t : Stp) (u : Value), i < l.length → k < 6 → (rowV (nth l i)).set k u = rowV t → (flat l).set (i * 6 + k) u = flat (l.set i t)
  | [], i, _, _, _, h, _, _ => by simp at h
  | s :: l, 0, k, t, u, _, hk, h => by
    rw [flat, Nat.zero_mul, Nat.zero_add, List.set_append_left _ _ (by simp [rowV]; omega), List.set_cons_zero, flat]
    rw [show (rowV s).set k u = rowV t from h]
  | s :: l, i + 1, k, t, u, hi, hk, h => by
    rw [flat, List.set_append_right _ _ (by simp [rowV]; omega), List.set_cons_succ, flat]
    congr 1
    rw [show (i + 1) * 6 + k - (rowV s).length = i * 6 + k by simp [rowV]; omega]
    exact flat_set l i k t u (by simpa using hi) hk h
/-- One cell of one stop is stored. -/
theorem OwnS.stored {w : World} {B g n cap : Nat} {l : List Stp} (h : OwnS w B (.slice (some ⟨g, 0, none⟩) n cap) l) (i k : Nat) (t : Stp) (u : Value) (hi : i < l.length) (hk : k < 6) (ht : (rowV (nth l i)).set k u = rowV t) (a : Addr) (ha : a = ⟨g, i * 6 + k, none⟩) :
    OwnS (w.setCell a u) B (.slice (some ⟨g, 0, none⟩) n cap) (l.set i t) ∧ B ≤ g := by
  subst ha
  have hn : n = l.length := by
    obtain ⟨a, c, he⟩ := h.shape
    simp at he; exact he.2.1
  subst hn
  have h' : w.ownsRow B 65 6 (.slice (some ⟨g, 0, none⟩) l.length cap) l.length (flat l) := h
  refine ⟨?_, (World.ownsRow.lt h' g rfl).1⟩
  unfold OwnS
  rw [List.length_set, ← flat_set l i k t u hi hk ht]
  exact (h'.stored (i * 6 + k) u).1
theorem OwnS.at {w : World} {B g n cap : Nat} {l : List Stp} (h : OwnS w B (.slice (some ⟨g, 0, none⟩) n cap) l) (i : Nat) (hi : i < l.length) : At w g (i * 6) (nth l i) ∧ (∀ k, w.frozen? ⟨g, k, none⟩ = false) ∧ g < w.heap.size ∧ B ≤ g := by
  have hn : n = l.length := by
    obtain ⟨a, c, he⟩ := h.shape
    simp at he; exact he.2.1
  subst hn
  have h' : w.ownsRow B 65 6 (.slice (some ⟨g, 0, none⟩) l.length cap) l.length (flat l) := h
  have := srow_here h.row i hi
  rw [Nat.zero_add] at this
  exact ⟨this, fun k => h'.frozenAt k, this.lt, (World.ownsRow.lt h' g rfl).1⟩
theorem OwnS.form {w : World} {B : Nat} {v : Value} {l : List Stp} (h : OwnS w B v l) (hl : 0 < l.length) : ∃ g cap, v = .slice (some ⟨g, 0, none⟩) l.length cap := by
  obtain ⟨g, cap, hv, _⟩ := World.ownsRow.form (show w.ownsRow B 65 6 v l.length (flat l) from h) hl
  exact ⟨g, cap, hv⟩
def pt (I : Ins) : List Int := if mayB I = true then textOf (linesI I) else []
/-- An instance's box, whole. -/
def YBox (w : World) (N : Nat) (I : Ins) (u : Value) : Prop := w.heap[N]? = some (.cells #[.int .i64 I.p, .int .i64 I.c, .int .i64 I.r, u] 24 (0, 0))
section
variable {w w' : World} {N : Nat} {I : Ins} {u : Value}
theorem ybox_new (w : World) (I : Ins) (u : Value) : YBox (w.alloc (boxI I u)) w.heap.size I u := heap_alloc_new w _
theorem YBox.lt (h : YBox w N I u) : N < w.heap.size := (Array.getElem?_eq_some_iff.1 h).1
theorem YBox.cells (h : YBox w N I u) : w.cell? ⟨N, 0, none⟩ = some (.int .i64 I.p) ∧ w.cell? ⟨N, 1, none⟩ = some (.int .i64 I.c) ∧ w.cell? ⟨N, 2, none⟩ = some (.int .i64 I.r) ∧ w.cell? ⟨N, 3, none⟩ = some u := by
  have hc : ∀ i, w.cell? ⟨N, i, none⟩ = [Value.int .i64 I.p, .int .i64 I.c, .int .i64 I.r, u][i]? := fun i => by rw [cell_of_row w N i _ _ _ h]; simp
  exact ⟨hc 0, hc 1, hc 2, hc 3⟩
theorem YBox.free (h : YBox w N I u) (i : Nat) : w.frozen? ⟨N, i, none⟩ = false := frozen_of_row w N i _ _ h
theorem YBox.below {M : Nat} (h : YBox w N I u) (hN : N < M) (hb : Below M w w') : YBox w' N I u := by unfold YBox; rw [hb.block N hN]; exact h
theorem YBox.later (h : YBox w N I u) (hb : Below w.heap.size w w') : YBox w' N I u := h.below h.lt hb
theorem YBox.other (h : YBox w N I u) (a : Addr) (x : Value) (ha : a.block ≠ N) : YBox (w.setCell a x) N I u := by unfold YBox; rw [heap_setCell_other w a N x (fun e => ha e.symm)]; exact h
theorem YBox.room (h : YBox w N I u) (r : Int) : YBox (w.setCell ⟨N, 2, none⟩ (.int .i64 r)) N ⟨I.p, I.c, r, I.l⟩ u := by unfold YBox; rw [heap_setCell_same w N 2 _ _ _ h]; rfl
theorem YBox.pairs (h : YBox w N I u) (p : Int) : YBox (w.setCell ⟨N, 0, none⟩ (.int .i64 p)) N ⟨p, I.c, I.r, I.l⟩ u := by unfold YBox; rw [heap_setCell_same w N 0 _ _ _ h]; rfl
end
end Go.Proofs.YtgplajofemencaaGreat
