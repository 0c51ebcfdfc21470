/- What a reader's steps do: a byte's kind, the next byte, a digit taken, a number ended, a line ended. -/
import Derived.Test.YtolaiccgbngomaaMem
import Derived.Deep.RegionLaw
import Derived.OwnWalk
import Derived.BigRegion
namespace Go.Proofs.Ytolaiccgbngomaa
open Go.ChangeShapes Go.WideShapes Go.ChangeAt Go.RowKit

theorem kd_1 : (1 : Int) = kd 32 := by decide
theorem kd_2 : (2 : Int) = kd 45 := by decide
theorem kd_4 : (4 : Int) = kd 35 := by decide
theorem kd_5 : (5 : Int) = kd 10 := by decide
theorem kd_3 {c : Int} (h1 : 48 ≤ c) (h2 : c ≤ 57) : 3 = kd c := by have := kd_cases c; omega
theorem kd_0 {c : Int} (a1 : c ≠ 32) (a2 : c ≠ 45) (a3 : c ≠ 35) (a4 : c ≠ 10) (h : ¬ (48 ≤ c ∧ c ≤ 57)) : 0 = kd c := by have := kd_cases c; omega
set_option maxRecDepth 100000 in
theorem kind_any (c : Int) (w : World) : Calls Try.prog 54 #[.int .u8 c] w fun e w' => e = .returned (.int .i64 (kd c)) ∧ w' = w := by
  rcases kd_cases c with ⟨rfl, hk⟩ | ⟨rfl, hk⟩ | ⟨rfl, hk⟩ | ⟨rfl, hk⟩ | ⟨h1, h2, hk⟩ | ⟨a1, a2, a3, a4, h, hk⟩
  iterate 4
    · rw [hk]
      go_enter Try.func54, Try.ntmps54
      go_wp2
      go_ret
      exact ⟨rfl, rfl⟩
  · rw [hk]
    have b1 : (c == 32) = false := by simp; omega
    have b2 : (c == 45) = false := by simp; omega
    have b3 : (c == 35) = false := by simp; omega
    have b4 : (c == 10) = false := by simp; omega
    have d1 : decide (48 ≤ c) = true := by simpa using h1
    have d2 : decide (c ≤ 57) = true := by simpa using h2
    clear hk
    go_enter Try.func54, Try.ntmps54
    go_wp2
    go_ret
    exact ⟨rfl, rfl⟩
  · rw [hk]
    have b1 : (c == 32) = false := by simpa using a1
    have b2 : (c == 45) = false := by simpa using a2
    have b3 : (c == 35) = false := by simpa using a3
    have b4 : (c == 10) = false := by simpa using a4
    clear hk a1 a2 a3 a4
    by_cases h1 : 48 ≤ c
    · have d1 : decide (48 ≤ c) = true := by simpa using h1
      have d2 : decide (c ≤ 57) = false := decide_eq_false (fun h2 => h ⟨h1, h2⟩)
      clear h h1
      go_enter Try.func54, Try.ntmps54
      go_wp2
      go_ret
      exact ⟨rfl, rfl⟩
    · have d1 : decide (48 ≤ c) = false := by simpa using h1
      clear h h1
      go_enter Try.func54, Try.ntmps54
      go_wp2
      go_ret
      exact ⟨rfl, rfl⟩

theorem own_each {w : World} {B : Nat} (n : Nat) : ∀ {vs : List Value} {L : List (List Int)}, OwnIn w B vs L → OwnIn (w.drewN n) B vs L
  | [], [], _ => trivial
  | _ :: _, _ :: _, h => ⟨h.1, own_each n h.2⟩
  | [], _ :: _, h => h.elim
  | _ :: _, [], h => h.elim
section
variable {w : World} {B b : Nat} {tv : Value} {p : Nat} {L : List (List Int)} {l : List Int} {sz dg : Nat} {neg : Bool} {bs : List Int}
theorem below_drewN {B : Nat} {a w : World} (h : Below B a w) (n : Nat) : Below B a (w.drewN n) := ⟨h.os, h.tape, h.output, h.size, h.block⟩
theorem RAt.drewN {lv v : Value} {vs : List Value} (h : RAt w B b tv p L l sz dg neg lv v vs) (n : Nat) : RAt (w.drewN n) B b tv p L l sz dg neg lv v vs := ⟨h.base, h.blk, h.all, own_each n h.each, h.own, h.apart⟩
set_option maxRecDepth 100000 in
theorem next_end (h : RD w B b tv p L l sz dg neg) (ht : Row w tv (byts bs)) (hp : p = bs.length) :
    Calls Try.prog 48 #[.pointer (some ⟨b, 0, none⟩)] w fun e w' => e = .returned (.int .i64 6) ∧ RD w' B b tv p L l sz dg neg ∧ Below B w w' := by
  obtain ⟨lv, v, vs, h⟩ := h
  obtain ⟨hm, a, cap, rfl, _, _, _⟩ := ht
  have H := Lib.hid h
  have c0 : w.cell? ⟨b, 0, none⟩ = _ := h.cell 0
  have c1 : w.cell? ⟨b, 1, none⟩ = _ := h.cell 1
  rw [byts_len] at c0 hm
  subst hp
  simp only [List.getElem?_cons_zero, List.getElem?_cons_succ] at c0 c1
  clear h
  go_enter Try.func48, Try.ntmps48
  go_wp2
  go_quiet (fail)
  go_wp2
  go_ret
  exact ⟨rfl, ⟨_, _, _, H.out.drewN _⟩, below_drewN (Below.refl _ _) _⟩
theorem row_at {xs : List Value} (ht : Row w tv xs) (hp : p < xs.length) : ∃ tb off cap, tv = .slice (some ⟨tb, off, none⟩) xs.length cap ∧ w.cell? ⟨tb, off + p, none⟩ = xs[p]? ∧ xs.length ≤ maxLen ∧ tb < w.heap.size := by
  obtain ⟨hm, a, cap, rfl, _, _, h | ⟨tb, off, rfl, hc⟩⟩ := ht
  · rw [h] at hp; simp at hp
  · have h1 := hc p hp
    have h2 := h1
    rw [List.getElem?_eq_getElem hp] at h2
    exact ⟨tb, off, cap, rfl, h1, hm, World.block_lt_of_cell? w _ h2⟩
set_option maxRecDepth 100000 in
theorem next_more (h : RD w B b tv p L l sz dg neg) (ht : Row w tv (byts bs)) (hp : p < bs.length) (c : Int) (hcc : bs.getD p 0 = c) (hB : ∀ w', Below B w w' → Row w' tv (byts bs)) :
    Calls Try.prog 48 #[.pointer (some ⟨b, 0, none⟩)] w fun e w' => e = .returned (.int .i64 (kd c)) ∧ RD w' B b tv (p + 1) L l sz dg neg ∧ Below B w w' := by
  obtain ⟨lv, v, vs, h⟩ := h
  obtain ⟨tb, off, cap, rfl, _, hm, _⟩ := row_at (p := p) ht (by rw [byts_len]; exact hp)
  rw [byts_len] at hm h hB ⊢
  have hbd : bs.length ≤ 9223372036854775807 := by unfold maxLen at hm; omega
  have H := Lib.hid h
  have HB := Lib.hid hB
  have c0 := h.cell 0
  have c1 := h.cell 1
  simp only [List.getElem?_cons_zero, List.getElem?_cons_succ] at c0 c1
  have hp1 : ((p : Int) == (bs.length : Int)) = false := by simp; omega
  clear h hB ht hm
  go_enter Try.func48, Try.ntmps48
  go_wp2
  go_quiet (fail)
  have H0 := Lib.hid (H.out.drewN nq)
  have HB0 := Lib.hid (below_drewN (Below.refl B w) nq)
  generalize w.drewN nq = w0 at *
  clear c0 c1
  have c0 := H0.out.cell 0
  have c1 := H0.out.cell 1
  have f1 := H0.out.free 1
  simp only [List.getElem?_cons_zero, List.getElem?_cons_succ] at c0 c1
  go_wp2
  obtain ⟨hs, hb⟩ := H0.out.setAt (p + 1)
  obtain ⟨tb', off', cap', he, hc, _, _⟩ := row_at (p := p) (HB.out _ (HB0.out.trans hb)) (by rw [byts_len]; exact hp)
  obtain ⟨⟨rfl, rfl⟩, rfl⟩ : (tb = tb' ∧ off = off') ∧ cap = cap' := by simpa [byts_len] using he
  rw [byts_at _ _ hp, hcc] at hc
  clear hcc
  have HS := Lib.hid hs
  have HS2 := Lib.hid (HB0.out.trans hb)
  rw [Int.natCast_add, Int.cast_ofNat_Int] at hc HS HS2
  have s0 := HS.out.cell 0
  have s1 := HS.out.cell 1
  simp only [List.getElem?_cons_zero, List.getElem?_cons_succ] at s0 s1
  have e2 : IntKind.i64.wrap (p : Int) = (p : Int) := IntWalk.i64_in _ (by omega)
  clear he hs hb c0 c1 f1
  generalize w0.setCell ⟨b, 1, none⟩ (.int .i64 ((p : Int) + 1)) = w1 at *
  go_quiet ((go_at_call 54; exact Calls.quiet_of_same (kind_any _ _)))
  go_wp2
  go_ret
  exact ⟨rfl, ⟨_, _, _, HS.out.drewN _⟩, below_drewN HS2.out _⟩
end
end Go.Proofs.Ytolaiccgbngomaa
