/- How a state lies in memory, and the struct that embeds it and its instance. -/
import Derived.Test.YtgplajofemencaaGreatXSPlan
import Derived.Test.YtgplajofemencaaGreatXE
import Derived.Test.YtgplajofemencaaGreatXTCar
import Derived.Test.YtgplajofemencaaGreatYC
import Derived.Test.YtgplajofemencaaGreatXIMay
namespace Go.Proofs.YtgplajofemencaaGreat
open Go.ChangeShapes Go.WideShapes Go.ChangeAt Go.RowKit

def staV (s : Sta) : Value := .agg #[.int .i64 s.pos, .int .i64 s.car, .int .i64 s.time, .int .i64 s.load, .int .i64 s.first, .int .u64 s.must, .int .u64 s.may, .int .u64 s.on]
def boxSt (s : Sta) : Obj := .cells #[.int .i64 s.pos, .int .i64 s.car, .int .i64 s.time, .int .i64 s.load, .int .i64 s.first, .int .u64 s.must, .int .u64 s.may, .int .u64 s.on] 27
def boxH (I : Ins) (sv : Value) (s : Sta) : Obj := .cells #[.int .i64 I.p, .int .i64 I.c, .int .i64 I.r, sv, .int .i64 s.pos, .int .i64 s.car, .int .i64 s.time, .int .i64 s.load, .int .i64 s.first, .int .u64 s.must, .int .u64 s.may, .int .u64 s.on] 137
/-- Its sets are of 64 bits. -/
def SetsOk (s : Sta) : Prop := s.must < 18446744073709551616 ∧ s.may < 18446744073709551616 ∧ s.on < 18446744073709551616
/-- A state in a block of its own. -/
def StB (w : World) (b : Nat) (s : Sta) : Prop := w.heap[b]? = some (.cells #[.int .i64 s.pos, .int .i64 s.car, .int .i64 s.time, .int .i64 s.load, .int .i64 s.first, .int .u64 s.must, .int .u64 s.may, .int .u64 s.on] 27 (0, 0))
def HereB (w : World) (b : Nat) (I : Ins) (sv : Value) (s : Sta) : Prop := w.heap[b]? = some (.cells #[.int .i64 I.p, .int .i64 I.c, .int .i64 I.r, sv, .int .i64 s.pos, .int .i64 s.car, .int .i64 s.time, .int .i64 s.load, .int .i64 s.first, .int .u64 s.must, .int .u64 s.may, .int .u64 s.on] 137 (0, 0))
def cellsSt (b : Nat) (s : Sta) : List (Addr × Value) := [(⟨b, 0, none⟩, .int .i64 s.pos), (⟨b, 1, none⟩, .int .i64 s.car), (⟨b, 2, none⟩, .int .i64 s.time), (⟨b, 3, none⟩, .int .i64 s.load), (⟨b, 4, none⟩, .int .i64 s.first), (⟨b, 5, none⟩, .int .u64 s.must), (⟨b, 6, none⟩, .int .u64 s.may), (⟨b, 7, none⟩, .int .u64 s.on)]
def cellsH (b : Nat) (I : Ins) (sv : Value) (s : Sta) : List (Addr × Value) := [(⟨b, 0, none⟩, .int .i64 I.p), (⟨b, 1, none⟩, .int .i64 I.c), (⟨b, 2, none⟩, .int .i64 I.r), (⟨b, 3, none⟩, sv), (⟨b, 4, none⟩, .int .i64 s.pos), (⟨b, 5, none⟩, .int .i64 s.car), (⟨b, 6, none⟩, .int .i64 s.time), (⟨b, 7, none⟩, .int .i64 s.load), (⟨b, 8, none⟩, .int .i64 s.first), (⟨b, 9, none⟩, .int .u64 s.must), (⟨b, 10, none⟩, .int .u64 s.may), (⟨b, 11, none⟩, .int .u64 s.on)]
section
variable {w w' : World} {b : Nat} {I : Ins} {sv : Value} {s : Sta}
theorem st_new (w : World) (s : Sta) : StB (w.alloc (boxSt s)) w.heap.size s := heap_alloc_new w _
theorem here_new (w : World) (I : Ins) (sv : Value) (s : Sta) : HereB (w.alloc (boxH I sv s)) w.heap.size I sv s := heap_alloc_new w _
theorem StB.lt (k : StB w b s) : b < w.heap.size := (Array.getElem?_eq_some_iff.1 k).1
theorem StB.below {M : Nat} (k : StB w b s) (hb : b < M) (hw : Below M w w') : StB w' b s := by unfold StB; rw [hw.block b hb]; exact k
theorem StB.later (k : StB w b s) (hw : Below w.heap.size w w') : StB w' b s := k.below k.lt hw
theorem StB.cell (k : StB w b s) (i : Nat) : w.cell? ⟨b, i, none⟩ = (#[.int .i64 s.pos, .int .i64 s.car, .int .i64 s.time, .int .i64 s.load, .int .i64 s.first, .int .u64 s.must, .int .u64 s.may, .int .u64 s.on] : Array Value)[i]? := cell_of_row w b i _ _ _ k
theorem StB.free (k : StB w b s) (i : Nat) : w.frozen? ⟨b, i, none⟩ = false := frozen_of_row w b i _ _ k
theorem StB.other (k : StB w b s) (p : Addr) (x : Value) (hp : p.block ≠ b) : StB (w.setCell p x) b s := by unfold StB; rw [heap_setCell_other w p b x (fun e => hp e.symm)]; exact k
theorem StB.c0 (k : StB w b s) : w.cell? ⟨b, 0, none⟩ = some (.int .i64 s.pos) := k.cell 0
theorem StB.c1 (k : StB w b s) : w.cell? ⟨b, 1, none⟩ = some (.int .i64 s.car) := k.cell 1
theorem StB.c2 (k : StB w b s) : w.cell? ⟨b, 2, none⟩ = some (.int .i64 s.time) := k.cell 2
theorem StB.c3 (k : StB w b s) : w.cell? ⟨b, 3, none⟩ = some (.int .i64 s.load) := k.cell 3
theorem StB.c4 (k : StB w b s) : w.cell? ⟨b, 4, none⟩ = some (.int .i64 s.first) := k.cell 4
theorem StB.c5 (k : StB w b s) : w.cell? ⟨b, 5, none⟩ = some (.int .u64 s.must) := k.cell 5
theorem StB.c6 (k : StB w b s) : w.cell? ⟨b, 6, none⟩ = some (.int .u64 s.may) := k.cell 6
theorem StB.c7 (k : StB w b s) : w.cell? ⟨b, 7, none⟩ = some (.int .u64 s.on) := k.cell 7
theorem StB.holds (k : StB w b s) : Holds (cellsSt b s) w := ⟨k.c0, k.c1, k.c2, k.c3, k.c4, k.c5, k.c6, k.c7, trivial⟩
theorem HereB.lt (k : HereB w b I sv s) : b < w.heap.size := (Array.getElem?_eq_some_iff.1 k).1
theorem HereB.below {M : Nat} (k : HereB w b I sv s) (hb : b < M) (hw : Below M w w') : HereB w' b I sv s := by unfold HereB; rw [hw.block b hb]; exact k
theorem HereB.later (k : HereB w b I sv s) (hw : Below w.heap.size w w') : HereB w' b I sv s := k.below k.lt hw
theorem HereB.cell (k : HereB w b I sv s) (i : Nat) : w.cell? ⟨b, i, none⟩ = (#[.int .i64 I.p, .int .i64 I.c, .int .i64 I.r, sv, .int .i64 s.pos, .int .i64 s.car, .int .i64 s.time, .int .i64 s.load, .int .i64 s.first, .int .u64 s.must, .int .u64 s.may, .int .u64 s.on] : Array Value)[i]? := cell_of_row w b i _ _ _ k
theorem HereB.free (k : HereB w b I sv s) (i : Nat) : w.frozen? ⟨b, i, none⟩ = false := frozen_of_row w b i _ _ k
theorem HereB.other (k : HereB w b I sv s) (p : Addr) (x : Value) (hp : p.block ≠ b) : HereB (w.setCell p x) b I sv s := by unfold HereB; rw [heap_setCell_other w p b x (fun e => hp e.symm)]; exact k
theorem HereB.c0 (k : HereB w b I sv s) : w.cell? ⟨b, 0, none⟩ = some (.int .i64 I.p) := k.cell 0
theorem HereB.c1 (k : HereB w b I sv s) : w.cell? ⟨b, 1, none⟩ = some (.int .i64 I.c) := k.cell 1
theorem HereB.c2 (k : HereB w b I sv s) : w.cell? ⟨b, 2, none⟩ = some (.int .i64 I.r) := k.cell 2
theorem HereB.c3 (k : HereB w b I sv s) : w.cell? ⟨b, 3, none⟩ = some (sv) := k.cell 3
theorem HereB.c4 (k : HereB w b I sv s) : w.cell? ⟨b, 4, none⟩ = some (.int .i64 s.pos) := k.cell 4
theorem HereB.c5 (k : HereB w b I sv s) : w.cell? ⟨b, 5, none⟩ = some (.int .i64 s.car) := k.cell 5
theorem HereB.c6 (k : HereB w b I sv s) : w.cell? ⟨b, 6, none⟩ = some (.int .i64 s.time) := k.cell 6
theorem HereB.c7 (k : HereB w b I sv s) : w.cell? ⟨b, 7, none⟩ = some (.int .i64 s.load) := k.cell 7
theorem HereB.c8 (k : HereB w b I sv s) : w.cell? ⟨b, 8, none⟩ = some (.int .i64 s.first) := k.cell 8
theorem HereB.c9 (k : HereB w b I sv s) : w.cell? ⟨b, 9, none⟩ = some (.int .u64 s.must) := k.cell 9
theorem HereB.c10 (k : HereB w b I sv s) : w.cell? ⟨b, 10, none⟩ = some (.int .u64 s.may) := k.cell 10
theorem HereB.c11 (k : HereB w b I sv s) : w.cell? ⟨b, 11, none⟩ = some (.int .u64 s.on) := k.cell 11
theorem HereB.holds (k : HereB w b I sv s) : Holds (cellsH b I sv s) w := ⟨k.c0, k.c1, k.c2, k.c3, k.c4, k.c5, k.c6, k.c7, k.c8, k.c9, k.c10, k.c11, trivial⟩
theorem lows_St {M b : Nat} {s : Sta} (hb : b < M) : Lows M (cellsSt b s) := ⟨hb, hb, hb, hb, hb, hb, hb, hb, trivial⟩
theorem lows_H {M b : Nat} {I : Ins} {sv : Value} {s : Sta} (hb : b < M) : Lows M (cellsH b I sv s) := ⟨hb, hb, hb, hb, hb, hb, hb, hb, hb, hb, hb, hb, trivial⟩
theorem StB.set0 (k : StB w b s) (x : Int) : StB (w.setCell ⟨b, 0, none⟩ (.int .i64 x)) b ⟨x, s.car, s.time, s.load, s.first, s.must, s.may, s.on⟩ := by unfold StB; rw [heap_setCell_same w b 0 _ _ _ k]; rfl
theorem StB.set1 (k : StB w b s) (x : Int) : StB (w.setCell ⟨b, 1, none⟩ (.int .i64 x)) b ⟨s.pos, x, s.time, s.load, s.first, s.must, s.may, s.on⟩ := by unfold StB; rw [heap_setCell_same w b 1 _ _ _ k]; rfl
theorem StB.set2 (k : StB w b s) (x : Int) : StB (w.setCell ⟨b, 2, none⟩ (.int .i64 x)) b ⟨s.pos, s.car, x, s.load, s.first, s.must, s.may, s.on⟩ := by unfold StB; rw [heap_setCell_same w b 2 _ _ _ k]; rfl
theorem StB.set3 (k : StB w b s) (x : Int) : StB (w.setCell ⟨b, 3, none⟩ (.int .i64 x)) b ⟨s.pos, s.car, s.time, x, s.first, s.must, s.may, s.on⟩ := by unfold StB; rw [heap_setCell_same w b 3 _ _ _ k]; rfl
theorem StB.set4 (k : StB w b s) (x : Int) : StB (w.setCell ⟨b, 4, none⟩ (.int .i64 x)) b ⟨s.pos, s.car, s.time, s.load, x, s.must, s.may, s.on⟩ := by unfold StB; rw [heap_setCell_same w b 4 _ _ _ k]; rfl
theorem StB.set5 (k : StB w b s) (x : Nat) : StB (w.setCell ⟨b, 5, none⟩ (.int .u64 (x : Nat))) b ⟨s.pos, s.car, s.time, s.load, s.first, x, s.may, s.on⟩ := by unfold StB; rw [heap_setCell_same w b 5 _ _ _ k]; rfl
theorem StB.set6 (k : StB w b s) (x : Nat) : StB (w.setCell ⟨b, 6, none⟩ (.int .u64 (x : Nat))) b ⟨s.pos, s.car, s.time, s.load, s.first, s.must, x, s.on⟩ := by unfold StB; rw [heap_setCell_same w b 6 _ _ _ k]; rfl
theorem StB.set7 (k : StB w b s) (x : Nat) : StB (w.setCell ⟨b, 7, none⟩ (.int .u64 (x : Nat))) b ⟨s.pos, s.car, s.time, s.load, s.first, s.must, s.may, x⟩ := by unfold StB; rw [heap_setCell_same w b 7 _ _ _ k]; rfl
end
/-- A state's numbers are small where it may go on. -/
theorem goOn_bd {I : Ins} {s : Sta} (h : GoOn I s) : (0 ≤ s.pos ∧ s.pos ≤ 32) ∧ (1 ≤ s.car ∧ s.car ≤ 8) ∧ (0 ≤ s.time ∧ s.time ≤ 1073741824) ∧ (0 ≤ s.load ∧ s.load ≤ 1000) := by
  obtain ⟨hm, h1, h2, h3, h4⟩ := h
  have hp := (fine_of hm).p1
  have hc := (inb_iff _ _ _).1 ((may_iff I).1 hm).2.1
  exact ⟨by omega, by omega, h3, h4⟩
/-- The stop of a number that is one. -/
theorem num_stop {I : Ins} {j : Int} (hm : mayB I = true) (h : 0 ≤ j ∧ j ≤ 2 * I.p) : ∃ k : Nat, j = k ∧ k < I.l.length ∧ stp I j = nth I.l k := by
  have := (fine_of hm).len
  exact ⟨j.toNat, by omega, by omega, rfl⟩
end Go.Proofs.YtgplajofemencaaGreat
/- What the small methods of the struct answer: whether a state may go on, how far it is, when it begins. -/
namespace Go.Proofs.YtgplajofemencaaGreat
open Go.ChangeShapes Go.WideShapes Go.ChangeAt Go.RowKit

theorem sin_any (a b n : Int) (w : World) : Calls Tryz.prog 121 #[.int .i64 a, .int .i64 b, .int .i64 n] w fun e w' => e = .returned (.bool (inb a b n)) ∧ w = w' := by
  have HI := Lib.hid (show inb a b n = (decide (a ≤ n) && decide (n ≤ b)) by unfold inb; rw [Bool.decide_and])
  by_cases h1 : a ≤ n
  · have d1 := decide_eq_true h1
    have HE := Lib.hid (show inb a b n = decide (n ≤ b) by rw [HI.out, d1, Bool.true_and])
    clear h1
    go_enter Tryz.func121, Tryz.ntmps121
    go_wp2
    go_ret
    exact ⟨ret_bool HE.out.symm, rfl⟩
  · have d1 := decide_eq_false h1
    have HE := Lib.hid (show inb a b n = false by rw [HI.out, d1, Bool.false_and])
    clear h1
    go_enter Tryz.func121, Tryz.ntmps121
    go_wp2
    go_ret
    exact ⟨ret_bool HE.out.symm, rfl⟩
theorem goOn_eq (I : Ins) (s : Sta) : decide (GoOn I s) = (mayB I && (inb 0 (2 * I.p) s.pos && (inb 1 I.c s.car && (inb 0 1073741824 s.time && inb 0 1000 s.load)))) := by
  rw [Bool.eq_iff_iff, decide_eq_true_eq]
  simp only [Bool.and_eq_true, inb_iff]
  rfl
theorem allS_min {I : Ins} (hm : mayB I = true) : uptoN (min (2 * I.p) 63).toNat = allS I := by
  have := (fine_of hm).p1
  unfold allS
  rw [show min (2 * I.p) 63 = 2 * I.p by omega]
theorem allStops_any {w : World} {b : Nat} {I : Ins} {sv : Value} {s : Sta} (hc : HereB w b I sv s) (hm : mayB I = true) :
    Calls Tryz.prog 124 #[.pointer (some ⟨b, 0, none⟩)] w fun e w' => e = .returned (.int .u64 (allS I : Nat)) ∧ w = w' := by
  have q0 := hc.c0
  have HF := Lib.hid (fine_of hm)
  have hp0 := HF.out.p0
  have hp1 := HF.out.p1
  have e1 : IntKind.i64.wrap (2 * I.p) = 2 * I.p := IntWalk.i64_in _ (by omega)
  have HA := Lib.hid (allS_min hm)
  clear hc hm
  go_enter Tryz.func124, Tryz.ntmps124
  go_wp2_with fail
  refine (eupto_any _ _ (by omega)).mono ?_
  rintro e w' ⟨rfl, rfl⟩
  rw [HA.out]
  go_wp2
  go_ret
  exact ⟨rfl, rfl⟩
set_option maxRecDepth 1000000 in
set_option maxHeartbeats 4000000 in
theorem goOn_any {w : World} {b : Nat} {I : Ins} {sv : Value} {s : Sta} (hc : HereB w b I sv s) (hr : SRow w sv I.l) :
    Calls Tryz.prog 92 #[.pointer (some ⟨b, 0, none⟩)] w fun e w' => e = .returned (.bool (decide (GoOn I s))) ∧ Below w.heap.size w w' := by
  have HC := Lib.hid hc
  have HR := Lib.hid hr
  have HG := Lib.hid (goOn_eq I s)
  obtain ⟨ad, cap, rfl, _⟩ := hr.form
  clear hc hr
  go_enter Tryz.func92, Tryz.ntmps92
  go_wp2_with fail
  have HB1 := Lib.hid ((Below.refl w.heap.size w).drew)
  have HC1 := Lib.hid (HC.out.later HB1.out)
  have HR1 := Lib.hid (HR.out.below HB1.out)
  have HS0 := Lib.hid (show Holds (cellsH b I (.slice ad I.l.length cap) s) w.drew from HC1.out.holds)
  have hlt := Lib.hid (show Lows w.drew.heap.size (cellsH b I (.slice ad I.l.length cap) s) from lows_H HC1.out.lt)
  refine wp_region_held_drew (S := Holds (cellsH b I (.slice ad I.l.length cap) s)) (by kernel_rfl) HS0.out (fun hSn => ?_)
  have Bc := Lib.hid (Below.refl w.drew.heap.size w.drew)
  simp only [cellsH] at *
  refine tks [0, 1, 2, 3] 4 rfl (by kernel_rfl) (fun _ _ _ _ h => h) (by assumption) (fun KT hKT => ?_)
  iterate 4 (refine tkT (by (simp only [gA, gB, gC]; rfl)) (by rfl) (by (intro w hSw; (simp only [Holds] at hSw); go_simp <;> with_reducible rfl)) ?_; simp only [Act.put, pA, pB, pC])
  refine hKT _ ?_
  clear KT hKT
  refine wpAnyH_ready (rs := [4]) (by kernel_rfl) (by simp) ?_
  refine AllReadyH.cons (o := ?oz144) ?iz144 (fun K hK => ?kz144) AllReadyH.nil
  case iz144 => (simp only [List.getElem?_toArray, List.getElem?_cons_zero, List.getElem?_cons_succ]; rfl)
  go_simp
  change Calls _ _ #[insV I (.slice ad I.l.length cap)] _ _
  refine (may_any (HR1.out.below Bc.out)).mono ?_
  rintro e w' ⟨rfl, hb⟩
  refine held_more hK HS0.out hlt (Bc.out.trans (hb.mono Bc.out.size)) (fun Bc hSn => ?_)
  clear hb hK
  cases hb0 : mayB I
  · skip
    have HD := Lib.hid (show decide (GoOn I s) = false by rw [HG.out, hb0]; rfl)
    refine tks [5] 1 rfl (by kernel_rfl) (fun _ _ _ _ h => h) (by assumption) (fun KT hKT => ?_)
    refine tkT (by (simp only [gA, gB, gC]; rfl)) (by rfl) (by (intro w hSw; (simp only [Holds] at hSw); go_simp <;> with_reducible rfl)) ?_
    simp only [Act.put, pA, pB, pC]
    refine hKT _ ?_
    clear KT hKT
    refine tks [6, 7, 8, 9, 10, 11, 12, 13, 14, 15, 16, 17] 12 rfl (by kernel_rfl) (fun _ _ _ _ h => h) (by assumption) (fun KT hKT => ?_)
    iterate 12 (refine tkS (by (simp only [gA, gB, gC]; rfl)) (by rfl) ?_; simp only [Act.put, pA, pB, pC])
    refine hKT _ ?_
    clear KT hKT
    refine tks [18, 19] 2 rfl (by kernel_rfl) (fun _ _ _ _ h => h) (by assumption) (fun KT hKT => ?_)
    iterate 2 (refine tkT (by (simp only [gA, gB, gC]; rfl)) (by rfl) (by (intro w hSw; (simp only [Holds] at hSw); go_simp <;> with_reducible rfl)) ?_; simp only [Act.put, pA, pB, pC])
    refine hKT _ ?_
    clear KT hKT
    refine tks [20, 21, 22, 23, 24, 25, 26, 27, 28, 29, 30] 11 rfl (by kernel_rfl) (fun _ _ _ _ h => h) (by assumption) (fun KT hKT => ?_)
    iterate 11 (refine tkS (by (simp only [gA, gB, gC]; rfl)) (by rfl) ?_; simp only [Act.put, pA, pB, pC])
    refine hKT _ ?_
    clear KT hKT
    refine tks [31, 32] 2 rfl (by kernel_rfl) (fun _ _ _ _ h => h) (by assumption) (fun KT hKT => ?_)
    iterate 2 (refine tkT (by (simp only [gA, gB, gC]; rfl)) (by rfl) (by (intro w hSw; (simp only [Holds] at hSw); go_simp <;> with_reducible rfl)) ?_; simp only [Act.put, pA, pB, pC])
    refine hKT _ ?_
    clear KT hKT
    refine tks [33, 34, 35, 36, 37, 38] 6 rfl (by kernel_rfl) (fun _ _ _ _ h => h) (by assumption) (fun KT hKT => ?_)
    iterate 6 (refine tkS (by (simp only [gA, gB, gC]; rfl)) (by rfl) ?_; simp only [Act.put, pA, pB, pC])
    refine hKT _ ?_
    clear KT hKT
    refine tks [39, 40] 2 rfl (by kernel_rfl) (fun _ _ _ _ h => h) (by assumption) (fun KT hKT => ?_)
    iterate 2 (refine tkT (by (simp only [gA, gB, gC]; rfl)) (by rfl) (by (intro w hSw; (simp only [Holds] at hSw); go_simp <;> with_reducible rfl)) ?_; simp only [Act.put, pA, pB, pC])
    refine hKT _ ?_
    clear KT hKT
    refine tks [41, 42, 43, 44, 45, 46] 6 rfl (by kernel_rfl) (fun _ _ _ _ h => h) (by assumption) (fun KT hKT => ?_)
    iterate 6 (refine tkS (by (simp only [gA, gB, gC]; rfl)) (by rfl) ?_; simp only [Act.put, pA, pB, pC])
    refine hKT _ ?_
    clear KT hKT
    refine tks [47, 48] 2 rfl (by kernel_rfl) (fun _ _ _ _ h => h) (by assumption) (fun KT hKT => ?_)
    iterate 2 (refine tkT (by (simp only [gA, gB, gC]; rfl)) (by rfl) (by (intro w hSw; (simp only [Holds] at hSw); go_simp <;> with_reducible rfl)) ?_; simp only [Act.put, pA, pB, pC])
    refine hKT _ ?_
    clear KT hKT
    refine wpAnyH_done (by kernel_rfl) ?_ _
    go_wp2
    go_ret
    exact ⟨ret_bool HD.out.symm, HB1.out.trans (Bc.out.mono HB1.out.size)⟩
  have HF := Lib.hid (fine_of hb0)
  have hp0 := HF.out.p0
  have hp1 := HF.out.p1
  have e1 : IntKind.i64.wrap (2 * I.p) = 2 * I.p := IntWalk.i64_in _ (by omega)
  refine tks [5] 1 rfl (by kernel_rfl) (fun _ _ _ _ h => h) (by assumption) (fun KT hKT => ?_)
  refine tkT (by (simp only [gA, gB, gC]; rfl)) (by rfl) (by (intro w hSw; (simp only [Holds] at hSw); go_simp <;> with_reducible rfl)) ?_
  simp only [Act.put, pA, pB, pC]
  refine hKT _ ?_
  clear KT hKT
  refine tks [6, 7, 8, 9, 10, 11, 12, 13, 14, 15, 16] 11 rfl (by kernel_rfl) (fun _ _ _ _ h => h) (by assumption) (fun KT hKT => ?_)
  iterate 11 (refine tkT (by (simp only [gA, gB, gC]; rfl)) (by rfl) (by (intro w hSw; (simp only [Holds] at hSw); go_simp <;> with_reducible rfl)) ?_; simp only [Act.put, pA, pB, pC])
  refine hKT _ ?_
  clear KT hKT
  refine wpAnyH_ready (rs := [17]) (by kernel_rfl) (by simp) ?_
  refine AllReadyH.cons (o := ?oz145) ?iz145 (fun K hK => ?kz145) AllReadyH.nil
  case iz145 => (simp only [List.getElem?_toArray, List.getElem?_cons_zero, List.getElem?_cons_succ]; rfl)
  go_simp
  refine (sin_any _ _ _ _).mono ?_
  rintro e w' ⟨rfl, rfl⟩
  refine held_more hK HS0.out hlt Bc.out (fun Bc hSn => ?_)
  clear hK
  cases hb1 : inb 0 (2 * I.p) s.pos
  · skip
    have HD := Lib.hid (show decide (GoOn I s) = false by rw [HG.out, hb0, hb1]; rfl)
    refine tks [18, 19] 2 rfl (by kernel_rfl) (fun _ _ _ _ h => h) (by assumption) (fun KT hKT => ?_)
    iterate 2 (refine tkT (by (simp only [gA, gB, gC]; rfl)) (by rfl) (by (intro w hSw; (simp only [Holds] at hSw); go_simp <;> with_reducible rfl)) ?_; simp only [Act.put, pA, pB, pC])
    refine hKT _ ?_
    clear KT hKT
    refine tks [20, 21, 22, 23, 24, 25, 26, 27, 28, 29, 30] 11 rfl (by kernel_rfl) (fun _ _ _ _ h => h) (by assumption) (fun KT hKT => ?_)
    iterate 11 (refine tkS (by (simp only [gA, gB, gC]; rfl)) (by rfl) ?_; simp only [Act.put, pA, pB, pC])
    refine hKT _ ?_
    clear KT hKT
    refine tks [31, 32] 2 rfl (by kernel_rfl) (fun _ _ _ _ h => h) (by assumption) (fun KT hKT => ?_)
    iterate 2 (refine tkT (by (simp only [gA, gB, gC]; rfl)) (by rfl) (by (intro w hSw; (simp only [Holds] at hSw); go_simp <;> with_reducible rfl)) ?_; simp only [Act.put, pA, pB, pC])
    refine hKT _ ?_
    clear KT hKT
    refine tks [33, 34, 35, 36, 37, 38] 6 rfl (by kernel_rfl) (fun _ _ _ _ h => h) (by assumption) (fun KT hKT => ?_)
    iterate 6 (refine tkS (by (simp only [gA, gB, gC]; rfl)) (by rfl) ?_; simp only [Act.put, pA, pB, pC])
    refine hKT _ ?_
    clear KT hKT
    refine tks [39, 40] 2 rfl (by kernel_rfl) (fun _ _ _ _ h => h) (by assumption) (fun KT hKT => ?_)
    iterate 2 (refine tkT (by (simp only [gA, gB, gC]; rfl)) (by rfl) (by (intro w hSw; (simp only [Holds] at hSw); go_simp <;> with_reducible rfl)) ?_; simp only [Act.put, pA, pB, pC])
    refine hKT _ ?_
    clear KT hKT
    refine tks [41, 42, 43, 44, 45, 46] 6 rfl (by kernel_rfl) (fun _ _ _ _ h => h) (by assumption) (fun KT hKT => ?_)
    iterate 6 (refine tkS (by (simp only [gA, gB, gC]; rfl)) (by rfl) ?_; simp only [Act.put, pA, pB, pC])
    refine hKT _ ?_
    clear KT hKT
    refine tks [47, 48] 2 rfl (by kernel_rfl) (fun _ _ _ _ h => h) (by assumption) (fun KT hKT => ?_)
    iterate 2 (refine tkT (by (simp only [gA, gB, gC]; rfl)) (by rfl) (by (intro w hSw; (simp only [Holds] at hSw); go_simp <;> with_reducible rfl)) ?_; simp only [Act.put, pA, pB, pC])
    refine hKT _ ?_
    clear KT hKT
    refine wpAnyH_done (by kernel_rfl) ?_ _
    go_wp2
    go_ret
    exact ⟨ret_bool HD.out.symm, HB1.out.trans (Bc.out.mono HB1.out.size)⟩
  refine tks [18, 19] 2 rfl (by kernel_rfl) (fun _ _ _ _ h => h) (by assumption) (fun KT hKT => ?_)
  iterate 2 (refine tkT (by (simp only [gA, gB, gC]; rfl)) (by rfl) (by (intro w hSw; (simp only [Holds] at hSw); go_simp <;> with_reducible rfl)) ?_; simp only [Act.put, pA, pB, pC])
  refine hKT _ ?_
  clear KT hKT
  refine tks [20, 21, 22, 23, 24, 25, 26, 27, 28, 29] 10 rfl (by kernel_rfl) (fun _ _ _ _ h => h) (by assumption) (fun KT hKT => ?_)
  iterate 10 (refine tkT (by (simp only [gA, gB, gC]; rfl)) (by rfl) (by (intro w hSw; (simp only [Holds] at hSw); go_simp <;> with_reducible rfl)) ?_; simp only [Act.put, pA, pB, pC])
  refine hKT _ ?_
  clear KT hKT
  refine wpAnyH_ready (rs := [30]) (by kernel_rfl) (by simp) ?_
  refine AllReadyH.cons (o := ?oz146) ?iz146 (fun K hK => ?kz146) AllReadyH.nil
  case iz146 => (simp only [List.getElem?_toArray, List.getElem?_cons_zero, List.getElem?_cons_succ]; rfl)
  go_simp
  refine (sin_any _ _ _ _).mono ?_
  rintro e w' ⟨rfl, rfl⟩
  refine held_more hK HS0.out hlt Bc.out (fun Bc hSn => ?_)
  clear hK
  cases hb2 : inb 1 I.c s.car
  · skip
    have HD := Lib.hid (show decide (GoOn I s) = false by rw [HG.out, hb0, hb1, hb2]; rfl)
    refine tks [31, 32] 2 rfl (by kernel_rfl) (fun _ _ _ _ h => h) (by assumption) (fun KT hKT => ?_)
    iterate 2 (refine tkT (by (simp only [gA, gB, gC]; rfl)) (by rfl) (by (intro w hSw; (simp only [Holds] at hSw); go_simp <;> with_reducible rfl)) ?_; simp only [Act.put, pA, pB, pC])
    refine hKT _ ?_
    clear KT hKT
    refine tks [33, 34, 35, 36, 37, 38] 6 rfl (by kernel_rfl) (fun _ _ _ _ h => h) (by assumption) (fun KT hKT => ?_)
    iterate 6 (refine tkS (by (simp only [gA, gB, gC]; rfl)) (by rfl) ?_; simp only [Act.put, pA, pB, pC])
    refine hKT _ ?_
    clear KT hKT
    refine tks [39, 40] 2 rfl (by kernel_rfl) (fun _ _ _ _ h => h) (by assumption) (fun KT hKT => ?_)
    iterate 2 (refine tkT (by (simp only [gA, gB, gC]; rfl)) (by rfl) (by (intro w hSw; (simp only [Holds] at hSw); go_simp <;> with_reducible rfl)) ?_; simp only [Act.put, pA, pB, pC])
    refine hKT _ ?_
    clear KT hKT
    refine tks [41, 42, 43, 44, 45, 46] 6 rfl (by kernel_rfl) (fun _ _ _ _ h => h) (by assumption) (fun KT hKT => ?_)
    iterate 6 (refine tkS (by (simp only [gA, gB, gC]; rfl)) (by rfl) ?_; simp only [Act.put, pA, pB, pC])
    refine hKT _ ?_
    clear KT hKT
    refine tks [47, 48] 2 rfl (by kernel_rfl) (fun _ _ _ _ h => h) (by assumption) (fun KT hKT => ?_)
    iterate 2 (refine tkT (by (simp only [gA, gB, gC]; rfl)) (by rfl) (by (intro w hSw; (simp only [Holds] at hSw); go_simp <;> with_reducible rfl)) ?_; simp only [Act.put, pA, pB, pC])
    refine hKT _ ?_
    clear KT hKT
    refine wpAnyH_done (by kernel_rfl) ?_ _
    go_wp2
    go_ret
    exact ⟨ret_bool HD.out.symm, HB1.out.trans (Bc.out.mono HB1.out.size)⟩
  refine tks [31, 32] 2 rfl (by kernel_rfl) (fun _ _ _ _ h => h) (by assumption) (fun KT hKT => ?_)
  iterate 2 (refine tkT (by (simp only [gA, gB, gC]; rfl)) (by rfl) (by (intro w hSw; (simp only [Holds] at hSw); go_simp <;> with_reducible rfl)) ?_; simp only [Act.put, pA, pB, pC])
  refine hKT _ ?_
  clear KT hKT
  refine tks [33, 34, 35, 36, 37] 5 rfl (by kernel_rfl) (fun _ _ _ _ h => h) (by assumption) (fun KT hKT => ?_)
  iterate 5 (refine tkT (by (simp only [gA, gB, gC]; rfl)) (by rfl) (by (intro w hSw; (simp only [Holds] at hSw); go_simp <;> with_reducible rfl)) ?_; simp only [Act.put, pA, pB, pC])
  refine hKT _ ?_
  clear KT hKT
  refine wpAnyH_ready (rs := [38]) (by kernel_rfl) (by simp) ?_
  refine AllReadyH.cons (o := ?oz147) ?iz147 (fun K hK => ?kz147) AllReadyH.nil
  case iz147 => (simp only [List.getElem?_toArray, List.getElem?_cons_zero, List.getElem?_cons_succ]; rfl)
  go_simp
  refine (sin_any _ _ _ _).mono ?_
  rintro e w' ⟨rfl, rfl⟩
  refine held_more hK HS0.out hlt Bc.out (fun Bc hSn => ?_)
  clear hK
  cases hb3 : inb 0 1073741824 s.time
  · skip
    have HD := Lib.hid (show decide (GoOn I s) = false by rw [HG.out, hb0, hb1, hb2, hb3]; rfl)
    refine tks [39, 40] 2 rfl (by kernel_rfl) (fun _ _ _ _ h => h) (by assumption) (fun KT hKT => ?_)
    iterate 2 (refine tkT (by (simp only [gA, gB, gC]; rfl)) (by rfl) (by (intro w hSw; (simp only [Holds] at hSw); go_simp <;> with_reducible rfl)) ?_; simp only [Act.put, pA, pB, pC])
    refine hKT _ ?_
    clear KT hKT
    refine tks [41, 42, 43, 44, 45, 46] 6 rfl (by kernel_rfl) (fun _ _ _ _ h => h) (by assumption) (fun KT hKT => ?_)
    iterate 6 (refine tkS (by (simp only [gA, gB, gC]; rfl)) (by rfl) ?_; simp only [Act.put, pA, pB, pC])
    refine hKT _ ?_
    clear KT hKT
    refine tks [47, 48] 2 rfl (by kernel_rfl) (fun _ _ _ _ h => h) (by assumption) (fun KT hKT => ?_)
    iterate 2 (refine tkT (by (simp only [gA, gB, gC]; rfl)) (by rfl) (by (intro w hSw; (simp only [Holds] at hSw); go_simp <;> with_reducible rfl)) ?_; simp only [Act.put, pA, pB, pC])
    refine hKT _ ?_
    clear KT hKT
    refine wpAnyH_done (by kernel_rfl) ?_ _
    go_wp2
    go_ret
    exact ⟨ret_bool HD.out.symm, HB1.out.trans (Bc.out.mono HB1.out.size)⟩
  refine tks [39, 40] 2 rfl (by kernel_rfl) (fun _ _ _ _ h => h) (by assumption) (fun KT hKT => ?_)
  iterate 2 (refine tkT (by (simp only [gA, gB, gC]; rfl)) (by rfl) (by (intro w hSw; (simp only [Holds] at hSw); go_simp <;> with_reducible rfl)) ?_; simp only [Act.put, pA, pB, pC])
  refine hKT _ ?_
  clear KT hKT
  refine tks [41, 42, 43, 44, 45] 5 rfl (by kernel_rfl) (fun _ _ _ _ h => h) (by assumption) (fun KT hKT => ?_)
  iterate 5 (refine tkT (by (simp only [gA, gB, gC]; rfl)) (by rfl) (by (intro w hSw; (simp only [Holds] at hSw); go_simp <;> with_reducible rfl)) ?_; simp only [Act.put, pA, pB, pC])
  refine hKT _ ?_
  clear KT hKT
  refine wpAnyH_ready (rs := [46]) (by kernel_rfl) (by simp) ?_
  refine AllReadyH.cons (o := ?oz148) ?iz148 (fun K hK => ?kz148) AllReadyH.nil
  case iz148 => (simp only [List.getElem?_toArray, List.getElem?_cons_zero, List.getElem?_cons_succ]; rfl)
  go_simp
  refine (sin_any _ _ _ _).mono ?_
  rintro e w' ⟨rfl, rfl⟩
  refine held_more hK HS0.out hlt Bc.out (fun Bc hSn => ?_)
  clear hK
  cases hb4 : inb 0 1000 s.load
  · skip
    have HD := Lib.hid (show decide (GoOn I s) = false by rw [HG.out, hb0, hb1, hb2, hb3, hb4]; rfl)
    refine tks [47, 48] 2 rfl (by kernel_rfl) (fun _ _ _ _ h => h) (by assumption) (fun KT hKT => ?_)
    iterate 2 (refine tkT (by (simp only [gA, gB, gC]; rfl)) (by rfl) (by (intro w hSw; (simp only [Holds] at hSw); go_simp <;> with_reducible rfl)) ?_; simp only [Act.put, pA, pB, pC])
    refine hKT _ ?_
    clear KT hKT
    refine wpAnyH_done (by kernel_rfl) ?_ _
    go_wp2
    go_ret
    exact ⟨ret_bool HD.out.symm, HB1.out.trans (Bc.out.mono HB1.out.size)⟩
  have HD := Lib.hid (show decide (GoOn I s) = true by rw [HG.out, hb0, hb1, hb2, hb3, hb4]; rfl)
  refine tks [47, 48] 2 rfl (by kernel_rfl) (fun _ _ _ _ h => h) (by assumption) (fun KT hKT => ?_)
  iterate 2 (refine tkT (by (simp only [gA, gB, gC]; rfl)) (by rfl) (by (intro w hSw; (simp only [Holds] at hSw); go_simp <;> with_reducible rfl)) ?_; simp only [Act.put, pA, pB, pC])
  refine hKT _ ?_
  clear KT hKT
  refine wpAnyH_done (by kernel_rfl) ?_ _
  go_wp2
  go_ret
  exact ⟨ret_bool HD.out.symm, HB1.out.trans (Bc.out.mono HB1.out.size)⟩
set_option maxRecDepth 1000000 in
set_option maxHeartbeats 4000000 in
theorem hfarTo_any {w : World} {b : Nat} {I : Ins} {sv : Value} {s : Sta} {j : Int} (hc : HereB w b I sv s) (hr : SRow w sv I.l) (hm : mayB I = true) (hpo : 0 ≤ s.pos ∧ s.pos ≤ 2 * I.p) (hj : 0 ≤ j ∧ j ≤ 2 * I.p) :
    Calls Tryz.prog 94 #[.pointer (some ⟨b, 0, none⟩), .int .i64 j] w fun e w' => e = .returned (.int .i64 (farS1 I s j)) ∧ Below w.heap.size w w' := by
  obtain ⟨k, rfl, hk, ek⟩ := num_stop hm hj
  obtain ⟨po, ca, ti, lo, fi, mu, ma, on⟩ := s
  obtain ⟨a, h1, ha, ea⟩ := num_stop hm hpo
  simp only at h1
  subst h1
  have hF := Lib.hid (show farS1 I ⟨a, ca, ti, lo, fi, mu, ma, on⟩ k = farF (nth I.l a) (nth I.l k) from rfl)
  have HC := Lib.hid hc
  have HR := Lib.hid hr
  obtain ⟨ad, cap, rfl, hm, _⟩ := hr.form
  obtain ⟨tb, off, rfl, hat, hlt0⟩ := srow_at hr a ha
  have hkt := srow_here hr k hk
  have hai : (a : Int) < (I.l.length : Int) := by omega
  have hki : (k : Int) < (I.l.length : Int) := by omega
  clear hc hr ea ek hj
  go_enter Tryz.func94, Tryz.ntmps94
  go_wp2_with fail
  have HB1 := Lib.hid ((Below.refl w.heap.size w).drew)
  have HC1 := Lib.hid (HC.out.later HB1.out)
  have HR1 := Lib.hid (HR.out.below HB1.out)
  have HS0 := Lib.hid (show Holds (cellsH b I (.slice (some ⟨tb, off, none⟩) I.l.length cap) ⟨a, ca, ti, lo, fi, mu, ma, on⟩ ++ (cellsF tb (off + a * 6) (nth I.l a) ++ cellsF tb (off + k * 6) (nth I.l k))) w.drew from Holds.app.2 ⟨HC1.out.holds, Holds.app.2 ⟨holds_at (hat.below hlt0 HB1.out), holds_at (hkt.below hlt0 HB1.out)⟩⟩)
  have hlt := Lib.hid (show Lows w.drew.heap.size (cellsH b I (.slice (some ⟨tb, off, none⟩) I.l.length cap) ⟨a, ca, ti, lo, fi, mu, ma, on⟩ ++ (cellsF tb (off + a * 6) (nth I.l a) ++ cellsF tb (off + k * 6) (nth I.l k))) from Lows.app (lows_H HC1.out.lt) (Lows.app (lows_at hlt0) (lows_at hlt0)))
  refine wp_region_held_drew (S := Holds (cellsH b I (.slice (some ⟨tb, off, none⟩) I.l.length cap) ⟨a, ca, ti, lo, fi, mu, ma, on⟩ ++ (cellsF tb (off + a * 6) (nth I.l a) ++ cellsF tb (off + k * 6) (nth I.l k)))) (by kernel_rfl) HS0.out (fun hSn => ?_)
  have Bc := Lib.hid (Below.refl w.drew.heap.size w.drew)
  simp only [cellsH, cellsF, List.cons_append, List.nil_append] at *
  clear hat hkt
  generalize nth I.l a = s at *
  generalize nth I.l k = t at *
  refine tks [0, 1, 2, 3, 4, 5, 6, 7, 8, 9, 10, 11, 12, 13, 14, 15, 16, 17, 18, 19] 20 rfl (by kernel_rfl) (fun _ _ _ _ h => h) (by assumption) (fun KT hKT => ?_)
  iterate 20 (refine tkT (by (simp only [gA, gB, gC]; rfl)) (by rfl) (by (intro w hSw; (simp only [Holds] at hSw); go_simp <;> with_reducible rfl)) ?_; simp only [Act.put, pA, pB, pC])
  refine hKT _ ?_
  clear KT hKT
  refine wpAnyH_ready (rs := [20]) (by kernel_rfl) (by simp) ?_
  refine AllReadyH.cons (o := ?oz149) ?iz149 (fun K hK => ?kz149) AllReadyH.nil
  case iz149 => (simp only [List.getElem?_toArray, List.getElem?_cons_zero, List.getElem?_cons_succ]; rfl)
  go_simp
  change Calls _ _ #[stopV s, stopV t] _ _
  refine (far_any s t _).mono ?_
  rintro e w' ⟨rfl, hb⟩
  refine held_more hK HS0.out hlt (Bc.out.trans (hb.mono Bc.out.size)) (fun Bc hSn => ?_)
  clear hb hK
  refine tks [21] 1 rfl (by kernel_rfl) (fun _ _ _ _ h => h) (by assumption) (fun KT hKT => ?_)
  refine tkT (by (simp only [gA, gB, gC]; rfl)) (by rfl) (by (intro w hSw; (simp only [Holds] at hSw); go_simp <;> with_reducible rfl)) ?_
  simp only [Act.put, pA, pB, pC]
  refine hKT _ ?_
  clear KT hKT
  refine wpAnyH_done (by kernel_rfl) ?_ _
  go_wp2
  go_ret
  exact ⟨ret_int hF.out.symm, HB1.out.trans (Bc.out.mono HB1.out.size)⟩
theorem far1_bd (I : Ins) (s : Sta) (j : Int) : 0 ≤ farS1 I s j ∧ farS1 I s j ≤ 20000 := by have := farF_bd (stp I s.pos) (stp I j); unfold farS1; omega
theorem comeS_eq (I : Ins) (s : Sta) (j : Int) : comeS I s j = s.time + farS1 I s j := rfl
set_option maxRecDepth 1000000 in
set_option maxHeartbeats 4000000 in
theorem hcomeTo_any {w : World} {b : Nat} {I : Ins} {sv : Value} {s : Sta} {j : Int} (hc : HereB w b I sv s) (hr : SRow w sv I.l) (hg : GoOn I s) (hj : 0 ≤ j ∧ j ≤ 2 * I.p) :
    Calls Tryz.prog 153 #[.pointer (some ⟨b, 0, none⟩), .int .i64 j] w fun e w' => e = .returned (.int .i64 (comeS I s j)) ∧ Below w.heap.size w w' := by
  have HC := Lib.hid hc
  have HR := Lib.hid hr
  have HG := Lib.hid hg
  have hbd := (goOn_bd hg).2.2.1
  have hfb := far1_bd I s j
  have HE := Lib.hid (comeS_eq I s j)
  have e1 : IntKind.i64.wrap (s.time + farS1 I s j) = s.time + farS1 I s j := IntWalk.i64_in _ (by omega)
  obtain ⟨ad, cap, rfl, _⟩ := hr.form
  clear hc hr hg
  go_enter Tryz.func153, Tryz.ntmps153
  go_wp2_with fail
  have HB1 := Lib.hid ((Below.refl w.heap.size w).drew)
  have HC1 := Lib.hid (HC.out.later HB1.out)
  have HR1 := Lib.hid (HR.out.below HB1.out)
  have HS0 := Lib.hid (show Holds (cellsH b I (.slice ad I.l.length cap) s) w.drew from HC1.out.holds)
  have hlt := Lib.hid (show Lows w.drew.heap.size (cellsH b I (.slice ad I.l.length cap) s) from lows_H HC1.out.lt)
  refine wp_region_held_drew (S := Holds (cellsH b I (.slice ad I.l.length cap) s)) (by kernel_rfl) HS0.out (fun hSn => ?_)
  have Bc := Lib.hid (Below.refl w.drew.heap.size w.drew)
  simp only [cellsH] at *
  refine tks [0, 1, 2, 3, 4, 5, 6] 7 rfl (by kernel_rfl) (fun _ _ _ _ h => h) (by assumption) (fun KT hKT => ?_)
  iterate 7 (refine tkT (by (simp only [gA, gB, gC]; rfl)) (by rfl) (by (intro w hSw; (simp only [Holds] at hSw); go_simp <;> with_reducible rfl)) ?_; simp only [Act.put, pA, pB, pC])
  refine hKT _ ?_
  clear KT hKT
  refine wpAnyH_ready (rs := [7]) (by kernel_rfl) (by simp) ?_
  refine AllReadyH.cons (o := ?oz150) ?iz150 (fun K hK => ?kz150) AllReadyH.nil
  case iz150 => (simp only [List.getElem?_toArray, List.getElem?_cons_zero, List.getElem?_cons_succ]; rfl)
  go_simp
  refine (hfarTo_any (HC1.out.later Bc.out) (HR1.out.below Bc.out) HG.out.1 HG.out.2.1 hj).mono ?_
  rintro e w' ⟨rfl, hb⟩
  refine held_more hK HS0.out hlt (Bc.out.trans (hb.mono Bc.out.size)) (fun Bc hSn => ?_)
  clear hb hK
  refine tks [8, 9] 2 rfl (by kernel_rfl) (fun _ _ _ _ h => h) (by assumption) (fun KT hKT => ?_)
  iterate 2 (refine tkT (by (simp only [gA, gB, gC]; rfl)) (by rfl) (by (intro w hSw; (simp only [Holds] at hSw); go_simp <;> with_reducible rfl)) ?_; simp only [Act.put, pA, pB, pC])
  refine hKT _ ?_
  clear KT hKT
  refine wpAnyH_done (by kernel_rfl) ?_ _
  go_wp2
  go_ret
  exact ⟨ret_int HE.out.symm, HB1.out.trans (Bc.out.mono HB1.out.size)⟩
set_option maxRecDepth 1000000 in
set_option maxHeartbeats 4000000 in
theorem hbeginAt_any {w : World} {b : Nat} {I : Ins} {sv : Value} {s : Sta} {j : Int} (hc : HereB w b I sv s) (hr : SRow w sv I.l) (hg : GoOn I s) (hj : 0 ≤ j ∧ j ≤ 2 * I.p) :
    Calls Tryz.prog 156 #[.pointer (some ⟨b, 0, none⟩), .int .i64 j] w fun e w' => e = .returned (.int .i64 (begS I s j)) ∧ Below w.heap.size w w' := by
  have HC := Lib.hid hc
  have HR := Lib.hid hr
  have HG := Lib.hid hg
  have HJ := Lib.hid hj
  obtain ⟨k, rfl, hk, ek⟩ := num_stop hg.1 hj
  have HE := Lib.hid (show begS I s k = max (comeS I s k) (nth I.l k).r from rfl)
  obtain ⟨ad, cap, rfl, hm, _⟩ := hr.form
  obtain ⟨tb, off, rfl, hat, hlt0⟩ := srow_at hr k hk
  have hki : (k : Int) < (I.l.length : Int) := by omega
  clear hc hr hg ek hj
  go_enter Tryz.func156, Tryz.ntmps156
  go_wp2_with fail
  have HB1 := Lib.hid ((Below.refl w.heap.size w).drew)
  have HC1 := Lib.hid (HC.out.later HB1.out)
  have HR1 := Lib.hid (HR.out.below HB1.out)
  have HS0 := Lib.hid (show Holds (cellsH b I (.slice (some ⟨tb, off, none⟩) I.l.length cap) s ++ cellsF tb (off + k * 6) (nth I.l k)) w.drew from Holds.app.2 ⟨HC1.out.holds, holds_at (hat.below hlt0 HB1.out)⟩)
  have hlt := Lib.hid (show Lows w.drew.heap.size (cellsH b I (.slice (some ⟨tb, off, none⟩) I.l.length cap) s ++ cellsF tb (off + k * 6) (nth I.l k)) from Lows.app (lows_H HC1.out.lt) (lows_at hlt0))
  refine wp_region_held_drew (S := Holds (cellsH b I (.slice (some ⟨tb, off, none⟩) I.l.length cap) s ++ cellsF tb (off + k * 6) (nth I.l k))) (by kernel_rfl) HS0.out (fun hSn => ?_)
  have Bc := Lib.hid (Below.refl w.drew.heap.size w.drew)
  simp only [cellsH, cellsF, List.cons_append, List.nil_append] at *
  clear hat
  generalize nth I.l k = t at *
  refine tks [0, 1, 3, 4, 5, 6, 7, 8, 9, 10, 11] 11 rfl (by kernel_rfl) (fun _ _ _ _ h => h) (by assumption) (fun KT hKT => ?_)
  iterate 11 (refine tkT (by (simp only [gA, gB, gC]; rfl)) (by rfl) (by (intro w hSw; (simp only [Holds] at hSw); go_simp <;> with_reducible rfl)) ?_; simp only [Act.put, pA, pB, pC])
  refine hKT _ ?_
  clear KT hKT
  refine wpAnyH_ready (rs := [2]) (by kernel_rfl) (by simp) ?_
  refine AllReadyH.cons (o := ?oz151) ?iz151 (fun K hK => ?kz151) AllReadyH.nil
  case iz151 => (simp only [List.getElem?_toArray, List.getElem?_cons_zero, List.getElem?_cons_succ]; rfl)
  go_simp
  refine (hcomeTo_any (HC1.out.later Bc.out) (HR1.out.below Bc.out) HG.out HJ.out).mono ?_
  rintro e w' ⟨rfl, hb⟩
  refine held_more hK HS0.out hlt (Bc.out.trans (hb.mono Bc.out.size)) (fun Bc hSn => ?_)
  clear hb hK
  generalize comeS I s k = c at *
  rcases Int.lt_or_le c t.r with h | h
  · have hmx : max c t.r = t.r := Int.max_eq_right (Int.le_of_lt h)
    have HE2 := Lib.hid (HE.out.trans hmx)
    refine tks [12, 13] 2 rfl (by kernel_rfl) (fun _ _ _ _ h => h) (by assumption) (fun KT hKT => ?_)
    iterate 2 (refine tkT (by (simp only [gA, gB, gC]; rfl)) (by rfl) (by (intro w hSw; (simp only [Holds] at hSw); go_simp <;> with_reducible rfl)) ?_; simp only [Act.put, pA, pB, pC])
    refine hKT _ ?_
    clear KT hKT
    refine wpAnyH_done (by kernel_rfl) ?_ _
    go_wp2
    go_ret
    exact ⟨ret_int HE2.out.symm, HB1.out.trans (Bc.out.mono HB1.out.size)⟩
  · have hmx : max c t.r = c := Int.max_eq_left h
    have HE2 := Lib.hid (HE.out.trans hmx)
    refine tks [12, 13] 2 rfl (by kernel_rfl) (fun _ _ _ _ h => h) (by assumption) (fun KT hKT => ?_)
    iterate 2 (refine tkT (by (simp only [gA, gB, gC]; rfl)) (by rfl) (by (intro w hSw; (simp only [Holds] at hSw); go_simp <;> with_reducible rfl)) ?_; simp only [Act.put, pA, pB, pC])
    refine hKT _ ?_
    clear KT hKT
    refine wpAnyH_done (by kernel_rfl) ?_ _
    go_wp2
    go_ret
    exact ⟨ret_int HE2.out.symm, HB1.out.trans (Bc.out.mono HB1.out.size)⟩
end Go.Proofs.YtgplajofemencaaGreat
/- What the methods that decide a move answer. -/
namespace Go.Proofs.YtgplajofemencaaGreat
open Go.ChangeShapes Go.WideShapes Go.ChangeAt Go.RowKit

/-- The car may be back. -/
def BackB (I : Ins) (s : Sta) : Prop := s.pos ≠ 0 ∧ s.on = 0 ∧ comeS I s 0 ≤ (nth I.l 0).u
instance (I : Ins) (s : Sta) : Decidable (BackB I s) := by unfold BackB; infer_instance
theorem back_eq (I : Ins) (s : Sta) : decide (BackB I s) = (!decide (s.pos = 0) && (decide (s.on = 0) && decide (comeS I s 0 ≤ (nth I.l 0).u))) := by
  rw [Bool.eq_iff_iff]; simp only [decide_eq_true_eq, Bool.and_eq_true, Bool.not_eq_true', decide_eq_false_iff_not]; rfl
theorem home_eq (I : Ins) (s : Sta) : decide (CanHome I s 0) = (decide (BackB I s) && (decide (s.car < I.c) && !within (allS I) s.must)) := by
  rw [Bool.eq_iff_iff]; simp only [decide_eq_true_eq, Bool.and_eq_true, Bool.not_eq_true']
  unfold CanHome BackB
  exact ⟨fun ⟨_, a, b, c, d, e⟩ => ⟨⟨a, b, e⟩, c, d⟩, fun ⟨⟨a, b, e⟩, c, d⟩ => ⟨rfl, a, b, c, d, e⟩⟩
theorem take_eq (I : Ins) (s : Sta) (j : Int) (h : 1 ≤ j ∧ j ≤ I.p) : decide (CanTake I s j) = (!has s.must j && (decide (s.load + (stp I j).d ≤ I.r) && ((!decide (s.pos = 0) || decide (s.first < j)) && decide (begS I s j ≤ (stp I j).u)))) := by
  unfold CanTake; rw [Bool.eq_iff_iff]; simp [h]
  by_cases hp : s.pos = 0 <;> simp [hp] <;> omega
theorem bring_eq (I : Ins) (s : Sta) (j : Int) (h : I.p < j ∧ j ≤ 2 * I.p) : decide (CanBring I s j) = (!decide (s.pos = 0) && (!has s.must j && (has s.may (j - I.p) && decide (begS I s j ≤ (stp I j).u)))) := by
  unfold CanBring; rw [Bool.eq_iff_iff]; simp [h]
theorem never_any {w : World} {b : Nat} {j : Int} : Calls Tryz.prog 132 #[.pointer (some ⟨b, 0, none⟩), .int .i64 j] w fun e w' => e = .returned (.bool false) ∧ w = w' := by
  go_enter Tryz.func132, Tryz.ntmps132
  go_wp2
  go_ret
  exact ⟨rfl, rfl⟩
theorem allS_lt (I : Ins) : allS I < 18446744073709551616 := upto_lt _
set_option maxRecDepth 1000000 in
set_option maxHeartbeats 4000000 in
theorem canBeBack_any {w : World} {b : Nat} {I : Ins} {sv : Value} {s : Sta} (hc : HereB w b I sv s) (hr : SRow w sv I.l) (hg : GoOn I s) (ho : s.on < 18446744073709551616) :
    Calls Tryz.prog 122 #[.pointer (some ⟨b, 0, none⟩)] w fun e w' => e = .returned (.bool (decide (BackB I s))) ∧ Below w.heap.size w w' := by
  have HC := Lib.hid hc
  have HR := Lib.hid hr
  have HG := Lib.hid hg
  have HE := Lib.hid (back_eq I s)
  have HZ := Lib.hid (pop_zero (x := s.on) ho)
  have hj0 : 0 ≤ (0 : Int) ∧ (0 : Int) ≤ 2 * I.p := ⟨Int.le_refl _, by have := (fine_of hg.1).p0; omega⟩
  have HJ0 := Lib.hid hj0
  have hl0 : 0 < I.l.length := (pmay_len hg.1).1
  obtain ⟨ad, cap, rfl, _⟩ := hr.form
  obtain ⟨tb, off, rfl, hkt, hlt0⟩ := srow_at hr 0 hl0
  have HKT := Lib.hid (show At w tb off (nth I.l 0) by have h0 := hkt; rw [Nat.zero_mul, Nat.add_zero] at h0; exact h0)
  clear hkt
  have hki : (0 : Int) < (I.l.length : Int) := by omega
  clear hc hr hg hj0
  go_enter Tryz.func122, Tryz.ntmps122
  go_wp2_with fail
  have HB1 := Lib.hid ((Below.refl w.heap.size w).drew)
  have HC1 := Lib.hid (HC.out.later HB1.out)
  have HR1 := Lib.hid (HR.out.below HB1.out)
  have HS0 := Lib.hid (show Holds (cellsH b I (.slice (some ⟨tb, off, none⟩) I.l.length cap) s ++ cellsF tb off (nth I.l 0)) w.drew from Holds.app.2 ⟨HC1.out.holds, holds_at (HKT.out.below hlt0 HB1.out)⟩)
  have hlt := Lib.hid (show Lows w.drew.heap.size (cellsH b I (.slice (some ⟨tb, off, none⟩) I.l.length cap) s ++ cellsF tb off (nth I.l 0)) from Lows.app (lows_H HC1.out.lt) (lows_at hlt0))
  refine wp_region_held_drew (S := Holds (cellsH b I (.slice (some ⟨tb, off, none⟩) I.l.length cap) s ++ cellsF tb off (nth I.l 0))) (by kernel_rfl) HS0.out (fun hSn => ?_)
  have Bc := Lib.hid (Below.refl w.drew.heap.size w.drew)
  simp only [cellsH, cellsF, List.cons_append, List.nil_append] at *
  by_cases h0 : s.pos = 0
  · have HD := Lib.hid (show decide (BackB I s) = false by rw [HE.out, decide_eq_true h0]; rfl)
    have b0 : (s.pos == 0) = true := by simp [h0]
    have b1 : (s.pos != 0) = false := by simp [h0]
    clear h0
    refine tks [0, 1, 2, 3, 4, 5, 6] 7 rfl (by kernel_rfl) (fun _ _ _ _ h => h) (by assumption) (fun KT hKT => ?_)
    iterate 7 (refine tkT (by (simp only [gA, gB, gC]; rfl)) (by rfl) (by (intro w hSw; (simp only [Holds] at hSw); go_simp <;> with_reducible rfl)) ?_; simp only [Act.put, pA, pB, pC])
    refine hKT _ ?_
    clear KT hKT
    refine tks [7, 8, 9, 10, 11, 12, 13] 7 rfl (by kernel_rfl) (fun _ _ _ _ h => h) (by assumption) (fun KT hKT => ?_)
    iterate 7 (refine tkS (by (simp only [gA, gB, gC]; rfl)) (by rfl) ?_; simp only [Act.put, pA, pB, pC])
    refine hKT _ ?_
    clear KT hKT
    refine tks [14, 15] 2 rfl (by kernel_rfl) (fun _ _ _ _ h => h) (by assumption) (fun KT hKT => ?_)
    iterate 2 (refine tkT (by (simp only [gA, gB, gC]; rfl)) (by rfl) (by (intro w hSw; (simp only [Holds] at hSw); go_simp <;> with_reducible rfl)) ?_; simp only [Act.put, pA, pB, pC])
    refine hKT _ ?_
    clear KT hKT
    refine tks [16, 17, 18, 19, 20, 21, 22, 23, 24, 25, 26] 11 rfl (by kernel_rfl) (fun _ _ _ _ h => h) (by assumption) (fun KT hKT => ?_)
    iterate 11 (refine tkS (by (simp only [gA, gB, gC]; rfl)) (by rfl) ?_; simp only [Act.put, pA, pB, pC])
    refine hKT _ ?_
    clear KT hKT
    refine tks [27, 28] 2 rfl (by kernel_rfl) (fun _ _ _ _ h => h) (by assumption) (fun KT hKT => ?_)
    iterate 2 (refine tkT (by (simp only [gA, gB, gC]; rfl)) (by rfl) (by (intro w hSw; (simp only [Holds] at hSw); go_simp <;> with_reducible rfl)) ?_; simp only [Act.put, pA, pB, pC])
    refine hKT _ ?_
    clear KT hKT
    refine wpAnyH_done (by kernel_rfl) ?_ _
    go_wp2
    go_ret
    exact ⟨ret_bool HD.out.symm, HB1.out.trans (Bc.out.mono HB1.out.size)⟩
  have HE1 := Lib.hid (show decide (BackB I s) = (decide (s.on = 0) && decide (comeS I s 0 ≤ (nth I.l 0).u)) by rw [HE.out, decide_eq_false h0]; rfl)
  have b0 : (s.pos == 0) = false := by simp [h0]
  have b1 : (s.pos != 0) = true := by simp [h0]
  clear h0
  refine tks [0, 1, 2, 3, 4, 5, 6] 7 rfl (by kernel_rfl) (fun _ _ _ _ h => h) (by assumption) (fun KT hKT => ?_)
  iterate 7 (refine tkT (by (simp only [gA, gB, gC]; rfl)) (by rfl) (by (intro w hSw; (simp only [Holds] at hSw); go_simp <;> with_reducible rfl)) ?_; simp only [Act.put, pA, pB, pC])
  refine hKT _ ?_
  clear KT hKT
  refine tks [7, 8, 9, 10, 11] 5 rfl (by kernel_rfl) (fun _ _ _ _ h => h) (by assumption) (fun KT hKT => ?_)
  iterate 5 (refine tkT (by (simp only [gA, gB, gC]; rfl)) (by rfl) (by (intro w hSw; (simp only [Holds] at hSw); go_simp <;> with_reducible rfl)) ?_; simp only [Act.put, pA, pB, pC])
  refine hKT _ ?_
  clear KT hKT
  refine wpAnyH_ready (rs := [12]) (by kernel_rfl) (by simp) ?_
  refine AllReadyH.cons (o := ?oz152) ?iz152 (fun K hK => ?kz152) AllReadyH.nil
  case iz152 => (simp only [List.getElem?_toArray, List.getElem?_cons_zero, List.getElem?_cons_succ]; rfl)
  go_simp
  refine (elen_any _ _ ho).mono ?_
  rintro e w' ⟨rfl, rfl⟩
  refine held_more hK HS0.out hlt Bc.out (fun Bc hSn => ?_)
  clear hK
  by_cases h1 : s.on = 0
  · have dp : ((popN s.on : Int) == 0) = true := by rw [HZ.out.2 h1]; rfl
    have HE2 := Lib.hid (show decide (BackB I s) = decide (comeS I s 0 ≤ (nth I.l 0).u) by rw [HE1.out, decide_eq_true h1]; rfl)
    clear h1
    refine tks [13] 1 rfl (by kernel_rfl) (fun _ _ _ _ h => h) (by assumption) (fun KT hKT => ?_)
    refine tkT (by (simp only [gA, gB, gC]; rfl)) (by rfl) (by (intro w hSw; (simp only [Holds] at hSw); go_simp <;> with_reducible rfl)) ?_
    simp only [Act.put, pA, pB, pC]
    refine hKT _ ?_
    clear KT hKT
    refine tks [14, 15] 2 rfl (by kernel_rfl) (fun _ _ _ _ h => h) (by assumption) (fun KT hKT => ?_)
    iterate 2 (refine tkT (by (simp only [gA, gB, gC]; rfl)) (by rfl) (by (intro w hSw; (simp only [Holds] at hSw); go_simp <;> with_reducible rfl)) ?_; simp only [Act.put, pA, pB, pC])
    refine hKT _ ?_
    clear KT hKT
    refine tks [16, 18, 19, 20, 21, 22, 23, 24, 25] 9 rfl (by kernel_rfl) (fun _ _ _ _ h => h) (by assumption) (fun KT hKT => ?_)
    iterate 9 (refine tkT (by (simp only [gA, gB, gC]; rfl)) (by rfl) (by (intro w hSw; (simp only [Holds] at hSw); go_simp <;> with_reducible rfl)) ?_; simp only [Act.put, pA, pB, pC])
    refine hKT _ ?_
    clear KT hKT
    refine wpAnyH_ready (rs := [17]) (by kernel_rfl) (by simp) ?_
    refine AllReadyH.cons (o := ?oz153) ?iz153 (fun K hK => ?kz153) AllReadyH.nil
    case iz153 => (simp only [List.getElem?_toArray, List.getElem?_cons_zero, List.getElem?_cons_succ]; rfl)
    go_simp
    refine (hcomeTo_any (HC1.out.later Bc.out) (HR1.out.below Bc.out) HG.out HJ0.out).mono ?_
    rintro e w' ⟨rfl, hb⟩
    refine held_more hK HS0.out hlt (Bc.out.trans (hb.mono Bc.out.size)) (fun Bc hSn => ?_)
    clear hb hK
    refine tks [26, 27, 28] 3 rfl (by kernel_rfl) (fun _ _ _ _ h => h) (by assumption) (fun KT hKT => ?_)
    iterate 3 (refine tkT (by (simp only [gA, gB, gC]; rfl)) (by rfl) (by (intro w hSw; (simp only [Holds] at hSw); go_simp <;> with_reducible rfl)) ?_; simp only [Act.put, pA, pB, pC])
    refine hKT _ ?_
    clear KT hKT
    refine wpAnyH_done (by kernel_rfl) ?_ _
    go_wp2
    go_ret
    exact ⟨ret_bool HE2.out.symm, HB1.out.trans (Bc.out.mono HB1.out.size)⟩
  · have dp : ((popN s.on : Int) == 0) = false := by have := fun h => h1 (HZ.out.1 h); simpa using this
    have HE2 := Lib.hid (show decide (BackB I s) = false by rw [HE1.out, decide_eq_false h1]; rfl)
    clear h1
    refine tks [13] 1 rfl (by kernel_rfl) (fun _ _ _ _ h => h) (by assumption) (fun KT hKT => ?_)
    refine tkT (by (simp only [gA, gB, gC]; rfl)) (by rfl) (by (intro w hSw; (simp only [Holds] at hSw); go_simp <;> with_reducible rfl)) ?_
    simp only [Act.put, pA, pB, pC]
    refine hKT _ ?_
    clear KT hKT
    refine tks [14, 15] 2 rfl (by kernel_rfl) (fun _ _ _ _ h => h) (by assumption) (fun KT hKT => ?_)
    iterate 2 (refine tkT (by (simp only [gA, gB, gC]; rfl)) (by rfl) (by (intro w hSw; (simp only [Holds] at hSw); go_simp <;> with_reducible rfl)) ?_; simp only [Act.put, pA, pB, pC])
    refine hKT _ ?_
    clear KT hKT
    refine tks [16, 17, 18, 19, 20, 21, 22, 23, 24, 25, 26] 11 rfl (by kernel_rfl) (fun _ _ _ _ h => h) (by assumption) (fun KT hKT => ?_)
    iterate 11 (refine tkS (by (simp only [gA, gB, gC]; rfl)) (by rfl) ?_; simp only [Act.put, pA, pB, pC])
    refine hKT _ ?_
    clear KT hKT
    refine tks [27, 28] 2 rfl (by kernel_rfl) (fun _ _ _ _ h => h) (by assumption) (fun KT hKT => ?_)
    iterate 2 (refine tkT (by (simp only [gA, gB, gC]; rfl)) (by rfl) (by (intro w hSw; (simp only [Holds] at hSw); go_simp <;> with_reducible rfl)) ?_; simp only [Act.put, pA, pB, pC])
    refine hKT _ ?_
    clear KT hKT
    refine wpAnyH_done (by kernel_rfl) ?_ _
    go_wp2
    go_ret
    exact ⟨ret_bool HE2.out.symm, HB1.out.trans (Bc.out.mono HB1.out.size)⟩
set_option maxRecDepth 1000000 in
set_option maxHeartbeats 4000000 in
theorem canEnd_any {w : World} {b : Nat} {I : Ins} {sv : Value} {s : Sta} (hc : HereB w b I sv s) (hr : SRow w sv I.l) (hg : GoOn I s) (hs : SetsOk s) :
    Calls Tryz.prog 93 #[.pointer (some ⟨b, 0, none⟩)] w fun e w' => e = .returned (.bool (decide (BackB I s) && within (allS I) s.may)) ∧ Below w.heap.size w w' := by
  have HC := Lib.hid hc
  have HR := Lib.hid hr
  have HG := Lib.hid hg
  have HS := Lib.hid hs
  obtain ⟨ad, cap, rfl, _⟩ := hr.form
  clear hc hr hg hs
  go_enter Tryz.func93, Tryz.ntmps93
  go_wp2_with fail
  have HB1 := Lib.hid ((Below.refl w.heap.size w).drew)
  have HC1 := Lib.hid (HC.out.later HB1.out)
  have HR1 := Lib.hid (HR.out.below HB1.out)
  have HS0 := Lib.hid (show Holds (cellsH b I (.slice ad I.l.length cap) s) w.drew from HC1.out.holds)
  have hlt := Lib.hid (show Lows w.drew.heap.size (cellsH b I (.slice ad I.l.length cap) s) from lows_H HC1.out.lt)
  refine wp_region_held_drew (S := Holds (cellsH b I (.slice ad I.l.length cap) s)) (by kernel_rfl) HS0.out (fun hSn => ?_)
  have Bc := Lib.hid (Below.refl w.drew.heap.size w.drew)
  simp only [cellsH] at *
  refine tks [0] 1 rfl (by kernel_rfl) (fun _ _ _ _ h => h) (by assumption) (fun KT hKT => ?_)
  refine tkT (by (simp only [gA, gB]; rfl)) (by rfl) (by (intro w hSw; (simp only [Holds] at hSw); go_simp <;> with_reducible rfl)) ?_
  simp only [Act.put, pA, pB, pC]
  refine hKT _ ?_
  clear KT hKT
  refine wpAnyH_ready (rs := [1]) (by kernel_rfl) (by simp) ?_
  refine AllReadyH.cons (o := ?oz154) ?iz154 (fun K hK => ?kz154) AllReadyH.nil
  case iz154 => (simp only [List.getElem?_toArray, List.getElem?_cons_zero, List.getElem?_cons_succ]; rfl)
  go_simp
  refine (canBeBack_any (HC1.out.later Bc.out) (HR1.out.below Bc.out) HG.out HS.out.2.2).mono ?_
  rintro e w' ⟨rfl, hb⟩
  refine held_more hK HS0.out hlt (Bc.out.trans (hb.mono Bc.out.size)) (fun Bc hSn => ?_)
  clear hb hK
  cases hb : decide (BackB I s)
  · have HD := Lib.hid (show (decide (BackB I s) && within (allS I) s.may) = false by rw [hb]; rfl)
    refine tks [2] 1 rfl (by kernel_rfl) (fun _ _ _ _ h => h) (by assumption) (fun KT hKT => ?_)
    refine tkT (by (simp only [gA, gB, gC]; rfl)) (by rfl) (by (intro w hSw; (simp only [Holds] at hSw); go_simp <;> with_reducible rfl)) ?_
    simp only [Act.put, pA, pB, pC]
    refine hKT _ ?_
    clear KT hKT
    refine tks [3, 4, 5, 6, 7, 8, 9, 10] 8 rfl (by kernel_rfl) (fun _ _ _ _ h => h) (by assumption) (fun KT hKT => ?_)
    iterate 8 (refine tkS (by (simp only [gA, gB, gC]; rfl)) (by rfl) ?_; simp only [Act.put, pA, pB, pC])
    refine hKT _ ?_
    clear KT hKT
    refine tks [11, 12] 2 rfl (by kernel_rfl) (fun _ _ _ _ h => h) (by assumption) (fun KT hKT => ?_)
    iterate 2 (refine tkT (by (simp only [gA, gB, gC]; rfl)) (by rfl) (by (intro w hSw; (simp only [Holds] at hSw); go_simp <;> with_reducible rfl)) ?_; simp only [Act.put, pA, pB, pC])
    refine hKT _ ?_
    clear KT hKT
    refine wpAnyH_done (by kernel_rfl) ?_ _
    go_wp2
    go_ret
    exact ⟨ret_bool HD.out.symm, HB1.out.trans (Bc.out.mono HB1.out.size)⟩
  refine tks [2] 1 rfl (by kernel_rfl) (fun _ _ _ _ h => h) (by assumption) (fun KT hKT => ?_)
  refine tkT (by (simp only [gA, gB, gC]; rfl)) (by rfl) (by (intro w hSw; (simp only [Holds] at hSw); go_simp <;> with_reducible rfl)) ?_
  simp only [Act.put, pA, pB, pC]
  refine hKT _ ?_
  clear KT hKT
  refine tks [3, 5, 6, 7, 8, 9] 6 rfl (by kernel_rfl) (fun _ _ _ _ h => h) (by assumption) (fun KT hKT => ?_)
  iterate 6 (refine tkT (by (simp only [gA, gB, gC]; rfl)) (by rfl) (by (intro w hSw; (simp only [Holds] at hSw); go_simp <;> with_reducible rfl)) ?_; simp only [Act.put, pA, pB, pC])
  refine hKT _ ?_
  clear KT hKT
  refine wpAnyH_ready (rs := [4]) (by kernel_rfl) (by simp) ?_
  refine AllReadyH.cons (o := ?oz155) ?iz155 (fun K hK => ?kz155) AllReadyH.nil
  case iz155 => (simp only [List.getElem?_toArray, List.getElem?_cons_zero, List.getElem?_cons_succ]; rfl)
  go_simp
  refine (allStops_any (HC1.out.later Bc.out) HG.out.1).mono ?_
  rintro e w' ⟨rfl, rfl⟩
  refine held_more hK HS0.out hlt Bc.out (fun Bc hSn => ?_)
  clear hK
  refine wpAnyH_ready (rs := [10]) (by kernel_rfl) (by simp) ?_
  refine AllReadyH.cons (o := ?oz156) ?iz156 (fun K hK => ?kz156) AllReadyH.nil
  case iz156 => (simp only [List.getElem?_toArray, List.getElem?_cons_zero, List.getElem?_cons_succ]; rfl)
  go_simp
  refine (ewithin_any _ _ _ (allS_lt I) HS.out.2.1).mono ?_
  rintro e w' ⟨rfl, rfl⟩
  refine held_more hK HS0.out hlt Bc.out (fun Bc hSn => ?_)
  clear hK
  have HD := Lib.hid (show (decide (BackB I s) && within (allS I) s.may) = within (allS I) s.may by rw [hb]; exact Bool.true_and _)
  refine tks [11, 12] 2 rfl (by kernel_rfl) (fun _ _ _ _ h => h) (by assumption) (fun KT hKT => ?_)
  iterate 2 (refine tkT (by (simp only [gA, gB, gC]; rfl)) (by rfl) (by (intro w hSw; (simp only [Holds] at hSw); go_simp <;> with_reducible rfl)) ?_; simp only [Act.put, pA, pB, pC])
  refine hKT _ ?_
  clear KT hKT
  refine wpAnyH_done (by kernel_rfl) ?_ _
  go_wp2
  go_ret
  exact ⟨ret_bool HD.out.symm, HB1.out.trans (Bc.out.mono HB1.out.size)⟩
set_option maxRecDepth 1000000 in
set_option maxHeartbeats 4000000 in
theorem canReturn_any {w : World} {b : Nat} {I : Ins} {sv : Value} {s : Sta} {j : Int} (hc : HereB w b I sv s) (hr : SRow w sv I.l) (hg : GoOn I s) (hs : SetsOk s) :
    Calls Tryz.prog 126 #[.pointer (some ⟨b, 0, none⟩), .int .i64 j] w fun e w' => e = .returned (.bool (decide (CanHome I s 0))) ∧ Below w.heap.size w w' := by
  have HC := Lib.hid hc
  have HR := Lib.hid hr
  have HG := Lib.hid hg
  have HS := Lib.hid hs
  have HE := Lib.hid (home_eq I s)
  obtain ⟨ad, cap, rfl, _⟩ := hr.form
  clear hc hr hg hs
  go_enter Tryz.func126, Tryz.ntmps126
  go_wp2_with fail
  have HB1 := Lib.hid ((Below.refl w.heap.size w).drew)
  have HC1 := Lib.hid (HC.out.later HB1.out)
  have HR1 := Lib.hid (HR.out.below HB1.out)
  have HS0 := Lib.hid (show Holds (cellsH b I (.slice ad I.l.length cap) s) w.drew from HC1.out.holds)
  have hlt := Lib.hid (show Lows w.drew.heap.size (cellsH b I (.slice ad I.l.length cap) s) from lows_H HC1.out.lt)
  refine wp_region_held_drew (S := Holds (cellsH b I (.slice ad I.l.length cap) s)) (by kernel_rfl) HS0.out (fun hSn => ?_)
  have Bc := Lib.hid (Below.refl w.drew.heap.size w.drew)
  simp only [cellsH] at *
  refine tks [0] 1 rfl (by kernel_rfl) (fun _ _ _ _ h => h) (by assumption) (fun KT hKT => ?_)
  refine tkT (by (simp only [gA, gB]; rfl)) (by rfl) (by (intro w hSw; (simp only [Holds] at hSw); go_simp <;> with_reducible rfl)) ?_
  simp only [Act.put, pA, pB, pC]
  refine hKT _ ?_
  clear KT hKT
  refine wpAnyH_ready (rs := [1]) (by kernel_rfl) (by simp) ?_
  refine AllReadyH.cons (o := ?oz157) ?iz157 (fun K hK => ?kz157) AllReadyH.nil
  case iz157 => (simp only [List.getElem?_toArray, List.getElem?_cons_zero, List.getElem?_cons_succ]; rfl)
  go_simp
  refine (canBeBack_any (HC1.out.later Bc.out) (HR1.out.below Bc.out) HG.out HS.out.2.2).mono ?_
  rintro e w' ⟨rfl, hb⟩
  refine held_more hK HS0.out hlt (Bc.out.trans (hb.mono Bc.out.size)) (fun Bc hSn => ?_)
  clear hb hK
  cases hb : decide (BackB I s)
  · have HD := Lib.hid (show decide (CanHome I s 0) = false by rw [HE.out, hb]; rfl)
    refine tks [2] 1 rfl (by kernel_rfl) (fun _ _ _ _ h => h) (by assumption) (fun KT hKT => ?_)
    refine tkT (by (simp only [gA, gB, gC]; rfl)) (by rfl) (by (intro w hSw; (simp only [Holds] at hSw); go_simp <;> with_reducible rfl)) ?_
    simp only [Act.put, pA, pB, pC]
    refine hKT _ ?_
    clear KT hKT
    refine tks [3, 4, 5, 6, 7, 8, 9, 10, 11, 12, 13] 11 rfl (by kernel_rfl) (fun _ _ _ _ h => h) (by assumption) (fun KT hKT => ?_)
    iterate 11 (refine tkS (by (simp only [gA, gB, gC]; rfl)) (by rfl) ?_; simp only [Act.put, pA, pB, pC])
    refine hKT _ ?_
    clear KT hKT
    refine tks [14, 15] 2 rfl (by kernel_rfl) (fun _ _ _ _ h => h) (by assumption) (fun KT hKT => ?_)
    iterate 2 (refine tkT (by (simp only [gA, gB, gC]; rfl)) (by rfl) (by (intro w hSw; (simp only [Holds] at hSw); go_simp <;> with_reducible rfl)) ?_; simp only [Act.put, pA, pB, pC])
    refine hKT _ ?_
    clear KT hKT
    refine tks [16, 17, 18, 19, 20, 21, 22, 23, 24] 9 rfl (by kernel_rfl) (fun _ _ _ _ h => h) (by assumption) (fun KT hKT => ?_)
    iterate 9 (refine tkS (by (simp only [gA, gB, gC]; rfl)) (by rfl) ?_; simp only [Act.put, pA, pB, pC])
    refine hKT _ ?_
    clear KT hKT
    refine tks [25, 26] 2 rfl (by kernel_rfl) (fun _ _ _ _ h => h) (by assumption) (fun KT hKT => ?_)
    iterate 2 (refine tkT (by (simp only [gA, gB, gC]; rfl)) (by rfl) (by (intro w hSw; (simp only [Holds] at hSw); go_simp <;> with_reducible rfl)) ?_; simp only [Act.put, pA, pB, pC])
    refine hKT _ ?_
    clear KT hKT
    refine wpAnyH_done (by kernel_rfl) ?_ _
    go_wp2
    go_ret
    exact ⟨ret_bool HD.out.symm, HB1.out.trans (Bc.out.mono HB1.out.size)⟩
  by_cases h1 : s.car < I.c
  · have HE1 := Lib.hid (show decide (CanHome I s 0) = (!within (allS I) s.must) by rw [HE.out, hb, decide_eq_true h1]; rfl)
    have d1 := decide_eq_true h1
    clear h1
    refine tks [2] 1 rfl (by kernel_rfl) (fun _ _ _ _ h => h) (by assumption) (fun KT hKT => ?_)
    refine tkT (by (simp only [gA, gB, gC]; rfl)) (by rfl) (by (intro w hSw; (simp only [Holds] at hSw); go_simp <;> with_reducible rfl)) ?_
    simp only [Act.put, pA, pB, pC]
    refine hKT _ ?_
    clear KT hKT
    refine tks [3, 4, 5, 6, 7, 8, 9, 10, 11, 12, 13] 11 rfl (by kernel_rfl) (fun _ _ _ _ h => h) (by assumption) (fun KT hKT => ?_)
    iterate 11 (refine tkT (by (simp only [gA, gB, gC]; rfl)) (by rfl) (by (intro w hSw; (simp only [Holds] at hSw); go_simp <;> with_reducible rfl)) ?_; simp only [Act.put, pA, pB, pC])
    refine hKT _ ?_
    clear KT hKT
    refine tks [14, 15] 2 rfl (by kernel_rfl) (fun _ _ _ _ h => h) (by assumption) (fun KT hKT => ?_)
    iterate 2 (refine tkT (by (simp only [gA, gB, gC]; rfl)) (by rfl) (by (intro w hSw; (simp only [Holds] at hSw); go_simp <;> with_reducible rfl)) ?_; simp only [Act.put, pA, pB, pC])
    refine hKT _ ?_
    clear KT hKT
    refine tks [16, 18, 19, 20, 21, 22] 6 rfl (by kernel_rfl) (fun _ _ _ _ h => h) (by assumption) (fun KT hKT => ?_)
    iterate 6 (refine tkT (by (simp only [gA, gB, gC]; rfl)) (by rfl) (by (intro w hSw; (simp only [Holds] at hSw); go_simp <;> with_reducible rfl)) ?_; simp only [Act.put, pA, pB, pC])
    refine hKT _ ?_
    clear KT hKT
    refine wpAnyH_ready (rs := [17]) (by kernel_rfl) (by simp) ?_
    refine AllReadyH.cons (o := ?oz158) ?iz158 (fun K hK => ?kz158) AllReadyH.nil
    case iz158 => (simp only [List.getElem?_toArray, List.getElem?_cons_zero, List.getElem?_cons_succ]; rfl)
    go_simp
    refine (allStops_any (HC1.out.later Bc.out) HG.out.1).mono ?_
    rintro e w' ⟨rfl, rfl⟩
    refine held_more hK HS0.out hlt Bc.out (fun Bc hSn => ?_)
    clear hK
    refine wpAnyH_ready (rs := [23]) (by kernel_rfl) (by simp) ?_
    refine AllReadyH.cons (o := ?oz159) ?iz159 (fun K hK => ?kz159) AllReadyH.nil
    case iz159 => (simp only [List.getElem?_toArray, List.getElem?_cons_zero, List.getElem?_cons_succ]; rfl)
    go_simp
    refine (ewithin_any _ _ _ (allS_lt I) HS.out.1).mono ?_
    rintro e w' ⟨rfl, rfl⟩
    refine held_more hK HS0.out hlt Bc.out (fun Bc hSn => ?_)
    clear hK
    refine tks [24, 25, 26] 3 rfl (by kernel_rfl) (fun _ _ _ _ h => h) (by assumption) (fun KT hKT => ?_)
    iterate 3 (refine tkT (by (simp only [gA, gB, gC]; rfl)) (by rfl) (by (intro w hSw; (simp only [Holds] at hSw); go_simp <;> with_reducible rfl)) ?_; simp only [Act.put, pA, pB, pC])
    refine hKT _ ?_
    clear KT hKT
    refine wpAnyH_done (by kernel_rfl) ?_ _
    go_wp2
    go_ret
    exact ⟨ret_bool HE1.out.symm, HB1.out.trans (Bc.out.mono HB1.out.size)⟩
  · have HE1 := Lib.hid (show decide (CanHome I s 0) = false by rw [HE.out, hb, decide_eq_false h1]; rfl)
    have d1 := decide_eq_false h1
    clear h1
    refine tks [2] 1 rfl (by kernel_rfl) (fun _ _ _ _ h => h) (by assumption) (fun KT hKT => ?_)
    refine tkT (by (simp only [gA, gB, gC]; rfl)) (by rfl) (by (intro w hSw; (simp only [Holds] at hSw); go_simp <;> with_reducible rfl)) ?_
    simp only [Act.put, pA, pB, pC]
    refine hKT _ ?_
    clear KT hKT
    refine tks [3, 4, 5, 6, 7, 8, 9, 10, 11, 12, 13] 11 rfl (by kernel_rfl) (fun _ _ _ _ h => h) (by assumption) (fun KT hKT => ?_)
    iterate 11 (refine tkT (by (simp only [gA, gB, gC]; rfl)) (by rfl) (by (intro w hSw; (simp only [Holds] at hSw); go_simp <;> with_reducible rfl)) ?_; simp only [Act.put, pA, pB, pC])
    refine hKT _ ?_
    clear KT hKT
    refine tks [14, 15] 2 rfl (by kernel_rfl) (fun _ _ _ _ h => h) (by assumption) (fun KT hKT => ?_)
    iterate 2 (refine tkT (by (simp only [gA, gB, gC]; rfl)) (by rfl) (by (intro w hSw; (simp only [Holds] at hSw); go_simp <;> with_reducible rfl)) ?_; simp only [Act.put, pA, pB, pC])
    refine hKT _ ?_
    clear KT hKT
    refine tks [16, 17, 18, 19, 20, 21, 22, 23, 24] 9 rfl (by kernel_rfl) (fun _ _ _ _ h => h) (by assumption) (fun KT hKT => ?_)
    iterate 9 (refine tkS (by (simp only [gA, gB, gC]; rfl)) (by rfl) ?_; simp only [Act.put, pA, pB, pC])
    refine hKT _ ?_
    clear KT hKT
    refine tks [25, 26] 2 rfl (by kernel_rfl) (fun _ _ _ _ h => h) (by assumption) (fun KT hKT => ?_)
    iterate 2 (refine tkT (by (simp only [gA, gB, gC]; rfl)) (by rfl) (by (intro w hSw; (simp only [Holds] at hSw); go_simp <;> with_reducible rfl)) ?_; simp only [Act.put, pA, pB, pC])
    refine hKT _ ?_
    clear KT hKT
    refine wpAnyH_done (by kernel_rfl) ?_ _
    go_wp2
    go_ret
    exact ⟨ret_bool HE1.out.symm, HB1.out.trans (Bc.out.mono HB1.out.size)⟩
end Go.Proofs.YtgplajofemencaaGreat
/- What the methods that decide a stop answer. -/
namespace Go.Proofs.YtgplajofemencaaGreat
open Go.ChangeShapes Go.WideShapes Go.ChangeAt Go.RowKit

set_option maxRecDepth 1000000 in
set_option maxHeartbeats 4000000 in
theorem canTake_any {w : World} {b : Nat} {I : Ins} {sv : Value} {s : Sta} {j : Int} (hc : HereB w b I sv s) (hr : SRow w sv I.l) (hg : GoOn I s) (hs : SetsOk s) (hj : 1 ≤ j ∧ j ≤ I.p) :
    Calls Tryz.prog 128 #[.pointer (some ⟨b, 0, none⟩), .int .i64 j] w fun e w' => e = .returned (.bool (decide (CanTake I s j))) ∧ Below w.heap.size w w' := by
  have HC := Lib.hid hc
  have HR := Lib.hid hr
  have HG := Lib.hid hg
  have HS := Lib.hid hs
  have hf := fine_of hg.1
  have hp0 := hf.p0
  have hp1 := hf.p1
  have hj2 : 0 ≤ j ∧ j ≤ 2 * I.p := by omega
  have HJ := Lib.hid hj2
  have hst := hf.take j hj.1 hj.2
  have hld := (goOn_bd hg).2.2.2
  have hroom := hf.room
  have e1 : IntKind.i64.wrap (s.load + (stp I j).d) = s.load + (stp I j).d := IntWalk.i64_in _ (by omega)
  have HE0 := take_eq I s j hj
  obtain ⟨k, rfl, hk, ek⟩ := num_stop hg.1 hj2
  rw [ek] at e1 HE0 hst
  have HE := Lib.hid HE0
  obtain ⟨ad, cap, rfl, _⟩ := hr.form
  obtain ⟨tb, off, rfl, hkt, hlt0⟩ := srow_at hr k hk
  have HKT := Lib.hid hkt
  clear hkt
  have hki : (k : Int) < (I.l.length : Int) := by omega
  clear hc hr hg hs hj hj2 hf ek hst hld hroom HE0
  go_enter Tryz.func128, Tryz.ntmps128
  go_wp2_with fail
  have HB1 := Lib.hid ((Below.refl w.heap.size w).drew)
  have HC1 := Lib.hid (HC.out.later HB1.out)
  have HR1 := Lib.hid (HR.out.below HB1.out)
  have HS0 := Lib.hid (show Holds (cellsH b I (.slice (some ⟨tb, off, none⟩) I.l.length cap) s ++ cellsF tb (off + k * 6) (nth I.l k)) w.drew from Holds.app.2 ⟨HC1.out.holds, holds_at (HKT.out.below hlt0 HB1.out)⟩)
  have hlt := Lib.hid (show Lows w.drew.heap.size (cellsH b I (.slice (some ⟨tb, off, none⟩) I.l.length cap) s ++ cellsF tb (off + k * 6) (nth I.l k)) from Lows.app (lows_H HC1.out.lt) (lows_at hlt0))
  refine wp_region_held_drew (S := Holds (cellsH b I (.slice (some ⟨tb, off, none⟩) I.l.length cap) s ++ cellsF tb (off + k * 6) (nth I.l k))) (by kernel_rfl) HS0.out (fun hSn => ?_)
  have Bc := Lib.hid (Below.refl w.drew.heap.size w.drew)
  simp only [cellsH, cellsF, List.cons_append, List.nil_append] at *
  generalize nth I.l k = t at *
  refine tks [0, 1, 2, 3, 4, 5] 6 rfl (by kernel_rfl) (fun _ _ _ _ h => h) (by assumption) (fun KT hKT => ?_)
  iterate 6 (refine tkT (by (simp only [gA, gB, gC]; rfl)) (by rfl) (by (intro w hSw; (simp only [Holds] at hSw); go_simp <;> with_reducible rfl)) ?_; simp only [Act.put, pA, pB, pC])
  refine hKT _ ?_
  clear KT hKT
  refine wpAnyH_ready (rs := [6]) (by kernel_rfl) (by simp) ?_
  refine AllReadyH.cons (o := ?oz160) ?iz160 (fun K hK => ?kz160) AllReadyH.nil
  case iz160 => (simp only [List.getElem?_toArray, List.getElem?_cons_zero, List.getElem?_cons_succ]; rfl)
  go_simp
  refine (ehas_any _ _ _ HS.out.1).mono ?_
  rintro e w' ⟨rfl, rfl⟩
  refine held_more hK HS0.out hlt Bc.out (fun Bc hSn => ?_)
  clear hK
  cases hb : has s.must k
  case' true =>
    have HD := Lib.hid (show decide (CanTake I s k) = false by rw [HE.out, hb]; rfl)
    refine tks [7, 8] 2 rfl (by kernel_rfl) (fun _ _ _ _ h => h) (by assumption) (fun KT hKT => ?_)
    iterate 2 (refine tkT (by (simp only [gA, gB, gC]; rfl)) (by rfl) (by (intro w hSw; (simp only [Holds] at hSw); go_simp <;> with_reducible rfl)) ?_; simp only [Act.put, pA, pB, pC])
    refine hKT _ ?_
    clear KT hKT
    refine tks [9, 10, 11, 12, 13, 14, 15, 16, 17, 18, 19, 20, 21, 22, 23, 24, 25, 26, 27, 28, 29] 21 rfl (by kernel_rfl) (fun _ _ _ _ h => h) (by assumption) (fun KT hKT => ?_)
    iterate 21 (refine tkS (by (simp only [gA, gB, gC]; rfl)) (by rfl) ?_; simp only [Act.put, pA, pB, pC])
    refine hKT _ ?_
    clear KT hKT
    refine tks [30, 31] 2 rfl (by kernel_rfl) (fun _ _ _ _ h => h) (by assumption) (fun KT hKT => ?_)
    iterate 2 (refine tkT (by (simp only [gA, gB, gC]; rfl)) (by rfl) (by (intro w hSw; (simp only [Holds] at hSw); go_simp <;> with_reducible rfl)) ?_; simp only [Act.put, pA, pB, pC])
    refine hKT _ ?_
    clear KT hKT
    refine tks [32, 33, 34, 35, 36, 37, 38, 39, 40, 41, 42, 43, 44, 45, 46] 15 rfl (by kernel_rfl) (fun _ _ _ _ h => h) (by assumption) (fun KT hKT => ?_)
    iterate 15 (refine tkS (by (simp only [gA, gB, gC]; rfl)) (by rfl) ?_; simp only [Act.put, pA, pB, pC])
    refine hKT _ ?_
    clear KT hKT
    refine tks [47, 48] 2 rfl (by kernel_rfl) (fun _ _ _ _ h => h) (by assumption) (fun KT hKT => ?_)
    iterate 2 (refine tkT (by (simp only [gA, gB, gC]; rfl)) (by rfl) (by (intro w hSw; (simp only [Holds] at hSw); go_simp <;> with_reducible rfl)) ?_; simp only [Act.put, pA, pB, pC])
    refine hKT _ ?_
    clear KT hKT
    refine tks [49, 50, 51, 52, 53, 54, 55, 56, 57, 58, 59, 60, 61] 13 rfl (by kernel_rfl) (fun _ _ _ _ h => h) (by assumption) (fun KT hKT => ?_)
    iterate 13 (refine tkS (by (simp only [gA, gB, gC]; rfl)) (by rfl) ?_; simp only [Act.put, pA, pB, pC])
    refine hKT _ ?_
    clear KT hKT
    refine tks [62, 63] 2 rfl (by kernel_rfl) (fun _ _ _ _ h => h) (by assumption) (fun KT hKT => ?_)
    iterate 2 (refine tkT (by (simp only [gA, gB, gC]; rfl)) (by rfl) (by (intro w hSw; (simp only [Holds] at hSw); go_simp <;> with_reducible rfl)) ?_; simp only [Act.put, pA, pB, pC])
    refine hKT _ ?_
    clear KT hKT
    refine wpAnyH_done (by kernel_rfl) ?_ _
    go_wp2
    go_ret
    exact ⟨ret_bool HD.out.symm, HB1.out.trans (Bc.out.mono HB1.out.size)⟩
  by_cases h1 : s.load + t.d ≤ I.r
  case' neg =>
    have HD := Lib.hid (show decide (CanTake I s k) = false by rw [HE.out, hb, decide_eq_false h1]; rfl)
    have d1 := decide_eq_false h1
    clear h1
    refine tks [7, 8] 2 rfl (by kernel_rfl) (fun _ _ _ _ h => h) (by assumption) (fun KT hKT => ?_)
    iterate 2 (refine tkT (by (simp only [gA, gB, gC]; rfl)) (by rfl) (by (intro w hSw; (simp only [Holds] at hSw); go_simp <;> with_reducible rfl)) ?_; simp only [Act.put, pA, pB, pC])
    refine hKT _ ?_
    clear KT hKT
    refine tks [9, 10, 11, 12, 13, 14, 15, 16, 17, 18, 19, 20, 21, 22, 23, 24, 25, 26, 27, 28, 29] 21 rfl (by kernel_rfl) (fun _ _ _ _ h => h) (by assumption) (fun KT hKT => ?_)
    iterate 21 (refine tkT (by (simp only [gA, gB, gC]; rfl)) (by rfl) (by (intro w hSw; (simp only [Holds] at hSw); go_simp <;> with_reducible rfl)) ?_; simp only [Act.put, pA, pB, pC])
    refine hKT _ ?_
    clear KT hKT
    refine tks [30, 31] 2 rfl (by kernel_rfl) (fun _ _ _ _ h => h) (by assumption) (fun KT hKT => ?_)
    iterate 2 (refine tkT (by (simp only [gA, gB, gC]; rfl)) (by rfl) (by (intro w hSw; (simp only [Holds] at hSw); go_simp <;> with_reducible rfl)) ?_; simp only [Act.put, pA, pB, pC])
    refine hKT _ ?_
    clear KT hKT
    refine tks [32, 33, 34, 35, 36, 37, 38, 39, 40, 41, 42, 43, 44, 45, 46] 15 rfl (by kernel_rfl) (fun _ _ _ _ h => h) (by assumption) (fun KT hKT => ?_)
    iterate 15 (refine tkS (by (simp only [gA, gB, gC]; rfl)) (by rfl) ?_; simp only [Act.put, pA, pB, pC])
    refine hKT _ ?_
    clear KT hKT
    refine tks [47, 48] 2 rfl (by kernel_rfl) (fun _ _ _ _ h => h) (by assumption) (fun KT hKT => ?_)
    iterate 2 (refine tkT (by (simp only [gA, gB, gC]; rfl)) (by rfl) (by (intro w hSw; (simp only [Holds] at hSw); go_simp <;> with_reducible rfl)) ?_; simp only [Act.put, pA, pB, pC])
    refine hKT _ ?_
    clear KT hKT
    refine tks [49, 50, 51, 52, 53, 54, 55, 56, 57, 58, 59, 60, 61] 13 rfl (by kernel_rfl) (fun _ _ _ _ h => h) (by assumption) (fun KT hKT => ?_)
    iterate 13 (refine tkS (by (simp only [gA, gB, gC]; rfl)) (by rfl) ?_; simp only [Act.put, pA, pB, pC])
    refine hKT _ ?_
    clear KT hKT
    refine tks [62, 63] 2 rfl (by kernel_rfl) (fun _ _ _ _ h => h) (by assumption) (fun KT hKT => ?_)
    iterate 2 (refine tkT (by (simp only [gA, gB, gC]; rfl)) (by rfl) (by (intro w hSw; (simp only [Holds] at hSw); go_simp <;> with_reducible rfl)) ?_; simp only [Act.put, pA, pB, pC])
    refine hKT _ ?_
    clear KT hKT
    refine wpAnyH_done (by kernel_rfl) ?_ _
    go_wp2
    go_ret
    exact ⟨ret_bool HD.out.symm, HB1.out.trans (Bc.out.mono HB1.out.size)⟩
  have HE1 := Lib.hid (show decide (CanTake I s k) = ((!decide (s.pos = 0) || decide (s.first < k)) && decide (begS I s k ≤ t.u)) by rw [HE.out, hb, decide_eq_true h1]; rfl)
  have d1 := decide_eq_true h1
  clear h1
  by_cases h2 : s.pos = 0
  case' neg =>
    have HD := Lib.hid (show decide (CanTake I s k) = decide (begS I s k ≤ t.u) by rw [HE1.out, decide_eq_false h2]; rfl)
    have b0 : (s.pos == 0) = false := by simp [h2]
    have b1 : (s.pos != 0) = true := by simp [h2]
    clear h2
    refine tks [7, 8] 2 rfl (by kernel_rfl) (fun _ _ _ _ h => h) (by assumption) (fun KT hKT => ?_)
    iterate 2 (refine tkT (by (simp only [gA, gB, gC]; rfl)) (by rfl) (by (intro w hSw; (simp only [Holds] at hSw); go_simp <;> with_reducible rfl)) ?_; simp only [Act.put, pA, pB, pC])
    refine hKT _ ?_
    clear KT hKT
    refine tks [9, 10, 11, 12, 13, 14, 15, 16, 17, 18, 19, 20, 21, 22, 23, 24, 25, 26, 27, 28, 29] 21 rfl (by kernel_rfl) (fun _ _ _ _ h => h) (by assumption) (fun KT hKT => ?_)
    iterate 21 (refine tkT (by (simp only [gA, gB, gC]; rfl)) (by rfl) (by (intro w hSw; (simp only [Holds] at hSw); go_simp <;> with_reducible rfl)) ?_; simp only [Act.put, pA, pB, pC])
    refine hKT _ ?_
    clear KT hKT
    refine tks [30, 31] 2 rfl (by kernel_rfl) (fun _ _ _ _ h => h) (by assumption) (fun KT hKT => ?_)
    iterate 2 (refine tkT (by (simp only [gA, gB, gC]; rfl)) (by rfl) (by (intro w hSw; (simp only [Holds] at hSw); go_simp <;> with_reducible rfl)) ?_; simp only [Act.put, pA, pB, pC])
    refine hKT _ ?_
    clear KT hKT
    refine tks [32, 33, 34, 35, 36, 37, 38] 7 rfl (by kernel_rfl) (fun _ _ _ _ h => h) (by assumption) (fun KT hKT => ?_)
    iterate 7 (refine tkT (by (simp only [gA, gB, gC]; rfl)) (by rfl) (by (intro w hSw; (simp only [Holds] at hSw); go_simp <;> with_reducible rfl)) ?_; simp only [Act.put, pA, pB, pC])
    refine hKT _ ?_
    clear KT hKT
    refine tks [39, 40, 41, 42, 43, 44, 45] 7 rfl (by kernel_rfl) (fun _ _ _ _ h => h) (by assumption) (fun KT hKT => ?_)
    iterate 7 (refine tkS (by (simp only [gA, gB, gC]; rfl)) (by rfl) ?_; simp only [Act.put, pA, pB, pC])
    refine hKT _ ?_
    clear KT hKT
    refine tks [46] 1 rfl (by kernel_rfl) (fun _ _ _ _ h => h) (by assumption) (fun KT hKT => ?_)
    refine tkT (by (simp only [gA, gB, gC]; rfl)) (by rfl) (by (intro w hSw; (simp only [Holds] at hSw); go_simp <;> with_reducible rfl)) ?_
    simp only [Act.put, pA, pB, pC]
    refine hKT _ ?_
    clear KT hKT
    refine tks [47, 48] 2 rfl (by kernel_rfl) (fun _ _ _ _ h => h) (by assumption) (fun KT hKT => ?_)
    iterate 2 (refine tkT (by (simp only [gA, gB, gC]; rfl)) (by rfl) (by (intro w hSw; (simp only [Holds] at hSw); go_simp <;> with_reducible rfl)) ?_; simp only [Act.put, pA, pB, pC])
    refine hKT _ ?_
    clear KT hKT
    refine tks [49, 50, 52, 53, 54, 55, 56, 57, 58, 59, 60] 11 rfl (by kernel_rfl) (fun _ _ _ _ h => h) (by assumption) (fun KT hKT => ?_)
    iterate 11 (refine tkT (by (simp only [gA, gB, gC]; rfl)) (by rfl) (by (intro w hSw; (simp only [Holds] at hSw); go_simp <;> with_reducible rfl)) ?_; simp only [Act.put, pA, pB, pC])
    refine hKT _ ?_
    clear KT hKT
    refine wpAnyH_ready (rs := [51]) (by kernel_rfl) (by simp) ?_
    refine AllReadyH.cons (o := ?oz161) ?iz161 (fun K hK => ?kz161) AllReadyH.nil
    case iz161 => (simp only [List.getElem?_toArray, List.getElem?_cons_zero, List.getElem?_cons_succ]; rfl)
    go_simp
    refine (hbeginAt_any (HC1.out.later Bc.out) (HR1.out.below Bc.out) HG.out HJ.out).mono ?_
    rintro e w' ⟨rfl, hb⟩
    refine held_more hK HS0.out hlt (Bc.out.trans (hb.mono Bc.out.size)) (fun Bc hSn => ?_)
    clear hb hK
    refine tks [61, 62, 63] 3 rfl (by kernel_rfl) (fun _ _ _ _ h => h) (by assumption) (fun KT hKT => ?_)
    iterate 3 (refine tkT (by (simp only [gA, gB, gC]; rfl)) (by rfl) (by (intro w hSw; (simp only [Holds] at hSw); go_simp <;> with_reducible rfl)) ?_; simp only [Act.put, pA, pB, pC])
    refine hKT _ ?_
    clear KT hKT
    refine wpAnyH_done (by kernel_rfl) ?_ _
    go_wp2
    go_ret
    exact ⟨ret_bool HD.out.symm, HB1.out.trans (Bc.out.mono HB1.out.size)⟩
  have d2 := decide_eq_true h2
  have b0 : (s.pos == 0) = true := by simp [h2]
  have b1 : (s.pos != 0) = false := by simp [h2]
  by_cases h3 : s.first < k
  case' pos =>
    have HD := Lib.hid (show decide (CanTake I s k) = decide (begS I s k ≤ t.u) by rw [HE1.out, d2, decide_eq_true h3]; rfl)
    have d3 := decide_eq_true h3
    clear h2 h3
    refine tks [7, 8] 2 rfl (by kernel_rfl) (fun _ _ _ _ h => h) (by assumption) (fun KT hKT => ?_)
    iterate 2 (refine tkT (by (simp only [gA, gB, gC]; rfl)) (by rfl) (by (intro w hSw; (simp only [Holds] at hSw); go_simp <;> with_reducible rfl)) ?_; simp only [Act.put, pA, pB, pC])
    refine hKT _ ?_
    clear KT hKT
    refine tks [9, 10, 11, 12, 13, 14, 15, 16, 17, 18, 19, 20, 21, 22, 23, 24, 25, 26, 27, 28, 29] 21 rfl (by kernel_rfl) (fun _ _ _ _ h => h) (by assumption) (fun KT hKT => ?_)
    iterate 21 (refine tkT (by (simp only [gA, gB, gC]; rfl)) (by rfl) (by (intro w hSw; (simp only [Holds] at hSw); go_simp <;> with_reducible rfl)) ?_; simp only [Act.put, pA, pB, pC])
    refine hKT _ ?_
    clear KT hKT
    refine tks [30, 31] 2 rfl (by kernel_rfl) (fun _ _ _ _ h => h) (by assumption) (fun KT hKT => ?_)
    iterate 2 (refine tkT (by (simp only [gA, gB, gC]; rfl)) (by rfl) (by (intro w hSw; (simp only [Holds] at hSw); go_simp <;> with_reducible rfl)) ?_; simp only [Act.put, pA, pB, pC])
    refine hKT _ ?_
    clear KT hKT
    refine tks [32, 33, 34, 35, 36, 37, 38] 7 rfl (by kernel_rfl) (fun _ _ _ _ h => h) (by assumption) (fun KT hKT => ?_)
    iterate 7 (refine tkT (by (simp only [gA, gB, gC]; rfl)) (by rfl) (by (intro w hSw; (simp only [Holds] at hSw); go_simp <;> with_reducible rfl)) ?_; simp only [Act.put, pA, pB, pC])
    refine hKT _ ?_
    clear KT hKT
    refine tks [39, 40, 41, 42, 43, 44, 45] 7 rfl (by kernel_rfl) (fun _ _ _ _ h => h) (by assumption) (fun KT hKT => ?_)
    iterate 7 (refine tkT (by (simp only [gA, gB, gC]; rfl)) (by rfl) (by (intro w hSw; (simp only [Holds] at hSw); go_simp <;> with_reducible rfl)) ?_; simp only [Act.put, pA, pB, pC])
    refine hKT _ ?_
    clear KT hKT
    refine tks [46] 1 rfl (by kernel_rfl) (fun _ _ _ _ h => h) (by assumption) (fun KT hKT => ?_)
    refine tkT (by (simp only [gA, gB, gC]; rfl)) (by rfl) (by (intro w hSw; (simp only [Holds] at hSw); go_simp <;> with_reducible rfl)) ?_
    simp only [Act.put, pA, pB, pC]
    refine hKT _ ?_
    clear KT hKT
    refine tks [47, 48] 2 rfl (by kernel_rfl) (fun _ _ _ _ h => h) (by assumption) (fun KT hKT => ?_)
    iterate 2 (refine tkT (by (simp only [gA, gB, gC]; rfl)) (by rfl) (by (intro w hSw; (simp only [Holds] at hSw); go_simp <;> with_reducible rfl)) ?_; simp only [Act.put, pA, pB, pC])
    refine hKT _ ?_
    clear KT hKT
    refine tks [49, 50, 52, 53, 54, 55, 56, 57, 58, 59, 60] 11 rfl (by kernel_rfl) (fun _ _ _ _ h => h) (by assumption) (fun KT hKT => ?_)
    iterate 11 (refine tkT (by (simp only [gA, gB, gC]; rfl)) (by rfl) (by (intro w hSw; (simp only [Holds] at hSw); go_simp <;> with_reducible rfl)) ?_; simp only [Act.put, pA, pB, pC])
    refine hKT _ ?_
    clear KT hKT
    refine wpAnyH_ready (rs := [51]) (by kernel_rfl) (by simp) ?_
    refine AllReadyH.cons (o := ?oz162) ?iz162 (fun K hK => ?kz162) AllReadyH.nil
    case iz162 => (simp only [List.getElem?_toArray, List.getElem?_cons_zero, List.getElem?_cons_succ]; rfl)
    go_simp
    refine (hbeginAt_any (HC1.out.later Bc.out) (HR1.out.below Bc.out) HG.out HJ.out).mono ?_
    rintro e w' ⟨rfl, hb⟩
    refine held_more hK HS0.out hlt (Bc.out.trans (hb.mono Bc.out.size)) (fun Bc hSn => ?_)
    clear hb hK
    refine tks [61, 62, 63] 3 rfl (by kernel_rfl) (fun _ _ _ _ h => h) (by assumption) (fun KT hKT => ?_)
    iterate 3 (refine tkT (by (simp only [gA, gB, gC]; rfl)) (by rfl) (by (intro w hSw; (simp only [Holds] at hSw); go_simp <;> with_reducible rfl)) ?_; simp only [Act.put, pA, pB, pC])
    refine hKT _ ?_
    clear KT hKT
    refine wpAnyH_done (by kernel_rfl) ?_ _
    go_wp2
    go_ret
    exact ⟨ret_bool HD.out.symm, HB1.out.trans (Bc.out.mono HB1.out.size)⟩
  have HD := Lib.hid (show decide (CanTake I s k) = false by rw [HE1.out, d2, decide_eq_false h3]; rfl)
  have d3 := decide_eq_false h3
  clear h2 h3
  refine tks [7, 8] 2 rfl (by kernel_rfl) (fun _ _ _ _ h => h) (by assumption) (fun KT hKT => ?_)
  iterate 2 (refine tkT (by (simp only [gA, gB, gC]; rfl)) (by rfl) (by (intro w hSw; (simp only [Holds] at hSw); go_simp <;> with_reducible rfl)) ?_; simp only [Act.put, pA, pB, pC])
  refine hKT _ ?_
  clear KT hKT
  refine tks [9, 10, 11, 12, 13, 14, 15, 16, 17, 18, 19, 20, 21, 22, 23, 24, 25, 26, 27, 28, 29] 21 rfl (by kernel_rfl) (fun _ _ _ _ h => h) (by assumption) (fun KT hKT => ?_)
  iterate 21 (refine tkT (by (simp only [gA, gB, gC]; rfl)) (by rfl) (by (intro w hSw; (simp only [Holds] at hSw); go_simp <;> with_reducible rfl)) ?_; simp only [Act.put, pA, pB, pC])
  refine hKT _ ?_
  clear KT hKT
  refine tks [30, 31] 2 rfl (by kernel_rfl) (fun _ _ _ _ h => h) (by assumption) (fun KT hKT => ?_)
  iterate 2 (refine tkT (by (simp only [gA, gB, gC]; rfl)) (by rfl) (by (intro w hSw; (simp only [Holds] at hSw); go_simp <;> with_reducible rfl)) ?_; simp only [Act.put, pA, pB, pC])
  refine hKT _ ?_
  clear KT hKT
  refine tks [32, 33, 34, 35, 36, 37, 38] 7 rfl (by kernel_rfl) (fun _ _ _ _ h => h) (by assumption) (fun KT hKT => ?_)
  iterate 7 (refine tkT (by (simp only [gA, gB, gC]; rfl)) (by rfl) (by (intro w hSw; (simp only [Holds] at hSw); go_simp <;> with_reducible rfl)) ?_; simp only [Act.put, pA, pB, pC])
  refine hKT _ ?_
  clear KT hKT
  refine tks [39, 40, 41, 42, 43, 44, 45] 7 rfl (by kernel_rfl) (fun _ _ _ _ h => h) (by assumption) (fun KT hKT => ?_)
  iterate 7 (refine tkT (by (simp only [gA, gB, gC]; rfl)) (by rfl) (by (intro w hSw; (simp only [Holds] at hSw); go_simp <;> with_reducible rfl)) ?_; simp only [Act.put, pA, pB, pC])
  refine hKT _ ?_
  clear KT hKT
  refine tks [46] 1 rfl (by kernel_rfl) (fun _ _ _ _ h => h) (by assumption) (fun KT hKT => ?_)
  refine tkT (by (simp only [gA, gB, gC]; rfl)) (by rfl) (by (intro w hSw; (simp only [Holds] at hSw); go_simp <;> with_reducible rfl)) ?_
  simp only [Act.put, pA, pB, pC]
  refine hKT _ ?_
  clear KT hKT
  refine tks [47, 48] 2 rfl (by kernel_rfl) (fun _ _ _ _ h => h) (by assumption) (fun KT hKT => ?_)
  iterate 2 (refine tkT (by (simp only [gA, gB, gC]; rfl)) (by rfl) (by (intro w hSw; (simp only [Holds] at hSw); go_simp <;> with_reducible rfl)) ?_; simp only [Act.put, pA, pB, pC])
  refine hKT _ ?_
  clear KT hKT
  refine tks [49, 50, 51, 52, 53, 54, 55, 56, 57, 58, 59, 60, 61] 13 rfl (by kernel_rfl) (fun _ _ _ _ h => h) (by assumption) (fun KT hKT => ?_)
  iterate 13 (refine tkS (by (simp only [gA, gB, gC]; rfl)) (by rfl) ?_; simp only [Act.put, pA, pB, pC])
  refine hKT _ ?_
  clear KT hKT
  refine tks [62, 63] 2 rfl (by kernel_rfl) (fun _ _ _ _ h => h) (by assumption) (fun KT hKT => ?_)
  iterate 2 (refine tkT (by (simp only [gA, gB, gC]; rfl)) (by rfl) (by (intro w hSw; (simp only [Holds] at hSw); go_simp <;> with_reducible rfl)) ?_; simp only [Act.put, pA, pB, pC])
  refine hKT _ ?_
  clear KT hKT
  refine wpAnyH_done (by kernel_rfl) ?_ _
  go_wp2
  go_ret
  exact ⟨ret_bool HD.out.symm, HB1.out.trans (Bc.out.mono HB1.out.size)⟩
set_option maxRecDepth 1000000 in
set_option maxHeartbeats 4000000 in
theorem canBring_any {w : World} {b : Nat} {I : Ins} {sv : Value} {s : Sta} {j : Int} (hc : HereB w b I sv s) (hr : SRow w sv I.l) (hg : GoOn I s) (hs : SetsOk s) (hj : I.p < j ∧ j ≤ 2 * I.p) :
    Calls Tryz.prog 130 #[.pointer (some ⟨b, 0, none⟩), .int .i64 j] w fun e w' => e = .returned (.bool (decide (CanBring I s j))) ∧ Below w.heap.size w w' := by
  have HC := Lib.hid hc
  have HR := Lib.hid hr
  have HG := Lib.hid hg
  have HS := Lib.hid hs
  have hf := fine_of hg.1
  have hp0 := hf.p0
  have hp1 := hf.p1
  have hj2 : 0 ≤ j ∧ j ≤ 2 * I.p := by omega
  have HJ := Lib.hid hj2
  have e1 : IntKind.i64.wrap (j - I.p) = j - I.p := IntWalk.i64_in _ (by omega)
  have HE0 := bring_eq I s j hj
  obtain ⟨k, rfl, hk, ek⟩ := num_stop hg.1 hj2
  rw [ek] at HE0
  have HE := Lib.hid HE0
  obtain ⟨ad, cap, rfl, _⟩ := hr.form
  obtain ⟨tb, off, rfl, hkt, hlt0⟩ := srow_at hr k hk
  have HKT := Lib.hid hkt
  clear hkt
  have hki : (k : Int) < (I.l.length : Int) := by omega
  clear hc hr hg hs hj hj2 hf ek HE0
  go_enter Tryz.func130, Tryz.ntmps130
  go_wp2_with fail
  have HB1 := Lib.hid ((Below.refl w.heap.size w).drew)
  have HC1 := Lib.hid (HC.out.later HB1.out)
  have HR1 := Lib.hid (HR.out.below HB1.out)
  have HS0 := Lib.hid (show Holds (cellsH b I (.slice (some ⟨tb, off, none⟩) I.l.length cap) s ++ cellsF tb (off + k * 6) (nth I.l k)) w.drew from Holds.app.2 ⟨HC1.out.holds, holds_at (HKT.out.below hlt0 HB1.out)⟩)
  have hlt := Lib.hid (show Lows w.drew.heap.size (cellsH b I (.slice (some ⟨tb, off, none⟩) I.l.length cap) s ++ cellsF tb (off + k * 6) (nth I.l k)) from Lows.app (lows_H HC1.out.lt) (lows_at hlt0))
  refine wp_region_held_drew (S := Holds (cellsH b I (.slice (some ⟨tb, off, none⟩) I.l.length cap) s ++ cellsF tb (off + k * 6) (nth I.l k))) (by kernel_rfl) HS0.out (fun hSn => ?_)
  have Bc := Lib.hid (Below.refl w.drew.heap.size w.drew)
  simp only [cellsH, cellsF, List.cons_append, List.nil_append] at *
  generalize nth I.l k = t at *
  by_cases h0 : s.pos = 0
  case' pos =>
    have HD := Lib.hid (show decide (CanBring I s k) = false by rw [HE.out, decide_eq_true h0]; rfl)
    have b0 : (s.pos == 0) = true := by simp [h0]
    have b1 : (s.pos != 0) = false := by simp [h0]
    clear h0
    refine tks [0, 1, 2, 3, 4, 5, 6] 7 rfl (by kernel_rfl) (fun _ _ _ _ h => h) (by assumption) (fun KT hKT => ?_)
    iterate 7 (refine tkT (by (simp only [gA, gB, gC]; rfl)) (by rfl) (by (intro w hSw; (simp only [Holds] at hSw); go_simp <;> with_reducible rfl)) ?_; simp only [Act.put, pA, pB, pC])
    refine hKT _ ?_
    clear KT hKT
    refine tks [7, 8, 9, 10, 11, 12, 13, 14] 8 rfl (by kernel_rfl) (fun _ _ _ _ h => h) (by assumption) (fun KT hKT => ?_)
    iterate 8 (refine tkS (by (simp only [gA, gB, gC]; rfl)) (by rfl) ?_; simp only [Act.put, pA, pB, pC])
    refine hKT _ ?_
    clear KT hKT
    refine tks [15, 16] 2 rfl (by kernel_rfl) (fun _ _ _ _ h => h) (by assumption) (fun KT hKT => ?_)
    iterate 2 (refine tkT (by (simp only [gA, gB, gC]; rfl)) (by rfl) (by (intro w hSw; (simp only [Holds] at hSw); go_simp <;> with_reducible rfl)) ?_; simp only [Act.put, pA, pB, pC])
    refine hKT _ ?_
    clear KT hKT
    refine tks [17, 18, 19, 20, 21, 22, 23, 24, 25, 26, 27, 28, 29] 13 rfl (by kernel_rfl) (fun _ _ _ _ h => h) (by assumption) (fun KT hKT => ?_)
    iterate 13 (refine tkS (by (simp only [gA, gB, gC]; rfl)) (by rfl) ?_; simp only [Act.put, pA, pB, pC])
    refine hKT _ ?_
    clear KT hKT
    refine tks [30, 31] 2 rfl (by kernel_rfl) (fun _ _ _ _ h => h) (by assumption) (fun KT hKT => ?_)
    iterate 2 (refine tkT (by (simp only [gA, gB, gC]; rfl)) (by rfl) (by (intro w hSw; (simp only [Holds] at hSw); go_simp <;> with_reducible rfl)) ?_; simp only [Act.put, pA, pB, pC])
    refine hKT _ ?_
    clear KT hKT
    refine tks [32, 33, 34, 35, 36, 37, 38, 39, 40, 41, 42, 43, 44] 13 rfl (by kernel_rfl) (fun _ _ _ _ h => h) (by assumption) (fun KT hKT => ?_)
    iterate 13 (refine tkS (by (simp only [gA, gB, gC]; rfl)) (by rfl) ?_; simp only [Act.put, pA, pB, pC])
    refine hKT _ ?_
    clear KT hKT
    refine tks [45, 46] 2 rfl (by kernel_rfl) (fun _ _ _ _ h => h) (by assumption) (fun KT hKT => ?_)
    iterate 2 (refine tkT (by (simp only [gA, gB, gC]; rfl)) (by rfl) (by (intro w hSw; (simp only [Holds] at hSw); go_simp <;> with_reducible rfl)) ?_; simp only [Act.put, pA, pB, pC])
    refine hKT _ ?_
    clear KT hKT
    refine wpAnyH_done (by kernel_rfl) ?_ _
    go_wp2
    go_ret
    exact ⟨ret_bool HD.out.symm, HB1.out.trans (Bc.out.mono HB1.out.size)⟩
  have HE1 := Lib.hid (show decide (CanBring I s k) = (!has s.must k && (has s.may (k - I.p) && decide (begS I s k ≤ t.u))) by rw [HE.out, decide_eq_false h0]; rfl)
  have b0 : (s.pos == 0) = false := by simp [h0]
  have b1 : (s.pos != 0) = true := by simp [h0]
  clear h0
  refine tks [0, 1, 2, 3, 4, 5, 6] 7 rfl (by kernel_rfl) (fun _ _ _ _ h => h) (by assumption) (fun KT hKT => ?_)
  iterate 7 (refine tkT (by (simp only [gA, gB, gC]; rfl)) (by rfl) (by (intro w hSw; (simp only [Holds] at hSw); go_simp <;> with_reducible rfl)) ?_; simp only [Act.put, pA, pB, pC])
  refine hKT _ ?_
  clear KT hKT
  refine tks [7, 8, 9, 10, 11, 12] 6 rfl (by kernel_rfl) (fun _ _ _ _ h => h) (by assumption) (fun KT hKT => ?_)
  iterate 6 (refine tkT (by (simp only [gA, gB, gC]; rfl)) (by rfl) (by (intro w hSw; (simp only [Holds] at hSw); go_simp <;> with_reducible rfl)) ?_; simp only [Act.put, pA, pB, pC])
  refine hKT _ ?_
  clear KT hKT
  refine wpAnyH_ready (rs := [13]) (by kernel_rfl) (by simp) ?_
  refine AllReadyH.cons (o := ?oz163) ?iz163 (fun K hK => ?kz163) AllReadyH.nil
  case iz163 => (simp only [List.getElem?_toArray, List.getElem?_cons_zero, List.getElem?_cons_succ]; rfl)
  go_simp
  refine (ehas_any _ _ _ HS.out.1).mono ?_
  rintro e w' ⟨rfl, rfl⟩
  refine held_more hK HS0.out hlt Bc.out (fun Bc hSn => ?_)
  clear hK
  cases hb : has s.must k
  case' true =>
    have HD := Lib.hid (show decide (CanBring I s k) = false by rw [HE1.out, hb]; rfl)
    refine tks [14] 1 rfl (by kernel_rfl) (fun _ _ _ _ h => h) (by assumption) (fun KT hKT => ?_)
    refine tkT (by (simp only [gA, gB, gC]; rfl)) (by rfl) (by (intro w hSw; (simp only [Holds] at hSw); go_simp <;> with_reducible rfl)) ?_
    simp only [Act.put, pA, pB, pC]
    refine hKT _ ?_
    clear KT hKT
    refine tks [15, 16] 2 rfl (by kernel_rfl) (fun _ _ _ _ h => h) (by assumption) (fun KT hKT => ?_)
    iterate 2 (refine tkT (by (simp only [gA, gB, gC]; rfl)) (by rfl) (by (intro w hSw; (simp only [Holds] at hSw); go_simp <;> with_reducible rfl)) ?_; simp only [Act.put, pA, pB, pC])
    refine hKT _ ?_
    clear KT hKT
    refine tks [17, 18, 19, 20, 21, 22, 23, 24, 25, 26, 27, 28, 29] 13 rfl (by kernel_rfl) (fun _ _ _ _ h => h) (by assumption) (fun KT hKT => ?_)
    iterate 13 (refine tkS (by (simp only [gA, gB, gC]; rfl)) (by rfl) ?_; simp only [Act.put, pA, pB, pC])
    refine hKT _ ?_
    clear KT hKT
    refine tks [30, 31] 2 rfl (by kernel_rfl) (fun _ _ _ _ h => h) (by assumption) (fun KT hKT => ?_)
    iterate 2 (refine tkT (by (simp only [gA, gB, gC]; rfl)) (by rfl) (by (intro w hSw; (simp only [Holds] at hSw); go_simp <;> with_reducible rfl)) ?_; simp only [Act.put, pA, pB, pC])
    refine hKT _ ?_
    clear KT hKT
    refine tks [32, 33, 34, 35, 36, 37, 38, 39, 40, 41, 42, 43, 44] 13 rfl (by kernel_rfl) (fun _ _ _ _ h => h) (by assumption) (fun KT hKT => ?_)
    iterate 13 (refine tkS (by (simp only [gA, gB, gC]; rfl)) (by rfl) ?_; simp only [Act.put, pA, pB, pC])
    refine hKT _ ?_
    clear KT hKT
    refine tks [45, 46] 2 rfl (by kernel_rfl) (fun _ _ _ _ h => h) (by assumption) (fun KT hKT => ?_)
    iterate 2 (refine tkT (by (simp only [gA, gB, gC]; rfl)) (by rfl) (by (intro w hSw; (simp only [Holds] at hSw); go_simp <;> with_reducible rfl)) ?_; simp only [Act.put, pA, pB, pC])
    refine hKT _ ?_
    clear KT hKT
    refine wpAnyH_done (by kernel_rfl) ?_ _
    go_wp2
    go_ret
    exact ⟨ret_bool HD.out.symm, HB1.out.trans (Bc.out.mono HB1.out.size)⟩
  refine tks [14] 1 rfl (by kernel_rfl) (fun _ _ _ _ h => h) (by assumption) (fun KT hKT => ?_)
  refine tkT (by (simp only [gA, gB, gC]; rfl)) (by rfl) (by (intro w hSw; (simp only [Holds] at hSw); go_simp <;> with_reducible rfl)) ?_
  simp only [Act.put, pA, pB, pC]
  refine hKT _ ?_
  clear KT hKT
  refine tks [15, 16] 2 rfl (by kernel_rfl) (fun _ _ _ _ h => h) (by assumption) (fun KT hKT => ?_)
  iterate 2 (refine tkT (by (simp only [gA, gB, gC]; rfl)) (by rfl) (by (intro w hSw; (simp only [Holds] at hSw); go_simp <;> with_reducible rfl)) ?_; simp only [Act.put, pA, pB, pC])
  refine hKT _ ?_
  clear KT hKT
  refine tks [17, 18, 19, 20, 21, 22, 23, 24, 25, 26, 27, 28] 12 rfl (by kernel_rfl) (fun _ _ _ _ h => h) (by assumption) (fun KT hKT => ?_)
  iterate 12 (refine tkT (by (simp only [gA, gB, gC]; rfl)) (by rfl) (by (intro w hSw; (simp only [Holds] at hSw); go_simp <;> with_reducible rfl)) ?_; simp only [Act.put, pA, pB, pC])
  refine hKT _ ?_
  clear KT hKT
  refine wpAnyH_ready (rs := [29]) (by kernel_rfl) (by simp) ?_
  refine AllReadyH.cons (o := ?oz164) ?iz164 (fun K hK => ?kz164) AllReadyH.nil
  case iz164 => (simp only [List.getElem?_toArray, List.getElem?_cons_zero, List.getElem?_cons_succ]; rfl)
  go_simp
  refine (ehas_any _ _ _ HS.out.2.1).mono ?_
  rintro e w' ⟨rfl, rfl⟩
  refine held_more hK HS0.out hlt Bc.out (fun Bc hSn => ?_)
  clear hK
  cases hb2 : has s.may (k - I.p)
  case' false =>
    have HD := Lib.hid (show decide (CanBring I s k) = false by rw [HE1.out, hb, hb2]; rfl)
    refine tks [30, 31] 2 rfl (by kernel_rfl) (fun _ _ _ _ h => h) (by assumption) (fun KT hKT => ?_)
    iterate 2 (refine tkT (by (simp only [gA, gB, gC]; rfl)) (by rfl) (by (intro w hSw; (simp only [Holds] at hSw); go_simp <;> with_reducible rfl)) ?_; simp only [Act.put, pA, pB, pC])
    refine hKT _ ?_
    clear KT hKT
    refine tks [32, 33, 34, 35, 36, 37, 38, 39, 40, 41, 42, 43, 44] 13 rfl (by kernel_rfl) (fun _ _ _ _ h => h) (by assumption) (fun KT hKT => ?_)
    iterate 13 (refine tkS (by (simp only [gA, gB, gC]; rfl)) (by rfl) ?_; simp only [Act.put, pA, pB, pC])
    refine hKT _ ?_
    clear KT hKT
    refine tks [45, 46] 2 rfl (by kernel_rfl) (fun _ _ _ _ h => h) (by assumption) (fun KT hKT => ?_)
    iterate 2 (refine tkT (by (simp only [gA, gB, gC]; rfl)) (by rfl) (by (intro w hSw; (simp only [Holds] at hSw); go_simp <;> with_reducible rfl)) ?_; simp only [Act.put, pA, pB, pC])
    refine hKT _ ?_
    clear KT hKT
    refine wpAnyH_done (by kernel_rfl) ?_ _
    go_wp2
    go_ret
    exact ⟨ret_bool HD.out.symm, HB1.out.trans (Bc.out.mono HB1.out.size)⟩
  have HD := Lib.hid (show decide (CanBring I s k) = decide (begS I s k ≤ t.u) by rw [HE1.out, hb, hb2]; rfl)
  refine tks [30, 31] 2 rfl (by kernel_rfl) (fun _ _ _ _ h => h) (by assumption) (fun KT hKT => ?_)
  iterate 2 (refine tkT (by (simp only [gA, gB, gC]; rfl)) (by rfl) (by (intro w hSw; (simp only [Holds] at hSw); go_simp <;> with_reducible rfl)) ?_; simp only [Act.put, pA, pB, pC])
  refine hKT _ ?_
  clear KT hKT
  refine tks [32, 33, 35, 36, 37, 38, 39, 40, 41, 42, 43] 11 rfl (by kernel_rfl) (fun _ _ _ _ h => h) (by assumption) (fun KT hKT => ?_)
  iterate 11 (refine tkT (by (simp only [gA, gB, gC]; rfl)) (by rfl) (by (intro w hSw; (simp only [Holds] at hSw); go_simp <;> with_reducible rfl)) ?_; simp only [Act.put, pA, pB, pC])
  refine hKT _ ?_
  clear KT hKT
  refine wpAnyH_ready (rs := [34]) (by kernel_rfl) (by simp) ?_
  refine AllReadyH.cons (o := ?oz165) ?iz165 (fun K hK => ?kz165) AllReadyH.nil
  case iz165 => (simp only [List.getElem?_toArray, List.getElem?_cons_zero, List.getElem?_cons_succ]; rfl)
  go_simp
  refine (hbeginAt_any (HC1.out.later Bc.out) (HR1.out.below Bc.out) HG.out HJ.out).mono ?_
  rintro e w' ⟨rfl, hb⟩
  refine held_more hK HS0.out hlt (Bc.out.trans (hb.mono Bc.out.size)) (fun Bc hSn => ?_)
  clear hb hK
  refine tks [44, 45, 46] 3 rfl (by kernel_rfl) (fun _ _ _ _ h => h) (by assumption) (fun KT hKT => ?_)
  iterate 3 (refine tkT (by (simp only [gA, gB, gC]; rfl)) (by rfl) (by (intro w hSw; (simp only [Holds] at hSw); go_simp <;> with_reducible rfl)) ?_; simp only [Act.put, pA, pB, pC])
  refine hKT _ ?_
  clear KT hKT
  refine wpAnyH_done (by kernel_rfl) ?_ _
  go_wp2
  go_ret
  exact ⟨ret_bool HD.out.symm, HB1.out.trans (Bc.out.mono HB1.out.size)⟩
end Go.Proofs.YtgplajofemencaaGreat
