/- What a reader does with a digit, at a number's end, and at a line's end. -/
import Derived.Test.YtolaiccgbngomaaRead
namespace Go.Proofs.Ytolaiccgbngomaa
open Go.ChangeShapes Go.WideShapes Go.ChangeAt Go.RowKit

theorem infoInt : (Try.prog.info? 3).map (fun i => (i.zero, i.size, i.bytes)) = some (some (.int .i64 0), 1, 8) := by kernel_rfl
theorem infoInts : (Try.prog.info? 25).map (fun i => (i.zero, i.size, i.bytes)) = some (some (.slice none 0 0), 1, 24) := by kernel_rfl
theorem infoByte : (Try.prog.info? 5).map (fun i => (i.zero, i.size, i.bytes)) = some (some (.int .u8 0), 1, 1) := by kernel_rfl

theorem own_diff {w : World} {B C : Nat} {e e' : TypeId} {s s' : Nat} {v u : Value} {n m : Nat} {xs ys : List Value} (h : w.ownsRow B e s v n xs) (k : w.ownsRow C e' s' u m ys) (he : e ≠ e') : v.ownBlock = none ∨ v.ownBlock ≠ u.ownBlock := by
  rcases k.2 with ⟨rfl, _⟩ | ⟨g, cap, cur, rfl, _, hg, _⟩
  · cases v.ownBlock <;> simp [Value.ownBlock]
  · exact .inr (own_ne h hg he)
theorem OwnIn.lt {w : World} {B : Nat} : ∀ {vs : List Value} {L : List (List Int)}, OwnIn w B vs L → ∀ u ∈ vs, ∀ g, u.ownBlock = some g → B ≤ g ∧ g < w.heap.size
  | [], [], _, u, hu, _, _ => by simp at hu
  | v :: _, _ :: _, h, u, hu, g, hg => by
    simp only [List.mem_cons] at hu
    rcases hu with rfl | hu
    · exact h.1.lt g hg
    · exact OwnIn.lt h.2 u hu g hg
  | [], _ :: _, h, _, _, _, _ => h.elim
  | _ :: _, [], h, _, _, _, _ => h.elim
theorem grown_alloc {w w1 : World} {O : Obj} {row : Option Nat} (h : (w.alloc O).grownBy w1 row) : w.grownBy w1 row := (World.grownBy_alloc w O row).trans h
theorem grown_drew {w w1 : World} {row : Option Nat} (h : w.drew.grownBy w1 row) : w.grownBy w1 row := ⟨h.os, h.tape, h.output, h.size, h.block⟩
theorem grown_below {B : Nat} {w w1 : World} {row : Option Nat} (h : w.grownBy w1 row) (hB : B ≤ w.heap.size) (hr : ∀ k, row = some k → B ≤ k) : Below B w w1 :=
  ⟨h.os, h.tape, h.output, h.size, fun k hk => h.block k (by omega) (fun e => by have := hr k e.symm; omega)⟩
theorem own_shape {w : World} {B : Nat} {e : TypeId} {s : Nat} {v : Value} {n : Nat} {xs : List Value} (h : w.ownsRow B e s v n xs) : ∃ a cap, v = .slice a n cap := by
  rcases h.2 with ⟨rfl, rfl⟩ | ⟨g, cap, cur, rfl, _⟩
  · exact ⟨_, _, rfl⟩
  · exact ⟨_, _, rfl⟩
theorem RAt.drew {w : World} {B b : Nat} {tv : Value} {p : Nat} {L : List (List Int)} {l : List Int} {sz dg : Nat} {neg : Bool} {lv v : Value} {vs : List Value} (h : RAt w B b tv p L l sz dg neg lv v vs) : RAt w.drew B b tv p L l sz dg neg lv v vs := h.drewN 1
theorem ints_snoc (l : List Int) (x : Int) : ints (l ++ [x]) = ints l ++ [.int .i64 x] := by simp [ints]
theorem byts_snoc (l : List Int) (x : Int) : byts (l ++ [x]) = byts l ++ [.int .u8 x] := by simp [byts]

section
variable {w : World} {B b : Nat} {tv : Value} {p : Nat} {L : List (List Int)} {l : List Int} {sz dg : Nat} {neg : Bool} {lv v : Value} {vs : List Value} {bs : List Int}
/-- What the struct's block is behind something that grew elsewhere. -/
theorem RAt.blk_grown {w1 : World} {row : Option Nat} (h : RAt w B b tv p L l sz dg neg lv v vs) (hg : w.grownBy w1 row) (hr : row ≠ some b) :
    w1.heap[b]? = some (.cells #[tv, .int .i64 p, lv, v, .int .i64 sz, .int .i64 dg, .bool neg] 80 (0, 0)) := by
  rw [hg.block b h.lt (Ne.symm hr)]; exact h.blk
/-- The line has grown by one number. -/
theorem RAt.more {w1 : World} {v' : Value} {x : Int} (h : RAt w B b tv p L l sz dg neg lv v vs) (hB : B ≤ w.heap.size) (hown : w1.ownsRow B 3 1 v' (l.length + 1) (ints l ++ [.int .i64 x])) (hg : w.grownBy w1 v.ownBlock)
    (hat : v'.ownBlock = v.ownBlock ∨ ∃ k, v'.ownBlock = some k ∧ w.heap.size ≤ k) :
    RAt (w1.setCell ⟨b, 3, none⟩ v') B b tv p L (l ++ [x]) sz dg neg lv v' vs ∧ Below B w (w1.setCell ⟨b, 3, none⟩ v') := by
  have hvb := own_ne h.own h.blk (by decide)
  have hb1 := h.blk_grown hg hvb
  have k1 : RAt w1 B b tv p L l sz dg neg lv (.slice none 0 0) vs → True := fun _ => trivial
  have a1 : w1.ownsRow B 25 1 lv vs.length vs := h.all.kept hg (own_diff h.all h.own (by decide))
  have e1 : OwnIn w1 B vs L := h.each.kept hg (fun u hu => by
    cases hu' : u.ownBlock with
    | none => exact .inl rfl
    | some g => exact .inr (Ne.symm (h.apart u hu g hu')))
  have hg2 : w1.grownBy (w1.setCell ⟨b, 3, none⟩ v') (some b) := ⟨rfl, rfl, rfl, by simp [World.setCell], fun k _ hk => heap_setCell_other w1 ⟨b, 3, none⟩ k _ (fun e => hk (by rw [e]))⟩
  refine ⟨⟨h.base, ?_, a1.kept hg2 (.inr (own_ne a1 hb1 (by decide))), e1.kept hg2 (fun u hu => .inr (e1.ne hb1 (by decide) u hu)), ?_, ?_⟩, ?_⟩
  · rw [heap_setCell_same w1 b 3 _ _ _ hb1]; rfl
  · have := hown.kept hg2 (.inr (own_ne hown hb1 (by decide)))
    rw [ints_snoc, show (l ++ [x]).length = l.length + 1 by simp]
    exact this
  · intro u hu g hgu
    have hlt := h.each.lt u hu g hgu
    rcases hat with hat | ⟨k, hat, hk⟩
    · rw [hat]; exact h.apart u hu g hgu
    · rw [hat]; simp; omega
  · exact (grown_below hg hB (fun k hk => (h.own.lt k hk).1)).trans (grown_below hg2 (by have := hg.size; omega) (fun k hk => by have := h.base; simp at hk; omega))
/-- The lines have grown by the line. -/
theorem RAt.put {w1 : World} {lv' : Value} (h : RAt w B b tv p L l sz dg neg lv v vs) (hB : B ≤ w.heap.size) (hown : w1.ownsRow B 25 1 lv' (vs.length + 1) (vs ++ [v])) (hg : w.grownBy w1 lv.ownBlock) :
    ∀ w2, w2 = (w1.setCell ⟨b, 2, none⟩ lv').setCell ⟨b, 3, none⟩ (.slice none 0 0) → RAt w2 B b tv p (L ++ [l]) [] sz dg neg lv' (.slice none 0 0) (vs ++ [v]) ∧ Below B w w2 := by
  rintro w2 rfl
  have hlb := own_ne h.all h.blk (by decide)
  have hb1 := h.blk_grown hg hlb
  have o1 : w1.ownsRow B 3 1 v l.length (ints l) := h.own.kept hg (own_diff h.own h.all (by decide))
  have e1 : OwnIn w1 B vs L := h.each.kept hg (fun u hu => by
    rcases h.all.2 with ⟨rfl, _⟩ | ⟨g, cap, cur, rfl, _, hgg, _⟩
    · cases u.ownBlock <;> simp [Value.ownBlock]
    · exact .inr (h.each.ne hgg (by decide) u hu))
  have e2 : OwnIn w1 B (vs ++ [v]) (L ++ [l]) := e1.append ⟨o1, trivial⟩
  have hg2 : w1.grownBy (w1.setCell ⟨b, 2, none⟩ lv') (some b) := ⟨rfl, rfl, rfl, by simp [World.setCell], fun k _ hk => heap_setCell_other w1 ⟨b, 2, none⟩ k _ (fun e => hk (by rw [e]))⟩
  have hb2 : (w1.setCell ⟨b, 2, none⟩ lv').heap[b]? = some (.cells #[tv, .int .i64 p, lv', v, .int .i64 sz, .int .i64 dg, .bool neg] 80 (0, 0)) := by rw [heap_setCell_same w1 b 2 _ _ _ hb1]; rfl
  have R2 : RAt (w1.setCell ⟨b, 2, none⟩ lv') B b tv p (L ++ [l]) [] sz dg neg lv' v (vs ++ [v]) → True := fun _ => trivial
  have hg3 : (w1.setCell ⟨b, 2, none⟩ lv').grownBy ((w1.setCell ⟨b, 2, none⟩ lv').setCell ⟨b, 3, none⟩ (.slice none 0 0)) (some b) := ⟨rfl, rfl, rfl, by simp [World.setCell], fun k _ hk => heap_setCell_other _ ⟨b, 3, none⟩ k _ (fun e => hk (by rw [e]))⟩
  have hgg := hg2.trans hg3
  refine ⟨⟨h.base, ?_, ?_, e2.kept hgg (fun u hu => .inr (e2.ne hb1 (by decide) u hu)), World.ownsRow_nil _ _ _ _, fun _ _ _ _ => by simp [Value.ownBlock]⟩, ?_⟩
  · rw [heap_setCell_same _ b 3 _ _ _ hb2]; rfl
  · have := hown.kept hgg (.inr (own_ne hown hb1 (by decide)))
    rw [show (vs ++ [v]).length = vs.length + 1 by simp]
    exact this
  · exact (grown_below hg hB (fun k hk => (h.all.lt k hk).1)).trans (grown_below hgg (by have := hg.size; omega) (fun k hk => by have := h.base; simp at hk; omega))

set_option maxRecDepth 100000 in
theorem take_full (h : RD w B b tv p L l sz 12 neg) : Calls Try.prog 49 #[.pointer (some ⟨b, 0, none⟩)] w fun e w' => e = .returned (.bool false) ∧ RD w' B b tv p L l sz 12 neg ∧ Below B w w' := by
  obtain ⟨lv, v, vs, h⟩ := h
  have H := Lib.hid h
  have c5 := h.cell 5
  simp only [List.getElem?_cons_zero, List.getElem?_cons_succ] at c5
  clear h
  go_enter Try.func49, Try.ntmps49
  go_wp2
  go_ret
  exact ⟨rfl, ⟨_, _, _, H.out⟩, Below.refl _ _⟩

set_option maxRecDepth 1000000 in
set_option maxHeartbeats 1000000 in
theorem take_more (h : RD w B b tv (p + 1) L l sz dg neg) (ht : Row w tv (byts bs)) (hp : p < bs.length) (hB : ∀ w', Below B w w' → Row w' tv (byts bs)) (hd : dg < 12) (hsz : sz ≤ 1000000000000) (c : Int) (hcc : bs.getD p 0 = c) (hc1 : 48 ≤ c) (hc2 : c ≤ 57) :
    Calls Try.prog 49 #[.pointer (some ⟨b, 0, none⟩)] w fun e w' => e = .returned (.bool true) ∧ RD w' B b tv (p + 1) L l (10 * sz + dv c) (dg + 1) neg ∧ Below B w w' := by
  obtain ⟨lv, v, vs, h⟩ := h
  obtain ⟨tb, off, cap, rfl, _, hm, _⟩ := row_at (p := p) ht (by rw [byts_len]; exact hp)
  rw [byts_len] at hm h hB ⊢
  have hbd : bs.length ≤ 9223372036854775807 := by unfold maxLen at hm; omega
  have H := Lib.hid h
  have HB := Lib.hid hB
  have c5 := h.cell 5
  have f5 := h.free 5
  have hd1 : ((dg : Int) == 12) = false := by simp; omega
  simp only [List.getElem?_cons_zero, List.getElem?_cons_succ] at c5
  clear h hB ht hm
  go_enter Try.func49, Try.ntmps49
  go_wp2
  obtain ⟨hs, hb⟩ := H.out.setDg (dg + 1)
  obtain ⟨tb', off', cap', he, hc, _, _⟩ := row_at (p := p) (HB.out _ hb) (by rw [byts_len]; exact hp)
  obtain ⟨⟨rfl, rfl⟩, rfl⟩ : (tb = tb' ∧ off = off') ∧ cap = cap' := by simpa [byts_len] using he
  rw [byts_at _ _ hp, hcc] at hc
  have HS := Lib.hid hs
  have HS2 := Lib.hid hb
  rw [show (((dg + 1 : Nat)) : Int) = (dg : Int) + 1 from rfl] at hc HS HS2
  have s0 := HS.out.cell 0
  have s1 := HS.out.cell 1
  have s4 := HS.out.cell 4
  have f4 := HS.out.free 4
  simp only [List.getElem?_cons_zero, List.getElem?_cons_succ, Int.natCast_add, Int.cast_ofNat_Int] at s0 s1 s4
  have e2 : IntKind.i64.wrap (p : Int) = (p : Int) := IntWalk.i64_in _ (by omega)
  have e3 : IntKind.i64.wrap (10 * (sz : Int)) = 10 * (sz : Int) := IntWalk.i64_in _ (by omega)
  have e4 : IntKind.u8.wrap (c - 48) = c - 48 := by rw [IntKind.wrap_u8]; omega
  have e5 : IntKind.i64.wrap (c - 48) = c - 48 := IntWalk.i64_in _ (by omega)
  have e6 : IntKind.i64.wrap (10 * (sz : Int) + (c - 48)) = 10 * (sz : Int) + (c - 48) := IntWalk.i64_in _ (by omega)
  have HV := Lib.hid (show ((10 * sz + dv c : Nat) : Int) = 10 * (sz : Int) + (c - 48) by unfold dv; omega)
  clear he hs hb c5 f5 hcc
  generalize w.setCell ⟨b, 5, none⟩ (.int .i64 ((dg : Int) + 1)) = w1 at *
  go_region
  obtain ⟨hs, hb⟩ := HS.out.setSz (10 * sz + dv c)
  rw [HV.out] at hs hb
  have HD := Lib.hid (show RD (w1.setCell ⟨b, 4, none⟩ (.int .i64 (10 * (sz : Int) + (c - 48)))).drew B b (.slice (some ⟨tb, off, none⟩) bs.length cap) (p + 1) L l (10 * sz + dv c) (dg + 1) neg from ⟨_, _, _, hs.drew⟩)
  have HD2 := Lib.hid ((HS2.out.trans hb).drew)
  clear hs hb
  go_wp2
  go_ret
  exact ⟨rfl, HD.out, HD2.out⟩

/-- The number is set back. -/
theorem RAt.zero (h : RAt w B b tv p L l sz dg neg lv v vs) (W : World) (hW : W = ((w.setCell ⟨b, 4, none⟩ (.int .i64 0)).setCell ⟨b, 5, none⟩ (.int .i64 0)).setCell ⟨b, 6, none⟩ (.bool false)) : RAt W B b tv p L l 0 0 false lv v vs ∧ Below B w W := by
  subst hW
  obtain ⟨h1, b1⟩ := h.setSz 0
  obtain ⟨h2, b2⟩ := h1.setDg 0
  obtain ⟨h3, b3⟩ := h2.setNeg false
  exact ⟨h3, (b1.trans b2).trans b3⟩

set_option maxRecDepth 1000000 in
set_option maxHeartbeats 1000000 in
theorem endNumber_any (h : RD w B b tv p L l sz dg neg) (hB : B ≤ w.heap.size) (hsz : sz ≤ 1000000000000) (hl : l.length ≤ 10000) :
    Calls Try.prog 50 #[.pointer (some ⟨b, 0, none⟩)] w fun e w' => e = .returned (.tuple #[]) ∧ RD w' B b tv p L (l ++ [sgn neg sz]) 0 0 false ∧ Below B w w' := by
  obtain ⟨lv, v, vs, h⟩ := h
  have H := Lib.hid h
  obtain ⟨i0, hi, hz0, hz1, hz2⟩ := info_parts infoInt
  have c3 := h.cell 3
  have c4 := h.cell 4
  have c6 := h.cell 6
  simp only [List.getElem?_cons_zero, List.getElem?_cons_succ] at c3 c4 c6
  have hbl := h.lt
  have e0 : IntKind.i64.wrap (-(sz : Int)) = -(sz : Int) := IntWalk.i64_in _ (by omega)
  have HX := Lib.hid (show sgn neg sz = if neg then -(sz : Int) else sz from rfl)
  generalize hxx : sgn neg sz = x at *
  clear h hxx
  cases neg
  all_goals
    simp only [Bool.false_eq_true, if_false, if_true] at HX
    go_enter Try.func50, Try.ntmps50
    go_wp2_with (first | (at_builtin; refine wpList_append_own_at _ rfl _ _ 25 rfl B 3 i0 _ 1 8 Try.underlying25 hi hz0 hz1 hz2 rfl (by decide) _ l.length (ints l) rfl (H.out.own.alloc _) ⟨w.heap.size, 0, none⟩ 1 1 [_] rfl rfl (cell_one_new _ _ _) (by simp [Value.oneCell']) (by unfold maxLen; omega) (by omega) (by simp; omega) ?_))
    intro v' w1 hown hgrow _ hat
    obtain rfl := HX.out
    have hg2 := grown_alloc hgrow
    have hb1 := H.out.blk_grown hg2 (own_ne H.out.own H.out.blk (by decide))
    have f3 : w1.frozen? ⟨b, 3, none⟩ = false := frozen_of_row w1 b 3 _ _ hb1
    have d3 : w1.cell? ⟨b, 3, none⟩ = some v := by rw [cell_of_row _ _ _ _ _ _ hb1]; rfl
    have hbl1 : b < w1.heap.size := (Array.getElem?_eq_some_iff.1 hb1).1
    have HM := Lib.hid (H.out.more hB hown hg2 (hat.imp id (fun h => ⟨_, h, by simp⟩)))
    obtain ⟨a', cap', rfl⟩ := own_shape hown
    have g4 := HM.out.1.cell 4
    have g5 := HM.out.1.cell 5
    have g6 := HM.out.1.cell 6
    have k4 := HM.out.1.free 4
    have k5 := HM.out.1.free 5
    have k6 := HM.out.1.free 6
    simp only [List.getElem?_cons_zero, List.getElem?_cons_succ] at g4 g5 g6
    clear c3 c4 c6 hown hgrow hat hg2 hb1
    go_wp2_with fail
    generalize w1.setCell ⟨b, 3, none⟩ (.slice a' (l.length + 1) cap') = w2 at *
    clear f3 d3 hbl1
    have hbl2 := HM.out.1.lt
    go_wp2_with fail
    obtain ⟨hz, hzb⟩ := HM.out.1.zero _ rfl
    have HZ := Lib.hid (show RD _ B b tv p L _ 0 0 false ∧ Below B w _ from ⟨⟨_, _, _, hz⟩, HM.out.2.trans hzb⟩)
    clear hz hzb
    go_wp2
    go_end0
    exact ⟨rfl, HZ.out.1, HZ.out.2⟩

theorem addL_nil (L : List (List Int)) : addL L [] = L := by simp [addL]
theorem addL_some (L : List (List Int)) (l : List Int) (h : l ≠ []) : addL L l = L ++ [l] := by simp [addL, h]
set_option maxRecDepth 1000000 in
set_option maxHeartbeats 1000000 in
theorem endLine_nil (h : RD w B b tv p L [] sz dg neg) :
    Calls Try.prog 51 #[.pointer (some ⟨b, 0, none⟩)] w fun e w' => e = .returned (.tuple #[]) ∧ RD w' B b tv p (addL L []) [] sz dg neg ∧ Below B w w' := by
  rw [addL_nil]
  obtain ⟨lv, v, vs, h⟩ := h
  obtain ⟨a, cap, rfl⟩ := own_shape h.own
  have H := Lib.hid h.setNil
  have c3 := h.cell 3
  have f3 := h.free 3
  have hbl := h.lt
  simp only [List.getElem?_cons_zero, List.getElem?_cons_succ, List.length_nil] at c3
  clear h
  go_enter Try.func51, Try.ntmps51
  go_wp2
  go_end0
  exact ⟨rfl, ⟨_, _, _, H.out.1⟩, H.out.2⟩
set_option maxRecDepth 1000000 in
set_option maxHeartbeats 1000000 in
theorem endLine_some (h : RD w B b tv p L l sz dg neg) (hB : B ≤ w.heap.size) (hn : l ≠ []) (hL : L.length ≤ 10000) :
    Calls Try.prog 51 #[.pointer (some ⟨b, 0, none⟩)] w fun e w' => e = .returned (.tuple #[]) ∧ RD w' B b tv p (addL L l) [] sz dg neg ∧ Below B w w' := by
  rw [addL_some _ _ hn]
  obtain ⟨lv, v, vs, h⟩ := h
  have hvl : vs.length ≤ 10000 := by rw [h.each.in.len]; exact hL
  obtain ⟨a, cap, rfl⟩ := own_shape h.own
  have H := Lib.hid h
  obtain ⟨i0, hi, hz0, hz1, hz2⟩ := info_parts infoInts
  have c2 := h.cell 2
  have c3 := h.cell 3
  have hbl := h.lt
  simp only [List.getElem?_cons_zero, List.getElem?_cons_succ] at c2 c3
  have hd : decide (0 < l.length) = true := decide_eq_true (List.length_pos_iff.2 hn)
  have hd2 : decide ((0 : Int) < (l.length : Int)) = true := decide_eq_true (by have := List.length_pos_iff.2 hn; omega)
  have H63 := Lib.hid (show vs.length + 1 ≤ maxLen by unfold maxLen; omega)
  have HBy := Lib.hid (show (vs.length + 1) * 24 ≤ 140737488355328 by omega)
  have f2 := h.free 2
  clear h hn
  go_enter Try.func51, Try.ntmps51
  go_wp2_with fail
  go_region_law
    ((refine step_append_lies _ (by rfl) _ _ _ (by rfl) B 25 i0 _ 1 24 Try.underlying35 hi hz0 hz1 hz2 rfl (by omega) lv vs.length vs (by rfl) ((H.out.all.alloc _).drew)
        ⟨w.heap.size, 0, none⟩ 1 1 [.slice a l.length cap] (by rfl) (by rfl) (cell_one_new _ _ _) (by simp [Value.oneCell'])
        (by omega) H63.out HBy.out (by simp; omega) (w.heap.size + 1) (by simp) ?_
      intro gg cp w1 hown1 hgrow hat hlt
      have hg2 := grown_alloc (grown_drew hgrow)
      have hb1 := H.out.blk_grown hg2 (own_ne H.out.all H.out.blk (by decide))
      have fr2 : w1.frozen? ⟨b, 2, none⟩ = false := frozen_of_row w1 b 2 _ _ hb1
      have d2 : w1.cell? ⟨b, 2, none⟩ = some lv := by rw [cell_of_row _ _ _ _ _ _ hb1]; rfl
      have hbl1 : b < w1.heap.size := (Array.getElem?_eq_some_iff.1 hb1).1))
  all_goals
    have HP := Lib.hid (H.out.put hB hown1 hg2 _ rfl)
    have hb2 : (w1.setCell ⟨b, 2, none⟩ (.slice (some ⟨gg, 0, none⟩) (vs.length + 1) cp)).heap[b]? = _ := heap_setCell_same w1 b 2 _ _ _ hb1
    have f3 := frozen_of_row _ b 3 _ _ hb2
    have d3 := cell_of_row _ b 3 _ _ _ hb2
    have hbl2 := (Array.getElem?_eq_some_iff.1 hb2).1
    simp at d3
    clear hown1 hgrow hat hlt hg2 hb1 fr2 d2 hbl1 c2 c3 f2 hb2
    generalize w1.setCell ⟨b, 2, none⟩ (.slice (some ⟨gg, 0, none⟩) (vs.length + 1) cp) = w2 at *
    go_wp2
    go_end0
    exact ⟨rfl, ⟨_, _, _, HP.out.1⟩, HP.out.2⟩
theorem endLine_any (h : RD w B b tv p L l sz dg neg) (hB : B ≤ w.heap.size) (hL : L.length ≤ 10000) :
    Calls Try.prog 51 #[.pointer (some ⟨b, 0, none⟩)] w fun e w' => e = .returned (.tuple #[]) ∧ RD w' B b tv p (addL L l) [] sz dg neg ∧ Below B w w' := by
  by_cases hn : l = []
  · subst hn; exact endLine_nil h
  · exact endLine_some h hB hn hL
end
end Go.Proofs.Ytolaiccgbngomaa
