/- What the methods that make the state behind a move answer. -/
import Derived.Test.YtgplajofemencaaGreatXSLeaf
import Derived.Deep.MidRow
import Derived.Test.YtgplajofemencaaGreatXSPlan
import Derived.Laws.StructEq
import Derived.Test.YtgplajofemencaaGreatYE
import Derived.Test.YtgplajofemencaaGreatYB
import Derived.Test.YtgplajofemencaaGreatXTSched
namespace Go.Proofs.YtgplajofemencaaGreat
open Go.ChangeShapes Go.WideShapes Go.ChangeAt Go.RowKit

/-! ### A whole state into a block that holds one -/
def stL (s : Sta) : List Value := [.int .i64 s.pos, .int .i64 s.car, .int .i64 s.time, .int .i64 s.load, .int .i64 s.first, .int .u64 s.must, .int .u64 s.may, .int .u64 s.on]
theorem put_state {w : World} {r : Nat} {s0 : Sta} (k : StB w r s0) (s : Sta) : StB (w.setCells r 0 (stL s)) r s :=
  (((((((k.set0 s.pos).set1 s.car).set2 s.time).set3 s.load).set4 s.first).set5 s.must).set6 s.may).set7 s.on
theorem put_below {w : World} {r M : Nat} (h : M ≤ r) (s : Sta) : Below M w (w.setCells r 0 (stL s)) :=
  ((((((((Below.refl M w).setCell (p := ⟨r, 0, none⟩) h _).setCell (p := ⟨r, 1, none⟩) h _).setCell (p := ⟨r, 2, none⟩) h _).setCell (p := ⟨r, 3, none⟩) h _).setCell (p := ⟨r, 4, none⟩) h _).setCell (p := ⟨r, 5, none⟩) h _).setCell (p := ⟨r, 6, none⟩) h _).setCell (p := ⟨r, 7, none⟩) h _
theorem StB.there {w : World} {r : Nat} {s0 : Sta} (k : StB w r s0) : w.there r 0 8 := by
  intro j hj
  rw [Nat.zero_add]
  refine ⟨?_, k.free j⟩
  rw [k.cell j]
  match j, hj with
  | 0, _ | 1, _ | 2, _ | 3, _ | 4, _ | 5, _ | 6, _ | 7, _ => rfl
theorem infoState : (Tryz.prog.info? 27).map (·.size) = some 8 := by kernel_rfl
theorem wpList_store_state {ops : Array Oper} {rest : List Oper} {op : Oper} {a : Act} {w : World} {Q : Exit → Act → World → Prop} (hgd : op.guard = none) (x y : Operand) (ho : op.op = .store 27 x y)
    (r : Nat) (s0 s : Sta) (hx : a.eval x = .pointer (some ⟨r, 0, none⟩)) (hy : a.eval y = staV s) (k : StB w r s0)
    (h : ∀ w', StB w' r s → (∀ M, M ≤ r → Below M w w') → wpList Tryz.prog ops Q rest (a.put op.dst undef) w') : wpList Tryz.prog ops Q (op :: rest) a w := by
  refine wpList_store_mid hgd 27 x y ho r 0 (stL s).toArray hx (hy.trans rfl) (by exact k.there) (by exact infoState) (all_oneCell_toArray (fun v hv => by
    simp only [stL, List.mem_cons, List.not_mem_nil, or_false] at hv
    rcases hv with rfl | rfl | rfl | rfl | rfl | rfl | rfl | rfl <;> rfl)) ?_
  exact h _ (by exact put_state k s) (fun M hM => by exact put_below hM s)

/-- What both kinds of stops change alike. -/
def seenS (I : Ins) (s : Sta) (j : Int) : Sta := ⟨j, s.car, begS I s j + (stp I j).s, s.load + (stp I j).d, s.first, s.must ||| bitN j, s.may ||| bitN j, s.on⟩
theorem beg_bd {I : Ins} {s : Sta} {j : Int} (hg : GoOn I s) (hj : 0 ≤ j ∧ j ≤ 2 * I.p) : 0 ≤ begS I s j ∧ begS I s j ≤ 1100000000 := by
  have h1 := (goOn_bd hg).2.2.1
  have h2 := far1_bd I s j
  have h3 := comeS_eq I s j
  have h4 := stop_in ((fine_of hg.1).ok j hj.1 hj.2)
  unfold begS
  omega
theorem dem_bd {I : Ins} {j : Int} (hm : mayB I = true) (hj : 0 ≤ j ∧ j ≤ 2 * I.p) : -1000 ≤ (stp I j).d ∧ (stp I j).d ≤ 1000 := by
  have hf := fine_of hm
  by_cases h0 : j = 0
  · rw [h0, hf.yard.1]; omega
  · by_cases h1 : j ≤ I.p
    · have := hf.take j (by omega) h1; omega
    · have h2 := hf.bring j (by omega) hj.2
      have := hf.take (j - I.p) (by omega) (by omega)
      omega
set_option maxRecDepth 1000000 in
set_option maxHeartbeats 4000000 in
theorem visited_any {w : World} {b : Nat} {I : Ins} {sv : Value} {s : Sta} {j : Int} (hc : HereB w b I sv s) (hr : SRow w sv I.l) (hg : GoOn I s) (hs : SetsOk s) (hj : 0 ≤ j ∧ j ≤ 2 * I.p) :
    Calls Tryz.prog 157 #[.pointer (some ⟨b, 0, none⟩), .int .i64 j] w fun e w' => e = .returned (staV (seenS I s j)) ∧ Below w.heap.size w w' := by
  have HC := Lib.hid hc
  have HR := Lib.hid hr
  have HG := Lib.hid hg
  have HS := Lib.hid hs
  have HJ := Lib.hid hj
  have hbl := hc.lt
  have b1 := beg_bd hg hj
  have b2 := stop_in ((fine_of hg.1).ok j hj.1 hj.2)
  have b3 := dem_bd hg.1 hj
  have b4 := (goOn_bd hg).2.2.2
  have e1 : IntKind.i64.wrap (begS I s j + (stp I j).s) = begS I s j + (stp I j).s := IntWalk.i64_in _ (by omega)
  have e2 : IntKind.i64.wrap (s.load + (stp I j).d) = s.load + (stp I j).d := IntWalk.i64_in _ (by omega)
  clear b1 b2 b3 b4
  obtain ⟨k, rfl, hk, ek⟩ := num_stop hg.1 hj
  have HE := Lib.hid (show seenS I s k = ⟨k, s.car, begS I s k + (nth I.l k).s, s.load + (nth I.l k).d, s.first, s.must ||| bitN k, s.may ||| bitN k, s.on⟩ from rfl)
  rw [ek] at e1 e2
  obtain ⟨ad, cap, rfl, _⟩ := hr.form
  obtain ⟨tb, off, rfl, hkt, hlt0⟩ := srow_at hr k hk
  have HKT := Lib.hid hkt
  clear hkt
  have hki : (k : Int) < (I.l.length : Int) := by omega
  have hlt2 := Lib.hid (show Lows w.heap.size (cellsH b I (.slice (some ⟨tb, off, none⟩) I.l.length cap) s ++ cellsF tb (off + k * 6) (nth I.l k)) from Lows.app (lows_H hbl) (lows_at hlt0))
  have HH := Lib.hid (show ∀ w', Below w.heap.size w w' → Holds (cellsH b I (.slice (some ⟨tb, off, none⟩) I.l.length cap) s ++ cellsF tb (off + k * 6) (nth I.l k)) w' from fun w' hb => Holds.app.2 ⟨(HC.out.later hb).holds, holds_at (HKT.out.below hlt0 hb)⟩)
  clear hc hr hg hs hj ek
  have q4 := HC.out.c4
  have q5 := HC.out.c5
  have q6 := HC.out.c6
  have q7 := HC.out.c7
  have q8 := HC.out.c8
  have q9 := HC.out.c9
  have q10 := HC.out.c10
  have q11 := HC.out.c11
  have hh : ∀ i o, (w.alloc o).cell? ⟨b, i, none⟩ = w.cell? ⟨b, i, none⟩ := fun i o => (((Below.refl w.heap.size w).alloc (Nat.le_refl _) o).cell hbl)
  generalize nth I.l k = t at *
  go_enter Tryz.func157, Tryz.ntmps157
  go_upto_region 3 with fail
  have HR0 := Lib.hid ((st_new w noughtS).later ((Below.refl _ _).alloc (Nat.le_refl _) (boxSt ⟨k, s.car, s.time, s.load, s.first, s.must, s.may, s.on⟩)))
  have HX := Lib.hid (st_new (w.alloc (boxSt noughtS)) ⟨k, s.car, s.time, s.load, s.first, s.must, s.may, s.on⟩)
  have HB := Lib.hid (((Below.refl w.heap.size w).alloc (Nat.le_refl _) (boxSt noughtS)).alloc (by simp) (boxSt ⟨k, s.car, s.time, s.load, s.first, s.must, s.may, s.on⟩))
  have hsz : (w.alloc (boxSt noughtS)).heap.size = w.heap.size + 1 := by simp
  rw [hsz] at HX
  clear hsz hh q4 q5 q6 q7 q8 q9 q10 q11
  change Code.wp _ _ _ _ ((w.alloc (boxSt noughtS)).alloc (boxSt ⟨k, s.car, s.time, s.load, s.first, s.must, s.may, s.on⟩))
  generalize (w.alloc (boxSt noughtS)).alloc (boxSt ⟨k, s.car, s.time, s.load, s.first, s.must, s.may, s.on⟩) = W3 at *
  have HNle := Lib.hid (Nat.le_refl w.heap.size)
  have HBd := Lib.hid HB.out.drew
  have HXd := Lib.hid (HX.out.later (Below.refl _ _).drew)
  have HRd := Lib.hid (HR0.out.later (Below.refl _ _).drew)
  have HS0 := Lib.hid (HH.out _ HBd.out)
  refine wp_region_held_drew (S := Holds (cellsH b I (.slice (some ⟨tb, off, none⟩) I.l.length cap) s ++ cellsF tb (off + k * 6) t)) (by kernel_rfl) HS0.out (fun hSn => ?_)
  clear HB HX HR0
  generalize W3.drew = V3 at *
  have hlt := Lib.hid (show Lows V3.heap.size (cellsH b I (.slice (some ⟨tb, off, none⟩) I.l.length cap) s ++ cellsF tb (off + k * 6) t) from Lows.app (lows_H (Nat.lt_of_lt_of_le hbl HBd.out.size)) (lows_at (Nat.lt_of_lt_of_le hlt0 HBd.out.size)))
  have hlt3 := Lib.hid hlt2.out
  have Bc := Lib.hid (Below.refl V3.heap.size V3)
  simp only [cellsH, cellsF, List.cons_append, List.nil_append] at HS0 hlt hlt3 hSn ⊢
  refine tks [0, 1, 3, 4, 5, 6, 7, 8, 9, 10, 11] 11 rfl (by kernel_rfl) (fun _ _ _ _ h => h) (by assumption) (fun KT hKT => ?_)
  iterate 11 (refine tkT (by (simp only [gA, gB, gC]; rfl)) (by rfl) (by (intro w hSw; (simp only [Holds] at hSw); go_simp <;> with_reducible rfl)) ?_; simp only [Act.put, pA, pB, pC])
  refine hKT _ ?_
  clear KT hKT
  refine wpAnyH_ready (rs := [2]) (by kernel_rfl) (by simp) ?_
  refine AllReadyH.cons (o := ?oz166) ?iz166 (fun K hK => ?kz166) AllReadyH.nil
  case iz166 => (simp only [List.getElem?_toArray, List.getElem?_cons_zero, List.getElem?_cons_succ]; rfl)
  go_simp
  refine (hbeginAt_any (HC.out.later (HBd.out.trans (Bc.out.mono HBd.out.size))) (HR.out.below (HBd.out.trans (Bc.out.mono HBd.out.size))) HG.out HJ.out).mono ?_
  rintro e w' ⟨rfl, hb⟩
  refine held_more hK HS0.out hlt (Bc.out.trans (hb.mono Bc.out.size)) (fun Bc hSn => ?_)
  clear hb hK
  refine tks [12] 1 rfl (by kernel_rfl) (fun _ _ _ _ h => h) (by assumption) (fun KT hKT => ?_)
  refine tkT (by (simp only [gA, gB, gC]; rfl)) (by rfl) (by (intro w hSw; (simp only [Holds] at hSw); go_simp <;> with_reducible rfl)) ?_
  simp only [Act.put, pA, pB, pC]
  refine hKT _ ?_
  clear KT hKT
  have HX4 := Lib.hid (HXd.out.later Bc.out)
  have HR4 := Lib.hid (HRd.out.later Bc.out)
  have HB4 := Lib.hid (HBd.out.trans (Bc.out.mono HBd.out.size))
  have x2 := HX4.out.c2
  have xf := HX4.out.free 2
  refine tks [13] 1 rfl (by kernel_rfl) (fun _ _ _ _ h => h) (by assumption) (fun KT hKT => ?_)
  refine tkT (by (simp only [gA, gB, gC]; rfl)) (by rfl) (by (intro w hSw; (simp only [Holds] at hSw); go_simp <;> with_reducible rfl)) ?_
  simp only [Act.put, pA, pB, pC]
  refine hKT _ ?_
  clear KT hKT
  refine wpAnyH_ready (rs := [14]) (by kernel_rfl) (by simp) ?_
  refine (AllReadyH.cons (o := ?oz167) ?iz167 (fun K hK => ?kz167) AllReadyH.nil)
  case iz167 => (simp only [List.getElem?_toArray, List.getElem?_cons_zero, List.getElem?_cons_succ]; rfl)
  go_simp
  refine hK.out _ _ (Holds.set (by simp) hSn hlt3.out) (fun hSn => ?_)
  refine wpAnyH_done (by kernel_rfl) ?_ _
  clear x2 xf
  have HX := Lib.hid (HX4.out.set2 (begS I s k + t.s))
  have HR0 := Lib.hid (HR4.out.other ⟨w.heap.size + 1, 2, none⟩ (.int .i64 (begS I s k + t.s)) (by simp))
  have HB := Lib.hid (HB4.out.setCell (p := ⟨w.heap.size + 1, 2, none⟩) (by simp) (.int .i64 (begS I s k + t.s)))
  generalize w'.setCell ⟨w.heap.size + 1, 2, none⟩ (.int .i64 (begS I s k + t.s)) = W4 at *
  clear HX4 HR4 HB4 HXd HRd HBd HS0 hlt hlt3 Bc hSn
  go_upto_region 4 with fail
  have HBd := Lib.hid HB.out.drew
  have HXd := Lib.hid (HX.out.later (Below.refl _ _).drew)
  have HRd := Lib.hid (HR0.out.later (Below.refl _ _).drew)
  have HS0 := Lib.hid (HH.out _ HBd.out)
  refine wp_region_held_drew (S := Holds (cellsH b I (.slice (some ⟨tb, off, none⟩) I.l.length cap) s ++ cellsF tb (off + k * 6) t)) (by kernel_rfl) HS0.out (fun hSn => ?_)
  clear HB HX HR0
  generalize W4.drew = V4 at *
  have hlt := Lib.hid (show Lows V4.heap.size (cellsH b I (.slice (some ⟨tb, off, none⟩) I.l.length cap) s ++ cellsF tb (off + k * 6) t) from Lows.app (lows_H (Nat.lt_of_lt_of_le hbl HBd.out.size)) (lows_at (Nat.lt_of_lt_of_le hlt0 HBd.out.size)))
  have hlt3 := Lib.hid hlt2.out
  have Bc := Lib.hid (Below.refl V4.heap.size V4)
  simp only [cellsH, cellsF, List.cons_append, List.nil_append] at HS0 hlt hlt3 hSn ⊢
  refine tks [0, 2, 3, 4, 5, 6, 7, 8, 9, 10] 10 rfl (by kernel_rfl) (fun _ _ _ _ h => h) (by assumption) (fun KT hKT => ?_)
  iterate 10 (refine tkT (by (simp only [gA, gB, gC]; rfl)) (by rfl) (by (intro w hSw; (simp only [Holds] at hSw); go_simp <;> with_reducible rfl)) ?_; simp only [Act.put, pA, pB, pC])
  refine hKT _ ?_
  clear KT hKT
  have HX4 := Lib.hid HXd.out
  have x3 := HX4.out.c3
  have xf := HX4.out.free 3
  refine wpAnyH_ready (rs := [1]) (by kernel_rfl) (by simp) ?_
  refine (AllReadyH.cons (o := ?oz168) ?iz168 (fun K hK => ?kz168) AllReadyH.nil)
  case iz168 => (simp only [List.getElem?_toArray, List.getElem?_cons_zero, List.getElem?_cons_succ]; rfl)
  go_simp
  refine held_more hK HS0.out hlt Bc.out (fun Bc hSn => ?_)
  refine tks [11, 12] 2 rfl (by kernel_rfl) (fun _ _ _ _ h => h) (by assumption) (fun KT hKT => ?_)
  iterate 2 (refine tkT (by (simp only [gA, gB, gC]; rfl)) (by rfl) (by (intro w hSw; (simp only [Holds] at hSw); go_simp <;> with_reducible rfl)) ?_; simp only [Act.put, pA, pB, pC])
  refine hKT _ ?_
  clear KT hKT
  refine wpAnyH_ready (rs := [13]) (by kernel_rfl) (by simp) ?_
  refine (AllReadyH.cons (o := ?oz169) ?iz169 (fun K hK => ?kz169) AllReadyH.nil)
  case iz169 => (simp only [List.getElem?_toArray, List.getElem?_cons_zero, List.getElem?_cons_succ]; rfl)
  go_simp
  refine hK.out _ _ (Holds.set (by simp) hSn hlt3.out) (fun hSn => ?_)
  refine wpAnyH_done (by kernel_rfl) ?_ _
  clear x3 xf
  have HX := Lib.hid (HX4.out.set3 (s.load + t.d))
  have HR0 := Lib.hid (HRd.out.other ⟨w.heap.size + 1, 3, none⟩ (.int .i64 (s.load + t.d)) (by simp))
  have HB := Lib.hid (HBd.out.setCell (p := ⟨w.heap.size + 1, 3, none⟩) (by simp) (.int .i64 (s.load + t.d)))
  generalize V4.setCell ⟨w.heap.size + 1, 3, none⟩ (.int .i64 (s.load + t.d)) = W5 at *
  clear HX4 HXd HRd HBd HS0 hlt hlt3 Bc hSn
  go_upto_region 5 with fail
  have HBd := Lib.hid HB.out.drew
  have HXd := Lib.hid (HX.out.later (Below.refl _ _).drew)
  have HRd := Lib.hid (HR0.out.later (Below.refl _ _).drew)
  have HS0 := Lib.hid (HH.out _ HBd.out)
  refine wp_region_held_drew (S := Holds (cellsH b I (.slice (some ⟨tb, off, none⟩) I.l.length cap) s ++ cellsF tb (off + k * 6) t)) (by kernel_rfl) HS0.out (fun hSn => ?_)
  clear HB HX HR0
  generalize W5.drew = V5 at *
  have hlt := Lib.hid (show Lows V5.heap.size (cellsH b I (.slice (some ⟨tb, off, none⟩) I.l.length cap) s ++ cellsF tb (off + k * 6) t) from Lows.app (lows_H (Nat.lt_of_lt_of_le hbl HBd.out.size)) (lows_at (Nat.lt_of_lt_of_le hlt0 HBd.out.size)))
  have hlt3 := Lib.hid hlt2.out
  have Bc := Lib.hid (Below.refl V5.heap.size V5)
  simp only [cellsH, cellsF, List.cons_append, List.nil_append] at HS0 hlt hlt3 hSn ⊢
  have x5 := HXd.out.c5
  have x6 := HXd.out.c6
  have xf5 := HXd.out.free 5
  refine tks [0, 2, 4, 6] 4 rfl (by kernel_rfl) (fun _ _ _ _ h => h) (by assumption) (fun KT hKT => ?_)
  iterate 4 (refine tkT (by (simp only [gA, gB, gC]; rfl)) (by rfl) (by (intro w hSw; (simp only [Holds] at hSw); go_simp <;> with_reducible rfl)) ?_; simp only [Act.put, pA, pB, pC])
  refine hKT _ ?_
  clear KT hKT
  refine wpAnyH_ready (rs := [1, 5]) (by kernel_rfl) (by simp) ?_
  refine (AllReadyH.cons (o := ?oz170) ?iz170 (fun K hK => ?kz170) (AllReadyH.cons (o := ?oz171) ?iz171 (fun K hK => ?kz171) AllReadyH.nil))
  case iz170 => (simp only [List.getElem?_toArray, List.getElem?_cons_zero, List.getElem?_cons_succ]; rfl)
  case iz171 => (simp only [List.getElem?_toArray, List.getElem?_cons_zero, List.getElem?_cons_succ]; rfl)
  · go_simp
    refine held_more hK HS0.out hlt Bc.out (fun Bc hSn => ?_)
    clear hK
    refine wpAnyH_ready (rs := [3, 5]) (by kernel_rfl) (by simp) ?_
    refine (AllReadyH.cons (o := ?oz172) ?iz172 (fun K hK => ?kz172) (AllReadyH.cons (o := ?oz173) ?iz173 (fun K hK => ?kz173) AllReadyH.nil))
    case iz172 => (simp only [List.getElem?_toArray, List.getElem?_cons_zero, List.getElem?_cons_succ]; rfl)
    case iz173 => (simp only [List.getElem?_toArray, List.getElem?_cons_zero, List.getElem?_cons_succ]; rfl)
    · go_simp
      refine (ewith_any _ _ _ HS.out.1).mono ?_
      rintro e w' ⟨rfl, rfl⟩
      refine held_more hK HS0.out hlt Bc.out (fun Bc hSn => ?_)
      clear hK
      refine wpAnyH_ready (rs := [5]) (by kernel_rfl) (by simp) ?_
      refine (AllReadyH.cons (o := ?oz174) ?iz174 (fun K hK => ?kz174) AllReadyH.nil)
      case iz174 => (simp only [List.getElem?_toArray, List.getElem?_cons_zero, List.getElem?_cons_succ]; rfl)
      go_simp
      refine held_more hK HS0.out hlt Bc.out (fun Bc hSn => ?_)
      clear hK
      refine tks [8] 1 rfl (by kernel_rfl) (fun _ _ _ _ h => h) (by assumption) (fun KT hKT => ?_)
      refine tkT (by (simp only [gA, gB, gC]; rfl)) (by rfl) (by (intro w hSw; (simp only [Holds] at hSw); go_simp <;> with_reducible rfl)) ?_
      simp only [Act.put, pA, pB, pC]
      refine hKT _ ?_
      clear KT hKT
      refine wpAnyH_ready (rs := [7]) (by kernel_rfl) (by simp) ?_
      refine AllReadyH.cons (o := ?oz175) ?iz175 (fun K hK => ?kz175) AllReadyH.nil
      case iz175 => (simp only [List.getElem?_toArray, List.getElem?_cons_zero, List.getElem?_cons_succ]; rfl)
      go_simp
      refine (ewith_any _ _ _ HS.out.2.1).mono ?_
      rintro e w' ⟨rfl, rfl⟩
      refine held_more hK HS0.out hlt Bc.out (fun Bc hSn => ?_)
      clear hK
      refine wpAnyH_ready (rs := [9]) (by kernel_rfl) (by simp) ?_
      refine (AllReadyH.cons (o := ?oz176) ?iz176 (fun K hK => ?kz176) AllReadyH.nil)
      case iz176 => (simp only [List.getElem?_toArray, List.getElem?_cons_zero, List.getElem?_cons_succ]; rfl)
      go_simp
      refine hK.out _ _ (Holds.set (by simp) hSn hlt3.out) (fun hSn => ?_)
      clear hK x5 x6 xf5
      have HX6 := Lib.hid (HXd.out.set5 (s.must ||| bitN k))
      have HR6 := Lib.hid (HRd.out.other ⟨w.heap.size + 1, 5, none⟩ (.int .u64 ((s.must ||| bitN k : Nat) : Int)) (by simp))
      have HB6 := Lib.hid (HBd.out.setCell (p := ⟨w.heap.size + 1, 5, none⟩) (by simp) (.int .u64 ((s.must ||| bitN k : Nat) : Int)))
      generalize V5.setCell ⟨w.heap.size + 1, 5, none⟩ (.int .u64 ((s.must ||| bitN k : Nat) : Int)) = U6 at *
      have x6 := HX6.out.c6
      have xf6 := HX6.out.free 6
      refine tks [10] 1 rfl (by kernel_rfl) (fun _ _ _ _ h => h) (by assumption) (fun KT hKT => ?_)
      refine tkT (by (simp only [gA, gB, gC]; rfl)) (by rfl) (by (intro w hSw; (simp only [Holds] at hSw); go_simp <;> with_reducible rfl)) ?_
      simp only [Act.put, pA, pB, pC]
      refine hKT _ ?_
      clear KT hKT
      refine wpAnyH_ready (rs := [11]) (by kernel_rfl) (by simp) ?_
      refine (AllReadyH.cons (o := ?oz177) ?iz177 (fun K hK => ?kz177) AllReadyH.nil)
      case iz177 => (simp only [List.getElem?_toArray, List.getElem?_cons_zero, List.getElem?_cons_succ]; rfl)
      go_simp
      refine hK.out _ _ (Holds.set (by simp) hSn hlt3.out) (fun hSn => ?_)
      refine wpAnyH_done (by kernel_rfl) ?_ _
      clear hK x6 xf6
      have HX := Lib.hid (HX6.out.set6 (s.may ||| bitN k))
      have HR0 := Lib.hid (HR6.out.other ⟨w.heap.size + 1, 6, none⟩ (.int .u64 ((s.may ||| bitN k : Nat) : Int)) (by simp))
      have HB := Lib.hid (HB6.out.setCell (p := ⟨w.heap.size + 1, 6, none⟩) (by simp) (.int .u64 ((s.may ||| bitN k : Nat) : Int)))
      generalize U6.setCell ⟨w.heap.size + 1, 6, none⟩ (.int .u64 ((s.may ||| bitN k : Nat) : Int)) = W6 at *
      clear HX6 HR6 HB6 HXd HRd HBd HS0 hlt hlt3 Bc hSn
      have z0 := HX.out.c0
      have z1 := HX.out.c1
      have z2 := HX.out.c2
      have z3 := HX.out.c3
      have z4 := HX.out.c4
      have z5 := HX.out.c5
      have z6 := HX.out.c6
      have z7 := HX.out.c7
      go_wp2_with (refine wpList_store_state (by rfl) (.tmp 4) (.tmp 49) (by rfl) w.heap.size _ (⟨k, s.car, begS I s k + t.s, s.load + t.d, s.first, s.must ||| bitN k, s.may ||| bitN k, s.on⟩) (by rfl) (by rfl) HR0.out ?_)
      clear z0 z1 z2 z3 z4 z5 z6 z7
      intro WE hE hbE
      have z0 := hE.c0
      have z1 := hE.c1
      have z2 := hE.c2
      have z3 := hE.c3
      have z4 := hE.c4
      have z5 := hE.c5
      have z6 := hE.c6
      have z7 := hE.c7
      go_wp2
      exact bodyPost_ret (v := staV (⟨k, s.car, begS I s k + t.s, s.load + t.d, s.first, s.must ||| bitN k, s.may ||| bitN k, s.on⟩)) (by simp [results, Tryz.results157, go_sem, z0, z1, z2, z3, z4, z5, z6, z7, staV]) rfl ⟨by rw [HE.out], HB.out.trans (hbE _ HNle.out)⟩
    · go_simp
      refine held_more hK HS0.out hlt Bc.out (fun Bc hSn => ?_)
      clear hK
      refine wpAnyH_ready (rs := [3]) (by kernel_rfl) (by simp) ?_
      refine AllReadyH.cons (o := ?oz178) ?iz178 (fun K hK => ?kz178) AllReadyH.nil
      case iz178 => (simp only [List.getElem?_toArray, List.getElem?_cons_zero, List.getElem?_cons_succ]; rfl)
      go_simp
      refine (ewith_any _ _ _ HS.out.1).mono ?_
      rintro e w' ⟨rfl, rfl⟩
      refine held_more hK HS0.out hlt Bc.out (fun Bc hSn => ?_)
      clear hK
      refine tks [8] 1 rfl (by kernel_rfl) (fun _ _ _ _ h => h) (by assumption) (fun KT hKT => ?_)
      refine tkT (by (simp only [gA, gB, gC]; rfl)) (by rfl) (by (intro w hSw; (simp only [Holds] at hSw); go_simp <;> with_reducible rfl)) ?_
      simp only [Act.put, pA, pB, pC]
      refine hKT _ ?_
      clear KT hKT
      refine wpAnyH_ready (rs := [7]) (by kernel_rfl) (by simp) ?_
      refine AllReadyH.cons (o := ?oz179) ?iz179 (fun K hK => ?kz179) AllReadyH.nil
      case iz179 => (simp only [List.getElem?_toArray, List.getElem?_cons_zero, List.getElem?_cons_succ]; rfl)
      go_simp
      refine (ewith_any _ _ _ HS.out.2.1).mono ?_
      rintro e w' ⟨rfl, rfl⟩
      refine held_more hK HS0.out hlt Bc.out (fun Bc hSn => ?_)
      clear hK
      refine wpAnyH_ready (rs := [9]) (by kernel_rfl) (by simp) ?_
      refine (AllReadyH.cons (o := ?oz180) ?iz180 (fun K hK => ?kz180) AllReadyH.nil)
      case iz180 => (simp only [List.getElem?_toArray, List.getElem?_cons_zero, List.getElem?_cons_succ]; rfl)
      go_simp
      refine hK.out _ _ (Holds.set (by simp) hSn hlt3.out) (fun hSn => ?_)
      clear hK x5 x6 xf5
      have HX6 := Lib.hid (HXd.out.set5 (s.must ||| bitN k))
      have HR6 := Lib.hid (HRd.out.other ⟨w.heap.size + 1, 5, none⟩ (.int .u64 ((s.must ||| bitN k : Nat) : Int)) (by simp))
      have HB6 := Lib.hid (HBd.out.setCell (p := ⟨w.heap.size + 1, 5, none⟩) (by simp) (.int .u64 ((s.must ||| bitN k : Nat) : Int)))
      generalize V5.setCell ⟨w.heap.size + 1, 5, none⟩ (.int .u64 ((s.must ||| bitN k : Nat) : Int)) = U6 at *
      have x6 := HX6.out.c6
      have xf6 := HX6.out.free 6
      refine tks [10] 1 rfl (by kernel_rfl) (fun _ _ _ _ h => h) (by assumption) (fun KT hKT => ?_)
      refine tkT (by (simp only [gA, gB, gC]; rfl)) (by rfl) (by (intro w hSw; (simp only [Holds] at hSw); go_simp <;> with_reducible rfl)) ?_
      simp only [Act.put, pA, pB, pC]
      refine hKT _ ?_
      clear KT hKT
      refine wpAnyH_ready (rs := [11]) (by kernel_rfl) (by simp) ?_
      refine (AllReadyH.cons (o := ?oz181) ?iz181 (fun K hK => ?kz181) AllReadyH.nil)
      case iz181 => (simp only [List.getElem?_toArray, List.getElem?_cons_zero, List.getElem?_cons_succ]; rfl)
      go_simp
      refine hK.out _ _ (Holds.set (by simp) hSn hlt3.out) (fun hSn => ?_)
      refine wpAnyH_done (by kernel_rfl) ?_ _
      clear hK x6 xf6
      have HX := Lib.hid (HX6.out.set6 (s.may ||| bitN k))
      have HR0 := Lib.hid (HR6.out.other ⟨w.heap.size + 1, 6, none⟩ (.int .u64 ((s.may ||| bitN k : Nat) : Int)) (by simp))
      have HB := Lib.hid (HB6.out.setCell (p := ⟨w.heap.size + 1, 6, none⟩) (by simp) (.int .u64 ((s.may ||| bitN k : Nat) : Int)))
      generalize U6.setCell ⟨w.heap.size + 1, 6, none⟩ (.int .u64 ((s.may ||| bitN k : Nat) : Int)) = W6 at *
      clear HX6 HR6 HB6 HXd HRd HBd HS0 hlt hlt3 Bc hSn
      have z0 := HX.out.c0
      have z1 := HX.out.c1
      have z2 := HX.out.c2
      have z3 := HX.out.c3
      have z4 := HX.out.c4
      have z5 := HX.out.c5
      have z6 := HX.out.c6
      have z7 := HX.out.c7
      go_wp2_with (refine wpList_store_state (by rfl) (.tmp 4) (.tmp 49) (by rfl) w.heap.size _ (⟨k, s.car, begS I s k + t.s, s.load + t.d, s.first, s.must ||| bitN k, s.may ||| bitN k, s.on⟩) (by rfl) (by rfl) HR0.out ?_)
      clear z0 z1 z2 z3 z4 z5 z6 z7
      intro WE hE hbE
      have z0 := hE.c0
      have z1 := hE.c1
      have z2 := hE.c2
      have z3 := hE.c3
      have z4 := hE.c4
      have z5 := hE.c5
      have z6 := hE.c6
      have z7 := hE.c7
      go_wp2
      exact bodyPost_ret (v := staV (⟨k, s.car, begS I s k + t.s, s.load + t.d, s.first, s.must ||| bitN k, s.may ||| bitN k, s.on⟩)) (by simp [results, Tryz.results157, go_sem, z0, z1, z2, z3, z4, z5, z6, z7, staV]) rfl ⟨by rw [HE.out], HB.out.trans (hbE _ HNle.out)⟩
  · go_simp
    refine held_more hK HS0.out hlt Bc.out (fun Bc hSn => ?_)
    clear hK
    refine wpAnyH_ready (rs := [1]) (by kernel_rfl) (by simp) ?_
    refine (AllReadyH.cons (o := ?oz182) ?iz182 (fun K hK => ?kz182) AllReadyH.nil)
    case iz182 => (simp only [List.getElem?_toArray, List.getElem?_cons_zero, List.getElem?_cons_succ]; rfl)
    go_simp
    refine held_more hK HS0.out hlt Bc.out (fun Bc hSn => ?_)
    clear hK
    refine wpAnyH_ready (rs := [3]) (by kernel_rfl) (by simp) ?_
    refine AllReadyH.cons (o := ?oz183) ?iz183 (fun K hK => ?kz183) AllReadyH.nil
    case iz183 => (simp only [List.getElem?_toArray, List.getElem?_cons_zero, List.getElem?_cons_succ]; rfl)
    go_simp
    refine (ewith_any _ _ _ HS.out.1).mono ?_
    rintro e w' ⟨rfl, rfl⟩
    refine held_more hK HS0.out hlt Bc.out (fun Bc hSn => ?_)
    clear hK
    refine tks [8] 1 rfl (by kernel_rfl) (fun _ _ _ _ h => h) (by assumption) (fun KT hKT => ?_)
    refine tkT (by (simp only [gA, gB, gC]; rfl)) (by rfl) (by (intro w hSw; (simp only [Holds] at hSw); go_simp <;> with_reducible rfl)) ?_
    simp only [Act.put, pA, pB, pC]
    refine hKT _ ?_
    clear KT hKT
    refine wpAnyH_ready (rs := [7]) (by kernel_rfl) (by simp) ?_
    refine AllReadyH.cons (o := ?oz184) ?iz184 (fun K hK => ?kz184) AllReadyH.nil
    case iz184 => (simp only [List.getElem?_toArray, List.getElem?_cons_zero, List.getElem?_cons_succ]; rfl)
    go_simp
    refine (ewith_any _ _ _ HS.out.2.1).mono ?_
    rintro e w' ⟨rfl, rfl⟩
    refine held_more hK HS0.out hlt Bc.out (fun Bc hSn => ?_)
    clear hK
    refine wpAnyH_ready (rs := [9]) (by kernel_rfl) (by simp) ?_
    refine (AllReadyH.cons (o := ?oz185) ?iz185 (fun K hK => ?kz185) AllReadyH.nil)
    case iz185 => (simp only [List.getElem?_toArray, List.getElem?_cons_zero, List.getElem?_cons_succ]; rfl)
    go_simp
    refine hK.out _ _ (Holds.set (by simp) hSn hlt3.out) (fun hSn => ?_)
    clear hK x5 x6 xf5
    have HX6 := Lib.hid (HXd.out.set5 (s.must ||| bitN k))
    have HR6 := Lib.hid (HRd.out.other ⟨w.heap.size + 1, 5, none⟩ (.int .u64 ((s.must ||| bitN k : Nat) : Int)) (by simp))
    have HB6 := Lib.hid (HBd.out.setCell (p := ⟨w.heap.size + 1, 5, none⟩) (by simp) (.int .u64 ((s.must ||| bitN k : Nat) : Int)))
    generalize V5.setCell ⟨w.heap.size + 1, 5, none⟩ (.int .u64 ((s.must ||| bitN k : Nat) : Int)) = U6 at *
    have x6 := HX6.out.c6
    have xf6 := HX6.out.free 6
    refine tks [10] 1 rfl (by kernel_rfl) (fun _ _ _ _ h => h) (by assumption) (fun KT hKT => ?_)
    refine tkT (by (simp only [gA, gB, gC]; rfl)) (by rfl) (by (intro w hSw; (simp only [Holds] at hSw); go_simp <;> with_reducible rfl)) ?_
    simp only [Act.put, pA, pB, pC]
    refine hKT _ ?_
    clear KT hKT
    refine wpAnyH_ready (rs := [11]) (by kernel_rfl) (by simp) ?_
    refine (AllReadyH.cons (o := ?oz186) ?iz186 (fun K hK => ?kz186) AllReadyH.nil)
    case iz186 => (simp only [List.getElem?_toArray, List.getElem?_cons_zero, List.getElem?_cons_succ]; rfl)
    go_simp
    refine hK.out _ _ (Holds.set (by simp) hSn hlt3.out) (fun hSn => ?_)
    refine wpAnyH_done (by kernel_rfl) ?_ _
    clear hK x6 xf6
    have HX := Lib.hid (HX6.out.set6 (s.may ||| bitN k))
    have HR0 := Lib.hid (HR6.out.other ⟨w.heap.size + 1, 6, none⟩ (.int .u64 ((s.may ||| bitN k : Nat) : Int)) (by simp))
    have HB := Lib.hid (HB6.out.setCell (p := ⟨w.heap.size + 1, 6, none⟩) (by simp) (.int .u64 ((s.may ||| bitN k : Nat) : Int)))
    generalize U6.setCell ⟨w.heap.size + 1, 6, none⟩ (.int .u64 ((s.may ||| bitN k : Nat) : Int)) = W6 at *
    clear HX6 HR6 HB6 HXd HRd HBd HS0 hlt hlt3 Bc hSn
    have z0 := HX.out.c0
    have z1 := HX.out.c1
    have z2 := HX.out.c2
    have z3 := HX.out.c3
    have z4 := HX.out.c4
    have z5 := HX.out.c5
    have z6 := HX.out.c6
    have z7 := HX.out.c7
    go_wp2_with (refine wpList_store_state (by rfl) (.tmp 4) (.tmp 49) (by rfl) w.heap.size _ (⟨k, s.car, begS I s k + t.s, s.load + t.d, s.first, s.must ||| bitN k, s.may ||| bitN k, s.on⟩) (by rfl) (by rfl) HR0.out ?_)
    clear z0 z1 z2 z3 z4 z5 z6 z7
    intro WE hE hbE
    have z0 := hE.c0
    have z1 := hE.c1
    have z2 := hE.c2
    have z3 := hE.c3
    have z4 := hE.c4
    have z5 := hE.c5
    have z6 := hE.c6
    have z7 := hE.c7
    go_wp2
    exact bodyPost_ret (v := staV (⟨k, s.car, begS I s k + t.s, s.load + t.d, s.first, s.must ||| bitN k, s.may ||| bitN k, s.on⟩)) (by simp [results, Tryz.results157, go_sem, z0, z1, z2, z3, z4, z5, z6, z7, staV]) rfl ⟨by rw [HE.out], HB.out.trans (hbE _ HNle.out)⟩

end Go.Proofs.YtgplajofemencaaGreat
/- A state stored whole, at a step of a drawn region. -/
namespace Go.Proofs.YtgplajofemencaaGreat
open Go.ChangeShapes Go.WideShapes Go.ChangeAt Go.RowKit

end Go.Proofs.YtgplajofemencaaGreat
/- The state behind a move. -/
namespace Go.Proofs.YtgplajofemencaaGreat
open Go.ChangeShapes Go.WideShapes Go.ChangeAt Go.RowKit

set_option maxRecDepth 1000000 in
set_option maxHeartbeats 4000000 in
theorem returned_any {w : World} {b : Nat} {I : Ins} {sv : Value} {s : Sta} {j : Int} (hc : HereB w b I sv s) (hr : SRow w sv I.l) (hg : GoOn I s) :
    Calls Tryz.prog 127 #[.pointer (some ⟨b, 0, none⟩), .int .i64 j] w fun e w' => e = .returned (staV (homeS I s)) ∧ Below w.heap.size w w' := by
  have HC := Lib.hid hc
  have hbl := hc.lt
  have b1 := (goOn_bd hg).2.1
  have e1 : IntKind.i64.wrap (s.car + 1) = s.car + 1 := IntWalk.i64_in _ (by omega)
  clear b1
  have hl0 : 0 < I.l.length := (pmay_len hg.1).1
  obtain ⟨ad, cap, rfl, _⟩ := hr.form
  obtain ⟨tb, off, rfl, hkt, hlt0⟩ := srow_at hr 0 hl0
  have HKT := Lib.hid (show At w tb off (nth I.l 0) by have h0 := hkt; rw [Nat.zero_mul, Nat.add_zero] at h0; exact h0)
  clear hkt
  have hki : (0 : Int) < (I.l.length : Int) := by omega
  have hlt2 := Lib.hid (show Lows w.heap.size (cellsH b I (.slice (some ⟨tb, off, none⟩) I.l.length cap) s ++ cellsF tb off (nth I.l 0)) from Lows.app (lows_H hbl) (lows_at hlt0))
  have HH := Lib.hid (show ∀ w', Below w.heap.size w w' → Holds (cellsH b I (.slice (some ⟨tb, off, none⟩) I.l.length cap) s ++ cellsF tb off (nth I.l 0)) w' from fun w' hb => Holds.app.2 ⟨(HC.out.later hb).holds, holds_at (HKT.out.below hlt0 hb)⟩)
  have HE := Lib.hid (show homeS I s = ⟨0, s.car + 1, (nth I.l 0).r, 0, s.first, s.must, s.may, s.on⟩ from rfl)
  clear hc hr hg
  have q4 := HC.out.c4
  have q5 := HC.out.c5
  have q6 := HC.out.c6
  have q7 := HC.out.c7
  have q8 := HC.out.c8
  have q9 := HC.out.c9
  have q10 := HC.out.c10
  have q11 := HC.out.c11
  have hh : ∀ i o, (w.alloc o).cell? ⟨b, i, none⟩ = w.cell? ⟨b, i, none⟩ := fun i o => (((Below.refl w.heap.size w).alloc (Nat.le_refl _) o).cell hbl)
  go_enter Tryz.func127, Tryz.ntmps127
  go_upto_region 2 with fail
  have HR0 := Lib.hid ((st_new w noughtS).later ((Below.refl _ _).alloc (Nat.le_refl _) (boxSt s)))
  have HX := Lib.hid (st_new (w.alloc (boxSt noughtS)) s)
  have HB := Lib.hid (((Below.refl w.heap.size w).alloc (Nat.le_refl _) (boxSt noughtS)).alloc (by simp) (boxSt s))
  have hsz : (w.alloc (boxSt noughtS)).heap.size = w.heap.size + 1 := by simp
  rw [hsz] at HX
  clear hsz hh q4 q5 q6 q7 q8 q9 q10 q11
  change Code.wp _ _ _ _ ((w.alloc (boxSt noughtS)).alloc (boxSt s))
  generalize (w.alloc (boxSt noughtS)).alloc (boxSt s) = W3 at *
  have Xle := Lib.hid (Nat.le_succ w.heap.size)
  have Xlt := Lib.hid (Nat.lt_succ_self w.heap.size)
  generalize nth I.l 0 = t at *
  have HBd := Lib.hid HB.out.drew
  have HXd := Lib.hid (HX.out.later (Below.refl _ _).drew)
  have HRd := Lib.hid (HR0.out.later (Below.refl _ _).drew)
  have HS0 := Lib.hid (HH.out _ HBd.out)
  refine wp_region_held_drew (S := Holds (cellsH b I (.slice (some ⟨tb, off, none⟩) I.l.length cap) s ++ cellsF tb off t)) (by kernel_rfl) HS0.out (fun hSn => ?_)
  clear HB HX HR0
  generalize W3.drew = V3 at *
  have hlt := Lib.hid (show Lows V3.heap.size (cellsH b I (.slice (some ⟨tb, off, none⟩) I.l.length cap) s ++ cellsF tb off t) from Lows.app (lows_H (Nat.lt_of_lt_of_le hbl HBd.out.size)) (lows_at (Nat.lt_of_lt_of_le hlt0 HBd.out.size)))
  have hlt3 := Lib.hid hlt2.out
  have Bc := Lib.hid (Below.refl V3.heap.size V3)
  simp only [cellsH, cellsF, List.cons_append, List.nil_append] at HS0 hlt hlt3 hSn ⊢
  have x1 := HXd.out.c1
  refine tks [0, 3, 4, 5, 6, 7, 8, 9, 10] 9 rfl (by kernel_rfl) (fun _ _ _ _ h => h) (by assumption) (fun KT hKT => ?_)
  iterate 9 (refine tkT (by (simp only [gA, gB, gC]; rfl)) (by rfl) (by (intro w hSw; (simp only [Holds] at hSw); go_simp <;> with_reducible rfl)) ?_; simp only [Act.put, pA, pB, pC])
  refine hKT _ ?_
  clear KT hKT
  refine wpAnyH_ready (rs := [1]) (by kernel_rfl) (by simp) ?_
  refine (AllReadyH.cons (o := ?oz187) ?iz187 (fun K hK => ?kz187) AllReadyH.nil)
  case iz187 => (simp only [List.getElem?_toArray, List.getElem?_cons_zero, List.getElem?_cons_succ]; rfl)
  go_simp
  refine held_more hK HS0.out hlt Bc.out (fun Bc hSn => ?_)
  clear hK x1
  refine tks [2] 1 rfl (by kernel_rfl) (fun _ _ _ _ h => h) (by assumption) (fun KT hKT => ?_)
  refine tkT (by (simp only [gA, gB, gC]; rfl)) (by rfl) (by (intro w hSw; (simp only [Holds] at hSw); go_simp <;> with_reducible rfl)) ?_
  simp only [Act.put, pA, pB, pC]
  refine hKT _ ?_
  clear KT hKT
  have x0 := HXd.out.c0
  have xf := HXd.out.free 0
  refine tks [11] 1 rfl (by kernel_rfl) (fun _ _ _ _ h => h) (by assumption) (fun KT hKT => ?_)
  refine tkT (by (simp only [gA, gB, gC]; rfl)) (by rfl) (by (intro w hSw; (simp only [Holds] at hSw); go_simp <;> with_reducible rfl)) ?_
  simp only [Act.put, pA, pB, pC]
  refine hKT _ ?_
  clear KT hKT
  refine wpAnyH_ready (rs := [12]) (by kernel_rfl) (by simp) ?_
  refine (AllReadyH.cons (o := ?oz188) ?iz188 (fun K hK => ?kz188) AllReadyH.nil)
  case iz188 => (simp only [List.getElem?_toArray, List.getElem?_cons_zero, List.getElem?_cons_succ]; rfl)
  go_simp
  refine hK.out _ _ (Holds.set (by first | exact Xle.out | simp) hSn hlt3.out) (fun hSn => ?_)
  clear hK x0 xf
  have HXn := Lib.hid (HXd.out.set0 (0))
  have HRn := Lib.hid (HRd.out.other ⟨w.heap.size + 1, 0, none⟩ (.int .i64 (0)) (by have := Xlt.out; simp <;> omega))
  have HBn := Lib.hid (HBd.out.setCell (p := ⟨w.heap.size + 1, 0, none⟩) Xle.out (.int .i64 (0)))
  generalize V3.setCell ⟨w.heap.size + 1, 0, none⟩ (.int .i64 (0)) = V4 at *
  clear HXd HRd HBd
  have HXd := HXn
  have HRd := HRn
  have HBd := HBn
  clear HXn HRn HBn
  have x0 := HXd.out.c1
  have xf := HXd.out.free 1
  refine tks [13] 1 rfl (by kernel_rfl) (fun _ _ _ _ h => h) (by assumption) (fun KT hKT => ?_)
  refine tkT (by (simp only [gA, gB, gC]; rfl)) (by rfl) (by (intro w hSw; (simp only [Holds] at hSw); go_simp <;> with_reducible rfl)) ?_
  simp only [Act.put, pA, pB, pC]
  refine hKT _ ?_
  clear KT hKT
  refine wpAnyH_ready (rs := [14]) (by kernel_rfl) (by simp) ?_
  refine (AllReadyH.cons (o := ?oz189) ?iz189 (fun K hK => ?kz189) AllReadyH.nil)
  case iz189 => (simp only [List.getElem?_toArray, List.getElem?_cons_zero, List.getElem?_cons_succ]; rfl)
  go_simp
  refine hK.out _ _ (Holds.set (by first | exact Xle.out | simp) hSn hlt3.out) (fun hSn => ?_)
  clear hK x0 xf
  have HXn := Lib.hid (HXd.out.set1 (s.car + 1))
  have HRn := Lib.hid (HRd.out.other ⟨w.heap.size + 1, 1, none⟩ (.int .i64 (s.car + 1)) (by have := Xlt.out; simp <;> omega))
  have HBn := Lib.hid (HBd.out.setCell (p := ⟨w.heap.size + 1, 1, none⟩) Xle.out (.int .i64 (s.car + 1)))
  generalize V4.setCell ⟨w.heap.size + 1, 1, none⟩ (.int .i64 (s.car + 1)) = V5 at *
  clear HXd HRd HBd
  have HXd := HXn
  have HRd := HRn
  have HBd := HBn
  clear HXn HRn HBn
  have x0 := HXd.out.c2
  have xf := HXd.out.free 2
  refine tks [15] 1 rfl (by kernel_rfl) (fun _ _ _ _ h => h) (by assumption) (fun KT hKT => ?_)
  refine tkT (by (simp only [gA, gB, gC]; rfl)) (by rfl) (by (intro w hSw; (simp only [Holds] at hSw); go_simp <;> with_reducible rfl)) ?_
  simp only [Act.put, pA, pB, pC]
  refine hKT _ ?_
  clear KT hKT
  refine wpAnyH_ready (rs := [16]) (by kernel_rfl) (by simp) ?_
  refine (AllReadyH.cons (o := ?oz190) ?iz190 (fun K hK => ?kz190) AllReadyH.nil)
  case iz190 => (simp only [List.getElem?_toArray, List.getElem?_cons_zero, List.getElem?_cons_succ]; rfl)
  go_simp
  refine hK.out _ _ (Holds.set (by first | exact Xle.out | simp) hSn hlt3.out) (fun hSn => ?_)
  clear hK x0 xf
  have HXn := Lib.hid (HXd.out.set2 (t.r))
  have HRn := Lib.hid (HRd.out.other ⟨w.heap.size + 1, 2, none⟩ (.int .i64 (t.r)) (by have := Xlt.out; simp <;> omega))
  have HBn := Lib.hid (HBd.out.setCell (p := ⟨w.heap.size + 1, 2, none⟩) Xle.out (.int .i64 (t.r)))
  generalize V5.setCell ⟨w.heap.size + 1, 2, none⟩ (.int .i64 (t.r)) = V6 at *
  clear HXd HRd HBd
  have HXd := HXn
  have HRd := HRn
  have HBd := HBn
  clear HXn HRn HBn
  have x0 := HXd.out.c3
  have xf := HXd.out.free 3
  refine tks [17] 1 rfl (by kernel_rfl) (fun _ _ _ _ h => h) (by assumption) (fun KT hKT => ?_)
  refine tkT (by (simp only [gA, gB, gC]; rfl)) (by rfl) (by (intro w hSw; (simp only [Holds] at hSw); go_simp <;> with_reducible rfl)) ?_
  simp only [Act.put, pA, pB, pC]
  refine hKT _ ?_
  clear KT hKT
  refine wpAnyH_ready (rs := [18]) (by kernel_rfl) (by simp) ?_
  refine (AllReadyH.cons (o := ?oz191) ?iz191 (fun K hK => ?kz191) AllReadyH.nil)
  case iz191 => (simp only [List.getElem?_toArray, List.getElem?_cons_zero, List.getElem?_cons_succ]; rfl)
  go_simp
  refine hK.out _ _ (Holds.set (by first | exact Xle.out | simp) hSn hlt3.out) (fun hSn => ?_)
  clear hK x0 xf
  have HXn := Lib.hid (HXd.out.set3 (0))
  have HRn := Lib.hid (HRd.out.other ⟨w.heap.size + 1, 3, none⟩ (.int .i64 (0)) (by have := Xlt.out; simp <;> omega))
  have HBn := Lib.hid (HBd.out.setCell (p := ⟨w.heap.size + 1, 3, none⟩) Xle.out (.int .i64 (0)))
  generalize V6.setCell ⟨w.heap.size + 1, 3, none⟩ (.int .i64 (0)) = V7 at *
  clear HXd HRd HBd
  have HXd := HXn
  have HRd := HRn
  have HBd := HBn
  clear HXn HRn HBn
  refine wpAnyH_done (by kernel_rfl) ?_ _
  have HX := HXd
  have HR0 := HRd
  have HB := HBd
  clear HXd HRd HBd HS0 hlt hlt3 Bc hSn
  have z0 := HX.out.c0
  have z1 := HX.out.c1
  have z2 := HX.out.c2
  have z3 := HX.out.c3
  have z4 := HX.out.c4
  have z5 := HX.out.c5
  have z6 := HX.out.c6
  have z7 := HX.out.c7
  go_wp2_with (refine wpList_store_state (by rfl) (.tmp 4) (.tmp 25) (by rfl) w.heap.size _ (⟨0, s.car + 1, t.r, 0, s.first, s.must, s.may, s.on⟩) (by rfl) (by rfl) HR0.out ?_)
  clear z0 z1 z2 z3 z4 z5 z6 z7
  intro WE hE hbE
  have z0 := hE.c0
  have z1 := hE.c1
  have z2 := hE.c2
  have z3 := hE.c3
  have z4 := hE.c4
  have z5 := hE.c5
  have z6 := hE.c6
  have z7 := hE.c7
  go_wp2
  exact bodyPost_ret (v := staV (⟨0, s.car + 1, t.r, 0, s.first, s.must, s.may, s.on⟩)) (by simp [results, Tryz.results127, go_sem, z0, z1, z2, z3, z4, z5, z6, z7, staV]) rfl ⟨by rw [HE.out], HB.out.trans (hbE _ (Nat.le_refl _))⟩
set_option maxRecDepth 1000000 in
set_option maxHeartbeats 4000000 in
theorem taken_any {w : World} {b : Nat} {I : Ins} {sv : Value} {s : Sta} {j : Int} (hc : HereB w b I sv s) (hr : SRow w sv I.l) (hg : GoOn I s) (hs : SetsOk s) (hj : 1 ≤ j ∧ j ≤ I.p) (hl : 0 ≤ s.load) :
    Calls Tryz.prog 129 #[.pointer (some ⟨b, 0, none⟩), .int .i64 j] w fun e w' => e = .returned (staV (visitS I s j)) ∧ Below w.heap.size w w' := by
  have HC := Lib.hid hc
  have HR := Lib.hid hr
  have HG := Lib.hid hg
  have HS := Lib.hid hs
  have hbl := hc.lt
  have hf := fine_of hg.1
  have hp0 := hf.p0
  have hp1 := hf.p1
  have HJ := Lib.hid (show 0 ≤ j ∧ j ≤ 2 * I.p by omega)
  have b1 := hf.take j hj.1 hj.2
  have HV := Lib.hid (show ∀ po ca ti lo fi mu ma on, seenS I s j = ⟨po, ca, ti, lo, fi, mu, ma, on⟩ → visitS I s j = ⟨po, ca, ti, lo, if s.pos = 0 then j else fi, mu, ma, on ||| bitN j⟩ from by
    intro po ca ti lo fi mu ma on h
    unfold seenS at h
    simp only [Sta.mk.injEq] at h
    obtain ⟨rfl, rfl, rfl, rfl, rfl, rfl, rfl, rfl⟩ := h
    unfold visitS
    rw [if_pos hj.2, Int.max_eq_left (by omega)])
  have HO := Lib.hid (show ∀ po ca ti lo fi mu ma on, seenS I s j = ⟨po, ca, ti, lo, fi, mu, ma, on⟩ → on < 18446744073709551616 from by
    intro po ca ti lo fi mu ma on h
    unfold seenS at h
    simp only [Sta.mk.injEq] at h
    rw [← h.2.2.2.2.2.2.2]; exact HS.out.2.2)
  clear b1
  clear hc hr hs hf
  clear hg hj hl hp0 hp1
  go_enter Tryz.func129, Tryz.ntmps129
  go_wp2_with fail
  have HB0 := Lib.hid ((Below.refl w.heap.size w).alloc (Nat.le_refl _) (boxSt noughtS))
  have HR00 := Lib.hid (st_new w noughtS)
  change Calls _ _ _ (w.alloc (boxSt noughtS)) _
  generalize w.alloc (boxSt noughtS) = W0 at *
  refine (visited_any (HC.out.later HB0.out) (HR.out.below HB0.out) HG.out HS.out HJ.out).mono ?_
  rintro e w1 ⟨rfl, hb⟩
  have HR01 := Lib.hid (HR00.out.later hb)
  have HB1 := Lib.hid (HB0.out.trans (hb.mono HB0.out.size))
  clear hb HB0 HR00
  obtain ⟨po, ca, ti, lo, fi, mu, ma, on, hm⟩ : ∃ po ca ti lo fi mu ma on, seenS I s j = ⟨po, ca, ti, lo, fi, mu, ma, on⟩ := ⟨_, _, _, _, _, _, _, _, rfl⟩
  have HM := Lib.hid hm
  rw [hm]
  clear hm
  unfold staV
  go_upto_region 2 with fail
  have HX := Lib.hid (st_new w1 ⟨po, ca, ti, lo, fi, mu, ma, on⟩)
  have HR0 := Lib.hid (HR01.out.later ((Below.refl _ _).alloc (Nat.le_refl _) (boxSt ⟨po, ca, ti, lo, fi, mu, ma, on⟩)))
  have HB := Lib.hid (HB1.out.alloc HB1.out.size (boxSt ⟨po, ca, ti, lo, fi, mu, ma, on⟩))
  have Xlt := Lib.hid (show w.heap.size < w1.heap.size from HR01.out.lt)
  change Code.wp _ _ _ _ (w1.alloc (boxSt ⟨po, ca, ti, lo, fi, mu, ma, on⟩))
  generalize w1.alloc (boxSt ⟨po, ca, ti, lo, fi, mu, ma, on⟩) = W2 at *
  generalize w1.heap.size = x at *
  have Xle := Lib.hid (Nat.le_of_lt Xlt.out)
  clear HB1 HR01
  have HV2 := Lib.hid (HV.out _ _ _ _ _ _ _ _ HM.out)
  have HO2 := Lib.hid (HO.out _ _ _ _ _ _ _ _ HM.out)
  clear HV HO HM
  have q4 := (HC.out.later HB.out).c4
  by_cases h0 : s.pos = 0
  · have b0 : (s.pos == 0) = true := by simp [h0]
    rw [if_pos h0] at HV2
    clear h0
    have x0 := HX.out.c4
    have xf := HX.out.free 4
    go_upto_region 4 with fail
    clear x0 xf q4 b0
    have HXn := Lib.hid (HX.out.set4 (j))
    have HRn := Lib.hid (HR0.out.other ⟨x, 4, none⟩ (.int .i64 (j)) (by have := Xlt.out; simp <;> omega))
    have HBn := Lib.hid (HB.out.setCell (p := ⟨x, 4, none⟩) Xle.out (.int .i64 (j)))
    generalize W2.setCell ⟨x, 4, none⟩ (.int .i64 (j)) = W3 at *
    clear HX HR0 HB
    have HX := HXn
    have HR0 := HRn
    have HB := HBn
    clear HXn HRn HBn
    have x7 := HX.out.c7
    have xf := HX.out.free 7
    go_wp2_with fail
    refine (ewith_any _ _ _ HO2.out).mono ?_
    rintro e w' ⟨rfl, rfl⟩
    go_upto_region 5 with fail
    clear x7 xf
    have HXn := Lib.hid (HX.out.set7 (on ||| bitN j))
    have HRn := Lib.hid (HR0.out.other ⟨x, 7, none⟩ (.int .u64 ((on ||| bitN j : Nat) : Int)) (by have := Xlt.out; simp <;> omega))
    have HBn := Lib.hid (HB.out.setCell (p := ⟨x, 7, none⟩) Xle.out (.int .u64 ((on ||| bitN j : Nat) : Int)))
    generalize W3.setCell ⟨x, 7, none⟩ (.int .u64 ((on ||| bitN j : Nat) : Int)) = W4 at *
    clear HX HR0 HB
    have HX := HXn
    have HR0 := HRn
    have HB := HBn
    clear HXn HRn HBn
    have z0 := HX.out.c0
    have z1 := HX.out.c1
    have z2 := HX.out.c2
    have z3 := HX.out.c3
    have z4 := HX.out.c4
    have z5 := HX.out.c5
    have z6 := HX.out.c6
    have z7 := HX.out.c7
    go_wp2_with (refine wpList_store_state (by rfl) (.tmp 4) (.tmp 22) (by rfl) w.heap.size _ (⟨po, ca, ti, lo, j, mu, ma, on ||| bitN j⟩) (by rfl) (by rfl) HR0.out ?_)
    clear z0 z1 z2 z3 z4 z5 z6 z7
    intro WE hE hbE
    have z0 := hE.c0
    have z1 := hE.c1
    have z2 := hE.c2
    have z3 := hE.c3
    have z4 := hE.c4
    have z5 := hE.c5
    have z6 := hE.c6
    have z7 := hE.c7
    go_wp2
    exact bodyPost_ret (v := staV (⟨po, ca, ti, lo, j, mu, ma, on ||| bitN j⟩)) (by simp [results, Tryz.results129, go_sem, z0, z1, z2, z3, z4, z5, z6, z7, staV]) rfl ⟨by rw [HV2.out], HB.out.trans (hbE _ (Nat.le_refl _))⟩
  · have b0 : (s.pos == 0) = false := by simp [h0]
    rw [if_neg h0] at HV2
    clear h0
    go_upto_region 4 with fail
    clear q4 b0
    have x7 := HX.out.c7
    have xf := HX.out.free 7
    go_wp2_with fail
    refine (ewith_any _ _ _ HO2.out).mono ?_
    rintro e w' ⟨rfl, rfl⟩
    go_upto_region 5 with fail
    clear x7 xf
    have HXn := Lib.hid (HX.out.set7 (on ||| bitN j))
    have HRn := Lib.hid (HR0.out.other ⟨x, 7, none⟩ (.int .u64 ((on ||| bitN j : Nat) : Int)) (by have := Xlt.out; simp <;> omega))
    have HBn := Lib.hid (HB.out.setCell (p := ⟨x, 7, none⟩) Xle.out (.int .u64 ((on ||| bitN j : Nat) : Int)))
    generalize W2.setCell ⟨x, 7, none⟩ (.int .u64 ((on ||| bitN j : Nat) : Int)) = W4 at *
    clear HX HR0 HB
    have HX := HXn
    have HR0 := HRn
    have HB := HBn
    clear HXn HRn HBn
    have z0 := HX.out.c0
    have z1 := HX.out.c1
    have z2 := HX.out.c2
    have z3 := HX.out.c3
    have z4 := HX.out.c4
    have z5 := HX.out.c5
    have z6 := HX.out.c6
    have z7 := HX.out.c7
    go_wp2_with (refine wpList_store_state (by rfl) (.tmp 4) (.tmp 22) (by rfl) w.heap.size _ (⟨po, ca, ti, lo, fi, mu, ma, on ||| bitN j⟩) (by rfl) (by rfl) HR0.out ?_)
    clear z0 z1 z2 z3 z4 z5 z6 z7
    intro WE hE hbE
    have z0 := hE.c0
    have z1 := hE.c1
    have z2 := hE.c2
    have z3 := hE.c3
    have z4 := hE.c4
    have z5 := hE.c5
    have z6 := hE.c6
    have z7 := hE.c7
    go_wp2
    exact bodyPost_ret (v := staV (⟨po, ca, ti, lo, fi, mu, ma, on ||| bitN j⟩)) (by simp [results, Tryz.results129, go_sem, z0, z1, z2, z3, z4, z5, z6, z7, staV]) rfl ⟨by rw [HV2.out], HB.out.trans (hbE _ (Nat.le_refl _))⟩
set_option maxRecDepth 1000000 in
set_option maxHeartbeats 4000000 in
theorem brought_any {w : World} {b : Nat} {I : Ins} {sv : Value} {s : Sta} {j : Int} (hc : HereB w b I sv s) (hr : SRow w sv I.l) (hg : GoOn I s) (hs : SetsOk s) (hj : I.p < j ∧ j ≤ 2 * I.p) (hpos : s.pos ≠ 0) :
    Calls Tryz.prog 131 #[.pointer (some ⟨b, 0, none⟩), .int .i64 j] w fun e w' => e = .returned (staV (visitS I s j)) ∧ Below w.heap.size w w' := by
  have HC := Lib.hid hc
  have HR := Lib.hid hr
  have HG := Lib.hid hg
  have HS := Lib.hid hs
  have hbl := hc.lt
  have hf := fine_of hg.1
  have hp0 := hf.p0
  have hp1 := hf.p1
  have HJ := Lib.hid (show 0 ≤ j ∧ j ≤ 2 * I.p by omega)
  have HV := Lib.hid (show ∀ po ca ti lo fi mu ma on, seenS I s j = ⟨po, ca, ti, lo, fi, mu, ma, on⟩ → visitS I s j = ⟨po, ca, ti, max lo 0, fi, mu, ma, minus on (bitN (j - I.p))⟩ from by
    intro po ca ti lo fi mu ma on h
    unfold seenS at h
    simp only [Sta.mk.injEq] at h
    obtain ⟨rfl, rfl, rfl, rfl, rfl, rfl, rfl, rfl⟩ := h
    unfold visitS
    rw [if_neg hpos, if_neg (by omega)])
  have HO := Lib.hid (show ∀ po ca ti lo fi mu ma on, seenS I s j = ⟨po, ca, ti, lo, fi, mu, ma, on⟩ → on < 18446744073709551616 from by
    intro po ca ti lo fi mu ma on h
    unfold seenS at h
    simp only [Sta.mk.injEq] at h
    rw [← h.2.2.2.2.2.2.2]; exact HS.out.2.2)
  have e1 : IntKind.i64.wrap (j - I.p) = j - I.p := IntWalk.i64_in _ (by omega)
  clear hc hr hs hf
  clear hg hj hpos hp0 hp1
  obtain ⟨ad, cap, rfl, _⟩ := HR.out.form
  have hlt2 := Lib.hid (show Lows w.heap.size (cellsH b I (.slice ad I.l.length cap) s) from lows_H hbl)
  have HH := Lib.hid (show ∀ w', Below w.heap.size w w' → Holds (cellsH b I (.slice ad I.l.length cap) s) w' from fun w' hb => (HC.out.later hb).holds)
  go_enter Tryz.func131, Tryz.ntmps131
  go_wp2_with fail
  have HB0 := Lib.hid ((Below.refl w.heap.size w).alloc (Nat.le_refl _) (boxSt noughtS))
  have HR00 := Lib.hid (st_new w noughtS)
  change Calls _ _ _ (w.alloc (boxSt noughtS)) _
  generalize w.alloc (boxSt noughtS) = W0 at *
  refine (visited_any (HC.out.later HB0.out) (HR.out.below HB0.out) HG.out HS.out HJ.out).mono ?_
  rintro e w1 ⟨rfl, hb⟩
  have HR01 := Lib.hid (HR00.out.later hb)
  have HB1 := Lib.hid (HB0.out.trans (hb.mono HB0.out.size))
  clear hb HB0 HR00
  obtain ⟨po, ca, ti, lo, fi, mu, ma, on, hm⟩ : ∃ po ca ti lo fi mu ma on, seenS I s j = ⟨po, ca, ti, lo, fi, mu, ma, on⟩ := ⟨_, _, _, _, _, _, _, _, rfl⟩
  have HM := Lib.hid hm
  rw [hm]
  clear hm
  unfold staV
  go_upto_region 2 with fail
  have HX := Lib.hid (st_new w1 ⟨po, ca, ti, lo, fi, mu, ma, on⟩)
  have HR0 := Lib.hid (HR01.out.later ((Below.refl _ _).alloc (Nat.le_refl _) (boxSt ⟨po, ca, ti, lo, fi, mu, ma, on⟩)))
  have HB := Lib.hid (HB1.out.alloc HB1.out.size (boxSt ⟨po, ca, ti, lo, fi, mu, ma, on⟩))
  have Xlt := Lib.hid (show w.heap.size < w1.heap.size from HR01.out.lt)
  change Code.wp _ _ _ _ (w1.alloc (boxSt ⟨po, ca, ti, lo, fi, mu, ma, on⟩))
  generalize w1.alloc (boxSt ⟨po, ca, ti, lo, fi, mu, ma, on⟩) = W2 at *
  generalize w1.heap.size = x at *
  have Xle := Lib.hid (Nat.le_of_lt Xlt.out)
  clear HB1 HR01
  have HV2 := Lib.hid (HV.out _ _ _ _ _ _ _ _ HM.out)
  have HO2 := Lib.hid (HO.out _ _ _ _ _ _ _ _ HM.out)
  clear HV HO HM
  have x3 := HX.out.c3
  have xf := HX.out.free 3
  rcases Int.lt_or_le lo 0 with h | h
  · have hmx : max lo 0 = 0 := Int.max_eq_right (Int.le_of_lt h)
    rw [hmx] at HV2
    go_upto_region 3 with fail
    clear x3 xf h hmx
    have HXn := Lib.hid (HX.out.set3 (0))
    have HRn := Lib.hid (HR0.out.other ⟨x, 3, none⟩ (.int .i64 (0)) (by have := Xlt.out; simp <;> omega))
    have HBn := Lib.hid (HB.out.setCell (p := ⟨x, 3, none⟩) Xle.out (.int .i64 (0)))
    generalize W2.setCell ⟨x, 3, none⟩ (.int .i64 (0)) = W3 at *
    clear HX HR0 HB
    have HX := HXn
    have HR0 := HRn
    have HB := HBn
    clear HXn HRn HBn
    have HBd := Lib.hid HB.out.drew
    have HXd := Lib.hid (HX.out.later (Below.refl _ _).drew)
    have HRd := Lib.hid (HR0.out.later (Below.refl _ _).drew)
    have HS0 := Lib.hid (HH.out _ HBd.out)
    refine wp_region_held_drew (S := Holds (cellsH b I (.slice ad I.l.length cap) s)) (by kernel_rfl) HS0.out (fun hSn => ?_)
    clear HB HX HR0
    generalize W3.drew = V3 at *
    have hlt := Lib.hid (show Lows V3.heap.size (cellsH b I (.slice ad I.l.length cap) s) from lows_H (Nat.lt_of_lt_of_le hbl HBd.out.size))
    have hlt3 := Lib.hid hlt2.out
    have Bc := Lib.hid (Below.refl V3.heap.size V3)
    simp only [cellsH] at HS0 hlt hlt3 hSn ⊢
    have x7 := HXd.out.c7
    refine tks [0, 2, 3, 4, 5, 6, 7, 8] 8 rfl (by kernel_rfl) (fun _ _ _ _ h => h) (by assumption) (fun KT hKT => ?_)
    iterate 8 (refine tkT (by (simp only [gA, gB, gC]; rfl)) (by rfl) (by (intro w hSw; (simp only [Holds] at hSw); go_simp <;> with_reducible rfl)) ?_; simp only [Act.put, pA, pB, pC])
    refine hKT _ ?_
    clear KT hKT
    refine wpAnyH_ready (rs := [1]) (by kernel_rfl) (by simp) ?_
    refine (AllReadyH.cons (o := ?oz192) ?iz192 (fun K hK => ?kz192) AllReadyH.nil)
    case iz192 => (simp only [List.getElem?_toArray, List.getElem?_cons_zero, List.getElem?_cons_succ]; rfl)
    go_simp
    refine held_more hK HS0.out hlt Bc.out (fun Bc hSn => ?_)
    clear hK x7
    refine wpAnyH_ready (rs := [9]) (by kernel_rfl) (by simp) ?_
    refine AllReadyH.cons (o := ?oz193) ?iz193 (fun K hK => ?kz193) AllReadyH.nil
    case iz193 => (simp only [List.getElem?_toArray, List.getElem?_cons_zero, List.getElem?_cons_succ]; rfl)
    go_simp
    refine (ewithout_any _ _ _ HO2.out).mono ?_
    rintro e w' ⟨rfl, rfl⟩
    refine held_more hK HS0.out hlt Bc.out (fun Bc hSn => ?_)
    clear hK
    have x0 := HXd.out.c7
    have xf := HXd.out.free 7
    refine tks [10] 1 rfl (by kernel_rfl) (fun _ _ _ _ h => h) (by assumption) (fun KT hKT => ?_)
    refine tkT (by (simp only [gA, gB, gC]; rfl)) (by rfl) (by (intro w hSw; (simp only [Holds] at hSw); go_simp <;> with_reducible rfl)) ?_
    simp only [Act.put, pA, pB, pC]
    refine hKT _ ?_
    clear KT hKT
    refine wpAnyH_ready (rs := [11]) (by kernel_rfl) (by simp) ?_
    refine (AllReadyH.cons (o := ?oz194) ?iz194 (fun K hK => ?kz194) AllReadyH.nil)
    case iz194 => (simp only [List.getElem?_toArray, List.getElem?_cons_zero, List.getElem?_cons_succ]; rfl)
    go_simp
    refine hK.out _ _ (Holds.set (by first | exact Xle.out | simp) hSn hlt3.out) (fun hSn => ?_)
    clear hK x0 xf
    have HXn := Lib.hid (HXd.out.set7 (minus on (bitN (j - I.p))))
    have HRn := Lib.hid (HRd.out.other ⟨x, 7, none⟩ (.int .u64 ((minus on (bitN (j - I.p)) : Nat) : Int)) (by have := Xlt.out; simp <;> omega))
    have HBn := Lib.hid (HBd.out.setCell (p := ⟨x, 7, none⟩) Xle.out (.int .u64 ((minus on (bitN (j - I.p)) : Nat) : Int)))
    generalize V3.setCell ⟨x, 7, none⟩ (.int .u64 ((minus on (bitN (j - I.p)) : Nat) : Int)) = V4 at *
    clear HXd HRd HBd
    have HXd := HXn
    have HRd := HRn
    have HBd := HBn
    clear HXn HRn HBn
    refine wpAnyH_done (by kernel_rfl) ?_ _
    have HX := HXd
    have HR0 := HRd
    have HB := HBd
    clear HXd HRd HBd HS0 hlt hlt3 Bc hSn
    have z0 := HX.out.c0
    have z1 := HX.out.c1
    have z2 := HX.out.c2
    have z3 := HX.out.c3
    have z4 := HX.out.c4
    have z5 := HX.out.c5
    have z6 := HX.out.c6
    have z7 := HX.out.c7
    go_wp2_with (refine wpList_store_state (by rfl) (.tmp 4) (.tmp 24) (by rfl) w.heap.size _ (⟨po, ca, ti, 0, fi, mu, ma, minus on (bitN (j - I.p))⟩) (by rfl) (by rfl) HR0.out ?_)
    clear z0 z1 z2 z3 z4 z5 z6 z7
    intro WE hE hbE
    have z0 := hE.c0
    have z1 := hE.c1
    have z2 := hE.c2
    have z3 := hE.c3
    have z4 := hE.c4
    have z5 := hE.c5
    have z6 := hE.c6
    have z7 := hE.c7
    go_wp2
    exact bodyPost_ret (v := staV (⟨po, ca, ti, 0, fi, mu, ma, minus on (bitN (j - I.p))⟩)) (by simp [results, Tryz.results131, go_sem, z0, z1, z2, z3, z4, z5, z6, z7, staV]) rfl ⟨by rw [HV2.out], HB.out.trans (hbE _ (Nat.le_refl _))⟩
  · have hmx : max lo 0 = lo := Int.max_eq_left h
    rw [hmx] at HV2
    go_upto_region 3 with fail
    clear x3 xf h hmx
    have HXn := Lib.hid (HX.out.set3 (lo))
    have HRn := Lib.hid (HR0.out.other ⟨x, 3, none⟩ (.int .i64 (lo)) (by have := Xlt.out; simp <;> omega))
    have HBn := Lib.hid (HB.out.setCell (p := ⟨x, 3, none⟩) Xle.out (.int .i64 (lo)))
    generalize W2.setCell ⟨x, 3, none⟩ (.int .i64 (lo)) = W3 at *
    clear HX HR0 HB
    have HX := HXn
    have HR0 := HRn
    have HB := HBn
    clear HXn HRn HBn
    have HBd := Lib.hid HB.out.drew
    have HXd := Lib.hid (HX.out.later (Below.refl _ _).drew)
    have HRd := Lib.hid (HR0.out.later (Below.refl _ _).drew)
    have HS0 := Lib.hid (HH.out _ HBd.out)
    refine wp_region_held_drew (S := Holds (cellsH b I (.slice ad I.l.length cap) s)) (by kernel_rfl) HS0.out (fun hSn => ?_)
    clear HB HX HR0
    generalize W3.drew = V3 at *
    have hlt := Lib.hid (show Lows V3.heap.size (cellsH b I (.slice ad I.l.length cap) s) from lows_H (Nat.lt_of_lt_of_le hbl HBd.out.size))
    have hlt3 := Lib.hid hlt2.out
    have Bc := Lib.hid (Below.refl V3.heap.size V3)
    simp only [cellsH] at HS0 hlt hlt3 hSn ⊢
    have x7 := HXd.out.c7
    refine tks [0, 2, 3, 4, 5, 6, 7, 8] 8 rfl (by kernel_rfl) (fun _ _ _ _ h => h) (by assumption) (fun KT hKT => ?_)
    iterate 8 (refine tkT (by (simp only [gA, gB, gC]; rfl)) (by rfl) (by (intro w hSw; (simp only [Holds] at hSw); go_simp <;> with_reducible rfl)) ?_; simp only [Act.put, pA, pB, pC])
    refine hKT _ ?_
    clear KT hKT
    refine wpAnyH_ready (rs := [1]) (by kernel_rfl) (by simp) ?_
    refine (AllReadyH.cons (o := ?oz195) ?iz195 (fun K hK => ?kz195) AllReadyH.nil)
    case iz195 => (simp only [List.getElem?_toArray, List.getElem?_cons_zero, List.getElem?_cons_succ]; rfl)
    go_simp
    refine held_more hK HS0.out hlt Bc.out (fun Bc hSn => ?_)
    clear hK x7
    refine wpAnyH_ready (rs := [9]) (by kernel_rfl) (by simp) ?_
    refine AllReadyH.cons (o := ?oz196) ?iz196 (fun K hK => ?kz196) AllReadyH.nil
    case iz196 => (simp only [List.getElem?_toArray, List.getElem?_cons_zero, List.getElem?_cons_succ]; rfl)
    go_simp
    refine (ewithout_any _ _ _ HO2.out).mono ?_
    rintro e w' ⟨rfl, rfl⟩
    refine held_more hK HS0.out hlt Bc.out (fun Bc hSn => ?_)
    clear hK
    have x0 := HXd.out.c7
    have xf := HXd.out.free 7
    refine tks [10] 1 rfl (by kernel_rfl) (fun _ _ _ _ h => h) (by assumption) (fun KT hKT => ?_)
    refine tkT (by (simp only [gA, gB, gC]; rfl)) (by rfl) (by (intro w hSw; (simp only [Holds] at hSw); go_simp <;> with_reducible rfl)) ?_
    simp only [Act.put, pA, pB, pC]
    refine hKT _ ?_
    clear KT hKT
    refine wpAnyH_ready (rs := [11]) (by kernel_rfl) (by simp) ?_
    refine (AllReadyH.cons (o := ?oz197) ?iz197 (fun K hK => ?kz197) AllReadyH.nil)
    case iz197 => (simp only [List.getElem?_toArray, List.getElem?_cons_zero, List.getElem?_cons_succ]; rfl)
    go_simp
    refine hK.out _ _ (Holds.set (by first | exact Xle.out | simp) hSn hlt3.out) (fun hSn => ?_)
    clear hK x0 xf
    have HXn := Lib.hid (HXd.out.set7 (minus on (bitN (j - I.p))))
    have HRn := Lib.hid (HRd.out.other ⟨x, 7, none⟩ (.int .u64 ((minus on (bitN (j - I.p)) : Nat) : Int)) (by have := Xlt.out; simp <;> omega))
    have HBn := Lib.hid (HBd.out.setCell (p := ⟨x, 7, none⟩) Xle.out (.int .u64 ((minus on (bitN (j - I.p)) : Nat) : Int)))
    generalize V3.setCell ⟨x, 7, none⟩ (.int .u64 ((minus on (bitN (j - I.p)) : Nat) : Int)) = V4 at *
    clear HXd HRd HBd
    have HXd := HXn
    have HRd := HRn
    have HBd := HBn
    clear HXn HRn HBn
    refine wpAnyH_done (by kernel_rfl) ?_ _
    have HX := HXd
    have HR0 := HRd
    have HB := HBd
    clear HXd HRd HBd HS0 hlt hlt3 Bc hSn
    have z0 := HX.out.c0
    have z1 := HX.out.c1
    have z2 := HX.out.c2
    have z3 := HX.out.c3
    have z4 := HX.out.c4
    have z5 := HX.out.c5
    have z6 := HX.out.c6
    have z7 := HX.out.c7
    go_wp2_with (refine wpList_store_state (by rfl) (.tmp 4) (.tmp 24) (by rfl) w.heap.size _ (⟨po, ca, ti, lo, fi, mu, ma, minus on (bitN (j - I.p))⟩) (by rfl) (by rfl) HR0.out ?_)
    clear z0 z1 z2 z3 z4 z5 z6 z7
    intro WE hE hbE
    have z0 := hE.c0
    have z1 := hE.c1
    have z2 := hE.c2
    have z3 := hE.c3
    have z4 := hE.c4
    have z5 := hE.c5
    have z6 := hE.c6
    have z7 := hE.c7
    go_wp2
    exact bodyPost_ret (v := staV (⟨po, ca, ti, lo, fi, mu, ma, minus on (bitN (j - I.p))⟩)) (by simp [results, Tryz.results131, go_sem, z0, z1, z2, z3, z4, z5, z6, z7, staV]) rfl ⟨by rw [HV2.out], HB.out.trans (hbE _ (Nat.le_refl _))⟩
end Go.Proofs.YtgplajofemencaaGreat
/- What is known ahead of all. -/
namespace Go.Proofs.YtgplajofemencaaGreat
open Go.ChangeShapes Go.WideShapes Go.ChangeAt Go.RowKit

set_option maxRecDepth 1000000 in
set_option maxHeartbeats 4000000 in
theorem sroot_any {w : World} {v : Value} {I : Ins} (hr : SRow w v I.l) :
    Calls Tryz.prog 19 #[insV I v] w fun e w' => e = .returned (staV (rootS I)) ∧ Below w.heap.size w w' := by
  have HR := Lib.hid hr
  obtain ⟨ad, cap, rfl, _⟩ := hr.form
  clear hr
  unfold insV
  go_enter Tryz.func19, Tryz.ntmps19
  go_wp2_with fail
  have HY := Lib.hid ((ybox_new w I (.slice ad I.l.length cap)).later ((Below.refl _ _).alloc (Nat.le_refl _) (boxSt noughtS)))
  have HX0 := Lib.hid (st_new (w.alloc (boxI I (.slice ad I.l.length cap))) noughtS)
  have HB := Lib.hid (((Below.refl w.heap.size w).alloc (Nat.le_refl _) (boxI I (.slice ad I.l.length cap))).alloc (by simp) (boxSt noughtS))
  have hsz : (w.alloc (boxI I (.slice ad I.l.length cap))).heap.size = w.heap.size + 1 := by simp
  rw [hsz] at HX0
  clear hsz
  change Calls _ _ #[insV I (.slice ad I.l.length cap)] ((w.alloc (boxI I (.slice ad I.l.length cap))).alloc (boxSt noughtS)) _
  generalize (w.alloc (boxI I (.slice ad I.l.length cap))).alloc (boxSt noughtS) = W at *
  refine (may_any (HR.out.below HB.out)).mono ?_
  rintro e w1 ⟨rfl, hb⟩
  have HY1 := Lib.hid (HY.out.later hb)
  have HX1 := Lib.hid (HX0.out.later hb)
  have HB1 := Lib.hid (HB.out.trans (hb.mono HB.out.size))
  clear hb HY HX0 HB
  cases hm : mayB I
  · have HE := Lib.hid (show rootS I = noughtS from if_neg (by rw [hm]; decide))
    go_wp2_with (refine wpList_store_state (by rfl) (.tmp 2) (.tmp 6) (by rfl) (w.heap.size + 1) _ noughtS (by rfl) (by rfl) HX1.out ?_)
    intro WE hE hbE
    have z0 := hE.c0
    have z1 := hE.c1
    have z2 := hE.c2
    have z3 := hE.c3
    have z4 := hE.c4
    have z5 := hE.c5
    have z6 := hE.c6
    have z7 := hE.c7
    go_wp2
    exact bodyPost_ret (v := staV noughtS) (by simp [results, Tryz.results19, go_sem, z0, z1, z2, z3, z4, z5, z6, z7, staV]) rfl ⟨by rw [HE.out], HB1.out.trans (hbE _ (Nat.le_succ _))⟩
  · have HE := Lib.hid (root_may hm)
    have hl0 : 0 < I.l.length := (pmay_len hm).1
    obtain ⟨tb, off, rfl, hkt, hlt0⟩ := srow_at HR.out 0 hl0
    rw [Nat.zero_mul, Nat.add_zero] at hkt
    obtain ⟨k0, k1, k2, k3, k4, k5⟩ := hkt.below hlt0 HB1.out
    have hki : (0 : Int) < (I.l.length : Int) := by omega
    obtain ⟨y0, y1, y2, y3⟩ := HY1.out.cells
    generalize nth I.l 0 = t at *
    go_wp2_with (refine wpList_store_state (by rfl) (.tmp 2) (.tmp 12) (by rfl) (w.heap.size + 1) _ ⟨0, 1, t.r, 0, 0, 0, 0, 0⟩ (by rfl) (by rfl) HX1.out ?_)
    clear y0 y1 y2 y3 k0 k1 k2 k3 k4 k5
    intro WE hE hbE
    have z0 := hE.c0
    have z1 := hE.c1
    have z2 := hE.c2
    have z3 := hE.c3
    have z4 := hE.c4
    have z5 := hE.c5
    have z6 := hE.c6
    have z7 := hE.c7
    go_wp2
    exact bodyPost_ret (v := staV ⟨0, 1, t.r, 0, 0, 0, 0, 0⟩) (by simp [results, Tryz.results19, go_sem, z0, z1, z2, z3, z4, z5, z6, z7, staV]) rfl ⟨by rw [HE.out], HB1.out.trans (hbE _ (Nat.le_succ _))⟩
end Go.Proofs.YtgplajofemencaaGreat
/- Which two methods serve a stop. -/
namespace Go.Proofs.YtgplajofemencaaGreat
open Go.ChangeShapes Go.WideShapes Go.ChangeAt Go.RowKit

/-- A method of the struct in block b, as a value. -/
def metV (f b : Nat) : Value := .func (.func f) #[.pointer (some ⟨b, 0, none⟩)] #[]
set_option maxRecDepth 1000000 in
set_option maxHeartbeats 4000000 in
theorem way_home {w : World} {b : Nat} {j : Int} (hj : j = 0) :
    Calls Tryz.prog 95 #[.pointer (some ⟨b, 0, none⟩), .int .i64 j] w fun e w' => e = .returned (.tuple #[metV 126 b, metV 127 b]) ∧ Below w.heap.size w w' := by
  subst hj
  go_enter Tryz.func95, Tryz.ntmps95
  go_wp2
  exact bodyPost_ret (v := .tuple #[metV 126 b, metV 127 b]) (by simp [results, Tryz.results95, go_sem, metV]) rfl ⟨rfl, Below.refl _ _⟩
set_option maxRecDepth 1000000 in
set_option maxHeartbeats 4000000 in
theorem way_take {w : World} {b : Nat} {I : Ins} {sv : Value} {s : Sta} {j : Int} (hc : HereB w b I sv s) (hj : 1 ≤ j ∧ j ≤ I.p) :
    Calls Tryz.prog 95 #[.pointer (some ⟨b, 0, none⟩), .int .i64 j] w fun e w' => e = .returned (.tuple #[metV 128 b, metV 129 b]) ∧ Below w.heap.size w w' := by
  have b0 : (j == 0) = false := by have : j ≠ 0 := by omega
                                   simpa using this
  have b1 : inb 1 I.p j = true := (inb_iff _ _ _).2 hj
  have q0 := hc.c0
  clear hc hj
  go_enter Tryz.func95, Tryz.ntmps95
  go_wp2_with fail
  refine (sin_any _ _ _ _).mono ?_
  rintro e w' ⟨rfl, rfl⟩
  go_wp2
  exact bodyPost_ret (v := .tuple #[metV 128 b, metV 129 b]) (by simp [results, Tryz.results95, go_sem, metV]) rfl ⟨rfl, Below.refl _ _⟩
set_option maxRecDepth 1000000 in
set_option maxHeartbeats 4000000 in
theorem way_bring {w : World} {b : Nat} {I : Ins} {sv : Value} {s : Sta} {j : Int} (hc : HereB w b I sv s) (hm : mayB I = true) (hj : I.p < j ∧ j ≤ 2 * I.p) :
    Calls Tryz.prog 95 #[.pointer (some ⟨b, 0, none⟩), .int .i64 j] w fun e w' => e = .returned (.tuple #[metV 130 b, metV 131 b]) ∧ Below w.heap.size w w' := by
  have hf := fine_of hm
  have hp0 := hf.p0
  have hp1 := hf.p1
  have b0 : (j == 0) = false := by have : j ≠ 0 := by omega
                                   simpa using this
  have b1 : inb 1 I.p j = false := by
    rw [Bool.eq_false_iff]; intro h; have := (inb_iff _ _ _).1 h; omega
  have b2 : inb (I.p + 1) (2 * I.p) j = true := (inb_iff _ _ _).2 (by omega)
  have e1 : IntKind.i64.wrap (I.p + 1) = I.p + 1 := IntWalk.i64_in _ (by omega)
  have e2 : IntKind.i64.wrap (2 * I.p) = 2 * I.p := IntWalk.i64_in _ (by omega)
  have q0 := hc.c0
  have HC := Lib.hid hc
  clear hc hj hf hp0 hp1 hm
  go_enter Tryz.func95, Tryz.ntmps95
  go_wp2_with fail
  refine (sin_any _ _ _ _).mono ?_
  rintro e w' ⟨rfl, rfl⟩
  go_wp2_with fail
  have HB1 := Lib.hid ((Below.refl w.heap.size w).drew)
  have HC1 := Lib.hid (HC.out.later HB1.out)
  have HS0 := Lib.hid (show Holds [(⟨b, 0, none⟩, .int .i64 I.p)] w.drew from ⟨HC1.out.c0, trivial⟩)
  have hlt := Lib.hid (show Lows w.drew.heap.size [((⟨b, 0, none⟩ : Addr), (.int .i64 I.p : Value))] from ⟨HC1.out.lt, trivial⟩)
  refine wp_region_held_drew (S := Holds [(⟨b, 0, none⟩, .int .i64 I.p)]) (by kernel_rfl) HS0.out (fun hSn => ?_)
  have Bc := Lib.hid (Below.refl w.drew.heap.size w.drew)
  clear q0
  refine tks [0, 1, 2, 3, 4, 5, 6, 7, 8, 9, 10, 11, 12] 13 rfl (by kernel_rfl) (fun _ _ _ _ h => h) (by assumption) (fun KT hKT => ?_)
  iterate 13 (refine tkT (by (simp only [gA, gB, gC]; rfl)) (by rfl) (by (intro w hSw; (simp only [Holds] at hSw); go_simp <;> with_reducible rfl)) ?_; simp only [Act.put, pA, pB, pC])
  refine hKT _ ?_
  clear KT hKT
  refine wpAnyH_ready (rs := [13]) (by kernel_rfl) (by simp) ?_
  refine AllReadyH.cons (o := ?oz198) ?iz198 (fun K hK => ?kz198) AllReadyH.nil
  case iz198 => (simp only [List.getElem?_toArray, List.getElem?_cons_zero, List.getElem?_cons_succ]; rfl)
  go_simp
  refine (sin_any _ _ _ _).mono ?_
  rintro e w' ⟨rfl, rfl⟩
  refine held_more hK HS0.out hlt Bc.out (fun Bc hSn => ?_)
  clear hK
  refine tks [14] 1 rfl (by kernel_rfl) (fun _ _ _ _ h => h) (by assumption) (fun KT hKT => ?_)
  refine tkT (by (simp only [gA, gB, gC]; rfl)) (by rfl) (by (intro w hSw; (simp only [Holds] at hSw); go_simp <;> with_reducible rfl)) ?_
  simp only [Act.put, pA, pB, pC]
  refine hKT _ ?_
  clear KT hKT
  refine wpAnyH_done (by kernel_rfl) ?_ _
  go_wp2
  exact bodyPost_ret (v := .tuple #[metV 130 b, metV 131 b]) (by simp [results, Tryz.results95, go_sem, metV]) rfl ⟨rfl, HB1.out⟩
set_option maxRecDepth 1000000 in
set_option maxHeartbeats 4000000 in
theorem way_never {w : World} {b : Nat} {I : Ins} {sv : Value} {s : Sta} {j : Int} (hc : HereB w b I sv s) (hm : mayB I = true) (hj : j ≠ 0 ∧ ¬ (1 ≤ j ∧ j ≤ 2 * I.p)) :
    Calls Tryz.prog 95 #[.pointer (some ⟨b, 0, none⟩), .int .i64 j] w fun e w' => e = .returned (.tuple #[metV 132 b, metV 133 b]) ∧ Below w.heap.size w w' := by
  have hf := fine_of hm
  have hp0 := hf.p0
  have hp1 := hf.p1
  have b0 : (j == 0) = false := by have : j ≠ 0 := by omega
                                   simpa using this
  have b1 : inb 1 I.p j = false := by
    rw [Bool.eq_false_iff]; intro h; have := (inb_iff _ _ _).1 h; omega
  have b2 : inb (I.p + 1) (2 * I.p) j = false := by
    rw [Bool.eq_false_iff]; intro h; have := (inb_iff _ _ _).1 h; omega
  have e1 : IntKind.i64.wrap (I.p + 1) = I.p + 1 := IntWalk.i64_in _ (by omega)
  have e2 : IntKind.i64.wrap (2 * I.p) = 2 * I.p := IntWalk.i64_in _ (by omega)
  have q0 := hc.c0
  have HC := Lib.hid hc
  clear hc hj hf hp0 hp1 hm
  go_enter Tryz.func95, Tryz.ntmps95
  go_wp2_with fail
  refine (sin_any _ _ _ _).mono ?_
  rintro e w' ⟨rfl, rfl⟩
  go_wp2_with fail
  have HB1 := Lib.hid ((Below.refl w.heap.size w).drew)
  have HC1 := Lib.hid (HC.out.later HB1.out)
  have HS0 := Lib.hid (show Holds [(⟨b, 0, none⟩, .int .i64 I.p)] w.drew from ⟨HC1.out.c0, trivial⟩)
  have hlt := Lib.hid (show Lows w.drew.heap.size [((⟨b, 0, none⟩ : Addr), (.int .i64 I.p : Value))] from ⟨HC1.out.lt, trivial⟩)
  refine wp_region_held_drew (S := Holds [(⟨b, 0, none⟩, .int .i64 I.p)]) (by kernel_rfl) HS0.out (fun hSn => ?_)
  have Bc := Lib.hid (Below.refl w.drew.heap.size w.drew)
  clear q0
  refine tks [0, 1, 2, 3, 4, 5, 6, 7, 8, 9, 10, 11, 12] 13 rfl (by kernel_rfl) (fun _ _ _ _ h => h) (by assumption) (fun KT hKT => ?_)
  iterate 13 (refine tkT (by (simp only [gA, gB, gC]; rfl)) (by rfl) (by (intro w hSw; (simp only [Holds] at hSw); go_simp <;> with_reducible rfl)) ?_; simp only [Act.put, pA, pB, pC])
  refine hKT _ ?_
  clear KT hKT
  refine wpAnyH_ready (rs := [13]) (by kernel_rfl) (by simp) ?_
  refine AllReadyH.cons (o := ?oz199) ?iz199 (fun K hK => ?kz199) AllReadyH.nil
  case iz199 => (simp only [List.getElem?_toArray, List.getElem?_cons_zero, List.getElem?_cons_succ]; rfl)
  go_simp
  refine (sin_any _ _ _ _).mono ?_
  rintro e w' ⟨rfl, rfl⟩
  refine held_more hK HS0.out hlt Bc.out (fun Bc hSn => ?_)
  clear hK
  refine tks [14] 1 rfl (by kernel_rfl) (fun _ _ _ _ h => h) (by assumption) (fun KT hKT => ?_)
  refine tkT (by (simp only [gA, gB, gC]; rfl)) (by rfl) (by (intro w hSw; (simp only [Holds] at hSw); go_simp <;> with_reducible rfl)) ?_
  simp only [Act.put, pA, pB, pC]
  refine hKT _ ?_
  clear KT hKT
  refine wpAnyH_done (by kernel_rfl) ?_ _
  go_wp2
  exact bodyPost_ret (v := .tuple #[metV 132 b, metV 133 b]) (by simp [results, Tryz.results95, go_sem, metV]) rfl ⟨rfl, HB1.out⟩
end Go.Proofs.YtgplajofemencaaGreat
/- What a move leaves. -/
namespace Go.Proofs.YtgplajofemencaaGreat
open Go.ChangeShapes Go.WideShapes Go.ChangeAt Go.RowKit

theorem can_home {I : Ins} {s : Sta} (hg : GoOn I s) : Can I s 0 ↔ CanHome I s 0 := ⟨can_zero, fun h => ⟨hg, .inr (.inr h)⟩⟩
theorem can_take {I : Ins} {s : Sta} {j : Int} (hg : GoOn I s) (hj : 1 ≤ j ∧ j ≤ I.p) : Can I s j ↔ CanTake I s j := by
  refine ⟨fun h => ?_, fun h => ⟨hg, .inl h⟩⟩
  rcases h.2 with h | h | h
  · exact h
  · have := h.1; omega
  · have := h.1; omega
theorem can_bring {I : Ins} {s : Sta} {j : Int} (hg : GoOn I s) (hj : I.p < j ∧ j ≤ 2 * I.p) : Can I s j ↔ CanBring I s j := by
  have := (fine_of hg.1).p0
  refine ⟨fun h => ?_, fun h => ⟨hg, .inr (.inl h)⟩⟩
  rcases h.2 with h | h | h
  · have := h.1; omega
  · exact h
  · have := h.1; omega
theorem can_never {I : Ins} {s : Sta} {j : Int} (hm : mayB I = true) (hj : j ≠ 0 ∧ ¬ (1 ≤ j ∧ j ≤ 2 * I.p)) : ¬ Can I s j := fun h => by
  have := (fine_of hm).p0
  have := can_rng h
  omega
theorem move_no {I : Ins} {s : Sta} {j : Int} (h : ¬ Can I s j) : moveS I s j = s ∧ moveC I s j = 0 ∧ decide (Can I s j) = false := ⟨if_neg h, if_neg h, decide_eq_false h⟩
theorem move_yes {I : Ins} {s : Sta} {j : Int} (h : Can I s j) : moveS I s j = nextS I s j ∧ moveC I s j = farS1 I s j ∧ decide (Can I s j) = true := ⟨if_pos h, if_pos h, decide_eq_true h⟩
theorem next_home {I : Ins} {s : Sta} : nextS I s 0 = homeS I s := if_pos rfl
theorem next_visit {I : Ins} {s : Sta} {j : Int} (h : j ≠ 0) : nextS I s j = visitS I s j := if_neg h
/-- The boxes of a call: the instance, the state, the answer's cells, and the struct that embeds both. -/
theorem boxes_move (w : World) (I : Ins) (v : Value) (s : Sta) : StB ((((w.alloc (boxI I v)).alloc (boxSt s)).alloc (boxSt noughtS)).alloc (boxH I v s)) (w.heap.size + 1) s ∧
    StB ((((w.alloc (boxI I v)).alloc (boxSt s)).alloc (boxSt noughtS)).alloc (boxH I v s)) (w.heap.size + 1 + 1) noughtS ∧
    HereB ((((w.alloc (boxI I v)).alloc (boxSt s)).alloc (boxSt noughtS)).alloc (boxH I v s)) (w.heap.size + 1 + 1 + 1) I v s ∧
    Below w.heap.size w ((((w.alloc (boxI I v)).alloc (boxSt s)).alloc (boxSt noughtS)).alloc (boxH I v s)) := by
  have h1 : (w.alloc (boxI I v)).heap.size = w.heap.size + 1 := by simp
  have h2 : ((w.alloc (boxI I v)).alloc (boxSt s)).heap.size = w.heap.size + 1 + 1 := by simp
  have h3 : (((w.alloc (boxI I v)).alloc (boxSt s)).alloc (boxSt noughtS)).heap.size = w.heap.size + 1 + 1 + 1 := by simp
  have a1 := st_new (w.alloc (boxI I v)) s
  have a2 := st_new ((w.alloc (boxI I v)).alloc (boxSt s)) noughtS
  have a3 := here_new (((w.alloc (boxI I v)).alloc (boxSt s)).alloc (boxSt noughtS)) I v s
  rw [h1] at a1
  rw [h2] at a2
  rw [h3] at a3
  refine ⟨(a1.later ((Below.refl _ _).alloc (Nat.le_refl _) _)).later ((Below.refl _ _).alloc (Nat.le_refl _) _), a2.later ((Below.refl _ _).alloc (Nat.le_refl _) _), a3, ?_⟩
  exact ((((Below.refl w.heap.size w).alloc (Nat.le_refl _) _).alloc (by rw [h1]; omega) _).alloc (by rw [h2]; omega) _).alloc (by rw [h3]; omega) _
/-- .. without the answer's cells. -/
theorem boxes_here (w : World) (I : Ins) (v : Value) (s : Sta) : YBox (((w.alloc (boxI I v)).alloc (boxSt s)).alloc (boxH I v s)) w.heap.size I v ∧ StB (((w.alloc (boxI I v)).alloc (boxSt s)).alloc (boxH I v s)) (w.heap.size + 1) s ∧
    HereB (((w.alloc (boxI I v)).alloc (boxSt s)).alloc (boxH I v s)) (w.heap.size + 1 + 1) I v s ∧ Below w.heap.size w (((w.alloc (boxI I v)).alloc (boxSt s)).alloc (boxH I v s)) := by
  have h1 : (w.alloc (boxI I v)).heap.size = w.heap.size + 1 := by simp
  have h2 : ((w.alloc (boxI I v)).alloc (boxSt s)).heap.size = w.heap.size + 1 + 1 := by simp
  have a1 := st_new (w.alloc (boxI I v)) s
  have a3 := here_new ((w.alloc (boxI I v)).alloc (boxSt s)) I v s
  rw [h1] at a1
  rw [h2] at a3
  refine ⟨((ybox_new w I v).later ((Below.refl _ _).alloc (Nat.le_refl _) _)).later ((Below.refl _ _).alloc (Nat.le_refl _) _), a1.later ((Below.refl _ _).alloc (Nat.le_refl _) _), a3, ?_⟩
  exact (((Below.refl w.heap.size w).alloc (Nat.le_refl _) _).alloc (by rw [h1]; omega) _).alloc (by rw [h2]; omega) _
set_option maxRecDepth 1000000 in
set_option maxHeartbeats 4000000 in
theorem smove_any {w : World} {v : Value} {I : Ins} {s : Sta} {j : Int} (hr : SRow w v I.l) (hs : SetsOk s) :
    Calls Tryz.prog 96 #[insV I v, staV s, .int .i64 j] w fun e w' => e = .returned (.tuple #[staV (moveS I s j), .int .i64 (moveC I s j), .bool (decide (Can I s j))]) ∧ Below w.heap.size w w' := by
  have HR := Lib.hid hr
  have HS := Lib.hid hs
  obtain ⟨ad, cap, rfl, _⟩ := hr.form
  clear hr hs
  unfold insV
  rw [show staV s = .agg #[.int .i64 s.pos, .int .i64 s.car, .int .i64 s.time, .int .i64 s.load, .int .i64 s.first, .int .u64 s.must, .int .u64 s.may, .int .u64 s.on] from rfl]
  go_enter Tryz.func96, Tryz.ntmps96
  go_wp2_with fail
  obtain ⟨b1, b2, b3, b4⟩ := boxes_move w I (.slice ad I.l.length cap) s
  have HT0 := Lib.hid b1
  have HX0 := Lib.hid b2
  have HC0 := Lib.hid b3
  have HB0 := Lib.hid b4
  clear b1 b2 b3 b4
  change Calls _ _ _ ((((w.alloc (boxI I (.slice ad I.l.length cap))).alloc (boxSt s)).alloc (boxSt noughtS)).alloc (boxH I (.slice ad I.l.length cap) s)) _
  generalize (((w.alloc (boxI I (.slice ad I.l.length cap))).alloc (boxSt s)).alloc (boxSt noughtS)).alloc (boxH I (.slice ad I.l.length cap) s) = W at *
  refine (goOn_any HC0.out (HR.out.below HB0.out)).mono ?_
  rintro e w1 ⟨rfl, hb⟩
  have HT1 := Lib.hid (HT0.out.later hb)
  have HX1 := Lib.hid (HX0.out.later hb)
  have HC1 := Lib.hid (HC0.out.later hb)
  have HB1 := Lib.hid (HB0.out.trans (hb.mono HB0.out.size))
  clear hb HT0 HX0 HC0 HB0
  by_cases hg : GoOn I s
  case' neg =>
    have HE := Lib.hid (move_no (I := I) (s := s) (j := j) (fun h => hg h.1))
    rw [decide_eq_false hg]
    clear hg
    have z0 := HT1.out.c0
    have z1 := HT1.out.c1
    have z2 := HT1.out.c2
    have z3 := HT1.out.c3
    have z4 := HT1.out.c4
    have z5 := HT1.out.c5
    have z6 := HT1.out.c6
    have z7 := HT1.out.c7
    go_wp2_with (refine wpList_store_state (by rfl) (.tmp 6) (.tmp 19) (by rfl) (w.heap.size + 1 + 1) _ s (by rfl) (by rfl) HX1.out ?_)
    clear z0 z1 z2 z3 z4 z5 z6 z7
    intro WE hE hbE
    have z0 := hE.c0
    have z1 := hE.c1
    have z2 := hE.c2
    have z3 := hE.c3
    have z4 := hE.c4
    have z5 := hE.c5
    have z6 := hE.c6
    have z7 := hE.c7
    go_wp2
    exact bodyPost_ret (v := .tuple #[staV s, .int .i64 0, .bool false]) (by simp [results, Tryz.results96, go_sem, z0, z1, z2, z3, z4, z5, z6, z7, staV]) rfl ⟨by rw [HE.out.1, HE.out.2.1, HE.out.2.2], HB1.out.trans (hbE _ (by omega))⟩
  rw [decide_eq_true hg]
  have HG := Lib.hid hg
  have HM := Lib.hid hg.1
  have hp0 := (fine_of hg.1).p0
  clear hg
  by_cases h0 : j = 0
  · subst h0
    have hj0 : 0 ≤ (0 : Int) ∧ (0 : Int) ≤ 2 * I.p := by omega
    have HJ := Lib.hid hj0
    clear hj0
    have HCE := Lib.hid (can_home HG.out)
    go_wp2_with fail
    refine (way_home rfl).mono ?_
    rintro e w2 ⟨rfl, hb⟩
    have HT2 := Lib.hid (HT1.out.later hb)
    have HX2 := Lib.hid (HX1.out.later hb)
    have HC2 := Lib.hid (HC1.out.later hb)
    have HB2 := Lib.hid (HB1.out.trans (hb.mono HB1.out.size))
    clear hb HT1 HX1 HC1 HB1
    unfold metV
    go_wp2_with fail
    refine (canReturn_any HC2.out (HR.out.below HB2.out) HG.out HS.out).mono ?_
    rintro e w3 ⟨rfl, hb⟩
    have HT3 := Lib.hid (HT2.out.later hb)
    have HX3 := Lib.hid (HX2.out.later hb)
    have HC3 := Lib.hid (HC2.out.later hb)
    have HB3 := Lib.hid (HB2.out.trans (hb.mono HB2.out.size))
    clear hb HT2 HX2 HC2 HB2
    by_cases hcan : Can I s 0
    case' neg =>
      have HE := Lib.hid (move_no hcan)
      rw [decide_eq_false (fun h => hcan (HCE.out.2 h))]
      clear hcan
      have z0 := HT3.out.c0
      have z1 := HT3.out.c1
      have z2 := HT3.out.c2
      have z3 := HT3.out.c3
      have z4 := HT3.out.c4
      have z5 := HT3.out.c5
      have z6 := HT3.out.c6
      have z7 := HT3.out.c7
      go_wp2_with (refine wpList_store_state (by rfl) (.tmp 6) (.tmp 30) (by rfl) (w.heap.size + 1 + 1) _ s (by rfl) (by rfl) HX3.out ?_)
      clear z0 z1 z2 z3 z4 z5 z6 z7
      intro WE hE hbE
      have z0 := hE.c0
      have z1 := hE.c1
      have z2 := hE.c2
      have z3 := hE.c3
      have z4 := hE.c4
      have z5 := hE.c5
      have z6 := hE.c6
      have z7 := hE.c7
      go_wp2
      exact bodyPost_ret (v := .tuple #[staV s, .int .i64 0, .bool false]) (by simp [results, Tryz.results96, go_sem, z0, z1, z2, z3, z4, z5, z6, z7, staV]) rfl ⟨by rw [HE.out.1, HE.out.2.1, HE.out.2.2], HB3.out.trans (hbE _ (by omega))⟩
    have HE := Lib.hid (move_yes hcan)
    have HCan := Lib.hid (HCE.out.1 hcan)
    have HNX := Lib.hid (next_home (I := I) (s := s))
    rw [decide_eq_true HCan.out]
    clear hcan
    go_wp2_with fail
    refine (returned_any HC3.out (HR.out.below HB3.out) HG.out).mono ?_
    rintro e w4 ⟨rfl, hb⟩
    have HT4 := Lib.hid (HT3.out.later hb)
    have HX4 := Lib.hid (HX3.out.later hb)
    have HC4 := Lib.hid (HC3.out.later hb)
    have HB4 := Lib.hid (HB3.out.trans (hb.mono HB3.out.size))
    clear hb HT3 HX3 HC3 HB3
    go_wp2_with fail
    refine (hfarTo_any HC4.out (HR.out.below HB4.out) HM.out HG.out.2.1 (HJ.out)).mono ?_
    rintro e w5 ⟨rfl, hb⟩
    have HT5 := Lib.hid (HT4.out.later hb)
    have HX5 := Lib.hid (HX4.out.later hb)
    have HC5 := Lib.hid (HC4.out.later hb)
    have HB5 := Lib.hid (HB4.out.trans (hb.mono HB4.out.size))
    clear hb HT4 HX4 HC4 HB4
    go_wp2_with (refine wpList_store_state (by rfl) (.tmp 6) (.tmp 33) (by rfl) (w.heap.size + 1 + 1) _ (homeS I s) (by rfl) (by rfl) HX5.out ?_)
    intro WE hE hbE
    have z0 := hE.c0
    have z1 := hE.c1
    have z2 := hE.c2
    have z3 := hE.c3
    have z4 := hE.c4
    have z5 := hE.c5
    have z6 := hE.c6
    have z7 := hE.c7
    go_wp2
    exact bodyPost_ret (v := .tuple #[staV (homeS I s), .int .i64 (farS1 I s 0), .bool true]) (by simp [results, Tryz.results96, go_sem, z0, z1, z2, z3, z4, z5, z6, z7, staV]) rfl ⟨by rw [HE.out.1, HE.out.2.1, HE.out.2.2, HNX.out], HB5.out.trans (hbE _ (by omega))⟩
  by_cases h1 : 1 ≤ j ∧ j ≤ I.p
  · have HJ1 := Lib.hid h1
    have HJ := Lib.hid (show 0 ≤ j ∧ j ≤ 2 * I.p by omega)
    have HJ0 := Lib.hid h0
    clear h0 h1
    have HCE := Lib.hid (can_take HG.out HJ1.out)
    go_wp2_with fail
    refine (way_take HC1.out HJ1.out).mono ?_
    rintro e w2 ⟨rfl, hb⟩
    have HT2 := Lib.hid (HT1.out.later hb)
    have HX2 := Lib.hid (HX1.out.later hb)
    have HC2 := Lib.hid (HC1.out.later hb)
    have HB2 := Lib.hid (HB1.out.trans (hb.mono HB1.out.size))
    clear hb HT1 HX1 HC1 HB1
    unfold metV
    go_wp2_with fail
    refine (canTake_any HC2.out (HR.out.below HB2.out) HG.out HS.out HJ1.out).mono ?_
    rintro e w3 ⟨rfl, hb⟩
    have HT3 := Lib.hid (HT2.out.later hb)
    have HX3 := Lib.hid (HX2.out.later hb)
    have HC3 := Lib.hid (HC2.out.later hb)
    have HB3 := Lib.hid (HB2.out.trans (hb.mono HB2.out.size))
    clear hb HT2 HX2 HC2 HB2
    by_cases hcan : Can I s j
    case' neg =>
      have HE := Lib.hid (move_no hcan)
      rw [decide_eq_false (fun h => hcan (HCE.out.2 h))]
      clear hcan
      have z0 := HT3.out.c0
      have z1 := HT3.out.c1
      have z2 := HT3.out.c2
      have z3 := HT3.out.c3
      have z4 := HT3.out.c4
      have z5 := HT3.out.c5
      have z6 := HT3.out.c6
      have z7 := HT3.out.c7
      go_wp2_with (refine wpList_store_state (by rfl) (.tmp 6) (.tmp 30) (by rfl) (w.heap.size + 1 + 1) _ s (by rfl) (by rfl) HX3.out ?_)
      clear z0 z1 z2 z3 z4 z5 z6 z7
      intro WE hE hbE
      have z0 := hE.c0
      have z1 := hE.c1
      have z2 := hE.c2
      have z3 := hE.c3
      have z4 := hE.c4
      have z5 := hE.c5
      have z6 := hE.c6
      have z7 := hE.c7
      go_wp2
      exact bodyPost_ret (v := .tuple #[staV s, .int .i64 0, .bool false]) (by simp [results, Tryz.results96, go_sem, z0, z1, z2, z3, z4, z5, z6, z7, staV]) rfl ⟨by rw [HE.out.1, HE.out.2.1, HE.out.2.2], HB3.out.trans (hbE _ (by omega))⟩
    have HE := Lib.hid (move_yes hcan)
    have HCan := Lib.hid (HCE.out.1 hcan)
    have HNX := Lib.hid (next_visit (I := I) (s := s) HJ0.out)
    rw [decide_eq_true HCan.out]
    clear hcan
    go_wp2_with fail
    refine (taken_any HC3.out (HR.out.below HB3.out) HG.out HS.out HJ1.out (goOn_bd HG.out).2.2.2.1).mono ?_
    rintro e w4 ⟨rfl, hb⟩
    have HT4 := Lib.hid (HT3.out.later hb)
    have HX4 := Lib.hid (HX3.out.later hb)
    have HC4 := Lib.hid (HC3.out.later hb)
    have HB4 := Lib.hid (HB3.out.trans (hb.mono HB3.out.size))
    clear hb HT3 HX3 HC3 HB3
    go_wp2_with fail
    refine (hfarTo_any HC4.out (HR.out.below HB4.out) HM.out HG.out.2.1 (HJ.out)).mono ?_
    rintro e w5 ⟨rfl, hb⟩
    have HT5 := Lib.hid (HT4.out.later hb)
    have HX5 := Lib.hid (HX4.out.later hb)
    have HC5 := Lib.hid (HC4.out.later hb)
    have HB5 := Lib.hid (HB4.out.trans (hb.mono HB4.out.size))
    clear hb HT4 HX4 HC4 HB4
    go_wp2_with (refine wpList_store_state (by rfl) (.tmp 6) (.tmp 33) (by rfl) (w.heap.size + 1 + 1) _ (visitS I s j) (by rfl) (by rfl) HX5.out ?_)
    intro WE hE hbE
    have z0 := hE.c0
    have z1 := hE.c1
    have z2 := hE.c2
    have z3 := hE.c3
    have z4 := hE.c4
    have z5 := hE.c5
    have z6 := hE.c6
    have z7 := hE.c7
    go_wp2
    exact bodyPost_ret (v := .tuple #[staV (visitS I s j), .int .i64 (farS1 I s j), .bool true]) (by simp [results, Tryz.results96, go_sem, z0, z1, z2, z3, z4, z5, z6, z7, staV]) rfl ⟨by rw [HE.out.1, HE.out.2.1, HE.out.2.2, HNX.out], HB5.out.trans (hbE _ (by omega))⟩
  by_cases h2 : I.p < j ∧ j ≤ 2 * I.p
  · have HJ2 := Lib.hid h2
    have HJ := Lib.hid (show 0 ≤ j ∧ j ≤ 2 * I.p by omega)
    have HJ0 := Lib.hid h0
    clear h0 h1 h2
    have HCE := Lib.hid (can_bring HG.out HJ2.out)
    go_wp2_with fail
    refine (way_bring HC1.out HM.out HJ2.out).mono ?_
    rintro e w2 ⟨rfl, hb⟩
    have HT2 := Lib.hid (HT1.out.later hb)
    have HX2 := Lib.hid (HX1.out.later hb)
    have HC2 := Lib.hid (HC1.out.later hb)
    have HB2 := Lib.hid (HB1.out.trans (hb.mono HB1.out.size))
    clear hb HT1 HX1 HC1 HB1
    unfold metV
    go_wp2_with fail
    refine (canBring_any HC2.out (HR.out.below HB2.out) HG.out HS.out HJ2.out).mono ?_
    rintro e w3 ⟨rfl, hb⟩
    have HT3 := Lib.hid (HT2.out.later hb)
    have HX3 := Lib.hid (HX2.out.later hb)
    have HC3 := Lib.hid (HC2.out.later hb)
    have HB3 := Lib.hid (HB2.out.trans (hb.mono HB2.out.size))
    clear hb HT2 HX2 HC2 HB2
    by_cases hcan : Can I s j
    case' neg =>
      have HE := Lib.hid (move_no hcan)
      rw [decide_eq_false (fun h => hcan (HCE.out.2 h))]
      clear hcan
      have z0 := HT3.out.c0
      have z1 := HT3.out.c1
      have z2 := HT3.out.c2
      have z3 := HT3.out.c3
      have z4 := HT3.out.c4
      have z5 := HT3.out.c5
      have z6 := HT3.out.c6
      have z7 := HT3.out.c7
      go_wp2_with (refine wpList_store_state (by rfl) (.tmp 6) (.tmp 30) (by rfl) (w.heap.size + 1 + 1) _ s (by rfl) (by rfl) HX3.out ?_)
      clear z0 z1 z2 z3 z4 z5 z6 z7
      intro WE hE hbE
      have z0 := hE.c0
      have z1 := hE.c1
      have z2 := hE.c2
      have z3 := hE.c3
      have z4 := hE.c4
      have z5 := hE.c5
      have z6 := hE.c6
      have z7 := hE.c7
      go_wp2
      exact bodyPost_ret (v := .tuple #[staV s, .int .i64 0, .bool false]) (by simp [results, Tryz.results96, go_sem, z0, z1, z2, z3, z4, z5, z6, z7, staV]) rfl ⟨by rw [HE.out.1, HE.out.2.1, HE.out.2.2], HB3.out.trans (hbE _ (by omega))⟩
    have HE := Lib.hid (move_yes hcan)
    have HCan := Lib.hid (HCE.out.1 hcan)
    have HNX := Lib.hid (next_visit (I := I) (s := s) HJ0.out)
    rw [decide_eq_true HCan.out]
    clear hcan
    go_wp2_with fail
    refine (brought_any HC3.out (HR.out.below HB3.out) HG.out HS.out HJ2.out HCan.out.2.1).mono ?_
    rintro e w4 ⟨rfl, hb⟩
    have HT4 := Lib.hid (HT3.out.later hb)
    have HX4 := Lib.hid (HX3.out.later hb)
    have HC4 := Lib.hid (HC3.out.later hb)
    have HB4 := Lib.hid (HB3.out.trans (hb.mono HB3.out.size))
    clear hb HT3 HX3 HC3 HB3
    go_wp2_with fail
    refine (hfarTo_any HC4.out (HR.out.below HB4.out) HM.out HG.out.2.1 (HJ.out)).mono ?_
    rintro e w5 ⟨rfl, hb⟩
    have HT5 := Lib.hid (HT4.out.later hb)
    have HX5 := Lib.hid (HX4.out.later hb)
    have HC5 := Lib.hid (HC4.out.later hb)
    have HB5 := Lib.hid (HB4.out.trans (hb.mono HB4.out.size))
    clear hb HT4 HX4 HC4 HB4
    go_wp2_with (refine wpList_store_state (by rfl) (.tmp 6) (.tmp 33) (by rfl) (w.heap.size + 1 + 1) _ (visitS I s j) (by rfl) (by rfl) HX5.out ?_)
    intro WE hE hbE
    have z0 := hE.c0
    have z1 := hE.c1
    have z2 := hE.c2
    have z3 := hE.c3
    have z4 := hE.c4
    have z5 := hE.c5
    have z6 := hE.c6
    have z7 := hE.c7
    go_wp2
    exact bodyPost_ret (v := .tuple #[staV (visitS I s j), .int .i64 (farS1 I s j), .bool true]) (by simp [results, Tryz.results96, go_sem, z0, z1, z2, z3, z4, z5, z6, z7, staV]) rfl ⟨by rw [HE.out.1, HE.out.2.1, HE.out.2.2, HNX.out], HB5.out.trans (hbE _ (by omega))⟩
  have HJ := Lib.hid (show j ≠ 0 ∧ ¬ (1 ≤ j ∧ j ≤ 2 * I.p) by omega)
  have HE := Lib.hid (move_no (I := I) (s := s) (can_never HM.out HJ.out))
  clear h0 h1 h2
  go_wp2_with fail
  refine (way_never HC1.out HM.out HJ.out).mono ?_
  rintro e w2 ⟨rfl, hb⟩
  have HT2 := Lib.hid (HT1.out.later hb)
  have HX2 := Lib.hid (HX1.out.later hb)
  have HC2 := Lib.hid (HC1.out.later hb)
  have HB2 := Lib.hid (HB1.out.trans (hb.mono HB1.out.size))
  clear hb HT1 HX1 HC1 HB1
  unfold metV
  go_wp2_with fail
  refine (never_any).mono ?_
  rintro e w3 ⟨rfl, rfl⟩
  have z0 := HT2.out.c0
  have z1 := HT2.out.c1
  have z2 := HT2.out.c2
  have z3 := HT2.out.c3
  have z4 := HT2.out.c4
  have z5 := HT2.out.c5
  have z6 := HT2.out.c6
  have z7 := HT2.out.c7
  go_wp2_with (refine wpList_store_state (by rfl) (.tmp 6) (.tmp 30) (by rfl) (w.heap.size + 1 + 1) _ s (by rfl) (by rfl) HX2.out ?_)
  clear z0 z1 z2 z3 z4 z5 z6 z7
  intro WE hE hbE
  have z0 := hE.c0
  have z1 := hE.c1
  have z2 := hE.c2
  have z3 := hE.c3
  have z4 := hE.c4
  have z5 := hE.c5
  have z6 := hE.c6
  have z7 := hE.c7
  go_wp2
  exact bodyPost_ret (v := .tuple #[staV s, .int .i64 0, .bool false]) (by simp [results, Tryz.results96, go_sem, z0, z1, z2, z3, z4, z5, z6, z7, staV]) rfl ⟨by rw [HE.out.1, HE.out.2.1, HE.out.2.2], HB2.out.trans (hbE _ (by omega))⟩
end Go.Proofs.YtgplajofemencaaGreat
/- All moves. -/
namespace Go.Proofs.YtgplajofemencaaGreat
open Go.ChangeShapes Go.WideShapes Go.ChangeAt Go.RowKit

theorem moves_none {I : Ins} {s : Sta} (h : ¬ GoOn I s) : movesS I s = [] := by
  unfold movesS movesN
  rw [List.filter_eq_nil_iff]
  intro j _
  simp only [decide_eq_true_eq]
  exact fun hc => h hc.1
set_option maxRecDepth 1000000 in
set_option maxHeartbeats 4000000 in
theorem smoves_any {w : World} {v : Value} {I : Ins} {s : Sta} (hr : SRow w v I.l) (hs : SetsOk s) :
    Calls Tryz.prog 66 #[insV I v, staV s] w fun e w' => ∃ u, e = .returned u ∧ OwnI w' w.heap.size u (movesS I s) ∧ Below w.heap.size w w' := by
  have HR := Lib.hid hr
  have HS := Lib.hid hs
  obtain ⟨ad, cap, rfl, hlm, _⟩ := hr.form
  clear hr hs
  unfold insV
  rw [show staV s = .agg #[.int .i64 s.pos, .int .i64 s.car, .int .i64 s.time, .int .i64 s.load, .int .i64 s.first, .int .u64 s.must, .int .u64 s.may, .int .u64 s.on] from rfl]
  go_enter Tryz.func66, Tryz.ntmps66
  go_wp2_with fail
  obtain ⟨_, _, b3, b4⟩ := boxes_here w I (.slice ad I.l.length cap) s
  have HC0 := Lib.hid b3
  have HB0 := Lib.hid b4
  clear b3 b4
  change Calls _ _ _ (((w.alloc (boxI I (.slice ad I.l.length cap))).alloc (boxSt s)).alloc (boxH I (.slice ad I.l.length cap) s)) _
  generalize ((w.alloc (boxI I (.slice ad I.l.length cap))).alloc (boxSt s)).alloc (boxH I (.slice ad I.l.length cap) s) = W at *
  refine (goOn_any HC0.out (HR.out.below HB0.out)).mono ?_
  rintro e w1 ⟨rfl, hb⟩
  have HC1 := Lib.hid (HC0.out.later hb)
  have HB1 := Lib.hid (HB0.out.trans (hb.mono HB0.out.size))
  clear hb HC0 HB0
  by_cases hg : GoOn I s
  case' neg =>
    have HE := Lib.hid (moves_none hg)
    rw [decide_eq_false hg]
    clear hg
    go_wp2
    go_ret
    exact ⟨_, rfl, by rw [HE.out]; exact ownI_nil _ _, HB1.out⟩
  rw [decide_eq_true hg]
  have HG := Lib.hid hg
  have HM := Lib.hid hg.1
  have hf := fine_of hg.1
  have hp0 := hf.p0
  have hp1 := hf.p1
  have hlen := hf.len
  have HALL := Lib.hid (movesN_all (I := I) (s := s) (n := I.l.length) (by omega))
  have HR1 := Lib.hid (HR.out.below HB1.out)
  have q3 := HC1.out.c3
  clear hg hf
  go_wp2_with fail
  clear q3
  go_loopw [6, 23] (fun u i wr => ∃ k : Nat, k ≤ I.l.length ∧ i = .int .i64 k ∧ OwnI wr w1.heap.size u (movesN I s k) ∧ Below w1.heap.size w1 wr) (fun _ i _ => I.l.length - (intOf i).toNat)
  case atStart => exact ⟨0, Nat.zero_le _, rfl, ownI_nil _ _, Below.refl _ _⟩
  case round =>
    obtain ⟨k, hk, rfl, hu, hbw⟩ := hrel
    have HU2 := Lib.hid hu
    have HC2 := Lib.hid (HC1.out.later hbw)
    have HB2 := Lib.hid hbw
    clear hu hbw
    by_cases hltk : k < I.l.length
    · have hki : (k : Int) < (I.l.length : Int) := by omega
      have hkc : (k : Int) ≤ 2 * I.p := by omega
      have HKL := Lib.hid hltk
      clear hk
      by_cases h0 : k = 0
      · have HK0 := Lib.hid (show (k : Int) = 0 by omega)
        clear h0
        have HCE := Lib.hid (show Can I s k ↔ CanHome I s 0 by rw [HK0.out]; exact can_home HG.out)
        clear hkc
        go_wp2_with fail
        refine (way_home HK0.out).mono ?_
        rintro e w3 ⟨rfl, hb⟩
        have HC3 := Lib.hid (HC2.out.later hb)
        have HU3 := Lib.hid (HU2.out.below hb)
        have HB3 := Lib.hid (HB2.out.trans (hb.mono HB2.out.size))
        clear hb HC2 HU2 HB2
        unfold metV
        go_wp2_with fail
        refine (canReturn_any HC3.out (HR1.out.below HB3.out) HG.out HS.out).mono ?_
        rintro e w4 ⟨rfl, hb⟩
        have HC4 := Lib.hid (HC3.out.later hb)
        have HU4 := Lib.hid (HU3.out.below hb)
        have HB4 := Lib.hid (HB3.out.trans (hb.mono HB3.out.size))
        clear hb HC3 HU3 HB3
        by_cases hcan : Can I s k
        · have HE := Lib.hid (show movesN I s (k + 1) = movesN I s k ++ [(k : Int)] by rw [movesN_succ, if_pos hcan])
          rw [decide_eq_true (HCE.out.1 hcan)]
          clear hcan
          have hml := movesN_len I s k
          generalize movesN I s k = L at *
          obtain ⟨ua, uc, rfl⟩ := HU4.out.shape
          go_wp2_with (first | (at_builtin; refine app_ints rfl _ _ rfl w1.heap.size _ L rfl (HU4.out.alloc _) _ [(k : Int)] rfl (row_newi _ _) (by simp; omega) (by have := HB4.out.size; simp; omega) ?_))
          intro v' w' hown hgrow _
          have HN := Lib.hid hown
          have HBN := Lib.hid (HB4.out.trans (grown_below (grown_alloc hgrow) HB4.out.size (fun q hq => (World.ownsRow.lt HU4.out q hq).1)))
          clear hown hgrow hml
          go_wp2
          go_roundw
          case rel => exact ⟨k + 1, by have := HKL.out; omega, by go_num, by rw [HE.out]; exact HN.out, HBN.out⟩
          case measure => have := HKL.out; simp [intOf]; omega
        · have HE := Lib.hid (show movesN I s (k + 1) = movesN I s k by rw [movesN_succ, if_neg hcan])
          rw [decide_eq_false (fun h => hcan (HCE.out.2 h))]
          clear hcan
          go_wp2
          go_roundw
          case rel => exact ⟨k + 1, by have := HKL.out; omega, by go_num, by rw [HE.out]; exact HU4.out, HB4.out⟩
          case measure => have := HKL.out; simp [intOf]; omega
      by_cases h1 : (k : Int) ≤ I.p
      · have HJ1 := Lib.hid (show 1 ≤ (k : Int) ∧ (k : Int) ≤ I.p by omega)
        clear h0 h1
        have HCE := Lib.hid (can_take HG.out HJ1.out)
        clear hkc
        go_wp2_with fail
        refine (way_take HC2.out HJ1.out).mono ?_
        rintro e w3 ⟨rfl, hb⟩
        have HC3 := Lib.hid (HC2.out.later hb)
        have HU3 := Lib.hid (HU2.out.below hb)
        have HB3 := Lib.hid (HB2.out.trans (hb.mono HB2.out.size))
        clear hb HC2 HU2 HB2
        unfold metV
        go_wp2_with fail
        refine (canTake_any HC3.out (HR1.out.below HB3.out) HG.out HS.out HJ1.out).mono ?_
        rintro e w4 ⟨rfl, hb⟩
        have HC4 := Lib.hid (HC3.out.later hb)
        have HU4 := Lib.hid (HU3.out.below hb)
        have HB4 := Lib.hid (HB3.out.trans (hb.mono HB3.out.size))
        clear hb HC3 HU3 HB3
        by_cases hcan : Can I s k
        · have HE := Lib.hid (show movesN I s (k + 1) = movesN I s k ++ [(k : Int)] by rw [movesN_succ, if_pos hcan])
          rw [decide_eq_true (HCE.out.1 hcan)]
          clear hcan
          have hml := movesN_len I s k
          generalize movesN I s k = L at *
          obtain ⟨ua, uc, rfl⟩ := HU4.out.shape
          go_wp2_with (first | (at_builtin; refine app_ints rfl _ _ rfl w1.heap.size _ L rfl (HU4.out.alloc _) _ [(k : Int)] rfl (row_newi _ _) (by simp; omega) (by have := HB4.out.size; simp; omega) ?_))
          intro v' w' hown hgrow _
          have HN := Lib.hid hown
          have HBN := Lib.hid (HB4.out.trans (grown_below (grown_alloc hgrow) HB4.out.size (fun q hq => (World.ownsRow.lt HU4.out q hq).1)))
          clear hown hgrow hml
          go_wp2
          go_roundw
          case rel => exact ⟨k + 1, by have := HKL.out; omega, by go_num, by rw [HE.out]; exact HN.out, HBN.out⟩
          case measure => have := HKL.out; simp [intOf]; omega
        · have HE := Lib.hid (show movesN I s (k + 1) = movesN I s k by rw [movesN_succ, if_neg hcan])
          rw [decide_eq_false (fun h => hcan (HCE.out.2 h))]
          clear hcan
          go_wp2
          go_roundw
          case rel => exact ⟨k + 1, by have := HKL.out; omega, by go_num, by rw [HE.out]; exact HU4.out, HB4.out⟩
          case measure => have := HKL.out; simp [intOf]; omega
      have HJ2 := Lib.hid (show I.p < (k : Int) ∧ (k : Int) ≤ 2 * I.p by omega)
      clear h0 h1
      have HCE := Lib.hid (can_bring HG.out HJ2.out)
      clear hkc
      go_wp2_with fail
      refine (way_bring HC2.out HM.out HJ2.out).mono ?_
      rintro e w3 ⟨rfl, hb⟩
      have HC3 := Lib.hid (HC2.out.later hb)
      have HU3 := Lib.hid (HU2.out.below hb)
      have HB3 := Lib.hid (HB2.out.trans (hb.mono HB2.out.size))
      clear hb HC2 HU2 HB2
      unfold metV
      go_wp2_with fail
      refine (canBring_any HC3.out (HR1.out.below HB3.out) HG.out HS.out HJ2.out).mono ?_
      rintro e w4 ⟨rfl, hb⟩
      have HC4 := Lib.hid (HC3.out.later hb)
      have HU4 := Lib.hid (HU3.out.below hb)
      have HB4 := Lib.hid (HB3.out.trans (hb.mono HB3.out.size))
      clear hb HC3 HU3 HB3
      by_cases hcan : Can I s k
      · have HE := Lib.hid (show movesN I s (k + 1) = movesN I s k ++ [(k : Int)] by rw [movesN_succ, if_pos hcan])
        rw [decide_eq_true (HCE.out.1 hcan)]
        clear hcan
        have hml := movesN_len I s k
        generalize movesN I s k = L at *
        obtain ⟨ua, uc, rfl⟩ := HU4.out.shape
        go_wp2_with (first | (at_builtin; refine app_ints rfl _ _ rfl w1.heap.size _ L rfl (HU4.out.alloc _) _ [(k : Int)] rfl (row_newi _ _) (by simp; omega) (by have := HB4.out.size; simp; omega) ?_))
        intro v' w' hown hgrow _
        have HN := Lib.hid hown
        have HBN := Lib.hid (HB4.out.trans (grown_below (grown_alloc hgrow) HB4.out.size (fun q hq => (World.ownsRow.lt HU4.out q hq).1)))
        clear hown hgrow hml
        go_wp2
        go_roundw
        case rel => exact ⟨k + 1, by have := HKL.out; omega, by go_num, by rw [HE.out]; exact HN.out, HBN.out⟩
        case measure => have := HKL.out; simp [intOf]; omega
      · have HE := Lib.hid (show movesN I s (k + 1) = movesN I s k by rw [movesN_succ, if_neg hcan])
        rw [decide_eq_false (fun h => hcan (HCE.out.2 h))]
        clear hcan
        go_wp2
        go_roundw
        case rel => exact ⟨k + 1, by have := HKL.out; omega, by go_num, by rw [HE.out]; exact HU4.out, HB4.out⟩
        case measure => have := HKL.out; simp [intOf]; omega
    · obtain rfl : k = I.l.length := by omega
      clear hltk hk
      go_wp2
      go_ret
      exact ⟨_, rfl, by rw [← HALL.out]; exact HU2.out.less HB1.out.size, HB1.out.trans (HB2.out.mono HB1.out.size)⟩
end Go.Proofs.YtgplajofemencaaGreat
/- Where a state can be ended, and what it costs. -/
namespace Go.Proofs.YtgplajofemencaaGreat
open Go.ChangeShapes Go.WideShapes Go.ChangeAt Go.RowKit

theorem Sta.eq_iff (a b : Sta) : (a.pos = b.pos ∧ a.car = b.car ∧ a.time = b.time ∧ a.load = b.load ∧ a.first = b.first ∧ a.must = b.must ∧ a.may = b.may ∧ a.on = b.on) ↔ a = b := by
  obtain ⟨⟩ := a
  obtain ⟨⟩ := b
  simp
theorem guardSta : Tryz.prog.eqGuardType Tryz.prog.depth 27 = false := by kernel_rfl
set_option maxRecDepth 1000000 in
set_option maxHeartbeats 4000000 in
theorem equalSta (a b : Sta) (w : World) : (Op.equalIn 10000 27 (.agg #[.int .i64 a.pos, .int .i64 a.car, .int .i64 a.time, .int .i64 a.load, .int .i64 a.first, .int .u64 a.must, .int .u64 a.may, .int .u64 a.on]) (.agg #[.int .i64 b.pos, .int .i64 b.car, .int .i64 b.time, .int .i64 b.load, .int .i64 b.first, .int .u64 b.must, .int .u64 b.may, .int .u64 b.on])).run Tryz.prog w = .ok (decide (a = b)) w := by
  have u3 := Tryz.underlying3
  have u4 := Tryz.underlying25
  have hS : Tryz.prog.underlying 27 = some (.struct (Tryz.prog.fieldsOf 27)) := by kernel_rfl
  rw [show (10000 : Nat) = 9999 + 1 from rfl, run_equalIn_agg w 9999 27 _ _ hS (by kernel_rfl)]
  simp only [Program.fieldsOf, Tryz.underlying27]
  have e : decide (a = b) = decide (a.pos = b.pos ∧ a.car = b.car ∧ a.time = b.time ∧ a.load = b.load ∧ a.first = b.first ∧ a.must = b.must ∧ a.may = b.may ∧ a.on = b.on) := decide_eq_decide.2 (Sta.eq_iff a b).symm
  rw [e]
  go_simp
  simp only [Int.natCast_inj]
  by_cases h0 : a.pos = b.pos
  case' neg => (rw [if_neg h0, decide_eq_false h0]; rfl)
  rw [if_pos h0, decide_eq_true h0, Bool.true_and]
  by_cases h1 : a.car = b.car
  case' neg => (rw [if_neg h1, decide_eq_false h1]; rfl)
  rw [if_pos h1, decide_eq_true h1, Bool.true_and]
  by_cases h2 : a.time = b.time
  case' neg => (rw [if_neg h2, decide_eq_false h2]; rfl)
  rw [if_pos h2, decide_eq_true h2, Bool.true_and]
  by_cases h3 : a.load = b.load
  case' neg => (rw [if_neg h3, decide_eq_false h3]; rfl)
  rw [if_pos h3, decide_eq_true h3, Bool.true_and]
  by_cases h4 : a.first = b.first
  case' neg => (rw [if_neg h4, decide_eq_false h4]; rfl)
  rw [if_pos h4, decide_eq_true h4, Bool.true_and]
  by_cases h5 : a.must = b.must
  case' neg => (rw [if_neg h5, decide_eq_false h5]; rfl)
  rw [if_pos h5, decide_eq_true h5, Bool.true_and]
  by_cases h6 : a.may = b.may
  case' neg => (rw [if_neg h6, decide_eq_false h6]; rfl)
  rw [if_pos h6, decide_eq_true h6, Bool.true_and]
  by_cases h7 : a.on = b.on
  case' neg => (rw [if_neg h7, decide_eq_false h7])
  rw [if_pos h7, decide_eq_true h7]
def FirstS (I : Ins) (s : Sta) : Prop := mayB I = true ∧ I.p = 0 ∧ s = rootS I
instance (I : Ins) (s : Sta) : Decidable (FirstS I s) := by unfold FirstS; infer_instance
def BackE (I : Ins) (s : Sta) : Prop := GoOn I s ∧ BackB I s ∧ within (allS I) s.may = true
instance (I : Ins) (s : Sta) : Decidable (BackE I s) := by unfold BackE; infer_instance
theorem end_iff (I : Ins) (s : Sta) : EndS I s ↔ FirstS I s ∨ BackE I s := by
  unfold EndS FirstS BackE BackB
  exact ⟨fun h => h.elim .inl (fun ⟨a, b, c, d, e⟩ => .inr ⟨a, ⟨b, c, e⟩, d⟩), fun h => h.elim .inl (fun ⟨a, ⟨b, c, e⟩, d⟩ => .inr ⟨a, b, c, d, e⟩)⟩
theorem end_first {I : Ins} {s : Sta} (h : FirstS I s) : endC I s = 0 ∧ decide (EndS I s) = true := by
  have he := (end_iff I s).2 (.inl h)
  refine ⟨?_, decide_eq_true he⟩
  rw [endC_is he, h.2.2, root_may h.1]
  exact farF_self _
theorem end_no {I : Ins} {s : Sta} (h1 : ¬ FirstS I s) (h2 : ¬ BackE I s) : endC I s = 0 ∧ decide (EndS I s) = false := by
  have he : ¬ EndS I s := fun h => ((end_iff I s).1 h).elim h1 h2
  exact ⟨endC_none he, decide_eq_false he⟩
theorem end_back {I : Ins} {s : Sta} (h2 : BackE I s) : endC I s = farS1 I s 0 ∧ decide (EndS I s) = true := by
  have he := (end_iff I s).2 (.inr h2)
  exact ⟨endC_is he, decide_eq_true he⟩
theorem back_within {I : Ins} {s : Sta} (hg : GoOn I s) : (decide (BackB I s) && within (allS I) s.may) = decide (BackE I s) := by
  rw [Bool.eq_iff_iff]
  simp only [Bool.and_eq_true, decide_eq_true_eq]
  exact ⟨fun ⟨a, b⟩ => ⟨hg, a, b⟩, fun ⟨_, a, b⟩ => ⟨a, b⟩⟩
set_option maxRecDepth 1000000 in
set_option maxHeartbeats 4000000 in
theorem send_any {w : World} {v : Value} {I : Ins} {s : Sta} (hr : SRow w v I.l) (hs : SetsOk s) :
    Calls Tryz.prog 62 #[insV I v, staV s] w fun e w' => e = .returned (.tuple #[.int .i64 (endC I s), .bool (decide (EndS I s))]) ∧ Below w.heap.size w w' := by
  have HR := Lib.hid hr
  have HS := Lib.hid hs
  obtain ⟨ad, cap, rfl, _⟩ := hr.form
  clear hr hs
  unfold insV
  rw [show staV s = .agg #[.int .i64 s.pos, .int .i64 s.car, .int .i64 s.time, .int .i64 s.load, .int .i64 s.first, .int .u64 s.must, .int .u64 s.may, .int .u64 s.on] from rfl]
  go_enter Tryz.func62, Tryz.ntmps62
  go_wp2_with fail
  obtain ⟨b1, b2, b3, b4⟩ := boxes_here w I (.slice ad I.l.length cap) s
  have HY0 := Lib.hid b1
  have HT0 := Lib.hid b2
  have HC0 := Lib.hid b3
  have HB0 := Lib.hid b4
  clear b1 b2 b3 b4
  change Code.wp _ _ _ _ (((w.alloc (boxI I (.slice ad I.l.length cap))).alloc (boxSt s)).alloc (boxH I (.slice ad I.l.length cap) s))
  generalize ((w.alloc (boxI I (.slice ad I.l.length cap))).alloc (boxSt s)).alloc (boxH I (.slice ad I.l.length cap) s) = W at *
  go_cut [11] from 12 (fun c wx => c = .bool (decide (FirstS I s)) ∧ HereB wx (w.heap.size + 1 + 1) I (.slice ad I.l.length cap) s ∧ Below w.heap.size w wx)
  case first =>
    have HYd := Lib.hid (HY0.out.later (Below.refl _ _).drew)
    have HTd := Lib.hid (HT0.out.later (Below.refl _ _).drew)
    have HCd := Lib.hid (HC0.out.later (Below.refl _ _).drew)
    have HBd := Lib.hid HB0.out.drew
    have HS0 := Lib.hid (show Holds (cellsI w.heap.size I (.slice ad I.l.length cap) ++ cellsSt (w.heap.size + 1) s) W.drew from Holds.app.2 ⟨⟨HYd.out.cells.1, HYd.out.cells.2.1, HYd.out.cells.2.2.1, HYd.out.cells.2.2.2, trivial⟩, HTd.out.holds⟩)
    refine wp_region_held_drew (S := Holds (cellsI w.heap.size I (.slice ad I.l.length cap) ++ cellsSt (w.heap.size + 1) s)) (by kernel_rfl) HS0.out (fun hSn => ?_)
    clear HY0 HT0 HC0 HB0
    generalize W.drew = V at *
    have hlt := Lib.hid (show Lows V.heap.size (cellsI w.heap.size I (.slice ad I.l.length cap) ++ cellsSt (w.heap.size + 1) s) from Lows.app ⟨HYd.out.lt, HYd.out.lt, HYd.out.lt, HYd.out.lt, trivial⟩ (lows_St HTd.out.lt))
    have Bc := Lib.hid (Below.refl V.heap.size V)
    simp only [cellsI, cellsSt, List.cons_append, List.nil_append] at HS0 hlt hSn ⊢
    refine tks [0] 1 rfl (by kernel_rfl) (fun _ _ _ _ h => h) (by assumption) (fun KT hKT => ?_)
    refine tkT (by (simp only [gA, gB]; rfl)) (by rfl) (by (intro w hSw; (simp only [Holds] at hSw); go_simp <;> with_reducible rfl)) ?_
    simp only [Act.put, pA, pB, pC]
    refine hKT _ ?_
    clear KT hKT
    refine wpAnyH_ready (rs := [1]) (by kernel_rfl) (by simp) ?_
    refine AllReadyH.cons (o := ?oz200) ?iz200 (fun K hK => ?kz200) AllReadyH.nil
    case iz200 => (simp only [List.getElem?_toArray, List.getElem?_cons_zero, List.getElem?_cons_succ]; rfl)
    go_simp
    change Calls _ _ #[insV I (.slice ad I.l.length cap)] _ _
    refine (may_any (HR.out.below (HBd.out.trans (Bc.out.mono HBd.out.size)))).mono ?_
    rintro e w' ⟨rfl, hb⟩
    refine held_more hK HS0.out hlt (Bc.out.trans (hb.mono Bc.out.size)) (fun Bc hSn => ?_)
    clear hb hK
    by_cases hm : mayB I = true
    case' neg =>
      have HE := Lib.hid (show decide (FirstS I s) = false from decide_eq_false (fun h => hm h.1))
      rw [Bool.not_eq_true] at hm
      rw [hm]
      clear hm
      refine tks [2] 1 rfl (by kernel_rfl) (fun _ _ _ _ h => h) (by assumption) (fun KT hKT => ?_)
      refine tkT (by (simp only [gA, gB, gC]; rfl)) (by rfl) (by (intro w hSw; (simp only [Holds] at hSw); go_simp <;> with_reducible rfl)) ?_
      simp only [Act.put, pA, pB, pC]
      refine hKT _ ?_
      clear KT hKT
      refine tks [3, 4, 5] 3 rfl (by kernel_rfl) (fun _ _ _ _ h => h) (by assumption) (fun KT hKT => ?_)
      iterate 3 (refine tkS (by (simp only [gA, gB, gC]; rfl)) (by rfl) ?_; simp only [Act.put, pA, pB, pC])
      refine hKT _ ?_
      clear KT hKT
      refine tks [6, 7] 2 rfl (by kernel_rfl) (fun _ _ _ _ h => h) (by assumption) (fun KT hKT => ?_)
      iterate 2 (refine tkT (by (simp only [gA, gB, gC]; rfl)) (by rfl) (by (intro w hSw; (simp only [Holds] at hSw); go_simp <;> with_reducible rfl)) ?_; simp only [Act.put, pA, pB, pC])
      refine hKT _ ?_
      clear KT hKT
      refine tks [8, 9, 10, 11] 4 rfl (by kernel_rfl) (fun _ _ _ _ h => h) (by assumption) (fun KT hKT => ?_)
      iterate 4 (refine tkS (by (simp only [gA, gB, gC]; rfl)) (by rfl) ?_; simp only [Act.put, pA, pB, pC])
      refine hKT _ ?_
      clear KT hKT
      refine tks [12, 13] 2 rfl (by kernel_rfl) (fun _ _ _ _ h => h) (by assumption) (fun KT hKT => ?_)
      iterate 2 (refine tkT (by (simp only [gA, gB, gC]; rfl)) (by rfl) (by (intro w hSw; (simp only [Holds] at hSw); go_simp <;> with_reducible rfl)) ?_; simp only [Act.put, pA, pB, pC])
      refine hKT _ ?_
      clear KT hKT
      refine wpAnyH_done (by kernel_rfl) ?_ _
      go_wp2_with fail
      go_meet
      exact ⟨by rw [HE.out], HCd.out.later Bc.out, HBd.out.trans (Bc.out.mono HBd.out.size)⟩
    have HM := Lib.hid hm
    rw [hm]
    clear hm
    refine tks [2] 1 rfl (by kernel_rfl) (fun _ _ _ _ h => h) (by assumption) (fun KT hKT => ?_)
    refine tkT (by (simp only [gA, gB, gC]; rfl)) (by rfl) (by (intro w hSw; (simp only [Holds] at hSw); go_simp <;> with_reducible rfl)) ?_
    simp only [Act.put, pA, pB, pC]
    refine hKT _ ?_
    clear KT hKT
    by_cases h0 : I.p = 0
    case' neg =>
      have HE := Lib.hid (show decide (FirstS I s) = false from decide_eq_false (fun h => h0 h.2.1))
      have b0 : (I.p == 0) = false := by simp [h0]
      clear h0
      refine tks [3, 4, 5] 3 rfl (by kernel_rfl) (fun _ _ _ _ h => h) (by assumption) (fun KT hKT => ?_)
      iterate 3 (refine tkT (by (simp only [gA, gB, gC]; rfl)) (by rfl) (by (intro w hSw; (simp only [Holds] at hSw); go_simp <;> with_reducible rfl)) ?_; simp only [Act.put, pA, pB, pC])
      refine hKT _ ?_
      clear KT hKT
      refine tks [6, 7] 2 rfl (by kernel_rfl) (fun _ _ _ _ h => h) (by assumption) (fun KT hKT => ?_)
      iterate 2 (refine tkT (by (simp only [gA, gB, gC]; rfl)) (by rfl) (by (intro w hSw; (simp only [Holds] at hSw); go_simp <;> with_reducible rfl)) ?_; simp only [Act.put, pA, pB, pC])
      refine hKT _ ?_
      clear KT hKT
      refine tks [8, 9, 10, 11] 4 rfl (by kernel_rfl) (fun _ _ _ _ h => h) (by assumption) (fun KT hKT => ?_)
      iterate 4 (refine tkS (by (simp only [gA, gB, gC]; rfl)) (by rfl) ?_; simp only [Act.put, pA, pB, pC])
      refine hKT _ ?_
      clear KT hKT
      refine tks [12, 13] 2 rfl (by kernel_rfl) (fun _ _ _ _ h => h) (by assumption) (fun KT hKT => ?_)
      iterate 2 (refine tkT (by (simp only [gA, gB, gC]; rfl)) (by rfl) (by (intro w hSw; (simp only [Holds] at hSw); go_simp <;> with_reducible rfl)) ?_; simp only [Act.put, pA, pB, pC])
      refine hKT _ ?_
      clear KT hKT
      refine wpAnyH_done (by kernel_rfl) ?_ _
      go_wp2_with fail
      go_meet
      exact ⟨by rw [HE.out], HCd.out.later Bc.out, HBd.out.trans (Bc.out.mono HBd.out.size)⟩
    have H0 := Lib.hid h0
    have b0 : (I.p == 0) = true := by simp [h0]
    clear h0
    refine tks [3, 4, 5] 3 rfl (by kernel_rfl) (fun _ _ _ _ h => h) (by assumption) (fun KT hKT => ?_)
    iterate 3 (refine tkT (by (simp only [gA, gB, gC]; rfl)) (by rfl) (by (intro w hSw; (simp only [Holds] at hSw); go_simp <;> with_reducible rfl)) ?_; simp only [Act.put, pA, pB, pC])
    refine hKT _ ?_
    clear KT hKT
    refine tks [6, 7] 2 rfl (by kernel_rfl) (fun _ _ _ _ h => h) (by assumption) (fun KT hKT => ?_)
    iterate 2 (refine tkT (by (simp only [gA, gB, gC]; rfl)) (by rfl) (by (intro w hSw; (simp only [Holds] at hSw); go_simp <;> with_reducible rfl)) ?_; simp only [Act.put, pA, pB, pC])
    refine hKT _ ?_
    clear KT hKT
    refine tks [8, 9] 2 rfl (by kernel_rfl) (fun _ _ _ _ h => h) (by assumption) (fun KT hKT => ?_)
    iterate 2 (refine tkT (by (simp only [gA, gB, gC]; rfl)) (by rfl) (by (intro w hSw; (simp only [Holds] at hSw); go_simp <;> with_reducible rfl)) ?_; simp only [Act.put, pA, pB, pC])
    refine hKT _ ?_
    clear KT hKT
    refine wpAnyH_ready (rs := [10]) (by kernel_rfl) (by simp) ?_
    refine AllReadyH.cons (o := ?oz201) ?iz201 (fun K hK => ?kz201) AllReadyH.nil
    case iz201 => (simp only [List.getElem?_toArray, List.getElem?_cons_zero, List.getElem?_cons_succ]; rfl)
    go_simp
    change Calls _ _ #[insV I (.slice ad I.l.length cap)] _ _
    refine (sroot_any (HR.out.below (HBd.out.trans (Bc.out.mono HBd.out.size)))).mono ?_
    rintro e w' ⟨rfl, hb⟩
    refine held_more hK HS0.out hlt (Bc.out.trans (hb.mono Bc.out.size)) (fun Bc hSn => ?_)
    clear hb hK
    have keq := equalSta s (rootS I)
    have kg := guardSta
    have HE := Lib.hid (show decide (FirstS I s) = decide (s = rootS I) from decide_eq_decide.2 ⟨fun h => h.2.2, fun h => ⟨HM.out, H0.out, h⟩⟩)
    unfold staV
    by_cases hq : s = rootS I
    · rw [decide_eq_true hq] at keq HE
      clear hq
      refine tks [11] 1 rfl (by kernel_rfl) (fun _ _ _ _ h => h) (by assumption) (fun KT hKT => ?_)
      refine tkT (by (simp only [gA, gB, gC]; rfl)) (by rfl) (by (intro w hSw; (simp only [Holds] at hSw); go_simp <;> with_reducible rfl)) ?_
      simp only [Act.put, pA, pB, pC]
      refine hKT _ ?_
      clear KT hKT
      refine tks [12, 13] 2 rfl (by kernel_rfl) (fun _ _ _ _ h => h) (by assumption) (fun KT hKT => ?_)
      iterate 2 (refine tkT (by (simp only [gA, gB, gC]; rfl)) (by rfl) (by (intro w hSw; (simp only [Holds] at hSw); go_simp <;> with_reducible rfl)) ?_; simp only [Act.put, pA, pB, pC])
      refine hKT _ ?_
      clear KT hKT
      refine wpAnyH_done (by kernel_rfl) ?_ _
      go_wp2_with fail
      go_meet
      exact ⟨by rw [HE.out], HCd.out.later Bc.out, HBd.out.trans (Bc.out.mono HBd.out.size)⟩
    · rw [decide_eq_false hq] at keq HE
      clear hq
      refine tks [11] 1 rfl (by kernel_rfl) (fun _ _ _ _ h => h) (by assumption) (fun KT hKT => ?_)
      refine tkT (by (simp only [gA, gB, gC]; rfl)) (by rfl) (by (intro w hSw; (simp only [Holds] at hSw); go_simp <;> with_reducible rfl)) ?_
      simp only [Act.put, pA, pB, pC]
      refine hKT _ ?_
      clear KT hKT
      refine tks [12, 13] 2 rfl (by kernel_rfl) (fun _ _ _ _ h => h) (by assumption) (fun KT hKT => ?_)
      iterate 2 (refine tkT (by (simp only [gA, gB, gC]; rfl)) (by rfl) (by (intro w hSw; (simp only [Holds] at hSw); go_simp <;> with_reducible rfl)) ?_; simp only [Act.put, pA, pB, pC])
      refine hKT _ ?_
      clear KT hKT
      refine wpAnyH_done (by kernel_rfl) ?_ _
      go_wp2_with fail
      go_meet
      exact ⟨by rw [HE.out], HCd.out.later Bc.out, HBd.out.trans (Bc.out.mono HBd.out.size)⟩
  case rest =>
    obtain ⟨rfl, hc, hb⟩ := hcut
    have HC1 := Lib.hid hc
    have HB1 := Lib.hid hb
    clear hc hb HY0 HT0 HC0 HB0
    by_cases hf : FirstS I s
    · have HE := Lib.hid (end_first hf)
      rw [decide_eq_true hf]
      clear hf
      go_wp2
      exact bodyPost_ret (v := .tuple #[.int .i64 0, .bool true]) (by simp [results, Tryz.results62, go_sem]) rfl ⟨by rw [HE.out.1, HE.out.2], HB1.out⟩
    rw [decide_eq_false hf]
    have HF := Lib.hid hf
    clear hf
    go_wp2_with fail
    refine (goOn_any HC1.out (HR.out.below HB1.out)).mono ?_
    rintro e w2 ⟨rfl, hb⟩
    have HC2 := Lib.hid (HC1.out.later hb)
    have HB2 := Lib.hid (HB1.out.trans (hb.mono HB1.out.size))
    clear hb
    by_cases hg : GoOn I s
    case' neg =>
      have HE := Lib.hid (end_no HF.out (fun h => hg h.1))
      rw [decide_eq_false hg]
      clear hg
      go_wp2
      exact bodyPost_ret (v := .tuple #[.int .i64 0, .bool false]) (by simp [results, Tryz.results62, go_sem]) rfl ⟨by rw [HE.out.1, HE.out.2], HB2.out⟩
    rw [decide_eq_true hg]
    have HG := Lib.hid hg
    have HW := Lib.hid (back_within hg)
    clear hg
    go_wp2_with fail
    refine (canEnd_any HC2.out (HR.out.below HB2.out) HG.out HS.out).mono ?_
    rintro e w3 ⟨rfl, hb⟩
    have HC3 := Lib.hid (HC2.out.later hb)
    have HB3 := Lib.hid (HB2.out.trans (hb.mono HB2.out.size))
    clear hb
    rw [HW.out]
    by_cases hk : BackE I s
    case' neg =>
      have HE := Lib.hid (end_no HF.out hk)
      rw [decide_eq_false hk]
      clear hk
      go_wp2
      exact bodyPost_ret (v := .tuple #[.int .i64 0, .bool false]) (by simp [results, Tryz.results62, go_sem]) rfl ⟨by rw [HE.out.1, HE.out.2], HB3.out⟩
    have HE := Lib.hid (end_back hk)
    rw [decide_eq_true hk]
    clear hk
    go_wp2_with fail
    refine (hfarTo_any HC3.out (HR.out.below HB3.out) HG.out.1 HG.out.2.1 ⟨Int.le_refl _, by have := (fine_of HG.out.1).p0; omega⟩).mono ?_
    rintro e w4 ⟨rfl, hb⟩
    have HB4 := Lib.hid (HB3.out.trans (hb.mono HB3.out.size))
    clear hb
    go_wp2
    exact bodyPost_ret (v := .tuple #[.int .i64 (farS1 I s 0), .bool true]) (by simp [results, Tryz.results62, go_sem]) rfl ⟨by rw [HE.out.1, HE.out.2], HB4.out⟩
end Go.Proofs.YtgplajofemencaaGreat
/- What is known behind moves. -/
namespace Go.Proofs.YtgplajofemencaaGreat
open Go.ChangeShapes Go.WideShapes Go.ChangeAt Go.RowKit

end Go.Proofs.YtgplajofemencaaGreat
/- States that a law is handed. -/
namespace Go.Proofs.YtgplajofemencaaGreat
open Go.ChangeShapes Go.WideShapes Go.ChangeAt Go.RowKit

def FitSt (s : Sta) : Prop := Fit s.pos ∧ Fit s.car ∧ Fit s.time ∧ Fit s.load ∧ Fit s.first
section
variable {H : Type} {enc : TypeId × Value → H} {w : World} {base : Nat} {spare : Nat → Bool} {held : Bool}
end
end Go.Proofs.YtgplajofemencaaGreat
/- The chapter's example. -/
namespace Go.Proofs.YtgplajofemencaaGreat
open Go.ChangeShapes Go.WideShapes Go.ChangeAt Go.RowKit

def sg0 : Sta := ⟨0, 1, 0, 0, 0, 0, 0, 0⟩
def sg1 : Sta := ⟨1, 1, 4, 2, 1, 2, 2, 2⟩
def sg2 : Sta := ⟨2, 1, 10, 0, 1, 6, 6, 0⟩
theorem sg_may : mayB smallI = true := small_ok.2.2.1
theorem sg_root : rootS smallI = sg0 := root_may sg_may
theorem sg_go0 : GoOn smallI sg0 := ⟨sg_may, by decide, by decide, by decide, by decide⟩
theorem sg_go1 : GoOn smallI sg1 := ⟨sg_may, by decide, by decide, by decide, by decide⟩
theorem sg_go2 : GoOn smallI sg2 := ⟨sg_may, by decide, by decide, by decide, by decide⟩
theorem sg_beg1 : begS smallI sg0 1 = 3 := by
  unfold begS comeS
  rw [show farF (stp smallI sg0.pos) (stp smallI 1) = 3 from small_f1]; rfl
theorem sg_beg2 : begS smallI sg1 2 = 9 := by
  unfold begS comeS
  rw [show farF (stp smallI sg1.pos) (stp smallI 2) = 5 from small_f2]; rfl
theorem sg_come : comeS smallI sg2 0 = 14 := by
  unfold comeS
  rw [show farF (stp smallI sg2.pos) (stp smallI 0) = 4 from small_f3]; rfl
theorem sg_can1 : Can smallI sg0 1 := ⟨sg_go0, .inl ⟨by decide, by decide +kernel, by decide, by rw [sg_beg1]; decide, fun _ => by decide⟩⟩
theorem sg_not0 : ¬ Can smallI sg0 0 := fun h => (can_zero h).2.1 rfl
theorem sg_not2 : ¬ Can smallI sg0 2 := fun h => by
  rcases h.2 with h | h | h
  · have := h.1.2; revert this; decide
  · exact h.2.1 rfl
  · have := h.1; revert this; decide
theorem sg_can2 : Can smallI sg1 2 := ⟨sg_go1, .inr (.inl ⟨by decide, by decide, by decide +kernel, by decide +kernel, by rw [sg_beg2]; decide⟩)⟩
theorem sg_next1 : nextS smallI sg0 1 = sg1 := by
  unfold nextS visitS
  rw [sg_beg1]
  decide +kernel
theorem sg_next2 : nextS smallI sg1 2 = sg2 := by
  unfold nextS visitS
  rw [sg_beg2]
  decide +kernel
theorem sg_moves : movesS smallI (rootS smallI) = [1] := by
  rw [sg_root]
  show movesN smallI sg0 3 = [1]
  rw [movesN_succ, if_neg (by exact sg_not2), movesN_succ, if_pos (by exact sg_can1), movesN_succ, if_neg (by exact sg_not0), movesN_zero]; rfl
theorem sg_end : EndS smallI sg2 := .inr ⟨sg_go2, by decide, by decide, by decide +kernel, by rw [sg_come]; decide⟩
theorem sg_cost : endC smallI sg2 = 4 := (endC_is sg_end).trans small_f3
end Go.Proofs.YtgplajofemencaaGreat
