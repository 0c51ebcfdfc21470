/- What the methods that make the state behind a move answer. -/
import Derived.Test.YtpgbbnmflnhlbaaXSLeaf
import Derived.Deep.MidRow
namespace Go.Proofs.Ytpgbbnmflnhlbaa
open Go.ChangeShapes Go.WideShapes Go.ChangeAt Go.RowKit

/-! ### A whole state into a block that holds one -/
def stL (s : Sta) : List Value := [.int .i64 s.pos, .int .i64 s.car, .int .i64 s.time, .int .i64 s.load, .int .i64 s.first, .int .u64 s.must, .int .u64 s.may, .int .u64 s.on]
theorem put_state {w : World} {r : Nat} {s0 : Sta} (k : StB w r s0) (s : Sta) : StB (w.setCells r 0 (stL s)) r s :=
  (((((((k.set0 s.pos).set1 s.car).set2 s.time).set3 s.load).set4 s.first).set5 s.must).set6 s.may).set7 s.on
theorem put_below {w : World} {r M : Nat} (h : M ≤ r) (s : Sta) : Below M w (w.setCells r 0 (stL s)) :=
  ((((((((Below.refl M w).setCell (p := ⟨r, 0, none⟩) h _).setCell (p := ⟨r, 1, none⟩) h _).setCell (p := ⟨r, 2, none⟩) h _).setCell (p := ⟨r, 3, none⟩) h _).setCell (p := ⟨r, 4, none⟩) h _).setCell (p := ⟨r, 5, none⟩) h _).setCell (p := ⟨r, 6, none⟩) h _).setCell (p := ⟨r, 7, none⟩) h _
theorem StB.there {w : World} {r : Nat} {s0 : Sta} (k : StB w r s0) : w.there r 0 8 := by
  intro j hj
  rw [Nat.zero_add]
  refine ⟨?_, k.free j⟩
  rw [k.cell j]
  match j, hj with
  | 0, _ | 1, _ | 2, _ | 3, _ | 4, _ | 5, _ | 6, _ | 7, _ => rfl
theorem infoState : (Try.prog.info? 55).map (·.size) = some 8 := by kernel_rfl
theorem wpList_store_state {ops : Array Oper} {rest : List Oper} {op : Oper} {a : Act} {w : World} {Q : Exit → Act → World → Prop} (hgd : op.guard = none) (x y : Operand) (ho : op.op = .store 55 x y)
    (r : Nat) (s0 s : Sta) (hx : a.eval x = .pointer (some ⟨r, 0, none⟩)) (hy : a.eval y = staV s) (k : StB w r s0)
    (h : ∀ w', StB w' r s → (∀ M, M ≤ r → Below M w w') → wpList Try.prog ops Q rest (a.put op.dst undef) w') : wpList Try.prog ops Q (op :: rest) a w := by
  refine wpList_store_mid hgd 55 x y ho r 0 (stL s).toArray hx (hy.trans rfl) (by exact k.there) (by exact infoState) (all_oneCell_toArray (fun v hv => by
    simp only [stL, List.mem_cons, List.not_mem_nil, or_false] at hv
    rcases hv with rfl | rfl | rfl | rfl | rfl | rfl | rfl | rfl <;> rfl)) ?_
  exact h _ (by exact put_state k s) (fun M hM => by exact put_below hM s)

/-- What both kinds of stops change alike. -/
def seenS (I : Ins) (s : Sta) (j : Int) : Sta := ⟨j, s.car, begS I s j + (stp I j).s, s.load + (stp I j).d, s.first, s.must ||| bitN j, s.may ||| bitN j, s.on⟩
theorem beg_bd {I : Ins} {s : Sta} {j : Int} (hg : GoOn I s) (hj : 0 ≤ j ∧ j ≤ 2 * I.p) : 0 ≤ begS I s j ∧ begS I s j ≤ 1100000000 := by
  have h1 := (goOn_bd hg).2.2.1
  have h2 := far1_bd I s j
  have h3 := comeS_eq I s j
  have h4 := stop_in ((fine_of hg.1).ok j hj.1 hj.2)
  unfold begS
  omega
theorem dem_bd {I : Ins} {j : Int} (hm : mayB I = true) (hj : 0 ≤ j ∧ j ≤ 2 * I.p) : -1000 ≤ (stp I j).d ∧ (stp I j).d ≤ 1000 := by
  have hf := fine_of hm
  by_cases h0 : j = 0
  · rw [h0, hf.yard.1]; omega
  · by_cases h1 : j ≤ I.p
    · have := hf.take j (by omega) h1; omega
    · have h2 := hf.bring j (by omega) hj.2
      have := hf.take (j - I.p) (by omega) (by omega)
      omega
theorem bit_lt (n : Nat) (j : Int) (h : n < 18446744073709551616) : n ||| bitN j < 18446744073709551616 := or_lt h (bitN_lt j)
set_option maxRecDepth 1000000 in
set_option maxHeartbeats 4000000 in
theorem unmoved_any {w : World} {b : Nat} {I : Ins} {sv : Value} {s : Sta} {j : Int} (hc : HereB w b I sv s) :
    Calls Try.prog 137 #[.pointer (some ⟨b, 0, none⟩), .int .i64 j] w fun e w' => e = .returned (staV s) ∧ Below w.heap.size w w' := by
  have HC := Lib.hid hc
  clear hc
  go_enter Try.func137, Try.ntmps137
  go_upto_region 1 with fail
  have HR0 := Lib.hid (st_new w noughtS)
  have HB := Lib.hid ((Below.refl w.heap.size w).alloc (Nat.le_refl _) (boxSt noughtS))
  have HC1 := Lib.hid (HC.out.later HB.out)
  change Code.wp _ _ _ _ (w.alloc (boxSt noughtS))
  generalize w.alloc (boxSt noughtS) = W at *
  have HNle := Lib.hid (Nat.le_refl w.heap.size)
  have q4 := HC1.out.c4
  have q5 := HC1.out.c5
  have q6 := HC1.out.c6
  have q7 := HC1.out.c7
  have q8 := HC1.out.c8
  have q9 := HC1.out.c9
  have q10 := HC1.out.c10
  have q11 := HC1.out.c11
  go_wp2_with (refine wpList_store_state (by rfl) (.tmp 4) (.tmp 8) (by rfl) w.heap.size _ s (by rfl) (by rfl) HR0.out ?_)
  clear q4 q5 q6 q7 q8 q9 q10 q11
  intro WE hE hbE
  have z0 := hE.c0
  have z1 := hE.c1
  have z2 := hE.c2
  have z3 := hE.c3
  have z4 := hE.c4
  have z5 := hE.c5
  have z6 := hE.c6
  have z7 := hE.c7
  go_wp2
  exact bodyPost_ret (v := staV s) (by simp [results, Try.results137, go_sem, z0, z1, z2, z3, z4, z5, z6, z7, staV]) rfl ⟨rfl, HB.out.trans (hbE _ HNle.out)⟩
set_option maxRecDepth 1000000 in
set_option maxHeartbeats 4000000 in
theorem visited_any {w : World} {b : Nat} {I : Ins} {sv : Value} {s : Sta} {j : Int} (hc : HereB w b I sv s) (hr : SRow w sv I.l) (hg : GoOn I s) (hs : SetsOk s) (hj : 0 ≤ j ∧ j ≤ 2 * I.p) :
    Calls Try.prog 160 #[.pointer (some ⟨b, 0, none⟩), .int .i64 j] w fun e w' => e = .returned (staV (seenS I s j)) ∧ Below w.heap.size w w' := by
  have HC := Lib.hid hc
  have HR := Lib.hid hr
  have HG := Lib.hid hg
  have HS := Lib.hid hs
  have HJ := Lib.hid hj
  have hbl := hc.lt
  have b1 := beg_bd hg hj
  have b2 := stop_in ((fine_of hg.1).ok j hj.1 hj.2)
  have b3 := dem_bd hg.1 hj
  have b4 := (goOn_bd hg).2.2.2
  have e1 : IntKind.i64.wrap (begS I s j + (stp I j).s) = begS I s j + (stp I j).s := IntWalk.i64_in _ (by omega)
  have e2 : IntKind.i64.wrap (s.load + (stp I j).d) = s.load + (stp I j).d := IntWalk.i64_in _ (by omega)
  clear b1 b2 b3 b4
  obtain ⟨k, rfl, hk, ek⟩ := num_stop hg.1 hj
  have HE := Lib.hid (show seenS I s k = ⟨k, s.car, begS I s k + (nth I.l k).s, s.load + (nth I.l k).d, s.first, s.must ||| bitN k, s.may ||| bitN k, s.on⟩ from rfl)
  rw [ek] at e1 e2
  obtain ⟨ad, cap, rfl, _⟩ := hr.form
  obtain ⟨tb, off, rfl, hkt, hlt0⟩ := srow_at hr k hk
  have HKT := Lib.hid hkt
  clear hkt
  have hki : (k : Int) < (I.l.length : Int) := by omega
  have hlt2 := Lib.hid (show Lows w.heap.size (cellsH b I (.slice (some ⟨tb, off, none⟩) I.l.length cap) s ++ cellsF tb (off + k * 6) (nth I.l k)) from Lows.app (lows_H hbl) (lows_at hlt0))
  have HH := Lib.hid (show ∀ w', Below w.heap.size w w' → Holds (cellsH b I (.slice (some ⟨tb, off, none⟩) I.l.length cap) s ++ cellsF tb (off + k * 6) (nth I.l k)) w' from fun w' hb => Holds.app.2 ⟨(HC.out.later hb).holds, holds_at (HKT.out.below hlt0 hb)⟩)
  clear hc hr hg hs hj ek
  have q4 := HC.out.c4
  have q5 := HC.out.c5
  have q6 := HC.out.c6
  have q7 := HC.out.c7
  have q8 := HC.out.c8
  have q9 := HC.out.c9
  have q10 := HC.out.c10
  have q11 := HC.out.c11
  have hh : ∀ i o, (w.alloc o).cell? ⟨b, i, none⟩ = w.cell? ⟨b, i, none⟩ := fun i o => (((Below.refl w.heap.size w).alloc (Nat.le_refl _) o).cell hbl)
  generalize nth I.l k = t at *
  go_enter Try.func160, Try.ntmps160
  go_upto_region 3 with fail
  have HR0 := Lib.hid ((st_new w noughtS).later ((Below.refl _ _).alloc (Nat.le_refl _) (boxSt ⟨k, s.car, s.time, s.load, s.first, s.must, s.may, s.on⟩)))
  have HX := Lib.hid (st_new (w.alloc (boxSt noughtS)) ⟨k, s.car, s.time, s.load, s.first, s.must, s.may, s.on⟩)
  have HB := Lib.hid (((Below.refl w.heap.size w).alloc (Nat.le_refl _) (boxSt noughtS)).alloc (by simp) (boxSt ⟨k, s.car, s.time, s.load, s.first, s.must, s.may, s.on⟩))
  have hsz : (w.alloc (boxSt noughtS)).heap.size = w.heap.size + 1 := by simp
  rw [hsz] at HX
  clear hsz hh q4 q5 q6 q7 q8 q9 q10 q11
  change Code.wp _ _ _ _ ((w.alloc (boxSt noughtS)).alloc (boxSt ⟨k, s.car, s.time, s.load, s.first, s.must, s.may, s.on⟩))
  generalize (w.alloc (boxSt noughtS)).alloc (boxSt ⟨k, s.car, s.time, s.load, s.first, s.must, s.may, s.on⟩) = W3 at *
  have HNle := Lib.hid (Nat.le_refl w.heap.size)
  have HBd := Lib.hid HB.out.drew
  have HXd := Lib.hid (HX.out.later (Below.refl _ _).drew)
  have HRd := Lib.hid (HR0.out.later (Below.refl _ _).drew)
  have HS0 := Lib.hid (HH.out _ HBd.out)
  refine wp_region_held_drew (S := Holds (cellsH b I (.slice (some ⟨tb, off, none⟩) I.l.length cap) s ++ cellsF tb (off + k * 6) t)) (by kernel_rfl) HS0.out (fun hSn => ?_)
  clear HB HX HR0
  generalize W3.drew = V3 at *
  have hlt := Lib.hid (show Lows V3.heap.size (cellsH b I (.slice (some ⟨tb, off, none⟩) I.l.length cap) s ++ cellsF tb (off + k * 6) t) from Lows.app (lows_H (Nat.lt_of_lt_of_le hbl HBd.out.size)) (lows_at (Nat.lt_of_lt_of_le hlt0 HBd.out.size)))
  have hlt3 := Lib.hid hlt2.out
  have Bc := Lib.hid (Below.refl V3.heap.size V3)
  simp only [cellsH, cellsF, List.cons_append, List.nil_append] at HS0 hlt hlt3 hSn ⊢
  refine tks [0, 1, 3, 4, 5, 6, 7, 8, 9, 10, 11] 11 rfl (by kernel_rfl) (fun _ _ _ _ h => h) (by assumption) (fun KT hKT => ?_)
  iterate 11 (refine tkT (by (simp only [gA, gB, gC]; rfl)) (by rfl) (by (intro w hSw; (simp only [Holds] at hSw); go_simp <;> with_reducible rfl)) ?_; simp only [Act.put, pA, pB, pC])
  refine hKT _ ?_
  clear KT hKT
  refine wpAnyH_ready (rs := [2]) (by kernel_rfl) (by simp) ?_
  refine AllReadyH.cons (o := ?oz242) ?iz242 (fun K hK => ?kz242) AllReadyH.nil
  case iz242 => (simp only [List.getElem?_toArray, List.getElem?_cons_zero, List.getElem?_cons_succ]; rfl)
  go_simp
  refine (hbeginAt_any (HC.out.later (HBd.out.trans (Bc.out.mono HBd.out.size))) (HR.out.below (HBd.out.trans (Bc.out.mono HBd.out.size))) HG.out HJ.out).mono ?_
  rintro e w' ⟨rfl, hb⟩
  refine held_more hK HS0.out hlt (Bc.out.trans (hb.mono Bc.out.size)) (fun Bc hSn => ?_)
  clear hb hK
  refine tks [12] 1 rfl (by kernel_rfl) (fun _ _ _ _ h => h) (by assumption) (fun KT hKT => ?_)
  refine tkT (by (simp only [gA, gB, gC]; rfl)) (by rfl) (by (intro w hSw; (simp only [Holds] at hSw); go_simp <;> with_reducible rfl)) ?_
  simp only [Act.put, pA, pB, pC]
  refine hKT _ ?_
  clear KT hKT
  have HX4 := Lib.hid (HXd.out.later Bc.out)
  have HR4 := Lib.hid (HRd.out.later Bc.out)
  have HB4 := Lib.hid (HBd.out.trans (Bc.out.mono HBd.out.size))
  have x2 := HX4.out.c2
  have xf := HX4.out.free 2
  refine tks [13] 1 rfl (by kernel_rfl) (fun _ _ _ _ h => h) (by assumption) (fun KT hKT => ?_)
  refine tkT (by (simp only [gA, gB, gC]; rfl)) (by rfl) (by (intro w hSw; (simp only [Holds] at hSw); go_simp <;> with_reducible rfl)) ?_
  simp only [Act.put, pA, pB, pC]
  refine hKT _ ?_
  clear KT hKT
  refine wpAnyH_ready (rs := [14]) (by kernel_rfl) (by simp) ?_
  refine (AllReadyH.cons (o := ?oz243) ?iz243 (fun K hK => ?kz243) AllReadyH.nil)
  case iz243 => (simp only [List.getElem?_toArray, List.getElem?_cons_zero, List.getElem?_cons_succ]; rfl)
  go_simp
  refine hK.out _ _ (Holds.set (by simp) hSn hlt3.out) (fun hSn => ?_)
  refine wpAnyH_done (by kernel_rfl) ?_ _
  clear x2 xf
  have HX := Lib.hid (HX4.out.set2 (begS I s k + t.s))
  have HR0 := Lib.hid (HR4.out.other ⟨w.heap.size + 1, 2, none⟩ (.int .i64 (begS I s k + t.s)) (by simp))
  have HB := Lib.hid (HB4.out.setCell (p := ⟨w.heap.size + 1, 2, none⟩) (by simp) (.int .i64 (begS I s k + t.s)))
  generalize w'.setCell ⟨w.heap.size + 1, 2, none⟩ (.int .i64 (begS I s k + t.s)) = W4 at *
  clear HX4 HR4 HB4 HXd HRd HBd HS0 hlt hlt3 Bc hSn
  go_upto_region 4 with fail
  have HBd := Lib.hid HB.out.drew
  have HXd := Lib.hid (HX.out.later (Below.refl _ _).drew)
  have HRd := Lib.hid (HR0.out.later (Below.refl _ _).drew)
  have HS0 := Lib.hid (HH.out _ HBd.out)
  refine wp_region_held_drew (S := Holds (cellsH b I (.slice (some ⟨tb, off, none⟩) I.l.length cap) s ++ cellsF tb (off + k * 6) t)) (by kernel_rfl) HS0.out (fun hSn => ?_)
  clear HB HX HR0
  generalize W4.drew = V4 at *
  have hlt := Lib.hid (show Lows V4.heap.size (cellsH b I (.slice (some ⟨tb, off, none⟩) I.l.length cap) s ++ cellsF tb (off + k * 6) t) from Lows.app (lows_H (Nat.lt_of_lt_of_le hbl HBd.out.size)) (lows_at (Nat.lt_of_lt_of_le hlt0 HBd.out.size)))
  have hlt3 := Lib.hid hlt2.out
  have Bc := Lib.hid (Below.refl V4.heap.size V4)
  simp only [cellsH, cellsF, List.cons_append, List.nil_append] at HS0 hlt hlt3 hSn ⊢
  refine tks [0, 2, 3, 4, 5, 6, 7, 8, 9, 10] 10 rfl (by kernel_rfl) (fun _ _ _ _ h => h) (by assumption) (fun KT hKT => ?_)
  iterate 10 (refine tkT (by (simp only [gA, gB, gC]; rfl)) (by rfl) (by (intro w hSw; (simp only [Holds] at hSw); go_simp <;> with_reducible rfl)) ?_; simp only [Act.put, pA, pB, pC])
  refine hKT _ ?_
  clear KT hKT
  have HX4 := Lib.hid HXd.out
  have x3 := HX4.out.c3
  have xf := HX4.out.free 3
  refine wpAnyH_ready (rs := [1]) (by kernel_rfl) (by simp) ?_
  refine (AllReadyH.cons (o := ?oz244) ?iz244 (fun K hK => ?kz244) AllReadyH.nil)
  case iz244 => (simp only [List.getElem?_toArray, List.getElem?_cons_zero, List.getElem?_cons_succ]; rfl)
  go_simp
  refine held_more hK HS0.out hlt Bc.out (fun Bc hSn => ?_)
  refine tks [11, 12] 2 rfl (by kernel_rfl) (fun _ _ _ _ h => h) (by assumption) (fun KT hKT => ?_)
  iterate 2 (refine tkT (by (simp only [gA, gB, gC]; rfl)) (by rfl) (by (intro w hSw; (simp only [Holds] at hSw); go_simp <;> with_reducible rfl)) ?_; simp only [Act.put, pA, pB, pC])
  refine hKT _ ?_
  clear KT hKT
  refine wpAnyH_ready (rs := [13]) (by kernel_rfl) (by simp) ?_
  refine (AllReadyH.cons (o := ?oz245) ?iz245 (fun K hK => ?kz245) AllReadyH.nil)
  case iz245 => (simp only [List.getElem?_toArray, List.getElem?_cons_zero, List.getElem?_cons_succ]; rfl)
  go_simp
  refine hK.out _ _ (Holds.set (by simp) hSn hlt3.out) (fun hSn => ?_)
  refine wpAnyH_done (by kernel_rfl) ?_ _
  clear x3 xf
  have HX := Lib.hid (HX4.out.set3 (s.load + t.d))
  have HR0 := Lib.hid (HRd.out.other ⟨w.heap.size + 1, 3, none⟩ (.int .i64 (s.load + t.d)) (by simp))
  have HB := Lib.hid (HBd.out.setCell (p := ⟨w.heap.size + 1, 3, none⟩) (by simp) (.int .i64 (s.load + t.d)))
  generalize V4.setCell ⟨w.heap.size + 1, 3, none⟩ (.int .i64 (s.load + t.d)) = W5 at *
  clear HX4 HXd HRd HBd HS0 hlt hlt3 Bc hSn
  go_upto_region 5 with fail
  have HBd := Lib.hid HB.out.drew
  have HXd := Lib.hid (HX.out.later (Below.refl _ _).drew)
  have HRd := Lib.hid (HR0.out.later (Below.refl _ _).drew)
  have HS0 := Lib.hid (HH.out _ HBd.out)
  refine wp_region_held_drew (S := Holds (cellsH b I (.slice (some ⟨tb, off, none⟩) I.l.length cap) s ++ cellsF tb (off + k * 6) t)) (by kernel_rfl) HS0.out (fun hSn => ?_)
  clear HB HX HR0
  generalize W5.drew = V5 at *
  have hlt := Lib.hid (show Lows V5.heap.size (cellsH b I (.slice (some ⟨tb, off, none⟩) I.l.length cap) s ++ cellsF tb (off + k * 6) t) from Lows.app (lows_H (Nat.lt_of_lt_of_le hbl HBd.out.size)) (lows_at (Nat.lt_of_lt_of_le hlt0 HBd.out.size)))
  have hlt3 := Lib.hid hlt2.out
  have Bc := Lib.hid (Below.refl V5.heap.size V5)
  simp only [cellsH, cellsF, List.cons_append, List.nil_append] at HS0 hlt hlt3 hSn ⊢
  have x5 := HXd.out.c5
  have x6 := HXd.out.c6
  have xf5 := HXd.out.free 5
  refine tks [0, 2, 4, 6] 4 rfl (by kernel_rfl) (fun _ _ _ _ h => h) (by assumption) (fun KT hKT => ?_)
  iterate 4 (refine tkT (by (simp only [gA, gB, gC]; rfl)) (by rfl) (by (intro w hSw; (simp only [Holds] at hSw); go_simp <;> with_reducible rfl)) ?_; simp only [Act.put, pA, pB, pC])
  refine hKT _ ?_
  clear KT hKT
  refine wpAnyH_ready (rs := [1, 5]) (by kernel_rfl) (by simp) ?_
  refine (AllReadyH.cons (o := ?oz246) ?iz246 (fun K hK => ?kz246) (AllReadyH.cons (o := ?oz247) ?iz247 (fun K hK => ?kz247) AllReadyH.nil))
  case iz246 => (simp only [List.getElem?_toArray, List.getElem?_cons_zero, List.getElem?_cons_succ]; rfl)
  case iz247 => (simp only [List.getElem?_toArray, List.getElem?_cons_zero, List.getElem?_cons_succ]; rfl)
  · go_simp
    refine held_more hK HS0.out hlt Bc.out (fun Bc hSn => ?_)
    clear hK
    refine wpAnyH_ready (rs := [3, 5]) (by kernel_rfl) (by simp) ?_
    refine (AllReadyH.cons (o := ?oz248) ?iz248 (fun K hK => ?kz248) (AllReadyH.cons (o := ?oz249) ?iz249 (fun K hK => ?kz249) AllReadyH.nil))
    case iz248 => (simp only [List.getElem?_toArray, List.getElem?_cons_zero, List.getElem?_cons_succ]; rfl)
    case iz249 => (simp only [List.getElem?_toArray, List.getElem?_cons_zero, List.getElem?_cons_succ]; rfl)
    · go_simp
      refine (ewith_any _ _ _ HS.out.1).mono ?_
      rintro e w' ⟨rfl, rfl⟩
      refine held_more hK HS0.out hlt Bc.out (fun Bc hSn => ?_)
      clear hK
      refine wpAnyH_ready (rs := [5]) (by kernel_rfl) (by simp) ?_
      refine (AllReadyH.cons (o := ?oz250) ?iz250 (fun K hK => ?kz250) AllReadyH.nil)
      case iz250 => (simp only [List.getElem?_toArray, List.getElem?_cons_zero, List.getElem?_cons_succ]; rfl)
      go_simp
      refine held_more hK HS0.out hlt Bc.out (fun Bc hSn => ?_)
      clear hK
      refine tks [8] 1 rfl (by kernel_rfl) (fun _ _ _ _ h => h) (by assumption) (fun KT hKT => ?_)
      refine tkT (by (simp only [gA, gB, gC]; rfl)) (by rfl) (by (intro w hSw; (simp only [Holds] at hSw); go_simp <;> with_reducible rfl)) ?_
      simp only [Act.put, pA, pB, pC]
      refine hKT _ ?_
      clear KT hKT
      refine wpAnyH_ready (rs := [7]) (by kernel_rfl) (by simp) ?_
      refine AllReadyH.cons (o := ?oz251) ?iz251 (fun K hK => ?kz251) AllReadyH.nil
      case iz251 => (simp only [List.getElem?_toArray, List.getElem?_cons_zero, List.getElem?_cons_succ]; rfl)
      go_simp
      refine (ewith_any _ _ _ HS.out.2.1).mono ?_
      rintro e w' ⟨rfl, rfl⟩
      refine held_more hK HS0.out hlt Bc.out (fun Bc hSn => ?_)
      clear hK
      refine wpAnyH_ready (rs := [9]) (by kernel_rfl) (by simp) ?_
      refine (AllReadyH.cons (o := ?oz252) ?iz252 (fun K hK => ?kz252) AllReadyH.nil)
      case iz252 => (simp only [List.getElem?_toArray, List.getElem?_cons_zero, List.getElem?_cons_succ]; rfl)
      go_simp
      refine hK.out _ _ (Holds.set (by simp) hSn hlt3.out) (fun hSn => ?_)
      clear hK x5 x6 xf5
      have HX6 := Lib.hid (HXd.out.set5 (s.must ||| bitN k))
      have HR6 := Lib.hid (HRd.out.other ⟨w.heap.size + 1, 5, none⟩ (.int .u64 ((s.must ||| bitN k : Nat) : Int)) (by simp))
      have HB6 := Lib.hid (HBd.out.setCell (p := ⟨w.heap.size + 1, 5, none⟩) (by simp) (.int .u64 ((s.must ||| bitN k : Nat) : Int)))
      generalize V5.setCell ⟨w.heap.size + 1, 5, none⟩ (.int .u64 ((s.must ||| bitN k : Nat) : Int)) = U6 at *
      have x6 := HX6.out.c6
      have xf6 := HX6.out.free 6
      refine tks [10] 1 rfl (by kernel_rfl) (fun _ _ _ _ h => h) (by assumption) (fun KT hKT => ?_)
      refine tkT (by (simp only [gA, gB, gC]; rfl)) (by rfl) (by (intro w hSw; (simp only [Holds] at hSw); go_simp <;> with_reducible rfl)) ?_
      simp only [Act.put, pA, pB, pC]
      refine hKT _ ?_
      clear KT hKT
      refine wpAnyH_ready (rs := [11]) (by kernel_rfl) (by simp) ?_
      refine (AllReadyH.cons (o := ?oz253) ?iz253 (fun K hK => ?kz253) AllReadyH.nil)
      case iz253 => (simp only [List.getElem?_toArray, List.getElem?_cons_zero, List.getElem?_cons_succ]; rfl)
      go_simp
      refine hK.out _ _ (Holds.set (by simp) hSn hlt3.out) (fun hSn => ?_)
      refine wpAnyH_done (by kernel_rfl) ?_ _
      clear hK x6 xf6
      have HX := Lib.hid (HX6.out.set6 (s.may ||| bitN k))
      have HR0 := Lib.hid (HR6.out.other ⟨w.heap.size + 1, 6, none⟩ (.int .u64 ((s.may ||| bitN k : Nat) : Int)) (by simp))
      have HB := Lib.hid (HB6.out.setCell (p := ⟨w.heap.size + 1, 6, none⟩) (by simp) (.int .u64 ((s.may ||| bitN k : Nat) : Int)))
      generalize U6.setCell ⟨w.heap.size + 1, 6, none⟩ (.int .u64 ((s.may ||| bitN k : Nat) : Int)) = W6 at *
      clear HX6 HR6 HB6 HXd HRd HBd HS0 hlt hlt3 Bc hSn
      have z0 := HX.out.c0
      have z1 := HX.out.c1
      have z2 := HX.out.c2
      have z3 := HX.out.c3
      have z4 := HX.out.c4
      have z5 := HX.out.c5
      have z6 := HX.out.c6
      have z7 := HX.out.c7
      go_wp2_with (refine wpList_store_state (by rfl) (.tmp 4) (.tmp 49) (by rfl) w.heap.size _ (⟨k, s.car, begS I s k + t.s, s.load + t.d, s.first, s.must ||| bitN k, s.may ||| bitN k, s.on⟩) (by rfl) (by rfl) HR0.out ?_)
      clear z0 z1 z2 z3 z4 z5 z6 z7
      intro WE hE hbE
      have z0 := hE.c0
      have z1 := hE.c1
      have z2 := hE.c2
      have z3 := hE.c3
      have z4 := hE.c4
      have z5 := hE.c5
      have z6 := hE.c6
      have z7 := hE.c7
      go_wp2
      exact bodyPost_ret (v := staV (⟨k, s.car, begS I s k + t.s, s.load + t.d, s.first, s.must ||| bitN k, s.may ||| bitN k, s.on⟩)) (by simp [results, Try.results160, go_sem, z0, z1, z2, z3, z4, z5, z6, z7, staV]) rfl ⟨by rw [HE.out], HB.out.trans (hbE _ HNle.out)⟩
    · go_simp
      refine held_more hK HS0.out hlt Bc.out (fun Bc hSn => ?_)
      clear hK
      refine wpAnyH_ready (rs := [3]) (by kernel_rfl) (by simp) ?_
      refine AllReadyH.cons (o := ?oz254) ?iz254 (fun K hK => ?kz254) AllReadyH.nil
      case iz254 => (simp only [List.getElem?_toArray, List.getElem?_cons_zero, List.getElem?_cons_succ]; rfl)
      go_simp
      refine (ewith_any _ _ _ HS.out.1).mono ?_
      rintro e w' ⟨rfl, rfl⟩
      refine held_more hK HS0.out hlt Bc.out (fun Bc hSn => ?_)
      clear hK
      refine tks [8] 1 rfl (by kernel_rfl) (fun _ _ _ _ h => h) (by assumption) (fun KT hKT => ?_)
      refine tkT (by (simp only [gA, gB, gC]; rfl)) (by rfl) (by (intro w hSw; (simp only [Holds] at hSw); go_simp <;> with_reducible rfl)) ?_
      simp only [Act.put, pA, pB, pC]
      refine hKT _ ?_
      clear KT hKT
      refine wpAnyH_ready (rs := [7]) (by kernel_rfl) (by simp) ?_
      refine AllReadyH.cons (o := ?oz255) ?iz255 (fun K hK => ?kz255) AllReadyH.nil
      case iz255 => (simp only [List.getElem?_toArray, List.getElem?_cons_zero, List.getElem?_cons_succ]; rfl)
      go_simp
      refine (ewith_any _ _ _ HS.out.2.1).mono ?_
      rintro e w' ⟨rfl, rfl⟩
      refine held_more hK HS0.out hlt Bc.out (fun Bc hSn => ?_)
      clear hK
      refine wpAnyH_ready (rs := [9]) (by kernel_rfl) (by simp) ?_
      refine (AllReadyH.cons (o := ?oz256) ?iz256 (fun K hK => ?kz256) AllReadyH.nil)
      case iz256 => (simp only [List.getElem?_toArray, List.getElem?_cons_zero, List.getElem?_cons_succ]; rfl)
      go_simp
      refine hK.out _ _ (Holds.set (by simp) hSn hlt3.out) (fun hSn => ?_)
      clear hK x5 x6 xf5
      have HX6 := Lib.hid (HXd.out.set5 (s.must ||| bitN k))
      have HR6 := Lib.hid (HRd.out.other ⟨w.heap.size + 1, 5, none⟩ (.int .u64 ((s.must ||| bitN k : Nat) : Int)) (by simp))
      have HB6 := Lib.hid (HBd.out.setCell (p := ⟨w.heap.size + 1, 5, none⟩) (by simp) (.int .u64 ((s.must ||| bitN k : Nat) : Int)))
      generalize V5.setCell ⟨w.heap.size + 1, 5, none⟩ (.int .u64 ((s.must ||| bitN k : Nat) : Int)) = U6 at *
      have x6 := HX6.out.c6
      have xf6 := HX6.out.free 6
      refine tks [10] 1 rfl (by kernel_rfl) (fun _ _ _ _ h => h) (by assumption) (fun KT hKT => ?_)
      refine tkT (by (simp only [gA, gB, gC]; rfl)) (by rfl) (by (intro w hSw; (simp only [Holds] at hSw); go_simp <;> with_reducible rfl)) ?_
      simp only [Act.put, pA, pB, pC]
      refine hKT _ ?_
      clear KT hKT
      refine wpAnyH_ready (rs := [11]) (by kernel_rfl) (by simp) ?_
      refine (AllReadyH.cons (o := ?oz257) ?iz257 (fun K hK => ?kz257) AllReadyH.nil)
      case iz257 => (simp only [List.getElem?_toArray, List.getElem?_cons_zero, List.getElem?_cons_succ]; rfl)
      go_simp
      refine hK.out _ _ (Holds.set (by simp) hSn hlt3.out) (fun hSn => ?_)
      refine wpAnyH_done (by kernel_rfl) ?_ _
      clear hK x6 xf6
      have HX := Lib.hid (HX6.out.set6 (s.may ||| bitN k))
      have HR0 := Lib.hid (HR6.out.other ⟨w.heap.size + 1, 6, none⟩ (.int .u64 ((s.may ||| bitN k : Nat) : Int)) (by simp))
      have HB := Lib.hid (HB6.out.setCell (p := ⟨w.heap.size + 1, 6, none⟩) (by simp) (.int .u64 ((s.may ||| bitN k : Nat) : Int)))
      generalize U6.setCell ⟨w.heap.size + 1, 6, none⟩ (.int .u64 ((s.may ||| bitN k : Nat) : Int)) = W6 at *
      clear HX6 HR6 HB6 HXd HRd HBd HS0 hlt hlt3 Bc hSn
      have z0 := HX.out.c0
      have z1 := HX.out.c1
      have z2 := HX.out.c2
      have z3 := HX.out.c3
      have z4 := HX.out.c4
      have z5 := HX.out.c5
      have z6 := HX.out.c6
      have z7 := HX.out.c7
      go_wp2_with (refine wpList_store_state (by rfl) (.tmp 4) (.tmp 49) (by rfl) w.heap.size _ (⟨k, s.car, begS I s k + t.s, s.load + t.d, s.first, s.must ||| bitN k, s.may ||| bitN k, s.on⟩) (by rfl) (by rfl) HR0.out ?_)
      clear z0 z1 z2 z3 z4 z5 z6 z7
      intro WE hE hbE
      have z0 := hE.c0
      have z1 := hE.c1
      have z2 := hE.c2
      have z3 := hE.c3
      have z4 := hE.c4
      have z5 := hE.c5
      have z6 := hE.c6
      have z7 := hE.c7
      go_wp2
      exact bodyPost_ret (v := staV (⟨k, s.car, begS I s k + t.s, s.load + t.d, s.first, s.must ||| bitN k, s.may ||| bitN k, s.on⟩)) (by simp [results, Try.results160, go_sem, z0, z1, z2, z3, z4, z5, z6, z7, staV]) rfl ⟨by rw [HE.out], HB.out.trans (hbE _ HNle.out)⟩
  · go_simp
    refine held_more hK HS0.out hlt Bc.out (fun Bc hSn => ?_)
    clear hK
    refine wpAnyH_ready (rs := [1]) (by kernel_rfl) (by simp) ?_
    refine (AllReadyH.cons (o := ?oz258) ?iz258 (fun K hK => ?kz258) AllReadyH.nil)
    case iz258 => (simp only [List.getElem?_toArray, List.getElem?_cons_zero, List.getElem?_cons_succ]; rfl)
    go_simp
    refine held_more hK HS0.out hlt Bc.out (fun Bc hSn => ?_)
    clear hK
    refine wpAnyH_ready (rs := [3]) (by kernel_rfl) (by simp) ?_
    refine AllReadyH.cons (o := ?oz259) ?iz259 (fun K hK => ?kz259) AllReadyH.nil
    case iz259 => (simp only [List.getElem?_toArray, List.getElem?_cons_zero, List.getElem?_cons_succ]; rfl)
    go_simp
    refine (ewith_any _ _ _ HS.out.1).mono ?_
    rintro e w' ⟨rfl, rfl⟩
    refine held_more hK HS0.out hlt Bc.out (fun Bc hSn => ?_)
    clear hK
    refine tks [8] 1 rfl (by kernel_rfl) (fun _ _ _ _ h => h) (by assumption) (fun KT hKT => ?_)
    refine tkT (by (simp only [gA, gB, gC]; rfl)) (by rfl) (by (intro w hSw; (simp only [Holds] at hSw); go_simp <;> with_reducible rfl)) ?_
    simp only [Act.put, pA, pB, pC]
    refine hKT _ ?_
    clear KT hKT
    refine wpAnyH_ready (rs := [7]) (by kernel_rfl) (by simp) ?_
    refine AllReadyH.cons (o := ?oz260) ?iz260 (fun K hK => ?kz260) AllReadyH.nil
    case iz260 => (simp only [List.getElem?_toArray, List.getElem?_cons_zero, List.getElem?_cons_succ]; rfl)
    go_simp
    refine (ewith_any _ _ _ HS.out.2.1).mono ?_
    rintro e w' ⟨rfl, rfl⟩
    refine held_more hK HS0.out hlt Bc.out (fun Bc hSn => ?_)
    clear hK
    refine wpAnyH_ready (rs := [9]) (by kernel_rfl) (by simp) ?_
    refine (AllReadyH.cons (o := ?oz261) ?iz261 (fun K hK => ?kz261) AllReadyH.nil)
    case iz261 => (simp only [List.getElem?_toArray, List.getElem?_cons_zero, List.getElem?_cons_succ]; rfl)
    go_simp
    refine hK.out _ _ (Holds.set (by simp) hSn hlt3.out) (fun hSn => ?_)
    clear hK x5 x6 xf5
    have HX6 := Lib.hid (HXd.out.set5 (s.must ||| bitN k))
    have HR6 := Lib.hid (HRd.out.other ⟨w.heap.size + 1, 5, none⟩ (.int .u64 ((s.must ||| bitN k : Nat) : Int)) (by simp))
    have HB6 := Lib.hid (HBd.out.setCell (p := ⟨w.heap.size + 1, 5, none⟩) (by simp) (.int .u64 ((s.must ||| bitN k : Nat) : Int)))
    generalize V5.setCell ⟨w.heap.size + 1, 5, none⟩ (.int .u64 ((s.must ||| bitN k : Nat) : Int)) = U6 at *
    have x6 := HX6.out.c6
    have xf6 := HX6.out.free 6
    refine tks [10] 1 rfl (by kernel_rfl) (fun _ _ _ _ h => h) (by assumption) (fun KT hKT => ?_)
    refine tkT (by (simp only [gA, gB, gC]; rfl)) (by rfl) (by (intro w hSw; (simp only [Holds] at hSw); go_simp <;> with_reducible rfl)) ?_
    simp only [Act.put, pA, pB, pC]
    refine hKT _ ?_
    clear KT hKT
    refine wpAnyH_ready (rs := [11]) (by kernel_rfl) (by simp) ?_
    refine (AllReadyH.cons (o := ?oz262) ?iz262 (fun K hK => ?kz262) AllReadyH.nil)
    case iz262 => (simp only [List.getElem?_toArray, List.getElem?_cons_zero, List.getElem?_cons_succ]; rfl)
    go_simp
    refine hK.out _ _ (Holds.set (by simp) hSn hlt3.out) (fun hSn => ?_)
    refine wpAnyH_done (by kernel_rfl) ?_ _
    clear hK x6 xf6
    have HX := Lib.hid (HX6.out.set6 (s.may ||| bitN k))
    have HR0 := Lib.hid (HR6.out.other ⟨w.heap.size + 1, 6, none⟩ (.int .u64 ((s.may ||| bitN k : Nat) : Int)) (by simp))
    have HB := Lib.hid (HB6.out.setCell (p := ⟨w.heap.size + 1, 6, none⟩) (by simp) (.int .u64 ((s.may ||| bitN k : Nat) : Int)))
    generalize U6.setCell ⟨w.heap.size + 1, 6, none⟩ (.int .u64 ((s.may ||| bitN k : Nat) : Int)) = W6 at *
    clear HX6 HR6 HB6 HXd HRd HBd HS0 hlt hlt3 Bc hSn
    have z0 := HX.out.c0
    have z1 := HX.out.c1
    have z2 := HX.out.c2
    have z3 := HX.out.c3
    have z4 := HX.out.c4
    have z5 := HX.out.c5
    have z6 := HX.out.c6
    have z7 := HX.out.c7
    go_wp2_with (refine wpList_store_state (by rfl) (.tmp 4) (.tmp 49) (by rfl) w.heap.size _ (⟨k, s.car, begS I s k + t.s, s.load + t.d, s.first, s.must ||| bitN k, s.may ||| bitN k, s.on⟩) (by rfl) (by rfl) HR0.out ?_)
    clear z0 z1 z2 z3 z4 z5 z6 z7
    intro WE hE hbE
    have z0 := hE.c0
    have z1 := hE.c1
    have z2 := hE.c2
    have z3 := hE.c3
    have z4 := hE.c4
    have z5 := hE.c5
    have z6 := hE.c6
    have z7 := hE.c7
    go_wp2
    exact bodyPost_ret (v := staV (⟨k, s.car, begS I s k + t.s, s.load + t.d, s.first, s.must ||| bitN k, s.may ||| bitN k, s.on⟩)) (by simp [results, Try.results160, go_sem, z0, z1, z2, z3, z4, z5, z6, z7, staV]) rfl ⟨by rw [HE.out], HB.out.trans (hbE _ HNle.out)⟩

end Go.Proofs.Ytpgbbnmflnhlbaa
/- A state stored whole, at a step of a drawn region. -/
namespace Go.Proofs.Ytpgbbnmflnhlbaa
open Go.ChangeShapes Go.WideShapes Go.ChangeAt Go.RowKit

theorem wp_store_state {op : Oper} {a : Act} {w : World} {K : Act → World → Prop} {Q : Exit → Act → World → Prop} (x y : Operand) (ho : op.op = .store 55 x y)
    (r : Nat) (s0 s : Sta) (hx : a.eval x = .pointer (some ⟨r, 0, none⟩)) (hy : a.eval y = staV s) (k : StB w r s0)
    (h : ∀ w', StB w' r s → (∀ M, M ≤ r → Below M w w') → K (a.put op.dst undef) w') : op.wp Try.prog a w K Q := by
  refine wp_store_mid 55 x y ho r 0 (stL s).toArray hx (hy.trans rfl) (by exact k.there) (by exact infoState) (all_oneCell_toArray (fun v hv => by
    simp only [stL, List.mem_cons, List.not_mem_nil, or_false] at hv
    rcases hv with rfl | rfl | rfl | rfl | rfl | rfl | rfl | rfl <;> rfl)) ?_
  exact h _ (by exact put_state k s) (fun M hM => by exact put_below hM s)
end Go.Proofs.Ytpgbbnmflnhlbaa
/- The state behind a move. -/
namespace Go.Proofs.Ytpgbbnmflnhlbaa
open Go.ChangeShapes Go.WideShapes Go.ChangeAt Go.RowKit

set_option maxRecDepth 1000000 in
set_option maxHeartbeats 4000000 in
theorem returned_any {w : World} {b : Nat} {I : Ins} {sv : Value} {s : Sta} {j : Int} (hc : HereB w b I sv s) (hr : SRow w sv I.l) (hg : GoOn I s) :
    Calls Try.prog 131 #[.pointer (some ⟨b, 0, none⟩), .int .i64 j] w fun e w' => e = .returned (staV (homeS I s)) ∧ Below w.heap.size w w' := by
  have HC := Lib.hid hc
  have hbl := hc.lt
  have b1 := (goOn_bd hg).2.1
  have e1 : IntKind.i64.wrap (s.car + 1) = s.car + 1 := IntWalk.i64_in _ (by omega)
  clear b1
  have hl0 : 0 < I.l.length := (pmay_len hg.1).1
  obtain ⟨ad, cap, rfl, _⟩ := hr.form
  obtain ⟨tb, off, rfl, hkt, hlt0⟩ := srow_at hr 0 hl0
  have HKT := Lib.hid (show At w tb off (nth I.l 0) by have h0 := hkt; rw [Nat.zero_mul, Nat.add_zero] at h0; exact h0)
  clear hkt
  have hki : (0 : Int) < (I.l.length : Int) := by omega
  have hlt2 := Lib.hid (show Lows w.heap.size (cellsH b I (.slice (some ⟨tb, off, none⟩) I.l.length cap) s ++ cellsF tb off (nth I.l 0)) from Lows.app (lows_H hbl) (lows_at hlt0))
  have HH := Lib.hid (show ∀ w', Below w.heap.size w w' → Holds (cellsH b I (.slice (some ⟨tb, off, none⟩) I.l.length cap) s ++ cellsF tb off (nth I.l 0)) w' from fun w' hb => Holds.app.2 ⟨(HC.out.later hb).holds, holds_at (HKT.out.below hlt0 hb)⟩)
  have HE := Lib.hid (show homeS I s = ⟨0, s.car + 1, (nth I.l 0).r, 0, s.first, s.must, s.may, s.on⟩ from rfl)
  clear hc hr hg
  have q4 := HC.out.c4
  have q5 := HC.out.c5
  have q6 := HC.out.c6
  have q7 := HC.out.c7
  have q8 := HC.out.c8
  have q9 := HC.out.c9
  have q10 := HC.out.c10
  have q11 := HC.out.c11
  have hh : ∀ i o, (w.alloc o).cell? ⟨b, i, none⟩ = w.cell? ⟨b, i, none⟩ := fun i o => (((Below.refl w.heap.size w).alloc (Nat.le_refl _) o).cell hbl)
  go_enter Try.func131, Try.ntmps131
  go_upto_region 2 with fail
  have HR0 := Lib.hid ((st_new w noughtS).later ((Below.refl _ _).alloc (Nat.le_refl _) (boxSt s)))
  have HX := Lib.hid (st_new (w.alloc (boxSt noughtS)) s)
  have HB := Lib.hid (((Below.refl w.heap.size w).alloc (Nat.le_refl _) (boxSt noughtS)).alloc (by simp) (boxSt s))
  have hsz : (w.alloc (boxSt noughtS)).heap.size = w.heap.size + 1 := by simp
  rw [hsz] at HX
  clear hsz hh q4 q5 q6 q7 q8 q9 q10 q11
  change Code.wp _ _ _ _ ((w.alloc (boxSt noughtS)).alloc (boxSt s))
  generalize (w.alloc (boxSt noughtS)).alloc (boxSt s) = W3 at *
  have Xle := Lib.hid (Nat.le_succ w.heap.size)
  have Xlt := Lib.hid (Nat.lt_succ_self w.heap.size)
  generalize nth I.l 0 = t at *
  have HBd := Lib.hid HB.out.drew
  have HXd := Lib.hid (HX.out.later (Below.refl _ _).drew)
  have HRd := Lib.hid (HR0.out.later (Below.refl _ _).drew)
  have HS0 := Lib.hid (HH.out _ HBd.out)
  refine wp_region_held_drew (S := Holds (cellsH b I (.slice (some ⟨tb, off, none⟩) I.l.length cap) s ++ cellsF tb off t)) (by kernel_rfl) HS0.out (fun hSn => ?_)
  clear HB HX HR0
  generalize W3.drew = V3 at *
  have hlt := Lib.hid (show Lows V3.heap.size (cellsH b I (.slice (some ⟨tb, off, none⟩) I.l.length cap) s ++ cellsF tb off t) from Lows.app (lows_H (Nat.lt_of_lt_of_le hbl HBd.out.size)) (lows_at (Nat.lt_of_lt_of_le hlt0 HBd.out.size)))
  have hlt3 := Lib.hid hlt2.out
  have Bc := Lib.hid (Below.refl V3.heap.size V3)
  simp only [cellsH, cellsF, List.cons_append, List.nil_append] at HS0 hlt hlt3 hSn ⊢
  have x1 := HXd.out.c1
  refine tks [0, 3, 4, 5, 6, 7, 8, 9, 10] 9 rfl (by kernel_rfl) (fun _ _ _ _ h => h) (by assumption) (fun KT hKT => ?_)
  iterate 9 (refine tkT (by (simp only [gA, gB, gC]; rfl)) (by rfl) (by (intro w hSw; (simp only [Holds] at hSw); go_simp <;> with_reducible rfl)) ?_; simp only [Act.put, pA, pB, pC])
  refine hKT _ ?_
  clear KT hKT
  refine wpAnyH_ready (rs := [1]) (by kernel_rfl) (by simp) ?_
  refine (AllReadyH.cons (o := ?oz263) ?iz263 (fun K hK => ?kz263) AllReadyH.nil)
  case iz263 => (simp only [List.getElem?_toArray, List.getElem?_cons_zero, List.getElem?_cons_succ]; rfl)
  go_simp
  refine held_more hK HS0.out hlt Bc.out (fun Bc hSn => ?_)
  clear hK x1
  refine tks [2] 1 rfl (by kernel_rfl) (fun _ _ _ _ h => h) (by assumption) (fun KT hKT => ?_)
  refine tkT (by (simp only [gA, gB, gC]; rfl)) (by rfl) (by (intro w hSw; (simp only [Holds] at hSw); go_simp <;> with_reducible rfl)) ?_
  simp only [Act.put, pA, pB, pC]
  refine hKT _ ?_
  clear KT hKT
  have x0 := HXd.out.c0
  have xf := HXd.out.free 0
  refine tks [11] 1 rfl (by kernel_rfl) (fun _ _ _ _ h => h) (by assumption) (fun KT hKT => ?_)
  refine tkT (by (simp only [gA, gB, gC]; rfl)) (by rfl) (by (intro w hSw; (simp only [Holds] at hSw); go_simp <;> with_reducible rfl)) ?_
  simp only [Act.put, pA, pB, pC]
  refine hKT _ ?_
  clear KT hKT
  refine wpAnyH_ready (rs := [12]) (by kernel_rfl) (by simp) ?_
  refine (AllReadyH.cons (o := ?oz264) ?iz264 (fun K hK => ?kz264) AllReadyH.nil)
  case iz264 => (simp only [List.getElem?_toArray, List.getElem?_cons_zero, List.getElem?_cons_succ]; rfl)
  go_simp
  refine hK.out _ _ (Holds.set (by first | exact Xle.out | simp) hSn hlt3.out) (fun hSn => ?_)
  clear hK x0 xf
  have HXn := Lib.hid (HXd.out.set0 (0))
  have HRn := Lib.hid (HRd.out.other ⟨w.heap.size + 1, 0, none⟩ (.int .i64 (0)) (by have := Xlt.out; simp <;> omega))
  have HBn := Lib.hid (HBd.out.setCell (p := ⟨w.heap.size + 1, 0, none⟩) Xle.out (.int .i64 (0)))
  generalize V3.setCell ⟨w.heap.size + 1, 0, none⟩ (.int .i64 (0)) = V4 at *
  clear HXd HRd HBd
  have HXd := HXn
  have HRd := HRn
  have HBd := HBn
  clear HXn HRn HBn
  have x0 := HXd.out.c1
  have xf := HXd.out.free 1
  refine tks [13] 1 rfl (by kernel_rfl) (fun _ _ _ _ h => h) (by assumption) (fun KT hKT => ?_)
  refine tkT (by (simp only [gA, gB, gC]; rfl)) (by rfl) (by (intro w hSw; (simp only [Holds] at hSw); go_simp <;> with_reducible rfl)) ?_
  simp only [Act.put, pA, pB, pC]
  refine hKT _ ?_
  clear KT hKT
  refine wpAnyH_ready (rs := [14]) (by kernel_rfl) (by simp) ?_
  refine (AllReadyH.cons (o := ?oz265) ?iz265 (fun K hK => ?kz265) AllReadyH.nil)
  case iz265 => (simp only [List.getElem?_toArray, List.getElem?_cons_zero, List.getElem?_cons_succ]; rfl)
  go_simp
  refine hK.out _ _ (Holds.set (by first | exact Xle.out | simp) hSn hlt3.out) (fun hSn => ?_)
  clear hK x0 xf
  have HXn := Lib.hid (HXd.out.set1 (s.car + 1))
  have HRn := Lib.hid (HRd.out.other ⟨w.heap.size + 1, 1, none⟩ (.int .i64 (s.car + 1)) (by have := Xlt.out; simp <;> omega))
  have HBn := Lib.hid (HBd.out.setCell (p := ⟨w.heap.size + 1, 1, none⟩) Xle.out (.int .i64 (s.car + 1)))
  generalize V4.setCell ⟨w.heap.size + 1, 1, none⟩ (.int .i64 (s.car + 1)) = V5 at *
  clear HXd HRd HBd
  have HXd := HXn
  have HRd := HRn
  have HBd := HBn
  clear HXn HRn HBn
  have x0 := HXd.out.c2
  have xf := HXd.out.free 2
  refine tks [15] 1 rfl (by kernel_rfl) (fun _ _ _ _ h => h) (by assumption) (fun KT hKT => ?_)
  refine tkT (by (simp only [gA, gB, gC]; rfl)) (by rfl) (by (intro w hSw; (simp only [Holds] at hSw); go_simp <;> with_reducible rfl)) ?_
  simp only [Act.put, pA, pB, pC]
  refine hKT _ ?_
  clear KT hKT
  refine wpAnyH_ready (rs := [16]) (by kernel_rfl) (by simp) ?_
  refine (AllReadyH.cons (o := ?oz266) ?iz266 (fun K hK => ?kz266) AllReadyH.nil)
  case iz266 => (simp only [List.getElem?_toArray, List.getElem?_cons_zero, List.getElem?_cons_succ]; rfl)
  go_simp
  refine hK.out _ _ (Holds.set (by first | exact Xle.out | simp) hSn hlt3.out) (fun hSn => ?_)
  clear hK x0 xf
  have HXn := Lib.hid (HXd.out.set2 (t.r))
  have HRn := Lib.hid (HRd.out.other ⟨w.heap.size + 1, 2, none⟩ (.int .i64 (t.r)) (by have := Xlt.out; simp <;> omega))
  have HBn := Lib.hid (HBd.out.setCell (p := ⟨w.heap.size + 1, 2, none⟩) Xle.out (.int .i64 (t.r)))
  generalize V5.setCell ⟨w.heap.size + 1, 2, none⟩ (.int .i64 (t.r)) = V6 at *
  clear HXd HRd HBd
  have HXd := HXn
  have HRd := HRn
  have HBd := HBn
  clear HXn HRn HBn
  have x0 := HXd.out.c3
  have xf := HXd.out.free 3
  refine tks [17] 1 rfl (by kernel_rfl) (fun _ _ _ _ h => h) (by assumption) (fun KT hKT => ?_)
  refine tkT (by (simp only [gA, gB, gC]; rfl)) (by rfl) (by (intro w hSw; (simp only [Holds] at hSw); go_simp <;> with_reducible rfl)) ?_
  simp only [Act.put, pA, pB, pC]
  refine hKT _ ?_
  clear KT hKT
  refine wpAnyH_ready (rs := [18]) (by kernel_rfl) (by simp) ?_
  refine (AllReadyH.cons (o := ?oz267) ?iz267 (fun K hK => ?kz267) AllReadyH.nil)
  case iz267 => (simp only [List.getElem?_toArray, List.getElem?_cons_zero, List.getElem?_cons_succ]; rfl)
  go_simp
  refine hK.out _ _ (Holds.set (by first | exact Xle.out | simp) hSn hlt3.out) (fun hSn => ?_)
  clear hK x0 xf
  have HXn := Lib.hid (HXd.out.set3 (0))
  have HRn := Lib.hid (HRd.out.other ⟨w.heap.size + 1, 3, none⟩ (.int .i64 (0)) (by have := Xlt.out; simp <;> omega))
  have HBn := Lib.hid (HBd.out.setCell (p := ⟨w.heap.size + 1, 3, none⟩) Xle.out (.int .i64 (0)))
  generalize V6.setCell ⟨w.heap.size + 1, 3, none⟩ (.int .i64 (0)) = V7 at *
  clear HXd HRd HBd
  have HXd := HXn
  have HRd := HRn
  have HBd := HBn
  clear HXn HRn HBn
  refine wpAnyH_done (by kernel_rfl) ?_ _
  have HX := HXd
  have HR0 := HRd
  have HB := HBd
  clear HXd HRd HBd HS0 hlt hlt3 Bc hSn
  have z0 := HX.out.c0
  have z1 := HX.out.c1
  have z2 := HX.out.c2
  have z3 := HX.out.c3
  have z4 := HX.out.c4
  have z5 := HX.out.c5
  have z6 := HX.out.c6
  have z7 := HX.out.c7
  go_wp2_with (refine wpList_store_state (by rfl) (.tmp 4) (.tmp 25) (by rfl) w.heap.size _ (⟨0, s.car + 1, t.r, 0, s.first, s.must, s.may, s.on⟩) (by rfl) (by rfl) HR0.out ?_)
  clear z0 z1 z2 z3 z4 z5 z6 z7
  intro WE hE hbE
  have z0 := hE.c0
  have z1 := hE.c1
  have z2 := hE.c2
  have z3 := hE.c3
  have z4 := hE.c4
  have z5 := hE.c5
  have z6 := hE.c6
  have z7 := hE.c7
  go_wp2
  exact bodyPost_ret (v := staV (⟨0, s.car + 1, t.r, 0, s.first, s.must, s.may, s.on⟩)) (by simp [results, Try.results131, go_sem, z0, z1, z2, z3, z4, z5, z6, z7, staV]) rfl ⟨by rw [HE.out], HB.out.trans (hbE _ (Nat.le_refl _))⟩
set_option maxRecDepth 1000000 in
set_option maxHeartbeats 4000000 in
theorem taken_any {w : World} {b : Nat} {I : Ins} {sv : Value} {s : Sta} {j : Int} (hc : HereB w b I sv s) (hr : SRow w sv I.l) (hg : GoOn I s) (hs : SetsOk s) (hj : 1 ≤ j ∧ j ≤ I.p) (hl : 0 ≤ s.load) :
    Calls Try.prog 133 #[.pointer (some ⟨b, 0, none⟩), .int .i64 j] w fun e w' => e = .returned (staV (visitS I s j)) ∧ Below w.heap.size w w' := by
  have HC := Lib.hid hc
  have HR := Lib.hid hr
  have HG := Lib.hid hg
  have HS := Lib.hid hs
  have hbl := hc.lt
  have hf := fine_of hg.1
  have hp0 := hf.p0
  have hp1 := hf.p1
  have HJ := Lib.hid (show 0 ≤ j ∧ j ≤ 2 * I.p by omega)
  have b1 := hf.take j hj.1 hj.2
  have HV := Lib.hid (show ∀ po ca ti lo fi mu ma on, seenS I s j = ⟨po, ca, ti, lo, fi, mu, ma, on⟩ → visitS I s j = ⟨po, ca, ti, lo, if s.pos = 0 then j else fi, mu, ma, on ||| bitN j⟩ from by
    intro po ca ti lo fi mu ma on h
    unfold seenS at h
    simp only [Sta.mk.injEq] at h
    obtain ⟨rfl, rfl, rfl, rfl, rfl, rfl, rfl, rfl⟩ := h
    unfold visitS
    rw [if_pos hj.2, Int.max_eq_left (by omega)])
  have HO := Lib.hid (show ∀ po ca ti lo fi mu ma on, seenS I s j = ⟨po, ca, ti, lo, fi, mu, ma, on⟩ → on < 18446744073709551616 from by
    intro po ca ti lo fi mu ma on h
    unfold seenS at h
    simp only [Sta.mk.injEq] at h
    rw [← h.2.2.2.2.2.2.2]; exact HS.out.2.2)
  clear b1
  clear hc hr hs hf
  clear hg hj hl hp0 hp1
  go_enter Try.func133, Try.ntmps133
  go_wp2_with fail
  have HB0 := Lib.hid ((Below.refl w.heap.size w).alloc (Nat.le_refl _) (boxSt noughtS))
  have HR00 := Lib.hid (st_new w noughtS)
  change Calls _ _ _ (w.alloc (boxSt noughtS)) _
  generalize w.alloc (boxSt noughtS) = W0 at *
  refine (visited_any (HC.out.later HB0.out) (HR.out.below HB0.out) HG.out HS.out HJ.out).mono ?_
  rintro e w1 ⟨rfl, hb⟩
  have HR01 := Lib.hid (HR00.out.later hb)
  have HB1 := Lib.hid (HB0.out.trans (hb.mono HB0.out.size))
  clear hb HB0 HR00
  obtain ⟨po, ca, ti, lo, fi, mu, ma, on, hm⟩ : ∃ po ca ti lo fi mu ma on, seenS I s j = ⟨po, ca, ti, lo, fi, mu, ma, on⟩ := ⟨_, _, _, _, _, _, _, _, rfl⟩
  have HM := Lib.hid hm
  rw [hm]
  clear hm
  unfold staV
  go_upto_region 2 with fail
  have HX := Lib.hid (st_new w1 ⟨po, ca, ti, lo, fi, mu, ma, on⟩)
  have HR0 := Lib.hid (HR01.out.later ((Below.refl _ _).alloc (Nat.le_refl _) (boxSt ⟨po, ca, ti, lo, fi, mu, ma, on⟩)))
  have HB := Lib.hid (HB1.out.alloc HB1.out.size (boxSt ⟨po, ca, ti, lo, fi, mu, ma, on⟩))
  have Xlt := Lib.hid (show w.heap.size < w1.heap.size from HR01.out.lt)
  change Code.wp _ _ _ _ (w1.alloc (boxSt ⟨po, ca, ti, lo, fi, mu, ma, on⟩))
  generalize w1.alloc (boxSt ⟨po, ca, ti, lo, fi, mu, ma, on⟩) = W2 at *
  generalize w1.heap.size = x at *
  have Xle := Lib.hid (Nat.le_of_lt Xlt.out)
  clear HB1 HR01
  have HV2 := Lib.hid (HV.out _ _ _ _ _ _ _ _ HM.out)
  have HO2 := Lib.hid (HO.out _ _ _ _ _ _ _ _ HM.out)
  clear HV HO HM
  have q4 := (HC.out.later HB.out).c4
  by_cases h0 : s.pos = 0
  · have b0 : (s.pos == 0) = true := by simp [h0]
    rw [if_pos h0] at HV2
    clear h0
    have x0 := HX.out.c4
    have xf := HX.out.free 4
    go_upto_region 4 with fail
    clear x0 xf q4 b0
    have HXn := Lib.hid (HX.out.set4 (j))
    have HRn := Lib.hid (HR0.out.other ⟨x, 4, none⟩ (.int .i64 (j)) (by have := Xlt.out; simp <;> omega))
    have HBn := Lib.hid (HB.out.setCell (p := ⟨x, 4, none⟩) Xle.out (.int .i64 (j)))
    generalize W2.setCell ⟨x, 4, none⟩ (.int .i64 (j)) = W3 at *
    clear HX HR0 HB
    have HX := HXn
    have HR0 := HRn
    have HB := HBn
    clear HXn HRn HBn
    have x7 := HX.out.c7
    have xf := HX.out.free 7
    go_wp2_with fail
    refine (ewith_any _ _ _ HO2.out).mono ?_
    rintro e w' ⟨rfl, rfl⟩
    go_upto_region 5 with fail
    clear x7 xf
    have HXn := Lib.hid (HX.out.set7 (on ||| bitN j))
    have HRn := Lib.hid (HR0.out.other ⟨x, 7, none⟩ (.int .u64 ((on ||| bitN j : Nat) : Int)) (by have := Xlt.out; simp <;> omega))
    have HBn := Lib.hid (HB.out.setCell (p := ⟨x, 7, none⟩) Xle.out (.int .u64 ((on ||| bitN j : Nat) : Int)))
    generalize W3.setCell ⟨x, 7, none⟩ (.int .u64 ((on ||| bitN j : Nat) : Int)) = W4 at *
    clear HX HR0 HB
    have HX := HXn
    have HR0 := HRn
    have HB := HBn
    clear HXn HRn HBn
    have z0 := HX.out.c0
    have z1 := HX.out.c1
    have z2 := HX.out.c2
    have z3 := HX.out.c3
    have z4 := HX.out.c4
    have z5 := HX.out.c5
    have z6 := HX.out.c6
    have z7 := HX.out.c7
    go_wp2_with (refine wpList_store_state (by rfl) (.tmp 4) (.tmp 22) (by rfl) w.heap.size _ (⟨po, ca, ti, lo, j, mu, ma, on ||| bitN j⟩) (by rfl) (by rfl) HR0.out ?_)
    clear z0 z1 z2 z3 z4 z5 z6 z7
    intro WE hE hbE
    have z0 := hE.c0
    have z1 := hE.c1
    have z2 := hE.c2
    have z3 := hE.c3
    have z4 := hE.c4
    have z5 := hE.c5
    have z6 := hE.c6
    have z7 := hE.c7
    go_wp2
    exact bodyPost_ret (v := staV (⟨po, ca, ti, lo, j, mu, ma, on ||| bitN j⟩)) (by simp [results, Try.results133, go_sem, z0, z1, z2, z3, z4, z5, z6, z7, staV]) rfl ⟨by rw [HV2.out], HB.out.trans (hbE _ (Nat.le_refl _))⟩
  · have b0 : (s.pos == 0) = false := by simp [h0]
    rw [if_neg h0] at HV2
    clear h0
    go_upto_region 4 with fail
    clear q4 b0
    have x7 := HX.out.c7
    have xf := HX.out.free 7
    go_wp2_with fail
    refine (ewith_any _ _ _ HO2.out).mono ?_
    rintro e w' ⟨rfl, rfl⟩
    go_upto_region 5 with fail
    clear x7 xf
    have HXn := Lib.hid (HX.out.set7 (on ||| bitN j))
    have HRn := Lib.hid (HR0.out.other ⟨x, 7, none⟩ (.int .u64 ((on ||| bitN j : Nat) : Int)) (by have := Xlt.out; simp <;> omega))
    have HBn := Lib.hid (HB.out.setCell (p := ⟨x, 7, none⟩) Xle.out (.int .u64 ((on ||| bitN j : Nat) : Int)))
    generalize W2.setCell ⟨x, 7, none⟩ (.int .u64 ((on ||| bitN j : Nat) : Int)) = W4 at *
    clear HX HR0 HB
    have HX := HXn
    have HR0 := HRn
    have HB := HBn
    clear HXn HRn HBn
    have z0 := HX.out.c0
    have z1 := HX.out.c1
    have z2 := HX.out.c2
    have z3 := HX.out.c3
    have z4 := HX.out.c4
    have z5 := HX.out.c5
    have z6 := HX.out.c6
    have z7 := HX.out.c7
    go_wp2_with (refine wpList_store_state (by rfl) (.tmp 4) (.tmp 22) (by rfl) w.heap.size _ (⟨po, ca, ti, lo, fi, mu, ma, on ||| bitN j⟩) (by rfl) (by rfl) HR0.out ?_)
    clear z0 z1 z2 z3 z4 z5 z6 z7
    intro WE hE hbE
    have z0 := hE.c0
    have z1 := hE.c1
    have z2 := hE.c2
    have z3 := hE.c3
    have z4 := hE.c4
    have z5 := hE.c5
    have z6 := hE.c6
    have z7 := hE.c7
    go_wp2
    exact bodyPost_ret (v := staV (⟨po, ca, ti, lo, fi, mu, ma, on ||| bitN j⟩)) (by simp [results, Try.results133, go_sem, z0, z1, z2, z3, z4, z5, z6, z7, staV]) rfl ⟨by rw [HV2.out], HB.out.trans (hbE _ (Nat.le_refl _))⟩
set_option maxRecDepth 1000000 in
set_option maxHeartbeats 4000000 in
theorem brought_any {w : World} {b : Nat} {I : Ins} {sv : Value} {s : Sta} {j : Int} (hc : HereB w b I sv s) (hr : SRow w sv I.l) (hg : GoOn I s) (hs : SetsOk s) (hj : I.p < j ∧ j ≤ 2 * I.p) (hpos : s.pos ≠ 0) :
    Calls Try.prog 135 #[.pointer (some ⟨b, 0, none⟩), .int .i64 j] w fun e w' => e = .returned (staV (visitS I s j)) ∧ Below w.heap.size w w' := by
  have HC := Lib.hid hc
  have HR := Lib.hid hr
  have HG := Lib.hid hg
  have HS := Lib.hid hs
  have hbl := hc.lt
  have hf := fine_of hg.1
  have hp0 := hf.p0
  have hp1 := hf.p1
  have HJ := Lib.hid (show 0 ≤ j ∧ j ≤ 2 * I.p by omega)
  have HV := Lib.hid (show ∀ po ca ti lo fi mu ma on, seenS I s j = ⟨po, ca, ti, lo, fi, mu, ma, on⟩ → visitS I s j = ⟨po, ca, ti, max lo 0, fi, mu, ma, minus on (bitN (j - I.p))⟩ from by
    intro po ca ti lo fi mu ma on h
    unfold seenS at h
    simp only [Sta.mk.injEq] at h
    obtain ⟨rfl, rfl, rfl, rfl, rfl, rfl, rfl, rfl⟩ := h
    unfold visitS
    rw [if_neg hpos, if_neg (by omega)])
  have HO := Lib.hid (show ∀ po ca ti lo fi mu ma on, seenS I s j = ⟨po, ca, ti, lo, fi, mu, ma, on⟩ → on < 18446744073709551616 from by
    intro po ca ti lo fi mu ma on h
    unfold seenS at h
    simp only [Sta.mk.injEq] at h
    rw [← h.2.2.2.2.2.2.2]; exact HS.out.2.2)
  have e1 : IntKind.i64.wrap (j - I.p) = j - I.p := IntWalk.i64_in _ (by omega)
  clear hc hr hs hf
  clear hg hj hpos hp0 hp1
  obtain ⟨ad, cap, rfl, _⟩ := HR.out.form
  have hlt2 := Lib.hid (show Lows w.heap.size (cellsH b I (.slice ad I.l.length cap) s) from lows_H hbl)
  have HH := Lib.hid (show ∀ w', Below w.heap.size w w' → Holds (cellsH b I (.slice ad I.l.length cap) s) w' from fun w' hb => (HC.out.later hb).holds)
  go_enter Try.func135, Try.ntmps135
  go_wp2_with fail
  have HB0 := Lib.hid ((Below.refl w.heap.size w).alloc (Nat.le_refl _) (boxSt noughtS))
  have HR00 := Lib.hid (st_new w noughtS)
  change Calls _ _ _ (w.alloc (boxSt noughtS)) _
  generalize w.alloc (boxSt noughtS) = W0 at *
  refine (visited_any (HC.out.later HB0.out) (HR.out.below HB0.out) HG.out HS.out HJ.out).mono ?_
  rintro e w1 ⟨rfl, hb⟩
  have HR01 := Lib.hid (HR00.out.later hb)
  have HB1 := Lib.hid (HB0.out.trans (hb.mono HB0.out.size))
  clear hb HB0 HR00
  obtain ⟨po, ca, ti, lo, fi, mu, ma, on, hm⟩ : ∃ po ca ti lo fi mu ma on, seenS I s j = ⟨po, ca, ti, lo, fi, mu, ma, on⟩ := ⟨_, _, _, _, _, _, _, _, rfl⟩
  have HM := Lib.hid hm
  rw [hm]
  clear hm
  unfold staV
  go_upto_region 2 with fail
  have HX := Lib.hid (st_new w1 ⟨po, ca, ti, lo, fi, mu, ma, on⟩)
  have HR0 := Lib.hid (HR01.out.later ((Below.refl _ _).alloc (Nat.le_refl _) (boxSt ⟨po, ca, ti, lo, fi, mu, ma, on⟩)))
  have HB := Lib.hid (HB1.out.alloc HB1.out.size (boxSt ⟨po, ca, ti, lo, fi, mu, ma, on⟩))
  have Xlt := Lib.hid (show w.heap.size < w1.heap.size from HR01.out.lt)
  change Code.wp _ _ _ _ (w1.alloc (boxSt ⟨po, ca, ti, lo, fi, mu, ma, on⟩))
  generalize w1.alloc (boxSt ⟨po, ca, ti, lo, fi, mu, ma, on⟩) = W2 at *
  generalize w1.heap.size = x at *
  have Xle := Lib.hid (Nat.le_of_lt Xlt.out)
  clear HB1 HR01
  have HV2 := Lib.hid (HV.out _ _ _ _ _ _ _ _ HM.out)
  have HO2 := Lib.hid (HO.out _ _ _ _ _ _ _ _ HM.out)
  clear HV HO HM
  have x3 := HX.out.c3
  have xf := HX.out.free 3
  rcases Int.lt_or_le lo 0 with h | h
  · have hmx : max lo 0 = 0 := Int.max_eq_right (Int.le_of_lt h)
    rw [hmx] at HV2
    go_upto_region 3 with fail
    clear x3 xf h hmx
    have HXn := Lib.hid (HX.out.set3 (0))
    have HRn := Lib.hid (HR0.out.other ⟨x, 3, none⟩ (.int .i64 (0)) (by have := Xlt.out; simp <;> omega))
    have HBn := Lib.hid (HB.out.setCell (p := ⟨x, 3, none⟩) Xle.out (.int .i64 (0)))
    generalize W2.setCell ⟨x, 3, none⟩ (.int .i64 (0)) = W3 at *
    clear HX HR0 HB
    have HX := HXn
    have HR0 := HRn
    have HB := HBn
    clear HXn HRn HBn
    have HBd := Lib.hid HB.out.drew
    have HXd := Lib.hid (HX.out.later (Below.refl _ _).drew)
    have HRd := Lib.hid (HR0.out.later (Below.refl _ _).drew)
    have HS0 := Lib.hid (HH.out _ HBd.out)
    refine wp_region_held_drew (S := Holds (cellsH b I (.slice ad I.l.length cap) s)) (by kernel_rfl) HS0.out (fun hSn => ?_)
    clear HB HX HR0
    generalize W3.drew = V3 at *
    have hlt := Lib.hid (show Lows V3.heap.size (cellsH b I (.slice ad I.l.length cap) s) from lows_H (Nat.lt_of_lt_of_le hbl HBd.out.size))
    have hlt3 := Lib.hid hlt2.out
    have Bc := Lib.hid (Below.refl V3.heap.size V3)
    simp only [cellsH] at HS0 hlt hlt3 hSn ⊢
    have x7 := HXd.out.c7
    refine tks [0, 2, 3, 4, 5, 6, 7, 8] 8 rfl (by kernel_rfl) (fun _ _ _ _ h => h) (by assumption) (fun KT hKT => ?_)
    iterate 8 (refine tkT (by (simp only [gA, gB, gC]; rfl)) (by rfl) (by (intro w hSw; (simp only [Holds] at hSw); go_simp <;> with_reducible rfl)) ?_; simp only [Act.put, pA, pB, pC])
    refine hKT _ ?_
    clear KT hKT
    refine wpAnyH_ready (rs := [1]) (by kernel_rfl) (by simp) ?_
    refine (AllReadyH.cons (o := ?oz268) ?iz268 (fun K hK => ?kz268) AllReadyH.nil)
    case iz268 => (simp only [List.getElem?_toArray, List.getElem?_cons_zero, List.getElem?_cons_succ]; rfl)
    go_simp
    refine held_more hK HS0.out hlt Bc.out (fun Bc hSn => ?_)
    clear hK x7
    refine wpAnyH_ready (rs := [9]) (by kernel_rfl) (by simp) ?_
    refine AllReadyH.cons (o := ?oz269) ?iz269 (fun K hK => ?kz269) AllReadyH.nil
    case iz269 => (simp only [List.getElem?_toArray, List.getElem?_cons_zero, List.getElem?_cons_succ]; rfl)
    go_simp
    refine (ewithout_any _ _ _ HO2.out).mono ?_
    rintro e w' ⟨rfl, rfl⟩
    refine held_more hK HS0.out hlt Bc.out (fun Bc hSn => ?_)
    clear hK
    have x0 := HXd.out.c7
    have xf := HXd.out.free 7
    refine tks [10] 1 rfl (by kernel_rfl) (fun _ _ _ _ h => h) (by assumption) (fun KT hKT => ?_)
    refine tkT (by (simp only [gA, gB, gC]; rfl)) (by rfl) (by (intro w hSw; (simp only [Holds] at hSw); go_simp <;> with_reducible rfl)) ?_
    simp only [Act.put, pA, pB, pC]
    refine hKT _ ?_
    clear KT hKT
    refine wpAnyH_ready (rs := [11]) (by kernel_rfl) (by simp) ?_
    refine (AllReadyH.cons (o := ?oz270) ?iz270 (fun K hK => ?kz270) AllReadyH.nil)
    case iz270 => (simp only [List.getElem?_toArray, List.getElem?_cons_zero, List.getElem?_cons_succ]; rfl)
    go_simp
    refine hK.out _ _ (Holds.set (by first | exact Xle.out | simp) hSn hlt3.out) (fun hSn => ?_)
    clear hK x0 xf
    have HXn := Lib.hid (HXd.out.set7 (minus on (bitN (j - I.p))))
    have HRn := Lib.hid (HRd.out.other ⟨x, 7, none⟩ (.int .u64 ((minus on (bitN (j - I.p)) : Nat) : Int)) (by have := Xlt.out; simp <;> omega))
    have HBn := Lib.hid (HBd.out.setCell (p := ⟨x, 7, none⟩) Xle.out (.int .u64 ((minus on (bitN (j - I.p)) : Nat) : Int)))
    generalize V3.setCell ⟨x, 7, none⟩ (.int .u64 ((minus on (bitN (j - I.p)) : Nat) : Int)) = V4 at *
    clear HXd HRd HBd
    have HXd := HXn
    have HRd := HRn
    have HBd := HBn
    clear HXn HRn HBn
    refine wpAnyH_done (by kernel_rfl) ?_ _
    have HX := HXd
    have HR0 := HRd
    have HB := HBd
    clear HXd HRd HBd HS0 hlt hlt3 Bc hSn
    have z0 := HX.out.c0
    have z1 := HX.out.c1
    have z2 := HX.out.c2
    have z3 := HX.out.c3
    have z4 := HX.out.c4
    have z5 := HX.out.c5
    have z6 := HX.out.c6
    have z7 := HX.out.c7
    go_wp2_with (refine wpList_store_state (by rfl) (.tmp 4) (.tmp 24) (by rfl) w.heap.size _ (⟨po, ca, ti, 0, fi, mu, ma, minus on (bitN (j - I.p))⟩) (by rfl) (by rfl) HR0.out ?_)
    clear z0 z1 z2 z3 z4 z5 z6 z7
    intro WE hE hbE
    have z0 := hE.c0
    have z1 := hE.c1
    have z2 := hE.c2
    have z3 := hE.c3
    have z4 := hE.c4
    have z5 := hE.c5
    have z6 := hE.c6
    have z7 := hE.c7
    go_wp2
    exact bodyPost_ret (v := staV (⟨po, ca, ti, 0, fi, mu, ma, minus on (bitN (j - I.p))⟩)) (by simp [results, Try.results135, go_sem, z0, z1, z2, z3, z4, z5, z6, z7, staV]) rfl ⟨by rw [HV2.out], HB.out.trans (hbE _ (Nat.le_refl _))⟩
  · have hmx : max lo 0 = lo := Int.max_eq_left h
    rw [hmx] at HV2
    go_upto_region 3 with fail
    clear x3 xf h hmx
    have HXn := Lib.hid (HX.out.set3 (lo))
    have HRn := Lib.hid (HR0.out.other ⟨x, 3, none⟩ (.int .i64 (lo)) (by have := Xlt.out; simp <;> omega))
    have HBn := Lib.hid (HB.out.setCell (p := ⟨x, 3, none⟩) Xle.out (.int .i64 (lo)))
    generalize W2.setCell ⟨x, 3, none⟩ (.int .i64 (lo)) = W3 at *
    clear HX HR0 HB
    have HX := HXn
    have HR0 := HRn
    have HB := HBn
    clear HXn HRn HBn
    have HBd := Lib.hid HB.out.drew
    have HXd := Lib.hid (HX.out.later (Below.refl _ _).drew)
    have HRd := Lib.hid (HR0.out.later (Below.refl _ _).drew)
    have HS0 := Lib.hid (HH.out _ HBd.out)
    refine wp_region_held_drew (S := Holds (cellsH b I (.slice ad I.l.length cap) s)) (by kernel_rfl) HS0.out (fun hSn => ?_)
    clear HB HX HR0
    generalize W3.drew = V3 at *
    have hlt := Lib.hid (show Lows V3.heap.size (cellsH b I (.slice ad I.l.length cap) s) from lows_H (Nat.lt_of_lt_of_le hbl HBd.out.size))
    have hlt3 := Lib.hid hlt2.out
    have Bc := Lib.hid (Below.refl V3.heap.size V3)
    simp only [cellsH] at HS0 hlt hlt3 hSn ⊢
    have x7 := HXd.out.c7
    refine tks [0, 2, 3, 4, 5, 6, 7, 8] 8 rfl (by kernel_rfl) (fun _ _ _ _ h => h) (by assumption) (fun KT hKT => ?_)
    iterate 8 (refine tkT (by (simp only [gA, gB, gC]; rfl)) (by rfl) (by (intro w hSw; (simp only [Holds] at hSw); go_simp <;> with_reducible rfl)) ?_; simp only [Act.put, pA, pB, pC])
    refine hKT _ ?_
    clear KT hKT
    refine wpAnyH_ready (rs := [1]) (by kernel_rfl) (by simp) ?_
    refine (AllReadyH.cons (o := ?oz271) ?iz271 (fun K hK => ?kz271) AllReadyH.nil)
    case iz271 => (simp only [List.getElem?_toArray, List.getElem?_cons_zero, List.getElem?_cons_succ]; rfl)
    go_simp
    refine held_more hK HS0.out hlt Bc.out (fun Bc hSn => ?_)
    clear hK x7
    refine wpAnyH_ready (rs := [9]) (by kernel_rfl) (by simp) ?_
    refine AllReadyH.cons (o := ?oz272) ?iz272 (fun K hK => ?kz272) AllReadyH.nil
    case iz272 => (simp only [List.getElem?_toArray, List.getElem?_cons_zero, List.getElem?_cons_succ]; rfl)
    go_simp
    refine (ewithout_any _ _ _ HO2.out).mono ?_
    rintro e w' ⟨rfl, rfl⟩
    refine held_more hK HS0.out hlt Bc.out (fun Bc hSn => ?_)
    clear hK
    have x0 := HXd.out.c7
    have xf := HXd.out.free 7
    refine tks [10] 1 rfl (by kernel_rfl) (fun _ _ _ _ h => h) (by assumption) (fun KT hKT => ?_)
    refine tkT (by (simp only [gA, gB, gC]; rfl)) (by rfl) (by (intro w hSw; (simp only [Holds] at hSw); go_simp <;> with_reducible rfl)) ?_
    simp only [Act.put, pA, pB, pC]
    refine hKT _ ?_
    clear KT hKT
    refine wpAnyH_ready (rs := [11]) (by kernel_rfl) (by simp) ?_
    refine (AllReadyH.cons (o := ?oz273) ?iz273 (fun K hK => ?kz273) AllReadyH.nil)
    case iz273 => (simp only [List.getElem?_toArray, List.getElem?_cons_zero, List.getElem?_cons_succ]; rfl)
    go_simp
    refine hK.out _ _ (Holds.set (by first | exact Xle.out | simp) hSn hlt3.out) (fun hSn => ?_)
    clear hK x0 xf
    have HXn := Lib.hid (HXd.out.set7 (minus on (bitN (j - I.p))))
    have HRn := Lib.hid (HRd.out.other ⟨x, 7, none⟩ (.int .u64 ((minus on (bitN (j - I.p)) : Nat) : Int)) (by have := Xlt.out; simp <;> omega))
    have HBn := Lib.hid (HBd.out.setCell (p := ⟨x, 7, none⟩) Xle.out (.int .u64 ((minus on (bitN (j - I.p)) : Nat) : Int)))
    generalize V3.setCell ⟨x, 7, none⟩ (.int .u64 ((minus on (bitN (j - I.p)) : Nat) : Int)) = V4 at *
    clear HXd HRd HBd
    have HXd := HXn
    have HRd := HRn
    have HBd := HBn
    clear HXn HRn HBn
    refine wpAnyH_done (by kernel_rfl) ?_ _
    have HX := HXd
    have HR0 := HRd
    have HB := HBd
    clear HXd HRd HBd HS0 hlt hlt3 Bc hSn
    have z0 := HX.out.c0
    have z1 := HX.out.c1
    have z2 := HX.out.c2
    have z3 := HX.out.c3
    have z4 := HX.out.c4
    have z5 := HX.out.c5
    have z6 := HX.out.c6
    have z7 := HX.out.c7
    go_wp2_with (refine wpList_store_state (by rfl) (.tmp 4) (.tmp 24) (by rfl) w.heap.size _ (⟨po, ca, ti, lo, fi, mu, ma, minus on (bitN (j - I.p))⟩) (by rfl) (by rfl) HR0.out ?_)
    clear z0 z1 z2 z3 z4 z5 z6 z7
    intro WE hE hbE
    have z0 := hE.c0
    have z1 := hE.c1
    have z2 := hE.c2
    have z3 := hE.c3
    have z4 := hE.c4
    have z5 := hE.c5
    have z6 := hE.c6
    have z7 := hE.c7
    go_wp2
    exact bodyPost_ret (v := staV (⟨po, ca, ti, lo, fi, mu, ma, minus on (bitN (j - I.p))⟩)) (by simp [results, Try.results135, go_sem, z0, z1, z2, z3, z4, z5, z6, z7, staV]) rfl ⟨by rw [HV2.out], HB.out.trans (hbE _ (Nat.le_refl _))⟩
end Go.Proofs.Ytpgbbnmflnhlbaa
/- What is known ahead of all. -/
namespace Go.Proofs.Ytpgbbnmflnhlbaa
open Go.ChangeShapes Go.WideShapes Go.ChangeAt Go.RowKit

set_option maxRecDepth 1000000 in
set_option maxHeartbeats 4000000 in
theorem sroot_any {w : World} {v : Value} {I : Ins} (hr : SRow w v I.l) :
    Calls Try.prog 54 #[insV I v] w fun e w' => e = .returned (staV (rootS I)) ∧ Below w.heap.size w w' := by
  have HR := Lib.hid hr
  obtain ⟨ad, cap, rfl, _⟩ := hr.form
  clear hr
  unfold insV
  go_enter Try.func54, Try.ntmps54
  go_wp2_with fail
  have HY := Lib.hid ((ybox_new w I (.slice ad I.l.length cap)).later ((Below.refl _ _).alloc (Nat.le_refl _) (boxSt noughtS)))
  have HX0 := Lib.hid (st_new (w.alloc (boxI I (.slice ad I.l.length cap))) noughtS)
  have HB := Lib.hid (((Below.refl w.heap.size w).alloc (Nat.le_refl _) (boxI I (.slice ad I.l.length cap))).alloc (by simp) (boxSt noughtS))
  have hsz : (w.alloc (boxI I (.slice ad I.l.length cap))).heap.size = w.heap.size + 1 := by simp
  rw [hsz] at HX0
  clear hsz
  change Calls _ _ #[insV I (.slice ad I.l.length cap)] ((w.alloc (boxI I (.slice ad I.l.length cap))).alloc (boxSt noughtS)) _
  generalize (w.alloc (boxI I (.slice ad I.l.length cap))).alloc (boxSt noughtS) = W at *
  refine (may_any (HR.out.below HB.out)).mono ?_
  rintro e w1 ⟨rfl, hb⟩
  have HY1 := Lib.hid (HY.out.later hb)
  have HX1 := Lib.hid (HX0.out.later hb)
  have HB1 := Lib.hid (HB.out.trans (hb.mono HB.out.size))
  clear hb HY HX0 HB
  cases hm : mayB I
  · have HE := Lib.hid (show rootS I = noughtS from if_neg (by rw [hm]; decide))
    go_wp2_with (refine wpList_store_state (by rfl) (.tmp 2) (.tmp 6) (by rfl) (w.heap.size + 1) _ noughtS (by rfl) (by rfl) HX1.out ?_)
    intro WE hE hbE
    have z0 := hE.c0
    have z1 := hE.c1
    have z2 := hE.c2
    have z3 := hE.c3
    have z4 := hE.c4
    have z5 := hE.c5
    have z6 := hE.c6
    have z7 := hE.c7
    go_wp2
    exact bodyPost_ret (v := staV noughtS) (by simp [results, Try.results54, go_sem, z0, z1, z2, z3, z4, z5, z6, z7, staV]) rfl ⟨by rw [HE.out], HB1.out.trans (hbE _ (Nat.le_succ _))⟩
  · have HE := Lib.hid (root_may hm)
    have hl0 : 0 < I.l.length := (pmay_len hm).1
    obtain ⟨tb, off, rfl, hkt, hlt0⟩ := srow_at HR.out 0 hl0
    rw [Nat.zero_mul, Nat.add_zero] at hkt
    obtain ⟨k0, k1, k2, k3, k4, k5⟩ := hkt.below hlt0 HB1.out
    have hki : (0 : Int) < (I.l.length : Int) := by omega
    obtain ⟨y0, y1, y2, y3⟩ := HY1.out.cells
    generalize nth I.l 0 = t at *
    go_wp2_with (refine wpList_store_state (by rfl) (.tmp 2) (.tmp 12) (by rfl) (w.heap.size + 1) _ ⟨0, 1, t.r, 0, 0, 0, 0, 0⟩ (by rfl) (by rfl) HX1.out ?_)
    clear y0 y1 y2 y3 k0 k1 k2 k3 k4 k5
    intro WE hE hbE
    have z0 := hE.c0
    have z1 := hE.c1
    have z2 := hE.c2
    have z3 := hE.c3
    have z4 := hE.c4
    have z5 := hE.c5
    have z6 := hE.c6
    have z7 := hE.c7
    go_wp2
    exact bodyPost_ret (v := staV ⟨0, 1, t.r, 0, 0, 0, 0, 0⟩) (by simp [results, Try.results54, go_sem, z0, z1, z2, z3, z4, z5, z6, z7, staV]) rfl ⟨by rw [HE.out], HB1.out.trans (hbE _ (Nat.le_succ _))⟩
set_option maxRecDepth 1000000 in
set_option maxHeartbeats 4000000 in
theorem droot_any {w : World} {v : Value} {I : Ins} (hr : SRow w v I.l) :
    Calls Try.prog 55 #[insV I v] w fun e w' => e = .returned (staV (rootS I)) ∧ Below w.heap.size w w' := by
  have HR := Lib.hid hr
  obtain ⟨ad, cap, rfl, _⟩ := hr.form
  clear hr
  unfold insV
  go_enter Try.func55, Try.ntmps55
  go_wp2_with fail
  have HY := Lib.hid ((ybox_new w I (.slice ad I.l.length cap)).later ((Below.refl _ _).alloc (Nat.le_refl _) (boxSt noughtS)))
  have HX0 := Lib.hid (st_new (w.alloc (boxI I (.slice ad I.l.length cap))) noughtS)
  have HB := Lib.hid (((Below.refl w.heap.size w).alloc (Nat.le_refl _) (boxI I (.slice ad I.l.length cap))).alloc (by simp) (boxSt noughtS))
  have hsz : (w.alloc (boxI I (.slice ad I.l.length cap))).heap.size = w.heap.size + 1 := by simp
  rw [hsz] at HX0
  clear hsz
  change Calls _ _ #[insV I (.slice ad I.l.length cap)] ((w.alloc (boxI I (.slice ad I.l.length cap))).alloc (boxSt noughtS)) _
  generalize (w.alloc (boxI I (.slice ad I.l.length cap))).alloc (boxSt noughtS) = W at *
  refine (rmay_any (HR.out.below HB.out)).mono ?_
  rintro e w1 ⟨rfl, hb⟩
  have HY1 := Lib.hid (HY.out.later hb)
  have HX1 := Lib.hid (HX0.out.later hb)
  have HB1 := Lib.hid (HB.out.trans (hb.mono HB.out.size))
  clear hb HY HX0 HB
  cases hm : mayB I
  · have HE := Lib.hid (show rootS I = noughtS from if_neg (by rw [hm]; decide))
    go_wp2_with (refine wpList_store_state (by rfl) (.tmp 2) (.tmp 8) (by rfl) (w.heap.size + 1) _ noughtS (by rfl) (by rfl) HX1.out ?_)
    intro WE hE hbE
    have z0 := hE.c0
    have z1 := hE.c1
    have z2 := hE.c2
    have z3 := hE.c3
    have z4 := hE.c4
    have z5 := hE.c5
    have z6 := hE.c6
    have z7 := hE.c7
    go_wp2
    exact bodyPost_ret (v := staV noughtS) (by simp [results, Try.results55, go_sem, z0, z1, z2, z3, z4, z5, z6, z7, staV]) rfl ⟨by rw [HE.out], HB1.out.trans (hbE _ (Nat.le_succ _))⟩
  · have HE := Lib.hid (root_may hm)
    have hl0 : 0 < I.l.length := (pmay_len hm).1
    obtain ⟨tb, off, rfl, hkt, hlt0⟩ := srow_at HR.out 0 hl0
    rw [Nat.zero_mul, Nat.add_zero] at hkt
    obtain ⟨k0, k1, k2, k3, k4, k5⟩ := hkt.below hlt0 HB1.out
    have hki : (0 : Int) < (I.l.length : Int) := by omega
    obtain ⟨y0, y1, y2, y3⟩ := HY1.out.cells
    generalize nth I.l 0 = t at *
    go_wp2_with (refine wpList_store_state (by rfl) (.tmp 2) (.tmp 14) (by rfl) (w.heap.size + 1) _ ⟨0, 1, t.r, 0, 0, 0, 0, 0⟩ (by rfl) (by rfl) HX1.out ?_)
    clear y0 y1 y2 y3 k0 k1 k2 k3 k4 k5
    intro WE hE hbE
    have z0 := hE.c0
    have z1 := hE.c1
    have z2 := hE.c2
    have z3 := hE.c3
    have z4 := hE.c4
    have z5 := hE.c5
    have z6 := hE.c6
    have z7 := hE.c7
    go_wp2
    exact bodyPost_ret (v := staV ⟨0, 1, t.r, 0, 0, 0, 0, 0⟩) (by simp [results, Try.results55, go_sem, z0, z1, z2, z3, z4, z5, z6, z7, staV]) rfl ⟨by rw [HE.out], HB1.out.trans (hbE _ (Nat.le_succ _))⟩
end Go.Proofs.Ytpgbbnmflnhlbaa
/- Which two methods serve a stop. -/
namespace Go.Proofs.Ytpgbbnmflnhlbaa
open Go.ChangeShapes Go.WideShapes Go.ChangeAt Go.RowKit

/-- A method of the struct in block b, as a value. -/
def metV (f b : Nat) : Value := .func (.func f) #[.pointer (some ⟨b, 0, none⟩)] #[]
set_option maxRecDepth 1000000 in
set_option maxHeartbeats 4000000 in
theorem way_home {w : World} {b : Nat} {j : Int} (hj : j = 0) :
    Calls Try.prog 94 #[.pointer (some ⟨b, 0, none⟩), .int .i64 j] w fun e w' => e = .returned (.tuple #[metV 130 b, metV 131 b]) ∧ Below w.heap.size w w' := by
  subst hj
  go_enter Try.func94, Try.ntmps94
  go_wp2
  exact bodyPost_ret (v := .tuple #[metV 130 b, metV 131 b]) (by simp [results, Try.results94, go_sem, metV]) rfl ⟨rfl, Below.refl _ _⟩
set_option maxRecDepth 1000000 in
set_option maxHeartbeats 4000000 in
theorem way_take {w : World} {b : Nat} {I : Ins} {sv : Value} {s : Sta} {j : Int} (hc : HereB w b I sv s) (hj : 1 ≤ j ∧ j ≤ I.p) :
    Calls Try.prog 94 #[.pointer (some ⟨b, 0, none⟩), .int .i64 j] w fun e w' => e = .returned (.tuple #[metV 132 b, metV 133 b]) ∧ Below w.heap.size w w' := by
  have b0 : (j == 0) = false := by have : j ≠ 0 := by omega
                                   simpa using this
  have b1 : inb 1 I.p j = true := (inb_iff _ _ _).2 hj
  have q0 := hc.c0
  clear hc hj
  go_enter Try.func94, Try.ntmps94
  go_wp2_with fail
  refine (sin_any _ _ _ _).mono ?_
  rintro e w' ⟨rfl, rfl⟩
  go_wp2
  exact bodyPost_ret (v := .tuple #[metV 132 b, metV 133 b]) (by simp [results, Try.results94, go_sem, metV]) rfl ⟨rfl, Below.refl _ _⟩
set_option maxRecDepth 1000000 in
set_option maxHeartbeats 4000000 in
theorem way_bring {w : World} {b : Nat} {I : Ins} {sv : Value} {s : Sta} {j : Int} (hc : HereB w b I sv s) (hm : mayB I = true) (hj : I.p < j ∧ j ≤ 2 * I.p) :
    Calls Try.prog 94 #[.pointer (some ⟨b, 0, none⟩), .int .i64 j] w fun e w' => e = .returned (.tuple #[metV 134 b, metV 135 b]) ∧ Below w.heap.size w w' := by
  have hf := fine_of hm
  have hp0 := hf.p0
  have hp1 := hf.p1
  have b0 : (j == 0) = false := by have : j ≠ 0 := by omega
                                   simpa using this
  have b1 : inb 1 I.p j = false := by
    rw [Bool.eq_false_iff]; intro h; have := (inb_iff _ _ _).1 h; omega
  have b2 : inb (I.p + 1) (2 * I.p) j = true := (inb_iff _ _ _).2 (by omega)
  have e1 : IntKind.i64.wrap (I.p + 1) = I.p + 1 := IntWalk.i64_in _ (by omega)
  have e2 : IntKind.i64.wrap (2 * I.p) = 2 * I.p := IntWalk.i64_in _ (by omega)
  have q0 := hc.c0
  have HC := Lib.hid hc
  clear hc hj hf hp0 hp1 hm
  go_enter Try.func94, Try.ntmps94
  go_wp2_with fail
  refine (sin_any _ _ _ _).mono ?_
  rintro e w' ⟨rfl, rfl⟩
  go_wp2_with fail
  have HB1 := Lib.hid ((Below.refl w.heap.size w).drew)
  have HC1 := Lib.hid (HC.out.later HB1.out)
  have HS0 := Lib.hid (show Holds [(⟨b, 0, none⟩, .int .i64 I.p)] w.drew from ⟨HC1.out.c0, trivial⟩)
  have hlt := Lib.hid (show Lows w.drew.heap.size [((⟨b, 0, none⟩ : Addr), (.int .i64 I.p : Value))] from ⟨HC1.out.lt, trivial⟩)
  refine wp_region_held_drew (S := Holds [(⟨b, 0, none⟩, .int .i64 I.p)]) (by kernel_rfl) HS0.out (fun hSn => ?_)
  have Bc := Lib.hid (Below.refl w.drew.heap.size w.drew)
  clear q0
  refine tks [0, 1, 2, 3, 4, 5, 6, 7, 8, 9, 10, 11, 12] 13 rfl (by kernel_rfl) (fun _ _ _ _ h => h) (by assumption) (fun KT hKT => ?_)
  iterate 13 (refine tkT (by (simp only [gA, gB, gC]; rfl)) (by rfl) (by (intro w hSw; (simp only [Holds] at hSw); go_simp <;> with_reducible rfl)) ?_; simp only [Act.put, pA, pB, pC])
  refine hKT _ ?_
  clear KT hKT
  refine wpAnyH_ready (rs := [13]) (by kernel_rfl) (by simp) ?_
  refine AllReadyH.cons (o := ?oz274) ?iz274 (fun K hK => ?kz274) AllReadyH.nil
  case iz274 => (simp only [List.getElem?_toArray, List.getElem?_cons_zero, List.getElem?_cons_succ]; rfl)
  go_simp
  refine (sin_any _ _ _ _).mono ?_
  rintro e w' ⟨rfl, rfl⟩
  refine held_more hK HS0.out hlt Bc.out (fun Bc hSn => ?_)
  clear hK
  refine tks [14] 1 rfl (by kernel_rfl) (fun _ _ _ _ h => h) (by assumption) (fun KT hKT => ?_)
  refine tkT (by (simp only [gA, gB, gC]; rfl)) (by rfl) (by (intro w hSw; (simp only [Holds] at hSw); go_simp <;> with_reducible rfl)) ?_
  simp only [Act.put, pA, pB, pC]
  refine hKT _ ?_
  clear KT hKT
  refine wpAnyH_done (by kernel_rfl) ?_ _
  go_wp2
  exact bodyPost_ret (v := .tuple #[metV 134 b, metV 135 b]) (by simp [results, Try.results94, go_sem, metV]) rfl ⟨rfl, HB1.out⟩
set_option maxRecDepth 1000000 in
set_option maxHeartbeats 4000000 in
theorem way_never {w : World} {b : Nat} {I : Ins} {sv : Value} {s : Sta} {j : Int} (hc : HereB w b I sv s) (hm : mayB I = true) (hj : j ≠ 0 ∧ ¬ (1 ≤ j ∧ j ≤ 2 * I.p)) :
    Calls Try.prog 94 #[.pointer (some ⟨b, 0, none⟩), .int .i64 j] w fun e w' => e = .returned (.tuple #[metV 136 b, metV 137 b]) ∧ Below w.heap.size w w' := by
  have hf := fine_of hm
  have hp0 := hf.p0
  have hp1 := hf.p1
  have b0 : (j == 0) = false := by have : j ≠ 0 := by omega
                                   simpa using this
  have b1 : inb 1 I.p j = false := by
    rw [Bool.eq_false_iff]; intro h; have := (inb_iff _ _ _).1 h; omega
  have b2 : inb (I.p + 1) (2 * I.p) j = false := by
    rw [Bool.eq_false_iff]; intro h; have := (inb_iff _ _ _).1 h; omega
  have e1 : IntKind.i64.wrap (I.p + 1) = I.p + 1 := IntWalk.i64_in _ (by omega)
  have e2 : IntKind.i64.wrap (2 * I.p) = 2 * I.p := IntWalk.i64_in _ (by omega)
  have q0 := hc.c0
  have HC := Lib.hid hc
  clear hc hj hf hp0 hp1 hm
  go_enter Try.func94, Try.ntmps94
  go_wp2_with fail
  refine (sin_any _ _ _ _).mono ?_
  rintro e w' ⟨rfl, rfl⟩
  go_wp2_with fail
  have HB1 := Lib.hid ((Below.refl w.heap.size w).drew)
  have HC1 := Lib.hid (HC.out.later HB1.out)
  have HS0 := Lib.hid (show Holds [(⟨b, 0, none⟩, .int .i64 I.p)] w.drew from ⟨HC1.out.c0, trivial⟩)
  have hlt := Lib.hid (show Lows w.drew.heap.size [((⟨b, 0, none⟩ : Addr), (.int .i64 I.p : Value))] from ⟨HC1.out.lt, trivial⟩)
  refine wp_region_held_drew (S := Holds [(⟨b, 0, none⟩, .int .i64 I.p)]) (by kernel_rfl) HS0.out (fun hSn => ?_)
  have Bc := Lib.hid (Below.refl w.drew.heap.size w.drew)
  clear q0
  refine tks [0, 1, 2, 3, 4, 5, 6, 7, 8, 9, 10, 11, 12] 13 rfl (by kernel_rfl) (fun _ _ _ _ h => h) (by assumption) (fun KT hKT => ?_)
  iterate 13 (refine tkT (by (simp only [gA, gB, gC]; rfl)) (by rfl) (by (intro w hSw; (simp only [Holds] at hSw); go_simp <;> with_reducible rfl)) ?_; simp only [Act.put, pA, pB, pC])
  refine hKT _ ?_
  clear KT hKT
  refine wpAnyH_ready (rs := [13]) (by kernel_rfl) (by simp) ?_
  refine AllReadyH.cons (o := ?oz275) ?iz275 (fun K hK => ?kz275) AllReadyH.nil
  case iz275 => (simp only [List.getElem?_toArray, List.getElem?_cons_zero, List.getElem?_cons_succ]; rfl)
  go_simp
  refine (sin_any _ _ _ _).mono ?_
  rintro e w' ⟨rfl, rfl⟩
  refine held_more hK HS0.out hlt Bc.out (fun Bc hSn => ?_)
  clear hK
  refine tks [14] 1 rfl (by kernel_rfl) (fun _ _ _ _ h => h) (by assumption) (fun KT hKT => ?_)
  refine tkT (by (simp only [gA, gB, gC]; rfl)) (by rfl) (by (intro w hSw; (simp only [Holds] at hSw); go_simp <;> with_reducible rfl)) ?_
  simp only [Act.put, pA, pB, pC]
  refine hKT _ ?_
  clear KT hKT
  refine wpAnyH_done (by kernel_rfl) ?_ _
  go_wp2
  exact bodyPost_ret (v := .tuple #[metV 136 b, metV 137 b]) (by simp [results, Try.results94, go_sem, metV]) rfl ⟨rfl, HB1.out⟩
end Go.Proofs.Ytpgbbnmflnhlbaa
