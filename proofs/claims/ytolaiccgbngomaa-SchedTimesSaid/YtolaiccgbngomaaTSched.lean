/- What sched's Times and Loads answer. -/
import Derived.Test.YtolaiccgbngomaaTFollow
import Derived.Deep.WholeRow
namespace Go.Proofs.Ytolaiccgbngomaa
open Go.ChangeShapes Go.WideShapes Go.ChangeAt Go.RowKit

/-- A whole struct, into the block that was made last. -/
theorem wpList_store_whole {P : Program} {ops : Array Oper} {rest : List Oper} {op : Oper} {a : Act} {w : World} {Q : Exit → Act → World → Prop} (hgd : op.guard = none) (ty : TypeId) (x y : Operand) (ho : op.op = .store ty x y)
    (W : World) (N : Nat) (c c' : Array Value) (hw : w = W.alloc (.cells c ty)) (hN : W.heap.size = N) (hx : a.eval x = .pointer (some ⟨N, 0, none⟩)) (hy : a.eval y = .agg c')
    (hi : (P.info? ty).map (·.size) = some c'.size) (hs : c.size = c'.size) (h1 : c'.all (·.oneCell') = true)
    (h : wpList P ops Q rest (a.put op.dst undef) (W.alloc (.cells c' ty))) : wpList P ops Q (op :: rest) a w := by
  subst hw hN
  refine wpList_plain hgd fun K hK => ?_
  unfold Oper.wp execOp
  simp only [ho, hx, hy, run_storeAt_new W ty c c' hi hs h1, Sem.run_bind, Sem.run_pure, Result.andThen_ok]
  exact hK _ _ h
theorem car_new (w : World) (I : Ins) (v : Value) : CarB (w.alloc (.cells (carC I v 0 0 0 0 (List.replicate 33 false) (.slice none 0 0) (.slice none 0 0)).toArray 53)) w.heap.size I v 0 0 0 0 (seenB []) (.slice none 0 0) (.slice none 0 0) := by
  rw [seenB_nil]; exact ⟨by simp, heap_alloc_new w _⟩
set_option maxRecDepth 1000000 in
set_option maxHeartbeats 4000000 in
theorem loads_any {w : World} {v rv : Value} {I : Ins} {l : List Int} (hr : SRow w v I.l) (hl : Row w rv (ints l)) :
    Calls Try.prog 15 #[insV I v, rv] w fun e w' => ∃ u, e = .returned u ∧ OwnI w' w.heap.size u (loadsT I l) ∧ Below w.heap.size w w' := by
  have HR := Lib.hid hr
  have HL := Lib.hid hl
  obtain ⟨ad, cap, rfl, _⟩ := hr.form
  clear hr hl
  unfold insV
  go_enter Try.func15, Try.ntmps15
  go_wp2_with (refine wpList_store_whole (by rfl) 53 (.tmp 5) (.tmp 7) (by rfl) (w.alloc (boxI I (.slice ad I.l.length cap))) (w.heap.size + 1) _ (carC I (.slice ad I.l.length cap) 0 0 0 0 (List.replicate 33 false) (.slice none 0 0) (.slice none 0 0)).toArray (by rfl) (by simp) (by rfl) (by rfl) (by exact infoCar) (by rfl) (by kernel_rfl) ?_)
  have hcn := car_new (w.alloc (boxI I (.slice ad I.l.length cap))) I (.slice ad I.l.length cap)
  rw [show (w.alloc (boxI I (.slice ad I.l.length cap))).heap.size = w.heap.size + 1 by simp] at hcn
  have HCB := Lib.hid hcn
  have HB := Lib.hid (((Below.refl _ w).alloc (Nat.le_refl _) (boxI I (.slice ad I.l.length cap))).alloc (by simp) (.cells (carC I (.slice ad I.l.length cap) 0 0 0 0 (List.replicate 33 false) (.slice none 0 0) (.slice none 0 0)).toArray 53))
  change Calls _ _ _ ((w.alloc (boxI I (.slice ad I.l.length cap))).alloc (.cells (carC I (.slice ad I.l.length cap) 0 0 0 0 (List.replicate 33 false) (.slice none 0 0) (.slice none 0 0)).toArray 53)) _
  generalize (w.alloc (boxI I (.slice ad I.l.length cap))).alloc (.cells (carC I (.slice ad I.l.length cap) 0 0 0 0 (List.replicate 33 false) (.slice none 0 0) (.slice none 0 0)).toArray 53) = W at *
  clear hcn
  refine (follow_any HCB.out (Nat.le_succ _) HB.out HR.out HL.out).mono ?_
  rintro e w2 ⟨rfl, tv, lv, c6, ct, cl, ht, hq, hb⟩
  have HTT := Lib.hid ht
  have HQQ := Lib.hid hq
  have HB2 := Lib.hid hb
  clear ht hq hb
  go_wp2
  go_ret
  exact ⟨_, rfl, HQQ.out, HB2.out⟩
set_option maxRecDepth 1000000 in
set_option maxHeartbeats 4000000 in
theorem times_any {w : World} {v rv : Value} {I : Ins} {l : List Int} (hr : SRow w v I.l) (hl : Row w rv (ints l)) :
    Calls Try.prog 11 #[insV I v, rv] w fun e w' => ∃ u, e = .returned (.tuple #[u, .int .i64 (farT I l), .int .i64 (errT I l)]) ∧ OwnT w' w.heap.size u (outT I l) ∧ Below w.heap.size w w' := by
  have HR := Lib.hid hr
  have HL := Lib.hid hl
  obtain ⟨ad, cap, rfl, _⟩ := hr.form
  clear hr hl
  unfold insV
  go_enter Try.func11, Try.ntmps11
  go_wp2_with (refine wpList_store_whole (by rfl) 53 (.tmp 7) (.tmp 10) (by rfl) (w.alloc (boxI I (.slice ad I.l.length cap))) (w.heap.size + 1) _ (carC I (.slice ad I.l.length cap) 0 0 0 0 (List.replicate 33 false) (.slice none 0 0) (.slice none 0 0)).toArray (by rfl) (by simp) (by rfl) (by rfl) (by exact infoCar) (by rfl) (by kernel_rfl) ?_)
  have hcn := car_new (w.alloc (boxI I (.slice ad I.l.length cap))) I (.slice ad I.l.length cap)
  rw [show (w.alloc (boxI I (.slice ad I.l.length cap))).heap.size = w.heap.size + 1 by simp] at hcn
  have HCB := Lib.hid hcn
  have HB := Lib.hid (((Below.refl _ w).alloc (Nat.le_refl _) (boxI I (.slice ad I.l.length cap))).alloc (by simp) (.cells (carC I (.slice ad I.l.length cap) 0 0 0 0 (List.replicate 33 false) (.slice none 0 0) (.slice none 0 0)).toArray 53))
  change Calls _ _ _ ((w.alloc (boxI I (.slice ad I.l.length cap))).alloc (.cells (carC I (.slice ad I.l.length cap) 0 0 0 0 (List.replicate 33 false) (.slice none 0 0) (.slice none 0 0)).toArray 53)) _
  generalize (w.alloc (boxI I (.slice ad I.l.length cap))).alloc (.cells (carC I (.slice ad I.l.length cap) 0 0 0 0 (List.replicate 33 false) (.slice none 0 0) (.slice none 0 0)).toArray 53) = W at *
  clear hcn
  refine (follow_any HCB.out (Nat.le_succ _) HB.out HR.out HL.out).mono ?_
  rintro e w2 ⟨rfl, tv, lv, c6, ct, cl, ht, hq, hb⟩
  have HTT := Lib.hid ht
  have HQQ := Lib.hid hq
  have HB2 := Lib.hid hb
  clear ht hq hb
  go_wp2_with fail
  go_quiet (fail)
  go_wp2
  exact bodyPost_ret (v := .tuple #[tv, .int .i64 (farT I l), .int .i64 (errT I l)]) (by simp [results, Try.results11, go_sem]) rfl ⟨_, rfl, HTT.out.below ((below_drewN (Below.refl _ _) nq)), below_drewN HB2.out nq⟩
end Go.Proofs.Ytolaiccgbngomaa
