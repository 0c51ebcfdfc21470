/- What inst.May answers. -/
import Derived.Test.YtgplajofemencaaGreatXIMem
namespace Go.Proofs.YtgplajofemencaaGreat
open Go.ChangeShapes Go.WideShapes Go.ChangeAt Go.RowKit

/-- The instance in its box. -/
def boxI (I : Ins) (v : Value) : Obj := .cells #[.int .i64 I.p, .int .i64 I.c, .int .i64 I.r, v] 24
def cellsI (N : Nat) (I : Ins) (v : Value) : List (Addr × Value) := [(⟨N, 0, none⟩, .int .i64 I.p), (⟨N, 1, none⟩, .int .i64 I.c), (⟨N, 2, none⟩, .int .i64 I.r), (⟨N, 3, none⟩, v)]
def cellsS (b o : Nat) (t : Stp) : List (Addr × Value) := [(⟨b, o, none⟩, .int .i64 t.x), (⟨b, o + 1, none⟩, .int .i64 t.y), (⟨b, o + 2, none⟩, .int .i64 t.d), (⟨b, o + 3, none⟩, .int .i64 t.r), (⟨b, o + 4, none⟩, .int .i64 t.u), (⟨b, o + 5, none⟩, .int .i64 t.s)]
def cellsA (N : Nat) (I : Ins) (v : Value) (b o : Nat) (t : Stp) : List (Addr × Value) := [(⟨N, 0, none⟩, .int .i64 I.p), (⟨N, 1, none⟩, .int .i64 I.c), (⟨N, 2, none⟩, .int .i64 I.r), (⟨N, 3, none⟩, v), (⟨b, o, none⟩, .int .i64 t.x), (⟨b, o + 1, none⟩, .int .i64 t.y), (⟨b, o + 2, none⟩, .int .i64 t.d), (⟨b, o + 3, none⟩, .int .i64 t.r), (⟨b, o + 4, none⟩, .int .i64 t.u), (⟨b, o + 5, none⟩, .int .i64 t.s)]
theorem Holds.app {w : World} : ∀ {a b : List (Addr × Value)}, Holds (a ++ b) w ↔ Holds a w ∧ Holds b w
  | [], b => by simp [Holds]
  | x :: a, b => by simp [Holds, Holds.app, and_assoc]
theorem Lows.app {M : Nat} : ∀ {a b : List (Addr × Value)}, Lows M a → Lows M b → Lows M (a ++ b)
  | [], _, _, h => h
  | _ :: _, _, h, k => ⟨h.1, Lows.app h.2 k⟩
theorem lows_S {M b o : Nat} {t : Stp} (h : b < M) : Lows M (cellsS b o t) := ⟨h, h, h, h, h, h, trivial⟩
theorem At.holds {w : World} {b o : Nat} {t : Stp} (h : At w b o t) : Holds (cellsS b o t) w := by
  obtain ⟨h0, h1, h2, h3, h4, h5⟩ := h
  exact ⟨h0, h1, h2, h3, h4, h5, trivial⟩
theorem holds_box (w : World) (I : Ins) (v : Value) : Holds (cellsI w.heap.size I v) (w.alloc (boxI I v)) := by
  have h : ∀ i, (w.alloc (boxI I v)).cell? ⟨w.heap.size, i, none⟩ = [Value.int .i64 I.p, .int .i64 I.c, .int .i64 I.r, v][i]? := fun i => by
    unfold boxI; rw [cell_of_row _ _ _ _ _ _ (heap_alloc_new w _)]; simp
  exact ⟨h 0, h 1, h 2, h 3, trivial⟩
theorem eql_len (n : Nat) (p : Int) : ((n : Int) == 2 * p + 1) = lenOk p n := by unfold lenOk; rw [Bool.eq_iff_iff]; simp
set_option maxRecDepth 1000000 in
set_option maxHeartbeats 4000000 in
theorem may_any {w : World} {v : Value} {I : Ins} (h : SRow w v I.l) :
    Calls Tryz.prog 12 #[insV I v] w fun e w' => e = .returned (.bool (mayB I)) ∧ Below w.heap.size w w' := by
  have H := Lib.hid h
  obtain ⟨ad, cap, rfl, hm, hc, hcm⟩ := h.form
  have HSM := Lib.hid (show mayB I = (inb 0 16 I.p && (inb 1 8 I.c && (inb 1 1000 I.r && (lenOk I.p I.l.length && (stopsOk I.l && (yardOk (nth I.l 0) && demOk ((I.l.drop 1).take I.p.toNat) (I.l.drop (1 + I.p.toNat)))))))) from rfl)
  unfold insV
  go_enter Tryz.func12, Tryz.ntmps12
  go_wp2_with fail
  change Code.wp _ _ _ _ (w.alloc (boxI I (.slice ad I.l.length cap)))
  have HS0 := Lib.hid (show Holds (cellsI w.heap.size I (.slice ad I.l.length cap)) (w.alloc (boxI I (.slice ad I.l.length cap))).drew from holds_box w I _)
  have hlt := Lib.hid (show Lows (w.alloc (boxI I (.slice ad I.l.length cap))).drew.heap.size (cellsI w.heap.size I (.slice ad I.l.length cap)) from ⟨by simp [World.drew], by simp [World.drew], by simp [World.drew], by simp [World.drew], trivial⟩)
  have HB1 := Lib.hid (((Below.refl _ w).alloc (Nat.le_refl _) (boxI I (.slice ad I.l.length cap))).drew)
  have H1 := Lib.hid (H.out.below HB1.out)
  generalize w.alloc (boxI I (.slice ad I.l.length cap)) = W at *
  have hNW : w.heap.size ≤ W.drew.heap.size := HB1.out.size
  clear h hm
  refine wp_region_held_drew (S := Holds (cellsI w.heap.size I (.slice ad I.l.length cap))) (by kernel_rfl) HS0.out (fun hSn => ?_)
  have Bc := Lib.hid (Below.refl W.drew.heap.size W.drew)
  unfold cellsI at *
  refine tks [0, 1] 2 rfl (by kernel_rfl) (fun _ _ _ _ h => h) (by assumption) (fun KT hKT => ?_)
  iterate 2 (refine tkT (by (simp only [gA, gB, gC]; rfl)) (by rfl) (by (intro w hSw; (simp only [Holds] at hSw); go_simp <;> with_reducible rfl)) ?_; simp only [Act.put, pA, pB, pC])
  refine hKT _ ?_
  clear KT hKT
  refine wpAnyH_ready (rs := [2]) (by kernel_rfl) (by simp) ?_
  refine AllReadyH.cons (o := ?oz7) ?iz7 (fun K hK => ?kz7) AllReadyH.nil
  case iz7 => (simp only [List.getElem?_toArray, List.getElem?_cons_zero, List.getElem?_cons_succ]; rfl)
  go_simp
  refine held_more hK HS0.out hlt (Bc.out.alloc Bc.out.size _) (fun Bc hSn => ?_)
  refine wpAnyH_ready (rs := [3]) (by kernel_rfl) (by simp) ?_
  refine AllReadyH.cons (o := ?oz8) ?iz8 (fun K hK => ?kz8) AllReadyH.nil
  case iz8 => (simp only [List.getElem?_toArray, List.getElem?_cons_zero, List.getElem?_cons_succ]; rfl)
  go_simp
  refine (within1 _ 0 16 I.p (by go_simp)).mono ?_
  rintro e w' ⟨rfl, rfl⟩
  refine held_more hK HS0.out hlt Bc.out (fun Bc hSn => ?_)
  cases hb1 : inb 0 16 I.p
  · have HD := Lib.hid (show mayB I = false by rw [HSM.out, hb1]; rfl)
    refine tks [4] 1 rfl (by kernel_rfl) (fun _ _ _ _ h => h) (by assumption) (fun KT hKT => ?_)
    refine tkT (by (simp only [gA, gB, gC]; rfl)) (by rfl) (by (intro w hSw; (simp only [Holds] at hSw); go_simp <;> with_reducible rfl)) ?_
    simp only [Act.put, pA, pB, pC]
    refine hKT _ ?_
    clear KT hKT
    refine tks [5, 6, 7, 8] 4 rfl (by kernel_rfl) (fun _ _ _ _ h => h) (by assumption) (fun KT hKT => ?_)
    iterate 4 (refine tkS (by (simp only [gA, gB, gC]; rfl)) (by rfl) ?_; simp only [Act.put, pA, pB, pC])
    refine hKT _ ?_
    clear KT hKT
    refine tks [9, 10] 2 rfl (by kernel_rfl) (fun _ _ _ _ h => h) (by assumption) (fun KT hKT => ?_)
    iterate 2 (refine tkT (by (simp only [gA, gB, gC]; rfl)) (by rfl) (by (intro w hSw; (simp only [Holds] at hSw); go_simp <;> with_reducible rfl)) ?_; simp only [Act.put, pA, pB, pC])
    refine hKT _ ?_
    clear KT hKT
    refine tks [11, 12, 13, 14] 4 rfl (by kernel_rfl) (fun _ _ _ _ h => h) (by assumption) (fun KT hKT => ?_)
    iterate 4 (refine tkS (by (simp only [gA, gB, gC]; rfl)) (by rfl) ?_; simp only [Act.put, pA, pB, pC])
    refine hKT _ ?_
    clear KT hKT
    refine tks [15, 16] 2 rfl (by kernel_rfl) (fun _ _ _ _ h => h) (by assumption) (fun KT hKT => ?_)
    iterate 2 (refine tkT (by (simp only [gA, gB, gC]; rfl)) (by rfl) (by (intro w hSw; (simp only [Holds] at hSw); go_simp <;> with_reducible rfl)) ?_; simp only [Act.put, pA, pB, pC])
    refine hKT _ ?_
    clear KT hKT
    refine tks [17, 18, 19, 20, 21, 22, 23, 24] 8 rfl (by kernel_rfl) (fun _ _ _ _ h => h) (by assumption) (fun KT hKT => ?_)
    iterate 8 (refine tkS (by (simp only [gA, gB, gC]; rfl)) (by rfl) ?_; simp only [Act.put, pA, pB, pC])
    refine hKT _ ?_
    clear KT hKT
    refine tks [25, 26] 2 rfl (by kernel_rfl) (fun _ _ _ _ h => h) (by assumption) (fun KT hKT => ?_)
    iterate 2 (refine tkT (by (simp only [gA, gB, gC]; rfl)) (by rfl) (by (intro w hSw; (simp only [Holds] at hSw); go_simp <;> with_reducible rfl)) ?_; simp only [Act.put, pA, pB, pC])
    refine hKT _ ?_
    clear KT hKT
    refine tks [27, 28, 29] 3 rfl (by kernel_rfl) (fun _ _ _ _ h => h) (by assumption) (fun KT hKT => ?_)
    iterate 3 (refine tkS (by (simp only [gA, gB, gC]; rfl)) (by rfl) ?_; simp only [Act.put, pA, pB, pC])
    refine hKT _ ?_
    clear KT hKT
    refine tks [30, 31] 2 rfl (by kernel_rfl) (fun _ _ _ _ h => h) (by assumption) (fun KT hKT => ?_)
    iterate 2 (refine tkT (by (simp only [gA, gB, gC]; rfl)) (by rfl) (by (intro w hSw; (simp only [Holds] at hSw); go_simp <;> with_reducible rfl)) ?_; simp only [Act.put, pA, pB, pC])
    refine hKT _ ?_
    clear KT hKT
    refine tks [32, 33, 34, 35, 36] 5 rfl (by kernel_rfl) (fun _ _ _ _ h => h) (by assumption) (fun KT hKT => ?_)
    iterate 5 (refine tkS (by (simp only [gA, gB, gC]; rfl)) (by rfl) ?_; simp only [Act.put, pA, pB, pC])
    refine hKT _ ?_
    clear KT hKT
    refine tks [37, 38] 2 rfl (by kernel_rfl) (fun _ _ _ _ h => h) (by assumption) (fun KT hKT => ?_)
    iterate 2 (refine tkT (by (simp only [gA, gB, gC]; rfl)) (by rfl) (by (intro w hSw; (simp only [Holds] at hSw); go_simp <;> with_reducible rfl)) ?_; simp only [Act.put, pA, pB, pC])
    refine hKT _ ?_
    clear KT hKT
    refine tks [39, 40, 41, 42, 43, 44, 45, 46, 47, 48, 49, 50, 51] 13 rfl (by kernel_rfl) (fun _ _ _ _ h => h) (by assumption) (fun KT hKT => ?_)
    iterate 13 (refine tkS (by (simp only [gA, gB, gC]; rfl)) (by rfl) ?_; simp only [Act.put, pA, pB, pC])
    refine hKT _ ?_
    clear KT hKT
    refine tks [52, 53] 2 rfl (by kernel_rfl) (fun _ _ _ _ h => h) (by assumption) (fun KT hKT => ?_)
    iterate 2 (refine tkT (by (simp only [gA, gB, gC]; rfl)) (by rfl) (by (intro w hSw; (simp only [Holds] at hSw); go_simp <;> with_reducible rfl)) ?_; simp only [Act.put, pA, pB, pC])
    refine hKT _ ?_
    clear KT hKT
    refine wpAnyH_done (by kernel_rfl) ?_ _
    go_wp2
    go_ret
    exact ⟨ret_bool HD.out.symm, HB1.out.trans (Bc.out.mono hNW)⟩
  have hp := (inb_iff _ _ _).1 hb1
  have e1 : IntKind.i64.wrap (1 + I.p) = 1 + I.p := IntWalk.i64_in _ (by omega)
  have e2 : IntKind.i64.wrap (2 * I.p) = 2 * I.p := IntWalk.i64_in _ (by omega)
  have e3 : IntKind.i64.wrap (2 * I.p + 1) = 2 * I.p + 1 := IntWalk.i64_in _ (by omega)
  refine tks [4, 5, 6] 3 rfl (by kernel_rfl) (fun _ _ _ _ h => h) (by assumption) (fun KT hKT => ?_)
  iterate 3 (refine tkT (by (simp only [gA, gB, gC]; rfl)) (by rfl) (by (intro w hSw; (simp only [Holds] at hSw); go_simp <;> with_reducible rfl)) ?_; simp only [Act.put, pA, pB, pC])
  refine hKT _ ?_
  clear KT hKT
  refine wpAnyH_ready (rs := [7]) (by kernel_rfl) (by simp) ?_
  refine AllReadyH.cons (o := ?oz9) ?iz9 (fun K hK => ?kz9) AllReadyH.nil
  case iz9 => (simp only [List.getElem?_toArray, List.getElem?_cons_zero, List.getElem?_cons_succ]; rfl)
  go_simp
  refine held_more hK HS0.out hlt (Bc.out.alloc Bc.out.size _) (fun Bc hSn => ?_)
  refine wpAnyH_ready (rs := [8]) (by kernel_rfl) (by simp) ?_
  refine AllReadyH.cons (o := ?oz10) ?iz10 (fun K hK => ?kz10) AllReadyH.nil
  case iz10 => (simp only [List.getElem?_toArray, List.getElem?_cons_zero, List.getElem?_cons_succ]; rfl)
  go_simp
  refine (within1 _ 1 8 I.c (by go_simp)).mono ?_
  rintro e w' ⟨rfl, rfl⟩
  refine held_more hK HS0.out hlt Bc.out (fun Bc hSn => ?_)
  cases hb2 : inb 1 8 I.c
  · have HD := Lib.hid (show mayB I = false by rw [HSM.out, hb1, hb2]; rfl)
    refine tks [9, 10] 2 rfl (by kernel_rfl) (fun _ _ _ _ h => h) (by assumption) (fun KT hKT => ?_)
    iterate 2 (refine tkT (by (simp only [gA, gB, gC]; rfl)) (by rfl) (by (intro w hSw; (simp only [Holds] at hSw); go_simp <;> with_reducible rfl)) ?_; simp only [Act.put, pA, pB, pC])
    refine hKT _ ?_
    clear KT hKT
    refine tks [11, 12, 13, 14] 4 rfl (by kernel_rfl) (fun _ _ _ _ h => h) (by assumption) (fun KT hKT => ?_)
    iterate 4 (refine tkS (by (simp only [gA, gB, gC]; rfl)) (by rfl) ?_; simp only [Act.put, pA, pB, pC])
    refine hKT _ ?_
    clear KT hKT
    refine tks [15, 16] 2 rfl (by kernel_rfl) (fun _ _ _ _ h => h) (by assumption) (fun KT hKT => ?_)
    iterate 2 (refine tkT (by (simp only [gA, gB, gC]; rfl)) (by rfl) (by (intro w hSw; (simp only [Holds] at hSw); go_simp <;> with_reducible rfl)) ?_; simp only [Act.put, pA, pB, pC])
    refine hKT _ ?_
    clear KT hKT
    refine tks [17, 18, 19, 20, 21, 22, 23, 24] 8 rfl (by kernel_rfl) (fun _ _ _ _ h => h) (by assumption) (fun KT hKT => ?_)
    iterate 8 (refine tkS (by (simp only [gA, gB, gC]; rfl)) (by rfl) ?_; simp only [Act.put, pA, pB, pC])
    refine hKT _ ?_
    clear KT hKT
    refine tks [25, 26] 2 rfl (by kernel_rfl) (fun _ _ _ _ h => h) (by assumption) (fun KT hKT => ?_)
    iterate 2 (refine tkT (by (simp only [gA, gB, gC]; rfl)) (by rfl) (by (intro w hSw; (simp only [Holds] at hSw); go_simp <;> with_reducible rfl)) ?_; simp only [Act.put, pA, pB, pC])
    refine hKT _ ?_
    clear KT hKT
    refine tks [27, 28, 29] 3 rfl (by kernel_rfl) (fun _ _ _ _ h => h) (by assumption) (fun KT hKT => ?_)
    iterate 3 (refine tkS (by (simp only [gA, gB, gC]; rfl)) (by rfl) ?_; simp only [Act.put, pA, pB, pC])
    refine hKT _ ?_
    clear KT hKT
    refine tks [30, 31] 2 rfl (by kernel_rfl) (fun _ _ _ _ h => h) (by assumption) (fun KT hKT => ?_)
    iterate 2 (refine tkT (by (simp only [gA, gB, gC]; rfl)) (by rfl) (by (intro w hSw; (simp only [Holds] at hSw); go_simp <;> with_reducible rfl)) ?_; simp only [Act.put, pA, pB, pC])
    refine hKT _ ?_
    clear KT hKT
    refine tks [32, 33, 34, 35, 36] 5 rfl (by kernel_rfl) (fun _ _ _ _ h => h) (by assumption) (fun KT hKT => ?_)
    iterate 5 (refine tkS (by (simp only [gA, gB, gC]; rfl)) (by rfl) ?_; simp only [Act.put, pA, pB, pC])
    refine hKT _ ?_
    clear KT hKT
    refine tks [37, 38] 2 rfl (by kernel_rfl) (fun _ _ _ _ h => h) (by assumption) (fun KT hKT => ?_)
    iterate 2 (refine tkT (by (simp only [gA, gB, gC]; rfl)) (by rfl) (by (intro w hSw; (simp only [Holds] at hSw); go_simp <;> with_reducible rfl)) ?_; simp only [Act.put, pA, pB, pC])
    refine hKT _ ?_
    clear KT hKT
    refine tks [39, 40, 41, 42, 43, 44, 45, 46, 47, 48, 49, 50, 51] 13 rfl (by kernel_rfl) (fun _ _ _ _ h => h) (by assumption) (fun KT hKT => ?_)
    iterate 13 (refine tkS (by (simp only [gA, gB, gC]; rfl)) (by rfl) ?_; simp only [Act.put, pA, pB, pC])
    refine hKT _ ?_
    clear KT hKT
    refine tks [52, 53] 2 rfl (by kernel_rfl) (fun _ _ _ _ h => h) (by assumption) (fun KT hKT => ?_)
    iterate 2 (refine tkT (by (simp only [gA, gB, gC]; rfl)) (by rfl) (by (intro w hSw; (simp only [Holds] at hSw); go_simp <;> with_reducible rfl)) ?_; simp only [Act.put, pA, pB, pC])
    refine hKT _ ?_
    clear KT hKT
    refine wpAnyH_done (by kernel_rfl) ?_ _
    go_wp2
    go_ret
    exact ⟨ret_bool HD.out.symm, HB1.out.trans (Bc.out.mono hNW)⟩
  refine tks [9, 10, 11, 12] 4 rfl (by kernel_rfl) (fun _ _ _ _ h => h) (by assumption) (fun KT hKT => ?_)
  iterate 4 (refine tkT (by (simp only [gA, gB, gC]; rfl)) (by rfl) (by (intro w hSw; (simp only [Holds] at hSw); go_simp <;> with_reducible rfl)) ?_; simp only [Act.put, pA, pB, pC])
  refine hKT _ ?_
  clear KT hKT
  refine wpAnyH_ready (rs := [13]) (by kernel_rfl) (by simp) ?_
  refine AllReadyH.cons (o := ?oz11) ?iz11 (fun K hK => ?kz11) AllReadyH.nil
  case iz11 => (simp only [List.getElem?_toArray, List.getElem?_cons_zero, List.getElem?_cons_succ]; rfl)
  go_simp
  refine held_more hK HS0.out hlt (Bc.out.alloc Bc.out.size _) (fun Bc hSn => ?_)
  refine wpAnyH_ready (rs := [14]) (by kernel_rfl) (by simp) ?_
  refine AllReadyH.cons (o := ?oz12) ?iz12 (fun K hK => ?kz12) AllReadyH.nil
  case iz12 => (simp only [List.getElem?_toArray, List.getElem?_cons_zero, List.getElem?_cons_succ]; rfl)
  go_simp
  refine (within1 _ 1 1000 I.r (by go_simp)).mono ?_
  rintro e w' ⟨rfl, rfl⟩
  refine held_more hK HS0.out hlt Bc.out (fun Bc hSn => ?_)
  cases hb3 : inb 1 1000 I.r
  · have HD := Lib.hid (show mayB I = false by rw [HSM.out, hb1, hb2, hb3]; rfl)
    refine tks [15, 16] 2 rfl (by kernel_rfl) (fun _ _ _ _ h => h) (by assumption) (fun KT hKT => ?_)
    iterate 2 (refine tkT (by (simp only [gA, gB, gC]; rfl)) (by rfl) (by (intro w hSw; (simp only [Holds] at hSw); go_simp <;> with_reducible rfl)) ?_; simp only [Act.put, pA, pB, pC])
    refine hKT _ ?_
    clear KT hKT
    refine tks [17, 18, 19, 20, 21, 22, 23, 24] 8 rfl (by kernel_rfl) (fun _ _ _ _ h => h) (by assumption) (fun KT hKT => ?_)
    iterate 8 (refine tkS (by (simp only [gA, gB, gC]; rfl)) (by rfl) ?_; simp only [Act.put, pA, pB, pC])
    refine hKT _ ?_
    clear KT hKT
    refine tks [25, 26] 2 rfl (by kernel_rfl) (fun _ _ _ _ h => h) (by assumption) (fun KT hKT => ?_)
    iterate 2 (refine tkT (by (simp only [gA, gB, gC]; rfl)) (by rfl) (by (intro w hSw; (simp only [Holds] at hSw); go_simp <;> with_reducible rfl)) ?_; simp only [Act.put, pA, pB, pC])
    refine hKT _ ?_
    clear KT hKT
    refine tks [27, 28, 29] 3 rfl (by kernel_rfl) (fun _ _ _ _ h => h) (by assumption) (fun KT hKT => ?_)
    iterate 3 (refine tkS (by (simp only [gA, gB, gC]; rfl)) (by rfl) ?_; simp only [Act.put, pA, pB, pC])
    refine hKT _ ?_
    clear KT hKT
    refine tks [30, 31] 2 rfl (by kernel_rfl) (fun _ _ _ _ h => h) (by assumption) (fun KT hKT => ?_)
    iterate 2 (refine tkT (by (simp only [gA, gB, gC]; rfl)) (by rfl) (by (intro w hSw; (simp only [Holds] at hSw); go_simp <;> with_reducible rfl)) ?_; simp only [Act.put, pA, pB, pC])
    refine hKT _ ?_
    clear KT hKT
    refine tks [32, 33, 34, 35, 36] 5 rfl (by kernel_rfl) (fun _ _ _ _ h => h) (by assumption) (fun KT hKT => ?_)
    iterate 5 (refine tkS (by (simp only [gA, gB, gC]; rfl)) (by rfl) ?_; simp only [Act.put, pA, pB, pC])
    refine hKT _ ?_
    clear KT hKT
    refine tks [37, 38] 2 rfl (by kernel_rfl) (fun _ _ _ _ h => h) (by assumption) (fun KT hKT => ?_)
    iterate 2 (refine tkT (by (simp only [gA, gB, gC]; rfl)) (by rfl) (by (intro w hSw; (simp only [Holds] at hSw); go_simp <;> with_reducible rfl)) ?_; simp only [Act.put, pA, pB, pC])
    refine hKT _ ?_
    clear KT hKT
    refine tks [39, 40, 41, 42, 43, 44, 45, 46, 47, 48, 49, 50, 51] 13 rfl (by kernel_rfl) (fun _ _ _ _ h => h) (by assumption) (fun KT hKT => ?_)
    iterate 13 (refine tkS (by (simp only [gA, gB, gC]; rfl)) (by rfl) ?_; simp only [Act.put, pA, pB, pC])
    refine hKT _ ?_
    clear KT hKT
    refine tks [52, 53] 2 rfl (by kernel_rfl) (fun _ _ _ _ h => h) (by assumption) (fun KT hKT => ?_)
    iterate 2 (refine tkT (by (simp only [gA, gB, gC]; rfl)) (by rfl) (by (intro w hSw; (simp only [Holds] at hSw); go_simp <;> with_reducible rfl)) ?_; simp only [Act.put, pA, pB, pC])
    refine hKT _ ?_
    clear KT hKT
    refine wpAnyH_done (by kernel_rfl) ?_ _
    go_wp2
    go_ret
    exact ⟨ret_bool HD.out.symm, HB1.out.trans (Bc.out.mono hNW)⟩
  have e4 := eql_len I.l.length I.p
  refine tks [15, 16, 17, 18, 19, 20, 21, 22, 23, 24] 10 rfl (by kernel_rfl) (fun _ _ _ _ h => h) (by assumption) (fun KT hKT => ?_)
  iterate 10 (refine tkT (by (simp only [gA, gB, gC]; rfl)) (by rfl) (by (intro w hSw; (simp only [Holds] at hSw); go_simp <;> with_reducible rfl)) ?_; simp only [Act.put, pA, pB, pC])
  refine hKT _ ?_
  clear KT hKT
  clear e4
  cases hb4 : lenOk I.p I.l.length
  · have HD := Lib.hid (show mayB I = false by rw [HSM.out, hb1, hb2, hb3, hb4]; rfl)
    refine tks [25, 26] 2 rfl (by kernel_rfl) (fun _ _ _ _ h => h) (by assumption) (fun KT hKT => ?_)
    iterate 2 (refine tkT (by (simp only [gA, gB, gC]; rfl)) (by rfl) (by (intro w hSw; (simp only [Holds] at hSw); go_simp <;> with_reducible rfl)) ?_; simp only [Act.put, pA, pB, pC])
    refine hKT _ ?_
    clear KT hKT
    refine tks [27, 28, 29] 3 rfl (by kernel_rfl) (fun _ _ _ _ h => h) (by assumption) (fun KT hKT => ?_)
    iterate 3 (refine tkS (by (simp only [gA, gB, gC]; rfl)) (by rfl) ?_; simp only [Act.put, pA, pB, pC])
    refine hKT _ ?_
    clear KT hKT
    refine tks [30, 31] 2 rfl (by kernel_rfl) (fun _ _ _ _ h => h) (by assumption) (fun KT hKT => ?_)
    iterate 2 (refine tkT (by (simp only [gA, gB, gC]; rfl)) (by rfl) (by (intro w hSw; (simp only [Holds] at hSw); go_simp <;> with_reducible rfl)) ?_; simp only [Act.put, pA, pB, pC])
    refine hKT _ ?_
    clear KT hKT
    refine tks [32, 33, 34, 35, 36] 5 rfl (by kernel_rfl) (fun _ _ _ _ h => h) (by assumption) (fun KT hKT => ?_)
    iterate 5 (refine tkS (by (simp only [gA, gB, gC]; rfl)) (by rfl) ?_; simp only [Act.put, pA, pB, pC])
    refine hKT _ ?_
    clear KT hKT
    refine tks [37, 38] 2 rfl (by kernel_rfl) (fun _ _ _ _ h => h) (by assumption) (fun KT hKT => ?_)
    iterate 2 (refine tkT (by (simp only [gA, gB, gC]; rfl)) (by rfl) (by (intro w hSw; (simp only [Holds] at hSw); go_simp <;> with_reducible rfl)) ?_; simp only [Act.put, pA, pB, pC])
    refine hKT _ ?_
    clear KT hKT
    refine tks [39, 40, 41, 42, 43, 44, 45, 46, 47, 48, 49, 50, 51] 13 rfl (by kernel_rfl) (fun _ _ _ _ h => h) (by assumption) (fun KT hKT => ?_)
    iterate 13 (refine tkS (by (simp only [gA, gB, gC]; rfl)) (by rfl) ?_; simp only [Act.put, pA, pB, pC])
    refine hKT _ ?_
    clear KT hKT
    refine tks [52, 53] 2 rfl (by kernel_rfl) (fun _ _ _ _ h => h) (by assumption) (fun KT hKT => ?_)
    iterate 2 (refine tkT (by (simp only [gA, gB, gC]; rfl)) (by rfl) (by (intro w hSw; (simp only [Holds] at hSw); go_simp <;> with_reducible rfl)) ?_; simp only [Act.put, pA, pB, pC])
    refine hKT _ ?_
    clear KT hKT
    refine wpAnyH_done (by kernel_rfl) ?_ _
    go_wp2
    go_ret
    exact ⟨ret_bool HD.out.symm, HB1.out.trans (Bc.out.mono hNW)⟩
  have hl : (I.l.length : Int) = 2 * I.p + 1 := by unfold lenOk at hb4; exact decide_eq_true_iff.1 hb4
  obtain ⟨b, off, rfl, hat, hbl⟩ := srow_at H1.out 0 (by omega)
  have HAT := Lib.hid (show At W.drew b off (nth I.l 0) by simpa using hat)
  clear hat
  refine tks [25, 26, 27, 28] 4 rfl (by kernel_rfl) (fun _ _ _ _ h => h) (by assumption) (fun KT hKT => ?_)
  iterate 4 (refine tkT (by (simp only [gA, gB, gC]; rfl)) (by rfl) (by (intro w hSw; (simp only [Holds] at hSw); go_simp <;> with_reducible rfl)) ?_; simp only [Act.put, pA, pB, pC])
  refine hKT _ ?_
  clear KT hKT
  refine wpAnyH_ready (rs := [29]) (by kernel_rfl) (by simp) ?_
  refine AllReadyH.cons (o := ?oz13) ?iz13 (fun K hK => ?kz13) AllReadyH.nil
  case iz13 => (simp only [List.getElem?_toArray, List.getElem?_cons_zero, List.getElem?_cons_succ]; rfl)
  go_simp
  refine (stopsMay_any (H1.out.below Bc.out)).mono ?_
  rintro e w' ⟨rfl, hb⟩
  refine held_more hK HS0.out hlt (Bc.out.trans (hb.mono Bc.out.size)) (fun Bc hSn => ?_)
  clear hb hK
  cases hb5 : stopsOk I.l
  · have HD := Lib.hid (show mayB I = false by rw [HSM.out, hb1, hb2, hb3, hb4, hb5]; rfl)
    refine tks [30, 31] 2 rfl (by kernel_rfl) (fun _ _ _ _ h => h) (by assumption) (fun KT hKT => ?_)
    iterate 2 (refine tkT (by (simp only [gA, gB, gC]; rfl)) (by rfl) (by (intro w hSw; (simp only [Holds] at hSw); go_simp <;> with_reducible rfl)) ?_; simp only [Act.put, pA, pB, pC])
    refine hKT _ ?_
    clear KT hKT
    refine tks [32, 33, 34, 35, 36] 5 rfl (by kernel_rfl) (fun _ _ _ _ h => h) (by assumption) (fun KT hKT => ?_)
    iterate 5 (refine tkS (by (simp only [gA, gB, gC]; rfl)) (by rfl) ?_; simp only [Act.put, pA, pB, pC])
    refine hKT _ ?_
    clear KT hKT
    refine tks [37, 38] 2 rfl (by kernel_rfl) (fun _ _ _ _ h => h) (by assumption) (fun KT hKT => ?_)
    iterate 2 (refine tkT (by (simp only [gA, gB, gC]; rfl)) (by rfl) (by (intro w hSw; (simp only [Holds] at hSw); go_simp <;> with_reducible rfl)) ?_; simp only [Act.put, pA, pB, pC])
    refine hKT _ ?_
    clear KT hKT
    refine tks [39, 40, 41, 42, 43, 44, 45, 46, 47, 48, 49, 50, 51] 13 rfl (by kernel_rfl) (fun _ _ _ _ h => h) (by assumption) (fun KT hKT => ?_)
    iterate 13 (refine tkS (by (simp only [gA, gB, gC]; rfl)) (by rfl) ?_; simp only [Act.put, pA, pB, pC])
    refine hKT _ ?_
    clear KT hKT
    refine tks [52, 53] 2 rfl (by kernel_rfl) (fun _ _ _ _ h => h) (by assumption) (fun KT hKT => ?_)
    iterate 2 (refine tkT (by (simp only [gA, gB, gC]; rfl)) (by rfl) (by (intro w hSw; (simp only [Holds] at hSw); go_simp <;> with_reducible rfl)) ?_; simp only [Act.put, pA, pB, pC])
    refine hKT _ ?_
    clear KT hKT
    refine wpAnyH_done (by kernel_rfl) ?_ _
    go_wp2
    go_ret
    exact ⟨ret_bool HD.out.symm, HB1.out.trans (Bc.out.mono hNW)⟩
  have h0l : (0 : Int) < (I.l.length : Int) := by omega
  have h0n : 0 < I.l.length := by omega
  have i1 : (0 : Int) ≤ 1 + I.p := by omega
  have i2 : (1 : Int) ≤ 1 + I.p := by omega
  have i3 : 1 + I.p ≤ (cap : Int) := by omega
  have i4 : 1 + I.p ≤ (I.l.length : Int) := by omega
  have HL := Lib.hid hl
  clear hl
  have HS1 := Lib.hid (show Holds (cellsA w.heap.size I (.slice (some ⟨b, off, none⟩) I.l.length cap) b off (nth I.l 0)) W.drew from ⟨HS0.out.1, HS0.out.2.1, HS0.out.2.2.1, HS0.out.2.2.2.1, HAT.out.holds⟩)
  have hlt1 := Lib.hid (show Lows W.drew.heap.size (cellsA w.heap.size I (.slice (some ⟨b, off, none⟩) I.l.length cap) b off (nth I.l 0)) from ⟨hlt.out.1, hlt.out.2.1, hlt.out.2.2.1, hlt.out.2.2.2.1, lows_S hbl⟩)
  clear hSn HS0 hlt
  have HS0 := HS1
  have hlt := hlt1
  clear HS1 hlt1
  have hSn := Holds.below Bc.out HS0.out hlt.out
  refine wpAnyH_strong (S' := Holds (cellsA w.heap.size I (.slice (some ⟨b, off, none⟩) I.l.length cap) b off (nth I.l 0))) (fun _ h => ⟨h.1, h.2.1, h.2.2.1, h.2.2.2.1, trivial⟩) _ _ _ _ ?_
  unfold cellsA at *
  refine tks [30, 31, 32, 33, 34, 35] 6 rfl (by kernel_rfl) (fun _ _ _ _ h => h) (by assumption) (fun KT hKT => ?_)
  iterate 6 (refine tkT (by (simp only [gA, gB, gC]; rfl)) (by rfl) (by (intro w hSw; (simp only [Holds] at hSw); go_simp <;> with_reducible rfl)) ?_; simp only [Act.put, pA, pB, pC])
  refine hKT _ ?_
  clear KT hKT
  refine wpAnyH_ready (rs := [36]) (by kernel_rfl) (by simp) ?_
  refine AllReadyH.cons (o := ?oz14) ?iz14 (fun K hK => ?kz14) AllReadyH.nil
  case iz14 => (simp only [List.getElem?_toArray, List.getElem?_cons_zero, List.getElem?_cons_succ]; rfl)
  go_simp
  refine (yard_any (nth I.l 0) _).mono ?_
  rintro e w' ⟨rfl, hb⟩
  refine held_more hK HS0.out hlt (Bc.out.trans (hb.mono Bc.out.size)) (fun Bc hSn => ?_)
  clear hb hK
  cases hb6 : yardOk (nth I.l 0)
  · have HD := Lib.hid (show mayB I = false by rw [HSM.out, hb1, hb2, hb3, hb4, hb5, hb6]; rfl)
    refine tks [37, 38] 2 rfl (by kernel_rfl) (fun _ _ _ _ h => h) (by assumption) (fun KT hKT => ?_)
    iterate 2 (refine tkT (by (simp only [gA, gB, gC]; rfl)) (by rfl) (by (intro w hSw; (simp only [Holds] at hSw); go_simp <;> with_reducible rfl)) ?_; simp only [Act.put, pA, pB, pC])
    refine hKT _ ?_
    clear KT hKT
    refine tks [39, 40, 41, 42, 43, 44, 45, 46, 47, 48, 49, 50, 51] 13 rfl (by kernel_rfl) (fun _ _ _ _ h => h) (by assumption) (fun KT hKT => ?_)
    iterate 13 (refine tkS (by (simp only [gA, gB, gC]; rfl)) (by rfl) ?_; simp only [Act.put, pA, pB, pC])
    refine hKT _ ?_
    clear KT hKT
    refine tks [52, 53] 2 rfl (by kernel_rfl) (fun _ _ _ _ h => h) (by assumption) (fun KT hKT => ?_)
    iterate 2 (refine tkT (by (simp only [gA, gB, gC]; rfl)) (by rfl) (by (intro w hSw; (simp only [Holds] at hSw); go_simp <;> with_reducible rfl)) ?_; simp only [Act.put, pA, pB, pC])
    refine hKT _ ?_
    clear KT hKT
    refine wpAnyH_done (by kernel_rfl) ?_ _
    go_wp2
    go_ret
    exact ⟨ret_bool HD.out.symm, HB1.out.trans (Bc.out.mono hNW)⟩
  refine tks [37, 38, 39, 40, 41, 42, 43] 7 rfl (by kernel_rfl) (fun _ _ _ _ h => h) (by assumption) (fun KT hKT => ?_)
  iterate 7 (refine tkT (by (simp only [gA, gB, gC]; rfl)) (by rfl) (by (intro w hSw; (simp only [Holds] at hSw); go_simp <;> with_reducible rfl)) ?_; simp only [Act.put, pA, pB, pC])
  refine hKT _ ?_
  clear KT hKT
  refine tks [44, 45, 46, 47, 48, 49, 50] 7 rfl (by kernel_rfl) (fun _ _ _ _ h => h) (by assumption) (fun KT hKT => ?_)
  iterate 7 (refine tkT (by (simp only [gA, gB, gC]; rfl)) (by rfl) (by (intro w hSw; (simp only [Holds] at hSw); go_simp <;> with_reducible rfl)) ?_; simp only [Act.put, pA, pB, pC])
  refine hKT _ ?_
  clear KT hKT
  refine wpAnyH_ready (rs := [51]) (by kernel_rfl) (by simp) ?_
  refine AllReadyH.cons (o := ?oz15) ?iz15 (fun K hK => ?kz15) AllReadyH.nil
  case iz15 => (simp only [List.getElem?_toArray, List.getElem?_cons_zero, List.getElem?_cons_succ]; rfl)
  go_simp
  have hk : (1 + I.p).toNat = 1 + I.p.toNat := by omega
  have hk2 : 1 + I.p.toNat - 1 = I.p.toNat := by omega
  have hk3 : 1 + I.p.toNat ≤ I.l.length := by omega
  have HR := Lib.hid (H1.out.below Bc.out)
  refine (demands_any (T := (I.l.drop 1).take I.p.toNat) (B := I.l.drop (1 + I.p.toNat)) ?s1 ?s2 ?s3).mono ?_
  case s1 =>
    have := HR.out.part 1 (1 + I.p.toNat) (by omega) (by omega) _ rfl
    rw [hk2] at this
    rw [hk, hk2]
    exact this
  case s2 =>
    have := HR.out.part (1 + I.p.toNat) I.l.length (by omega) (Nat.le_refl _) _ rfl
    rw [List.take_of_length_le (by simp)] at this
    rw [hk]
    exact this
  case s3 =>
    have := HL.out
    simp
    omega
  rintro e w' ⟨rfl, hb⟩
  refine held_more hK HS0.out hlt (Bc.out.trans (hb.mono Bc.out.size)) (fun Bc hSn => ?_)
  clear hb hK
  have HD := Lib.hid (show mayB I = demOk ((I.l.drop 1).take I.p.toNat) (I.l.drop (1 + I.p.toNat)) by rw [HSM.out, hb1, hb2, hb3, hb4, hb5, hb6]; rfl)
  generalize demOk ((I.l.drop 1).take I.p.toNat) (I.l.drop (1 + I.p.toNat)) = b7 at HD ⊢
  generalize Value.slice (if cap = 1 then some ⟨b, off, none⟩ else some ⟨b, off + 6, none⟩) ((1 + I.p).toNat - 1) (cap - 1) = x1
  generalize Value.slice (if cap = (1 + I.p).toNat then some ⟨b, off, none⟩ else some ⟨b, off + (1 + I.p).toNat * 6, none⟩) (I.l.length - (1 + I.p).toNat) (cap - (1 + I.p).toNat) = x2
  refine tks [52, 53] 2 rfl (by kernel_rfl) (fun _ _ _ _ h => h) (by assumption) (fun KT hKT => ?_)
  iterate 2 (refine tkT (by (simp only [gA, gB, gC]; rfl)) (by rfl) (by (intro w hSw; (simp only [Holds] at hSw); go_simp <;> with_reducible rfl)) ?_; simp only [Act.put, pA, pB, pC])
  refine hKT _ ?_
  clear KT hKT
  refine wpAnyH_done (by kernel_rfl) ?_ _
  go_wp2
  go_ret
  exact ⟨ret_bool HD.out.symm, HB1.out.trans (Bc.out.mono hNW)⟩
end Go.Proofs.YtgplajofemencaaGreat
/- The document's May. -/
namespace Go.Proofs.YtgplajofemencaaGreat
open Go.ChangeShapes Go.WideShapes Go.ChangeAt Go.RowKit

theorem okAt_no {I : Ins} {i : Nat} (hi : i < I.l.length) (h : ¬ okAt I.p.toNat I.l i) : mayB I = false := by
  cases hm : mayB I with
  | false => rfl
  | true => exact absurd (((may_iff I).1 hm).2.2.2.2 i hi) h
theorem okAt_all {I : Ins} (h1 : inb 0 16 I.p = true) (h2 : inb 1 8 I.c = true) (h3 : inb 1 1000 I.r = true) (h4 : lenOk I.p I.l.length = true) (h : ∀ i, i < I.l.length → okAt I.p.toNat I.l i) : mayB I = true := (may_iff I).2 ⟨h1, h2, h3, h4, h⟩
theorem okAt_next {p : Nat} {l : List Stp} {k : Nat} (h : ∀ i, i < k → okAt p l i) (hk : okAt p l k) : ∀ i, i < k + 1 → okAt p l i := fun i hi => by
  by_cases c : i < k
  · exact h i c
  · obtain rfl : i = k := by omega
    exact hk
theorem may_no {I : Ins} (h : ¬ (inb 0 16 I.p = true ∧ inb 1 8 I.c = true ∧ inb 1 1000 I.r = true ∧ lenOk I.p I.l.length = true)) : mayB I = false := by
  cases hm : mayB I with
  | false => rfl
  | true => have := (may_iff I).1 hm; exact absurd ⟨this.1, this.2.1, this.2.2.1, this.2.2.2.1⟩ h
theorem lenNe (n : Nat) (p : Int) : ((n : Int) != 2 * p + 1) = !lenOk p n := by unfold lenOk; rw [Bool.eq_iff_iff]; simp
set_option maxRecDepth 1000000 in
set_option maxHeartbeats 4000000 in
theorem rmay_any {w : World} {v : Value} {I : Ins} (h : SRow w v I.l) :
    Calls Tryz.prog 73 #[insV I v] w fun e w' => e = .returned (.bool (mayB I)) ∧ Below w.heap.size w w' := by
  have H := Lib.hid h
  obtain ⟨ad, cap, rfl, hm, _⟩ := h.form
  have hm1 : I.l.length ≤ 9223372036854775807 := by unfold maxLen at hm; omega
  clear h hm
  unfold insV
  go_enter Tryz.func73, Tryz.ntmps73
  go_wp2_with fail
  refine (in_any _ _ _ _).mono ?_
  rintro e w' ⟨rfl, rfl⟩
  go_wp2_with fail
  refine (in_any _ _ _ _).mono ?_
  rintro e w' ⟨rfl, rfl⟩
  go_wp2_with fail
  refine (in_any _ _ _ _).mono ?_
  rintro e w' ⟨rfl, rfl⟩
  cases hb1 : inb 0 16 I.p
  · have HD := Lib.hid (may_no (I := I) (by rw [hb1]; simp))
    go_wp2
    go_ret
    exact ⟨ret_bool HD.out.symm, (Below.refl _ w).alloc (Nat.le_refl _) _⟩
  cases hb2 : inb 1 8 I.c
  · have HD := Lib.hid (may_no (I := I) (by rw [hb2]; simp))
    go_wp2
    go_ret
    exact ⟨ret_bool HD.out.symm, (Below.refl _ w).alloc (Nat.le_refl _) _⟩
  cases hb3 : inb 1 1000 I.r
  · have HD := Lib.hid (may_no (I := I) (by rw [hb3]; simp))
    go_wp2
    go_ret
    exact ⟨ret_bool HD.out.symm, (Below.refl _ w).alloc (Nat.le_refl _) _⟩
  have hp := (inb_iff _ _ _).1 hb1
  have e2 : IntKind.i64.wrap (2 * I.p) = 2 * I.p := IntWalk.i64_in _ (by omega)
  have e3 : IntKind.i64.wrap (2 * I.p + 1) = 2 * I.p + 1 := IntWalk.i64_in _ (by omega)
  have e4 := lenNe I.l.length I.p
  cases hb4 : lenOk I.p I.l.length
  · have HD := Lib.hid (may_no (I := I) (by rw [hb4]; simp))
    rw [hb4] at e4
    simp only [Bool.not_false] at e4
    go_wp2
    go_ret
    exact ⟨ret_bool HD.out.symm, (Below.refl _ w).alloc (Nat.le_refl _) _⟩
  rw [hb4] at e4
  simp only [Bool.not_true] at e4
  have HALL := Lib.hid (okAt_all hb1 hb2 hb3 hb4)
  have hl : (I.l.length : Int) = 2 * I.p + 1 := by unfold lenOk at hb4; exact decide_eq_true_iff.1 hb4
  have hl1 : (I.l.length : Int) ≤ 2 * I.p + 1 := by omega
  have hl2 : 2 * I.p + 1 ≤ (I.l.length : Int) := by omega
  clear hl hb1 hb2 hb3 hb4
  go_wp2_with fail
  change Code.wp _ _ _ _ (w.alloc (boxI I (.slice ad I.l.length cap)))
  have HB1 := Lib.hid ((Below.refl _ w).alloc (Nat.le_refl _) (boxI I (.slice ad I.l.length cap)))
  have HS0 := Lib.hid (holds_box w I (.slice ad I.l.length cap))
  have hlt := Lib.hid (show Lows (w.alloc (boxI I (.slice ad I.l.length cap))).heap.size (cellsI w.heap.size I (.slice ad I.l.length cap)) from ⟨by simp, by simp, by simp, by simp, trivial⟩)
  have HA1 := Lib.hid (H.out.below HB1.out)
  have hN : w.heap.size < (w.alloc (boxI I (.slice ad I.l.length cap))).heap.size := by simp
  generalize w.alloc (boxI I (.slice ad I.l.length cap)) = W at *
  clear e2 e3 e4
  go_loopw [6] (fun i wr => ∃ k : Nat, k ≤ I.l.length ∧ i = .int .i64 k ∧ (∀ i, i < k → okAt I.p.toNat I.l i) ∧ Below W.heap.size W wr) (fun i _ => I.l.length - (intOf i).toNat)
  case atStart => exact ⟨0, Nat.zero_le _, rfl, fun i hi => by omega, Below.refl _ _⟩
  case round =>
    obtain ⟨k, hk, rfl, hall, hbw⟩ := hrel
    have HA := Lib.hid hall
    have HBW := Lib.hid hbw
    have hcc := Holds.below hbw HS0.out hlt.out
    simp only [cellsI, Holds] at hcc
    obtain ⟨b0, _, _, b3, _⟩ := hcc
    have hszw := hbw.size
    clear hall hbw
    by_cases hlt2 : k < I.l.length
    · obtain ⟨tb, off, rfl, hat, htb⟩ := srow_at HA1.out k hlt2
      obtain ⟨c0, c1, c2, c3, c4, c5⟩ := hat.below htb HBW.out
      have HK := Lib.hid (show okAt I.p.toNat I.l k ↔ stopOk (nth I.l k) = true ∧ (k = 0 → (nth I.l k).d = 0 ∧ (nth I.l k).s = 0) ∧ (0 < k → k ≤ I.p.toNat → inb 1 1000 (nth I.l k).d = true) ∧ (I.p.toNat < k → (nth I.l k).d = -(nth I.l (k - I.p.toNat)).d) from Iff.rfl)
      have HNO := Lib.hid (fun h => okAt_no (I := I) hlt2 h)
      generalize hT : nth I.l k = t at *
      have HTT := Lib.hid hT
      clear hat hT
      go_wp2_with fail
      change Calls _ _ #[stopV t] _ _
      refine (stop_any t _).mono ?_
      rintro e w3 ⟨rfl, hb⟩
      have m2 : w3.cell? ⟨wr.heap.size, 2, none⟩ = some (.int .i64 t.d) := by rw [hb.cell (p := ⟨wr.heap.size, 2, none⟩) (by simp)]; go_simp
      have m5 : w3.cell? ⟨wr.heap.size, 5, none⟩ = some (.int .i64 t.s) := by rw [hb.cell (p := ⟨wr.heap.size, 5, none⟩) (by simp)]; go_simp
      have HB3 := Lib.hid ((HBW.out.alloc hszw (.cells #[.int .i64 t.x, .int .i64 t.y, .int .i64 t.d, .int .i64 t.r, .int .i64 t.u, .int .i64 t.s] 65)).trans (hb.mono (by simp; omega)))
      have hz : wr.heap.size < w3.heap.size := by have := hb.size; simp at this; omega
      have q0 : w3.cell? ⟨w.heap.size, 0, none⟩ = some (.int .i64 I.p) := (HB3.out.cell (p := ⟨w.heap.size, 0, none⟩) hN).trans HS0.out.1
      have q3 : w3.cell? ⟨w.heap.size, 3, none⟩ = some (.slice (some ⟨tb, off, none⟩) I.l.length cap) := (HB3.out.cell (p := ⟨w.heap.size, 3, none⟩) hN).trans HS0.out.2.2.2.1
      clear hb c0 c1 c2 c3 c4 c5 b0 b3
      go_wp2_with fail
      refine (in_any _ _ _ _).mono ?_
      rintro e w3 ⟨rfl, rfl⟩
      cases hso : stopOk t
      · have HD := Lib.hid (HNO.out (fun h => by have := (HK.out.1 h).1; rw [hso] at this; simp at this))
        clear hso
        go_wp2_with fail
        go_quiet (fail)
        have HW := Lib.hid (below_drewN HB3.out nq)
        generalize w3.drewN nq = w4 at *
        go_wp2
        go_ret
        exact ⟨ret_bool HD.out.symm, HB1.out.trans (HW.out.mono HB1.out.size)⟩
      by_cases hk0 : k = 0
      · subst hk0
        by_cases hd : t.d = 0
        · have n1 : (t.d != 0) = false := by simp [hd]
          by_cases hs : t.s = 0
          · have n2 : (t.s != 0) = false := by simp [hs]
            have n3 : decide (I.p < 0) = false := decide_eq_false (by omega)
            have HO := Lib.hid (HK.out.2 ⟨hso, fun _ => ⟨hd, hs⟩, fun h => by omega, fun h => by omega⟩)
            clear hso hd hs
            go_wp2_with fail
            go_quiet (fail)
            have HW := Lib.hid (below_drewN HB3.out nq)
            generalize w3.drewN nq = w4 at *
            go_wp2
            go_roundw
            case rel => exact ⟨0 + 1, by omega, by go_num, okAt_next HA.out HO.out, HW.out⟩
            case measure => simp [intOf]; omega
          · have n2 : (t.s != 0) = true := by simp [hs]
            have HD := Lib.hid (HNO.out (fun h => hs ((HK.out.1 h).2.1 rfl).2))
            clear hso hd hs
            go_wp2_with fail
            go_quiet (fail)
            have HW := Lib.hid (below_drewN HB3.out nq)
            generalize w3.drewN nq = w4 at *
            go_wp2
            go_ret
            exact ⟨ret_bool HD.out.symm, HB1.out.trans (HW.out.mono HB1.out.size)⟩
        · have n1 : (t.d != 0) = true := by simp [hd]
          have HD := Lib.hid (HNO.out (fun h => hd ((HK.out.1 h).2.1 rfl).1))
          clear hso hd
          go_wp2_with fail
          go_quiet (fail)
          have HW := Lib.hid (below_drewN HB3.out nq)
          generalize w3.drewN nq = w4 at *
          go_wp2
          go_ret
          exact ⟨ret_bool HD.out.symm, HB1.out.trans (HW.out.mono HB1.out.size)⟩
      have k0 : ((k : Int) == 0) = false := by rw [beq_eq_false_iff_ne]; omega
      have k1 : decide ((0 : Int) < (k : Int)) = true := decide_eq_true (by omega)
      have k2 : decide (0 < k) = true := decide_eq_true (by omega)
      by_cases hkp : (k : Int) ≤ I.p
      · have k3 : decide ((k : Int) ≤ I.p) = true := decide_eq_true hkp
        have k4 : decide (I.p < (k : Int)) = false := decide_eq_false (by omega)
        cases hin : inb 1 1000 t.d
        · have HD := Lib.hid (HNO.out (fun h => by have := (HK.out.1 h).2.2.1 (by omega) (by omega); rw [hin] at this; simp at this))
          clear hso hkp hk0 hin
          go_wp2_with fail
          go_quiet (fail)
          have HW := Lib.hid (below_drewN HB3.out nq)
          generalize w3.drewN nq = w4 at *
          go_wp2
          go_ret
          exact ⟨ret_bool HD.out.symm, HB1.out.trans (HW.out.mono HB1.out.size)⟩
        · have HO := Lib.hid (HK.out.2 ⟨hso, fun h => by omega, fun _ _ => hin, fun h => by omega⟩)
          clear hso hkp hk0 hin
          go_wp2_with fail
          go_quiet (fail)
          have HW := Lib.hid (below_drewN HB3.out nq)
          generalize w3.drewN nq = w4 at *
          go_wp2
          go_roundw
          case rel => exact ⟨k + 1, by omega, by go_num, okAt_next HA.out HO.out, HW.out⟩
          case measure => simp [intOf]; omega
      · have k3 : decide ((k : Int) ≤ I.p) = false := decide_eq_false hkp
        have k4 : decide (I.p < (k : Int)) = true := decide_eq_true (by omega)
        have hjl : k - I.p.toNat < I.l.length := by omega
        have hjb := (inb_iff _ _ _).1 ((HA.out (k - I.p.toNat) (by omega)).2.2.1 (by omega) (by omega))
        have e1 : IntKind.i64.wrap ((k : Int) - I.p) = ((k - I.p.toNat : Nat) : Int) := by rw [IntWalk.i64_in _ (by omega)]; omega
        obtain ⟨tb', off', he, hat2, _⟩ := srow_at HA1.out (k - I.p.toNat) hjl
        simp only [Option.some.injEq, Addr.mk.injEq, and_true] at he
        obtain ⟨rfl, rfl⟩ := he
        have r2 := (hat2.below htb HB3.out).2.2.1
        have HDE := Lib.hid (show (I.p.toNat < k → t.d = -(nth I.l (k - I.p.toNat)).d) ↔ t.d = -(nth I.l (k - I.p.toNat)).d from ⟨fun h => h (by omega), fun h _ => h⟩)
        have HKK := Lib.hid (show (t.d = -(nth I.l (k - I.p.toNat)).d) → okAt I.p.toNat I.l k from fun h => HK.out.2 ⟨hso, fun h => by omega, fun _ h => by omega, fun _ => h⟩)
        have HKN := Lib.hid (show okAt I.p.toNat I.l k → t.d = -(nth I.l (k - I.p.toNat)).d from fun h => (HK.out.1 h).2.2.2 (by omega))
        generalize nth I.l (k - I.p.toNat) = s at *
        have e5 : IntKind.i64.wrap (-s.d) = -s.d := IntWalk.i64_in _ (by omega)
        generalize k - I.p.toNat = j at *
        have hj1 : (j : Int) < (I.l.length : Int) := by omega
        clear hat2 hjb
        by_cases hds : t.d = -s.d
        · have n5 : (t.d != -s.d) = false := by simp [hds]
          have HO := Lib.hid (HKK.out hds)
          clear hso hkp hk0 hds
          go_wp2_with fail
          go_quiet (fail)
          have HW := Lib.hid (below_drewN HB3.out nq)
          generalize w3.drewN nq = w4 at *
          go_wp2
          go_roundw
          case rel => exact ⟨k + 1, by omega, by go_num, okAt_next HA.out HO.out, HW.out⟩
          case measure => simp [intOf]; omega
        · have n5 : (t.d != -s.d) = true := by simp [hds]
          have HD := Lib.hid (HNO.out (fun h => hds (HKN.out h)))
          clear hso hkp hk0 hds
          go_wp2_with fail
          go_quiet (fail)
          have HW := Lib.hid (below_drewN HB3.out nq)
          generalize w3.drewN nq = w4 at *
          go_wp2
          go_ret
          exact ⟨ret_bool HD.out.symm, HB1.out.trans (HW.out.mono HB1.out.size)⟩
    · obtain rfl : k = I.l.length := by omega
      have HD := Lib.hid (HALL.out (fun i hi => HA.out i hi))
      clear hlt2 hk
      go_wp2
      go_ret
      exact ⟨ret_bool HD.out.symm, HB1.out.trans (HBW.out.mono HB1.out.size)⟩
end Go.Proofs.YtgplajofemencaaGreat
