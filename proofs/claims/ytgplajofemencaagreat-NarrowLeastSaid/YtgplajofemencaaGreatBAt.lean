/- What it costs at least to go on: bound.At. -/
import Derived.Test.YtgplajofemencaaGreatYI
import Derived.Test.YtgplajofemencaaGreatBUns
import Derived.Test.YtgplajofemencaaGreatXSLeaf
import Derived.Test.YtgplajofemencaaGreatYH
import Derived.Test.YtgplajofemencaaGreatXIMay
namespace Go.Proofs.YtgplajofemencaaGreat
open Go.ChangeShapes Go.WideShapes Go.ChangeAt Go.RowKit Go.Shelf

attribute [local go_sem] Oper.semAt_some

/-- What is left, by the stops (less one) that are told. -/
def sumAt (l : List Int) : List Nat → Int
  | [] => 0
  | i :: r => l.getD (i + 1) 0 + sumAt l r
theorem sumAt_app (l : List Int) : ∀ (a b : List Nat), sumAt l (a ++ b) = sumAt l a + sumAt l b
  | [], b => by simp [sumAt]
  | i :: a, b => by rw [List.cons_append, sumAt, sumAt, sumAt_app l a b]; omega
theorem sumAt_uns (I : Ins) (m : Nat) : ∀ k, sumAt (nearI I) (unsK m k) = leftN I m k
  | 0 => rfl
  | k + 1 => by
    have ih := sumAt_uns I m k
    by_cases h : has m ((k : Int) + 1) = true
    · rw [unsK_yes h, ih]
      unfold leftN
      rw [sumN, if_pos h]; omega
    · rw [unsK_no (by simpa using h), sumAt_app, ih]
      unfold leftN
      rw [sumN, if_neg h]
      simp [sumAt]
theorem sumAt_bd (I : Ins) : ∀ (a : List Nat), 0 ≤ sumAt (nearI I) a ∧ sumAt (nearI I) a ≤ 14143 * (a.length : Int)
  | [] => by simp [sumAt]
  | i :: a => by
    have h1 := sumAt_bd I a
    have h2 := near_pos I (i + 1)
    have h3 := near_hi I (i + 1)
    rw [sumAt, List.length_cons]
    omega
/-- Where there is something to go on from. -/
theorem bound_is {I : Ins} {s : Sta} (hm : mayB I = true) {p : Nat} (hp : I.p = p) (h0 : p ≠ 0) : boundS I s = (nearI I).getD 0 0 + sumAt (nearI I) (unsK s.may (2 * p)) := by
  have hl := (fine_of hm).len
  unfold boundS
  rw [near_len, if_pos hm, if_neg (by omega), sumAt_uns, show I.l.length - 1 = 2 * p by omega]
theorem uns_any (p m : Int) (w : World) :
    Calls Tryz.prog 102 #[.int .i64 p, .int .u64 m] w fun e w' => e = .returned (.func (.func 148) #[] #[.pointer (some ⟨w.heap.size, 0, none⟩), .pointer (some ⟨w.heap.size + 1, 0, none⟩)]) ∧ (w.alloc (.cells #[.int .i64 p] 3)).alloc (.cells #[.int .u64 m] 25) = w' := by
  go_enter Tryz.func102, Tryz.ntmps102
  go_wp2
  go_ret
  simp
theorem uns_stops (n p Bp Bm m : Nat) (hp : p ≤ 16) (hm : m < 18446744073709551616) (w : World) (hBp : Boxed w Bp 3 (.int .i64 p)) (hBm : Boxed w Bm 25 (.int .u64 m)) :
    SeqStopsK Fence.wide n Tryz.prog 148 #[.pointer (some ⟨Bp, 0, none⟩), .pointer (some ⟨Bm, 0, none⟩)] (fun x : Fin (2 * p) => #[Value.int .i64 ((x.val : Int) + 1)]) (Kp2 Bp Bm) (fun ys => ys.map Fin.val = unsK m (2 * p)) (fun _ => True) (2 * p) w := fun l J Jx W hW _ _ hY h0 =>
  uns1_in n p l Bp Bm m hp hm J Jx hY W ((hW.block Bp hBp.lt).trans hBp) ((hW.block Bm hBm.lt).trans hBm) h0

set_option maxRecDepth 1000000 in
set_option maxHeartbeats 4000000 in
theorem bat_in (n : Nat) (h1 : 1 ≤ n) {w : World} {v : Value} {I : Ins} {s : Sta} (h : SRow w v I.l) (hs : SetsOk s) :
    CallsIn Fence.wide n Tryz.prog 72 #[insV I v, staV s] w fun e w' => e = .returned (.int .i64 (boundS I s)) ∧ Below w.heap.size w w' := by
  have HR := Lib.hid h
  have HS := Lib.hid hs
  obtain ⟨ad, cap, rfl, _⟩ := h.form
  clear h hs
  unfold insV staV
  refine callsIn_of_wp_marks Tryz.func72 rfl trivial ?_ rfl
  simp only [Tryz.ntmps72, List.size_toArray, List.length_cons, List.length_nil, Nat.reduceAdd, Nat.reduceSub, Array.replicate_succ, Array.replicate_zero, List.push_toArray, List.append_toArray, List.nil_append, List.cons_append]
  gi_wp2_with fail
  obtain ⟨k1, k2, k3⟩ := boxes_is w I (.slice ad I.l.length cap) s
  have HY := Lib.hid k1
  have HA := Lib.hid k2
  have HB := Lib.hid k3
  have HSZ := Lib.hid (show ((w.alloc (boxI I (.slice ad I.l.length cap))).alloc (boxSt s)).heap.size = w.heap.size + 2 by simp)
  clear k1 k2 k3
  change _ ∧ CallsIn _ _ _ _ #[insV I (.slice ad I.l.length cap)] ((w.alloc (boxI I (.slice ad I.l.length cap))).alloc (boxSt s)) _
  generalize (w.alloc (boxI I (.slice ad I.l.length cap))).alloc (boxSt s) = W at *
  refine ⟨trivial, ?_⟩
  refine (callsIn_wide.2 (may_any (I := I) (HR.out.below HB.out))).mono ?_
  rintro e w1 ⟨rfl, hb⟩
  have HY1 := Lib.hid (HY.out.later hb)
  have HA1 := Lib.hid (HA.out.later hb)
  have HB1 := Lib.hid (HB.out.trans (hb.mono HB.out.size))
  clear hb HY HA HB HSZ
  by_cases hm : mayB I = true
  rotate_left
  · rw [show mayB I = false by simpa using hm]
    have HE := Lib.hid (bound_no (s := s) (.inl (show mayB I = false by simpa using hm)))
    clear hm
    gi_wp2
    exact ⟨_, results_tmp rfl _ _ _, by rw [HE.out]; rfl, HB1.out⟩
  rw [hm]
  obtain ⟨p, hp⟩ : ∃ p : Nat, I.p = p := ⟨I.p.toNat, by have := (fine_of hm).p0; omega⟩
  have HM := Lib.hid hm
  have HP := Lib.hid hp
  clear hm hp
  obtain ⟨y0, y1, y2, y3⟩ := HY1.out.cells
  by_cases h0 : I.p = 0
  · have HE := Lib.hid (bound_no (s := s) (.inr h0))
    have d1 : (I.p == 0) = true := by simp [h0]
    clear h0
    gi_wp2
    exact ⟨_, results_tmp rfl _ _ _, by rw [HE.out]; rfl, HB1.out⟩
  have d1 : (I.p == 0) = false := by simp [h0]
  have H0 := Lib.hid h0
  clear h0
  gi_wp2_with fail
  clear y0 y1 y2 y3
  change _ ∧ CallsIn _ _ _ _ #[insV I (.slice ad I.l.length cap)] _ _
  refine ⟨trivial, ?_⟩
  refine (callsIn_wide.2 (near_any (I := I) (HR.out.below HB1.out))).mono ?_
  rintro e w2 ⟨u, rfl, hu, hb⟩
  have HY2 := Lib.hid (HY1.out.later hb)
  have HA2 := Lib.hid (HA1.out.later hb)
  have HB2 := Lib.hid (HB1.out.trans (hb.mono HB1.out.size))
  clear hb HY1 HA1 HB1
  have HN := Lib.hid (fun j => (⟨near_pos I j, near_hi I j⟩ : 0 ≤ (nearI I).getD j 0 ∧ (nearI I).getD j 0 ≤ 14143))
  have HE := Lib.hid (bound_is (s := s) HM.out HP.out (fun e => H0.out (by rw [HP.out, e]; rfl)))
  have HL := Lib.hid (show (nearI I).length = 2 * p + 1 by
    rw [near_len, if_pos HM.out]
    have := (fine_of HM.out).len
    have := HP.out
    omega)
  have HP16 := Lib.hid (show p ≤ 16 ∧ p ≠ 0 by
    have := (fine_of HM.out).p1
    have := HP.out
    have := H0.out
    omega)
  have HSB := Lib.hid (sumAt_bd I)
  change OwnI w2 w1.heap.size u (nearI I) at hu
  generalize nearI I = N at *
  obtain ⟨g, uc, rfl, hcap, hg, hcl⟩ := own_cells hu (by have := HL.out; omega)
  have HC := Lib.hid hcl
  have HG := Lib.hid hg
  have i0 : (0 : Int) < (N.length : Int) := by have := HL.out; omega
  have i2 : 0 < N.length := by omega
  obtain ⟨n0, hn0⟩ : ∃ n0, N.getD 0 0 = n0 := ⟨_, rfl⟩
  have HN0 := Lib.hid (HN.out 0)
  have c0 : ∀ O : Obj, (w2.alloc O).cell? ⟨g, 0, none⟩ = some (.int .i64 n0) := fun O => by
    rw [← hn0]
    exact (((Below.refl w2.heap.size w2).alloc (Nat.le_refl _) O).cell (p := ⟨g, 0, none⟩) hg).trans (hcl 0 i2)
  have q0 : ∀ O O' : Obj, ((w2.alloc O).alloc O').cell? ⟨w.heap.size, 0, none⟩ = some (.int .i64 I.p) := fun O O' =>
    (HY2.out.later (((Below.refl w2.heap.size w2).alloc (Nat.le_refl _) O).alloc (by simp) O')).cells.1
  have q6 : ∀ O O' : Obj, ((w2.alloc O).alloc O').cell? ⟨w.heap.size + 1, 6, none⟩ = some (.int .u64 s.may) := fun O O' =>
    (HA2.out.later (((Below.refl w2.heap.size w2).alloc (Nat.le_refl _) O).alloc (by simp) O')).c6
  rw [hn0] at HE HN0
  clear hu hcl hg hn0
  gi_wp2_with fail
  clear c0 q0 q6
  refine ⟨trivial, ?_⟩
  refine (callsIn_wide.2 (uns_any I.p (s.may : Int) _)).mono ?_
  rintro e w' ⟨rfl, rfl⟩
  obtain ⟨X, hX⟩ : ∃ X, w2.alloc (Obj.cells #[Value.slice (some ⟨g, 0, none⟩) N.length uc] 28) = X := ⟨_, rfl⟩
  obtain ⟨b5, hb5⟩ : ∃ b5, w2.heap.size = b5 := ⟨_, rfl⟩
  have hXs : X.heap.size = b5 + 1 := by rw [← hX, ← hb5]; simp
  have hBX : Below w.heap.size w X := by rw [← hX]; exact HB2.out.alloc HB2.out.size _
  have c5 : X.cell? ⟨b5, 0, none⟩ = some (.slice (some ⟨g, 0, none⟩) N.length uc) := by
    rw [← hX, ← hb5]
    exact (Boxed.new w2 28 _).cell
  have hgX : g < b5 := by rw [← hb5]; exact HG.out
  have hcX : ∀ i, i < N.length → X.cell? ⟨g, i, none⟩ = some (.int .i64 (N.getD i 0)) := fun i hi => by
    rw [← hX]
    exact (((Below.refl w2.heap.size w2).alloc (Nat.le_refl _) _).cell (p := ⟨g, i, none⟩) HG.out).trans (HC.out i hi)
  rw [hX, hb5]
  clear HC HG HB2 HY2 HA2 hX hb5
  have bL := Boxed.new X 3 (.int .i64 n0)
  have s1 : (X.alloc (Obj.cells #[Value.int .i64 n0] 3)).heap.size = b5 + 1 + 1 := by rw [← hXs]; simp
  have bP := Boxed.new (X.alloc (Obj.cells #[Value.int .i64 n0] 3)) 3 (.int .i64 I.p)
  have s2 : ((X.alloc (Obj.cells #[Value.int .i64 n0] 3)).alloc (Obj.cells #[Value.int .i64 I.p] 3)).heap.size = b5 + 1 + 1 + 1 := by rw [World.size_alloc, s1]
  have bM := Boxed.new ((X.alloc (Obj.cells #[Value.int .i64 n0] 3)).alloc (Obj.cells #[Value.int .i64 I.p] 3)) 25 (.int .u64 s.may)
  have hBZ : Below X.heap.size X (((X.alloc (Obj.cells #[Value.int .i64 n0] 3)).alloc (Obj.cells #[Value.int .i64 I.p] 3)).alloc (Obj.cells #[Value.int .u64 s.may] 25)) :=
    (((Below.refl X.heap.size X).alloc (Nat.le_refl _) _).alloc (by rw [s1, hXs]; omega) _).alloc (by rw [s2, hXs]; omega) _
  rw [hXs] at bL
  rw [s1] at bP
  rw [s2] at bM
  have bL2 := (bL.alloc (Obj.cells #[Value.int .i64 I.p] 3)).alloc (Obj.cells #[Value.int .u64 s.may] 25)
  have bP2 := bP.alloc (Obj.cells #[Value.int .u64 s.may] 25)
  have hZs : (((X.alloc (Obj.cells #[Value.int .i64 n0] 3)).alloc (Obj.cells #[Value.int .i64 I.p] 3)).alloc (Obj.cells #[Value.int .u64 s.may] 25)).heap.size = b5 + 4 := by rw [World.size_alloc, s2]
  have hmix : Tryz.prog.follows .mixedOrders = true := by kernel_rfl
  rw [s1]
  clear bL bP s1 s2
  have HXs := Lib.hid hXs
  have HBX := Lib.hid hBX
  clear hXs hBX
  gi_wp2_with fail
  generalize ((X.alloc (Obj.cells #[Value.int .i64 n0] 3)).alloc (Obj.cells #[Value.int .i64 I.p] 3)).alloc (Obj.cells #[Value.int .u64 s.may] 25) = Z at *
  rw [HP.out] at bP2
  have HC5 := Lib.hid c5
  have HCX := Lib.hid hcX
  have HGX := Lib.hid hgX
  have HBZ := Lib.hid hBZ
  have HZs := Lib.hid hZs
  clear c5 hcX hgX hBZ hZs i0 i2 d1
  refine wpIn_rangeFunc_ownG rfl h1 (gf := 148) (lb := #[.pointer (some ⟨b5 + 1 + 1, 0, none⟩), .pointer (some ⟨b5 + 1 + 1 + 1, 0, none⟩)]) rfl trivial (enters_of Tryz.func148 (by kernel_rfl) rfl)
    (uns_stops (n - 1) p (b5 + 1 + 1) (b5 + 1 + 1 + 1) s.may HP16.out.1 HS.out.2.1 Z bP2 bM) kp2_t (fun W l o o' _ hl hc _ => kp2_b W l o o' hl hc) (Below.refl _ _) (fun _ => rfl)
    (fun pre W => Boxed W (b5 + 1) 3 (.int .i64 (n0 + sumAt N (pre.map Fin.val))) ∧ Below X.heap.size X W)
    (fun _ _ _ => False)
    (OwnFrom.and (Own.from (fun pre A B row hv hg hr => hv.kept hg (fun e' => by
      obtain ⟨o, ho, hc⟩ := hr (b5 + 1) e'.symm
      rw [show A.heap[b5 + 1]? = _ from hv] at ho; cases ho; cases hc)) _) (ownFrom_below (Nat.le_refl _) (by rw [HZs.out, HXs.out]; omega)))
    (fun _ _ _ _ _ hs _ _ => hs)
    ⟨by rw [List.map_nil, sumAt, Int.add_zero]; exact bL2, HBZ.out⟩
    (fun x => { tmps := #[.agg #[.int .i64 I.p, .int .i64 I.c, .int .i64 I.r, .slice ad I.l.length cap], .agg #[.int .i64 s.pos, .int .i64 s.car, .int .i64 s.time, .int .i64 s.load, .int .i64 s.first, .int .u64 s.must, .int .u64 s.may, .int .u64 s.on], .pointer (some ⟨w.heap.size, 0, none⟩), .pointer (some ⟨w.heap.size + 1, 0, none⟩), .int .i64 0, .pointer (some ⟨b5, 0, none⟩), .pointer (some ⟨b5 + 1, 0, none⟩), .int .i64 ((x.val : Int) + 1), .agg #[.int .i64 I.p, .int .i64 I.c, .int .i64 I.r, .slice ad I.l.length cap], .bool true, .bool false, .bool false, .pointer (some ⟨w.heap.size, 0, none⟩), .int .i64 I.p, .bool false, .bool false, .agg #[.int .i64 I.p, .int .i64 I.c, .int .i64 I.r, .slice ad I.l.length cap], .slice (some ⟨g, 0, none⟩) N.length uc, .slice (some ⟨g, 0, none⟩) N.length uc, .pointer (some ⟨g, 0, none⟩), .int .i64 n0, .pointer (some ⟨w.heap.size, 0, none⟩), .int .i64 I.p, .pointer (some ⟨w.heap.size + 1, 6, none⟩), .int .u64 s.may, .func (.func 148) #[] #[.pointer (some ⟨b5 + 1 + 1, 0, none⟩), .pointer (some ⟨b5 + 1 + 1 + 1, 0, none⟩)], .int .i64 ((x.val : Int) + 1), undef, undef, undef, undef, undef, undef, undef], defers := [] }) ?assign ?body ?done ?stop
  case assign =>
    intro l x W K hK
    gi_wp2
    exact hK
  case body =>
    rintro l pre x W ⟨hv, hB⟩ hlt
    have c6 := hv.cell
    have f6 := hv.frozen
    have c5 : W.cell? ⟨b5, 0, none⟩ = some (.slice (some ⟨g, 0, none⟩) N.length uc) := (hB.cell (p := ⟨b5, 0, none⟩) (show b5 < X.heap.size by rw [HXs.out]; omega)).trans HC5.out
    have hx := x.isLt
    have hl := HL.out
    have hpp := HP16.out.1
    have cy : W.cell? ⟨g, x.val + 1, none⟩ = some (.int .i64 (N.getD (x.val + 1) 0)) := (hB.cell (p := ⟨g, x.val + 1, none⟩) (show g < X.heap.size by rw [HXs.out]; have := HGX.out; omega)).trans (HCX.out _ (by omega))
    have i1 : (x.val : Int) + 1 < (N.length : Int) := by omega
    have i2 : (0 : Int) ≤ (x.val : Int) + 1 := by omega
    have i3 : ((x.val : Int) + 1).toNat = x.val + 1 := by omega
    have HNX := Lib.hid (show n0 + sumAt N ((pre ++ [x]).map Fin.val) = n0 + sumAt N (pre.map Fin.val) + N.getD (x.val + 1) 0 by
      rw [List.map_append, sumAt_app]; simp only [List.map_cons, List.map_nil, sumAt]; omega)
    have hs1 := HSB.out (pre.map Fin.val)
    have hn1 := HN0.out
    have hy1 := HN.out (x.val + 1)
    rw [List.length_map] at hs1
    have hz : 0 ≤ n0 + sumAt N (pre.map Fin.val) ∧ n0 + sumAt N (pre.map Fin.val) ≤ 14143 * ((pre.length : Int) + 1) := by omega
    clear hs1 hn1
    generalize N.getD (x.val + 1) 0 = y at *
    generalize n0 + sumAt N (pre.map Fin.val) = z at *
    have hw : IntKind.i64.wrap (z + y) = z + y := IntWalk.i64_in _ (by omega)
    have HV := Lib.hid hv
    have HBB := Lib.hid hB
    clear hv hB hx hl hpp hy1 hz hlt
    have HFIN := Lib.hid (show KeepsFrom Z.heap.size W (W.setCell ⟨b5 + 1, 0, none⟩ (.int .i64 (z + y))).drew ∧ Kp2 (b5 + 1 + 1) (b5 + 1 + 1 + 1) W (W.setCell ⟨b5 + 1, 0, none⟩ (.int .i64 (z + y))).drew ∧
        Boxed (W.setCell ⟨b5 + 1, 0, none⟩ (.int .i64 (z + y))).drew (b5 + 1) 3 (.int .i64 (n0 + sumAt N ((pre ++ [x]).map Fin.val))) ∧ Below X.heap.size X (W.setCell ⟨b5 + 1, 0, none⟩ (.int .i64 (z + y))).drew from
      ⟨((KeepsOthers.setCell W _ _).trans (KeepsOthers.drew _)).from _, kp2_same (heap_setCell_other W ⟨b5 + 1, 0, none⟩ (b5 + 1 + 1) _ (show b5 + 1 + 1 ≠ b5 + 1 by omega)) (heap_setCell_other W ⟨b5 + 1, 0, none⟩ (b5 + 1 + 1 + 1) _ (show b5 + 1 + 1 + 1 ≠ b5 + 1 by omega)),
        by rw [HNX.out]; exact HV.out.set _, (HBB.out.setCell (p := ⟨b5 + 1, 0, none⟩) (show X.heap.size ≤ b5 + 1 by rw [HXs.out]; exact Nat.le_refl _) _).drew⟩)
    clear HV HBB HNX
    gi_wp2
    gi_region_with_o (fail)
    all_goals gi_wp2
    all_goals exact HFIN.out
  case done =>
    rintro D ys W hD hys ⟨hv, hB⟩ hK
    have hc := hv.cell
    rw [hys] at hc
    gi_wp2
    refine ⟨by simp, .inl ⟨_, _, rfl, run_takeDeferred hK, ?_⟩⟩
    refine ⟨_, results_tmp rfl _ _ _, by rw [HE.out]; rfl, HBX.out.trans ((hB.mono (show w.heap.size ≤ X.heap.size from HBX.out.size)).trans ?_)⟩
    refine belowK_b (w := Z) (Nat.le_trans HBX.out.size HBZ.out.size) W D _ _ hD hK rfl rfl
  case stop =>
    rintro D c pre W _ _ h _
    exact h.elim
theorem bat_any {w : World} {v : Value} {I : Ins} {s : Sta} (h : SRow w v I.l) (hs : SetsOk s) :
    Calls Tryz.prog 72 #[insV I v, staV s] w fun e w' => e = .returned (.int .i64 (boundS I s)) ∧ Below w.heap.size w w' := callsIn_wide.1 (bat_in 3 (by decide) h hs)
end Go.Proofs.YtgplajofemencaaGreat
