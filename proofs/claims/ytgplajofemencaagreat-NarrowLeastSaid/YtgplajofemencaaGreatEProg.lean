/- The program's own Best: the levels go on by a goto. -/
import Derived.Test.YtgplajofemencaaGreatYM
import Derived.Test.YtgplajofemencaaGreatXN
import Derived.Test.YtgplajofemencaaGreatXK
import Derived.Test.YtgplajofemencaaGreatGProg
import Derived.ScopeJumps
namespace Go.Proofs.YtgplajofemencaaGreat
open Go.ChangeShapes Go.WideShapes Go.ChangeAt Go.RowKit

/-- A label in the midst of a body, and a goto back to it. -/
theorem wp_scope_back {P : Program} {c rest : Code} {a : Act} {w : World} {Q : Exit → Act → World → Prop} (J : Act → World → Prop) (μ : Act → World → Nat) (hf : findLabel c 0 = some (Code.skip.seq rest))
    (first : (∀ a w, J a w → rest.wp P (Exit.jump 0 J Q) a w) → c.wp P (Exit.jump 0 J Q) a w)
    (pass : ∀ a w, J a w → rest.wp P (Exit.jump 0 (fun a' w' => J a' w' ∧ μ a' w' < μ a w) Q) a w) : (Code.scope c).wp P Q a w := by
  refine wp_scope_jumps 0 J μ hf (first fun a w h => ?_) (fun a w h => wp_seq (wp_skip (pass a w h)))
  exact Code.wp_mono (fun e a w h => by cases e <;> first | exact h | exact ⟨h.1, h.2.1⟩) (pass a w h)

/-- What is known of a level's nodes, when the program's own functions are to take them. -/
structure LevG (I : Ins) (f : Nat) (l : List Nod) : Prop where
  lev : LevOk I f l
  fit : ∀ n ∈ l, FitSt n.s
  cost : ∀ n ∈ l, Fit n.cost
theorem LevG.nodes {I : Ins} {f : Nat} {l : List Nod} (h : LevG I f l) : NodesOk l := fun n hn => ⟨h.lev.sets n hn, h.fit n hn, h.cost n hn, by have := h.lev.path n hn; omega⟩
theorem LevG.front {I : Ins} {f : Nat} {l : List Nod} (h : LevG I f l) : FrontOk l := fun n hn => ⟨h.lev.sets n hn, (h.fit n hn).1, by have := h.lev.path n hn; omega⟩
theorem levg_first {I : Ins} {n : Nod} (hs : SetsOk n.s) (hp : n.path.length ≤ 1000) (hf : FitSt n.s) (hc : Fit n.cost) : LevG I 44 [n] :=
  ⟨lev_first hs hp, fun x hx => by rw [List.mem_singleton.1 hx]; exact hf, fun x hx => by rw [List.mem_singleton.1 hx]; exact hc⟩
theorem levg_next {I : Ins} {f : Nat} {l : List Nod} {up : Int} (h : LevG I (f + 1) l) {m : List Nod} (hm : ∀ x ∈ m, x ∈ expandL I up l) : LevG I f m := by
  refine ⟨lev_next (up := up) h.lev hm, fun x hx => ?_, fun x hx => ?_⟩
  · obtain ⟨n, hn, j, hc, rfl⟩ := (expand_mem (hm x hx)).1
    exact next_fit hc (h.fit n hn)
  · obtain ⟨n, hn, j, hc, rfl⟩ := (expand_mem (hm x hx)).1
    have := sumOf_bd [n.cost, farS1 I n.s j]
    show Fit (sumOf [n.cost, farS1 I n.s j])
    unfold Fit
    omega
/-- What lies in the frame at the label: slot by slot; f: how many levels may follow. -/
def BestJ (w0 w : World) (I : Ins) (ad : Option Addr) (cap : Nat) (n : Nod) (xa : Option Addr) (xn xc : Nat) (most : Int) (R : Option Nod × Bool × Int) (a' : Act) (wr : World) : Prop :=
  ∃ (f : Nat) (l : List Nod) (b : Option Nod) (up' st : Int) (lx : Value) (pb : Option Addr) (pn pc : Nat) (u16 u17 u18 u19 u20 u21 u22 u23 u24 u25 u26 u27 u28 u29 u30 u31 u32 u33 u34 u35 u36 u37 u38 u39 u40 u41 u42 u43 u44 u45 u46 u47 u48 u49 u50 u51 u52 u53 u54 u55 u56 u57 : Value), a' = { tmps := #[insV I (.slice ad I.l.length cap), nodeV n.s n.cost (.slice xa xn xc), .int .i64 up', .int .i64 most, .pointer (some ⟨w.heap.size, 0, none⟩), .pointer (some ⟨w.heap.size + 1, 0, none⟩), undef, undef, .pointer (some ⟨w.heap.size + 2, 0, none⟩), .bool false, .bool false, .int .i64 0, .pointer (some ⟨w.heap.size + 3, 0, none⟩), .bool b.isSome, .int .i64 st, lx, u16, u17, u18, u19, u20, u21, u22, u23, u24, u25, u26, u27, u28, u29, u30, u31, u32, u33, u34, u35, u36, u37, u38, u39, u40, u41, u42, u43, u44, u45, u46, u47, u48, u49, u50, u51, u52, u53, u54, u55, u56, u57], defers := [] } ∧
    f ≤ 44 ∧ LevG I f l ∧ exactRun I most f l b up' st = R ∧ (0 ≤ st ∧ st + 30000 * (f : Int) ≤ 1320000) ∧ NRowB w0 wr lx l ∧ l.length ≤ 1000000 ∧ YBox wr w.heap.size I (.slice ad I.l.length cap) ∧ NodB wr (w.heap.size + 2) noughtS 0 (.slice none 0 0) ∧ NodB wr (w.heap.size + 3) (bestV b).s (bestV b).cost (.slice pb pn pc) ∧ PathB w0 wr (.slice pb pn pc) (bestV b).path ∧ Below w.heap.size w wr
set_option maxRecDepth 1000000 in
set_option maxHeartbeats 4000000 in
theorem ebest_any {w0 w : World} {v : Value} {I : Ins} {n : Nod} {xa : Option Addr} {xn xc : Nat} {up most : Int} (hi : SRow w v I.l) (hb0 : Below w0.heap.size w0 w) (hs : SetsOk n.s) (hf : FitSt n.s) (hc : Fit n.cost) (hx : PathB w0 w (.slice xa xn xc) n.path) (hp : n.path.length ≤ 1000) (hmost : most ≤ 30000) :
    Calls Tryz.prog 16 #[insV I v, nodeV n.s n.cost (.slice xa xn xc), .int .i64 up, .int .i64 most] w fun e w' => ∃ pb pn pc, e = .returned (.tuple #[nodeV (bestV (exactRun I most 44 [n] none up 0).1).s (bestV (exactRun I most 44 [n] none up 0).1).cost (.slice pb pn pc), .bool (exactRun I most 44 [n] none up 0).1.isSome, .bool (exactRun I most 44 [n] none up 0).2.1, .int .i64 (exactRun I most 44 [n] none up 0).2.2]) ∧
      PathB w0 w' (.slice pb pn pc) (bestV (exactRun I most 44 [n] none up 0).1).path ∧ Below w.heap.size w w' := by
  have HR := Lib.hid hi
  have HW0 := Lib.hid hb0
  have HX0 := Lib.hid hx
  have HMO := Lib.hid hmost
  have HLV := Lib.hid (levg_first (I := I) hs hp hf hc)
  obtain ⟨ad, cap, rfl, _⟩ := hi.form
  obtain ⟨R, hR⟩ : ∃ R, exactRun I most 44 [n] none up 0 = R := ⟨_, rfl⟩
  rw [hR]
  have HRR := Lib.hid hR
  clear hi hb0 hs hx hp hmost hR hf hc
  unfold insV nodeV
  go_enter Tryz.func16, Tryz.ntmps16
  go_wp2_with fail
  refine wp_scope_back (BestJ w0 w I ad cap n xa xn xc most R) (fun a' _ => 1320001 - (intOf (a'.tmps.getD 14 undef)).toNat) rfl ?first ?pass
  case first =>
    intro hpass
    go_upto_region 2 with fail
    obtain ⟨k1, k2, k3, k4, k5⟩ := boxes_best w I (.slice ad I.l.length cap) n.s n.cost (.slice xa xn xc)
    have HY := Lib.hid k1
    have HN := Lib.hid k2
    have HA := Lib.hid k3
    have HC := Lib.hid k4
    have HBW := Lib.hid k5
    clear k1 k2 k3 k4 k5
    change Code.wp _ _ _ _ ((((w.alloc (boxI I (.slice ad I.l.length cap))).alloc (boxN n.s n.cost (.slice xa xn xc))).alloc (boxN noughtS 0 (.slice none 0 0))).alloc (boxN noughtS 0 (.slice none 0 0)))
    generalize (((w.alloc (boxI I (.slice ad I.l.length cap))).alloc (boxN n.s n.cost (.slice xa xn xc))).alloc (boxN noughtS 0 (.slice none 0 0))).alloc (boxN noughtS 0 (.slice none 0 0)) = W at *
    have x0 := HN.out.c0
    have x1 := HN.out.c1
    have x2 := HN.out.c2
    have x3 := HN.out.c3
    have x4 := HN.out.c4
    have x5 := HN.out.c5
    have x6 := HN.out.c6
    have x7 := HN.out.c7
    have x8 := HN.out.c8
    have x9 := HN.out.c9
    go_wp2_with fail
    clear x0 x1 x2 x3 x4 x5 x6 x7 x8 x9
    have hal : Below W.heap.size W (W.alloc (.cells #[.int .i64 n.s.pos, .int .i64 n.s.car, .int .i64 n.s.time, .int .i64 n.s.load, .int .i64 n.s.first, .int .u64 n.s.must, .int .u64 n.s.may, .int .u64 n.s.on, .int .i64 n.cost, (.slice xa xn xc)] 30)) := (Below.refl _ W).alloc (Nat.le_refl _) _
    have HPX := Lib.hid ((HX0.out.below HBW.out).below hal)
    have HROW := Lib.hid (show NRowB w0 _ (.slice (some ⟨W.heap.size, 0, none⟩) 1 1) [n] from ⟨[⟨n.s, n.cost, xa, xn, xc⟩], nrow_one (heap_alloc_new W _), ⟨rfl, rfl, HPX.out⟩, trivial⟩)
    have HYn := Lib.hid (HY.out.later hal)
    have HAn := Lib.hid (HA.out.later hal)
    have HCn := Lib.hid (HC.out.later hal)
    have HBWn := Lib.hid (HBW.out.trans (hal.mono HBW.out.size))
    clear HY
    have HY := HYn
    clear HYn
    clear HA
    have HA := HAn
    clear HAn
    clear HC
    have HC := HCn
    clear HCn
    clear HBW
    have HBW := HBWn
    clear HBWn
    go_step3
    rename_i hgo
    refine hgo _ _ (hpass _ _ ?_)
    exact ⟨44, [n], none, up, 0, _, none, 0, 0, _, _, _, _, _, _, _, _, _, _, _, _, _, _, _, _, _, _, _, _, _, _, _, _, _, _, _, _, _, _, _, _, _, _, _, _, _, _, _, _, _, _, rfl, by omega, HLV.out, HRR.out, ⟨by omega, by omega⟩, HROW.out, by simp, HY.out, HA.out, HC.out, .inl (row_nil _), HBW.out⟩
  case pass =>
    rintro a' W2 ⟨f, l, b, up', st, lx, pb, pn, pc, u16, u17, u18, u19, u20, u21, u22, u23, u24, u25, u26, u27, u28, u29, u30, u31, u32, u33, u34, u35, u36, u37, u38, u39, u40, u41, u42, u43, u44, u45, u46, u47, u48, u49, u50, u51, u52, u53, u54, u55, u56, u57, rfl, hf, hlv, hrun, hst, hrow, hll, hy, ha, hc, hpb, hbw⟩
    clear HRR HLV HX0
    have HLV := Lib.hid hlv
    have HRN := Lib.hid hrun
    have HST := Lib.hid hst
    have HROW := Lib.hid hrow
    have HLL := Lib.hid hll
    have HY := Lib.hid hy
    have HA := Lib.hid ha
    have HC := Lib.hid hc
    have HPB := Lib.hid hpb
    have HBW := Lib.hid hbw
    have HF := Lib.hid hf
    clear hlv hrun hst hrow hll hy ha hc hpb hbw hf
    obtain ⟨bb, hbb⟩ : ∃ x, bestV b = x := ⟨_, rfl⟩
    rw [hbb] at HC HPB
    have HBB := Lib.hid hbb
    clear hbb
    obtain ⟨la, lc, rfl, _⟩ := HROW.out.form
    have hlm : l.length ≤ 9223372036854775807 := by have := HLL.out; omega
    by_cases h0 : 0 < l.length
    rotate_left
    · have hn : l = [] := List.eq_nil_of_length_eq_zero (by omega)
      subst hn
      have HRV := Lib.hid (show R = (b, true, st) by rw [← HRN.out, qrun_nil])
      have x0 := HC.out.c0
      have x1 := HC.out.c1
      have x2 := HC.out.c2
      have x3 := HC.out.c3
      have x4 := HC.out.c4
      have x5 := HC.out.c5
      have x6 := HC.out.c6
      have x7 := HC.out.c7
      have x8 := HC.out.c8
      have x9 := HC.out.c9
      go_wp2_with (refine wpList_store_node (by rfl) (.tmp 8) (.tmp 24) (by rfl) (w.heap.size + 2) _ _ _ ⟨bb.s, bb.cost, pb, pn, pc⟩ (by rfl) (by rfl) HA.out ?_; intro wE hE hbE hoE hgE)
      have z0 := hE.c0
      have z1 := hE.c1
      have z2 := hE.c2
      have z3 := hE.c3
      have z4 := hE.c4
      have z5 := hE.c5
      have z6 := hE.c6
      have z7 := hE.c7
      have z8 := hE.c8
      have z9 := hE.c9
      have HPE := HPB.out.kept hgE HA.out
      have HBE := HBW.out.trans (hbE _ (by omega))
      try go_wp2
      simp only [Exit.jump]
      exact bodyPost_ret (v := .tuple #[nodeV bb.s bb.cost (.slice pb pn pc), .bool b.isSome, .bool true, .int .i64 st]) (by simp [results, Tryz.results16, go_sem, z0, z1, z2, z3, z4, z5, z6, z7, z8, z9, nodeV, RawN.u]) rfl ⟨pb, pn, pc, by rw [HRV.out, HBB.out]; rfl, by rw [HRV.out, HBB.out]; exact HPE, HBE⟩
    have HNE := Lib.hid (show l ≠ [] from fun e => by rw [e] at h0; simp at h0)
    have d1 : ((l.length : Int) == 0) = false := beq_eq_false_iff_ne.2 (by omega)
    have d2 : ¬ (l.length : Int) = 0 := by omega
    have d3 : ¬ l.length = 0 := by omega
    have d4 : ¬ l = [] := HNE.out
    obtain ⟨g, rfl⟩ : ∃ g, f = g + 1 := ⟨f - 1, by have := HLV.out.lev.one HNE.out; omega⟩
    by_cases h1 : most < (l.length : Int)
    · have d5 := decide_eq_true h1
      have HRV := Lib.hid (show R = (b, false, st) by rw [← HRN.out, qrun_more HNE.out h1])
      have x0 := HC.out.c0
      have x1 := HC.out.c1
      have x2 := HC.out.c2
      have x3 := HC.out.c3
      have x4 := HC.out.c4
      have x5 := HC.out.c5
      have x6 := HC.out.c6
      have x7 := HC.out.c7
      have x8 := HC.out.c8
      have x9 := HC.out.c9
      go_wp2_with (refine wpList_store_node (by rfl) (.tmp 8) (.tmp 31) (by rfl) (w.heap.size + 2) _ _ _ ⟨bb.s, bb.cost, pb, pn, pc⟩ (by rfl) (by rfl) HA.out ?_; intro wE hE hbE hoE hgE)
      have z0 := hE.c0
      have z1 := hE.c1
      have z2 := hE.c2
      have z3 := hE.c3
      have z4 := hE.c4
      have z5 := hE.c5
      have z6 := hE.c6
      have z7 := hE.c7
      have z8 := hE.c8
      have z9 := hE.c9
      have HPE := HPB.out.kept hgE HA.out
      have HBE := HBW.out.trans (hbE _ (by omega))
      try go_wp2
      simp only [Exit.jump]
      exact bodyPost_ret (v := .tuple #[nodeV bb.s bb.cost (.slice pb pn pc), .bool b.isSome, .bool false, .int .i64 st]) (by simp [results, Tryz.results16, go_sem, z0, z1, z2, z3, z4, z5, z6, z7, z8, z9, nodeV, RawN.u]) rfl ⟨pb, pn, pc, by rw [HRV.out, HBB.out]; rfl, by rw [HRV.out, HBB.out]; exact HPE, HBE⟩
    have d5 := decide_eq_false h1
    have HRV := Lib.hid (show exactRun I most g (frontL (expandL I up' l)) (stepUp b up' (bestL I l)).1 (stepUp b up' (bestL I l)).2 (st + (l.length : Int)) = R by rw [← HRN.out, qrun_on HNE.out h1])
    have HL3 := Lib.hid (show l.length ≤ 30000 by have := HMO.out; omega)
    have e1 : IntKind.i64.wrap (st + (l.length : Int)) = st + (l.length : Int) := IntWalk.i64_in _ (by have := HST.out; have := HL3.out; omega)
    have HL0 := Lib.hid h0
    obtain ⟨y0, y1, y2, y3⟩ := HY.out.cells
    go_wp2_with fail
    clear y0 y1 y2 y3 d1 d2 d3 d4 d5 e1 h0 h1
    change Calls _ _ #[insV I (.slice ad I.l.length cap), .slice la l.length lc, .int .i64 up'] _ _
    refine (lexpand_any (w0 := w0) (HR.out.below HBW.out) HROW.out (HW0.out.trans (HBW.out.mono HW0.out.size)) HLV.out.nodes HL3.out).mono ?_
    rintro e w3 ⟨z, qb, qn, qc, rfl, hz, hq, hb⟩
    have HZB := Lib.hid (show w.heap.size + 3 < W2.heap.size from HC.out.lt)
    have HZ := Lib.hid hz
    have HQ := Lib.hid hq
    clear hz hq
    have HYn := Lib.hid (HY.out.later hb)
    have HAn := Lib.hid (HA.out.later hb)
    have HCn := Lib.hid (HC.out.later hb)
    have HPBn := Lib.hid (HPB.out.below hb)
    have HBWn := Lib.hid (HBW.out.trans (hb.mono HBW.out.size))
    clear HY
    have HY := HYn
    clear HYn
    clear HA
    have HA := HAn
    clear HAn
    clear HC
    have HC := HCn
    clear HCn
    clear HPB
    have HPB := HPBn
    clear HPBn
    clear HBW
    have HBW := HBWn
    clear HBWn
    clear hb HROW
    generalize W2.heap.size = B2 at *
    obtain ⟨za, zc, rfl⟩ := HZ.out.shape
    obtain ⟨e, he⟩ : ∃ e, bestL I l = e := ⟨_, rfl⟩
    rw [he] at HRV HQ ⊢
    clear he
    have HXL := Lib.hid (Nat.le_trans (expand_len (I := I) (up := up') (l := l)) (show 33 * l.length ≤ 1000000 by have := HL3.out; omega))
    have HLN := Lib.hid (levg_next (I := I) (up := up') HLV.out (m := frontL (expandL I up' l)) (fun x hx => by
      obtain ⟨k, hk, _, rfl⟩ := mem_front.1 hx
      exact nodAt_mem hk))
    have HLX := Lib.hid (levg_next (I := I) (up := up') HLV.out (m := expandL I up' l) (fun x hx => hx)).front
    have HFL := Lib.hid (show (frontL (expandL I up' l)).length ≤ 1000000 from Nat.le_trans (front_len _ _) HXL.out)
    obtain ⟨E, hE⟩ : ∃ E, expandL I up' l = E := ⟨_, rfl⟩
    rw [hE] at HZ HXL HLN HLX HFL HRV ⊢
    clear hE
    obtain ⟨eb, heb⟩ : ∃ x, bestV e = x := ⟨_, rfl⟩
    rw [heb] at HQ ⊢
    have HEB := Lib.hid heb
    clear heb
    obtain ⟨em, hem⟩ : ∃ x, e.isSome = x := ⟨_, rfl⟩
    rw [hem]
    have HEM := Lib.hid hem
    clear hem
    rw [show nodeV eb.s eb.cost (.slice qb qn qc) = .agg #[.int .i64 eb.s.pos, .int .i64 eb.s.car, .int .i64 eb.s.time, .int .i64 eb.s.load, .int .i64 eb.s.first, .int .u64 eb.s.must, .int .u64 eb.s.may, .int .u64 eb.s.on, .int .i64 eb.cost, .slice qb qn qc] from rfl]
    go_upto_region 10 with fail
    have HG := Lib.hid (nod_new w3 eb.s eb.cost (.slice qb qn qc))
    have HG3 := Lib.hid (show w.heap.size + 3 < w3.heap.size from HC.out.lt)
    have hal : Below w3.heap.size w3 (w3.alloc (boxN eb.s eb.cost (.slice qb qn qc))) := (Below.refl _ w3).alloc (Nat.le_refl _) _
    have HYn := Lib.hid (HY.out.later hal)
    have HAn := Lib.hid (HA.out.later hal)
    have HCn := Lib.hid (HC.out.later hal)
    have HPBn := Lib.hid (HPB.out.below hal)
    have HQn := Lib.hid (HQ.out.below hal)
    have HZn := Lib.hid (HZ.out.below hal)
    have HBWn := Lib.hid (HBW.out.trans (hal.mono HBW.out.size))
    clear HY
    have HY := HYn
    clear HYn
    clear HA
    have HA := HAn
    clear HAn
    clear HC
    have HC := HCn
    clear HCn
    clear HPB
    have HPB := HPBn
    clear HPBn
    clear HQ
    have HQ := HQn
    clear HQn
    clear HZ
    have HZ := HZn
    clear HZn
    clear HBW
    have HBW := HBWn
    clear HBWn
    clear hal
    change Code.wp _ _ _ _ (w3.alloc (boxN eb.s eb.cost (.slice qb qn qc)))
    generalize w3.alloc (boxN eb.s eb.cost (.slice qb qn qc)) = W5 at *
    generalize w3.heap.size = bg at *
    have hsi := step_is b e up'
    rw [HEM.out, HEB.out] at hsi
    obtain ⟨t, ht⟩ : ∃ t, (em && decide (eb.cost < up')) = t := ⟨_, rfl⟩
    rw [ht] at hsi
    have HT := Lib.hid ht
    have HSI := Lib.hid hsi
    clear ht hsi
    go_upto_region 10 with fail
    go_cut [52] from 46 (fun g wx => g = .bool t ∧ wx = W5)
    case first =>
      have x8 := HG.out.c8
      cases em with
      | false =>
        go_wp2_with fail
        go_meet
        exact ⟨by rw [← HT.out]; rfl, rfl⟩
      | true =>
        by_cases hc : eb.cost < up'
        · have d1 := decide_eq_true hc
          have HT2 := Lib.hid (show t = true by rw [← HT.out, d1]; rfl)
          clear hc
          go_wp2_with fail
          go_meet
          exact ⟨by rw [HT2.out], rfl⟩
        · have d1 := decide_eq_false hc
          have HT2 := Lib.hid (show t = false by rw [← HT.out, d1]; rfl)
          clear hc
          go_wp2_with fail
          go_meet
          exact ⟨by rw [HT2.out], rfl⟩
    case rest =>
    obtain ⟨rfl, rfl⟩ := hcut
    generalize wc = W5 at *
    obtain ⟨b2, up2, hstep⟩ : ∃ b2 up2, stepUp b up' e = (b2, up2) := ⟨_, _, rfl⟩
    rw [hstep] at HSI HRV
    clear hstep
    go_upto_if 52 with fail
    go_cut [2, 13] from 53 (fun uv sv wx => ∃ rb rn rc, uv = .int .i64 up2 ∧ sv = .bool b2.isSome ∧ NodB wx (w.heap.size + 3) (bestV b2).s (bestV b2).cost (.slice rb rn rc) ∧ PathB w0 wx (.slice rb rn rc) (bestV b2).path ∧ YBox wx w.heap.size I (.slice ad I.l.length cap) ∧ NodB wx (w.heap.size + 2) noughtS 0 (.slice none 0 0) ∧ OwnN w0 B2 wx (.slice za E.length zc) E ∧ Below w.heap.size w wx)
    case first =>
      cases t with
      | false =>
        have h2 := HSI.out.trans (if_neg (by decide))
        simp only [Prod.mk.injEq] at h2
        obtain ⟨h3, h4⟩ := h2
        have H3 := Lib.hid h3
        have H4 := Lib.hid h4
        clear h3 h4
        go_wp2_with fail
        go_meet
        exact ⟨pb, pn, pc, by rw [H4.out], by rw [H3.out], by rw [H3.out, HBB.out]; exact HC.out, by rw [H3.out, HBB.out]; exact HPB.out, HY.out, HA.out, HZ.out, HBW.out⟩
      | true =>
        have h2 := HSI.out.trans (if_pos rfl)
        simp only [Prod.mk.injEq] at h2
        obtain ⟨h3, h4⟩ := h2
        have H3 := Lib.hid h3
        have H4 := Lib.hid h4
        clear h3 h4
        have HGN := Lib.hid (show bg ≠ w.heap.size + 3 by have := HG3.out; omega)
        have HTM := Lib.hid (show em = true by
          have h := HT.out
          rw [Bool.and_eq_true] at h
          exact h.1)
        go_upto_region 11 with fail
        have HGn := Lib.hid (HG.out.later (Below.refl _ W5).drew)
        have HCn := Lib.hid (HC.out.later (Below.refl _ W5).drew)
        have HYn := Lib.hid (HY.out.later (Below.refl _ W5).drew)
        have HAn := Lib.hid (HA.out.later (Below.refl _ W5).drew)
        have HPBn := Lib.hid (HPB.out.below (Below.refl _ W5).drew)
        have HQn := Lib.hid (HQ.out.below (Below.refl _ W5).drew)
        have HZn := Lib.hid (HZ.out.below (Below.refl _ W5).drew)
        have HBWn := Lib.hid HBW.out.drew
        clear HG HC HY HA HPB HQ HZ HBW
        have HG := HGn
        have HC := HCn
        have HY := HYn
        have HA := HAn
        have HPB := HPBn
        have HQ := HQn
        have HZ := HZn
        have HBW := HBWn
        clear HGn HCn HYn HAn HPBn HQn HZn HBWn
        have HS0 := Lib.hid (show Holds (cellsN bg eb.s eb.cost (.slice qb qn qc)) W5.drew from HG.out.holds)
        refine wp_region_held_drew (S := Holds (cellsN bg eb.s eb.cost (.slice qb qn qc))) (by kernel_rfl) HS0.out (fun hSn => ?_)
        generalize W5.drew = V at *
        have hlt := Lib.hid (show Lows V.heap.size (cellsN bg eb.s eb.cost (.slice qb qn qc)) from (lows_N HG.out.lt))
        have Bc := Lib.hid (Below.refl V.heap.size V)
        simp only [cellsN] at HS0 hlt hSn ⊢
        refine tks [0, 1, 2] 3 rfl (by kernel_rfl) (fun _ _ _ _ h => h) (by assumption) (fun KT hKT => ?_)
        iterate 3 (refine tkT (by (simp only [gA, gB, gC]; rfl)) (by rfl) (by (intro w hSw; (simp only [Holds] at hSw); go_simp <;> with_reducible rfl)) ?_; simp only [Act.put, pA, pB, pC])
        refine hKT _ ?_
        clear KT hKT
        refine wpAnyH_ready (rs := [3]) (by kernel_rfl) (by simp) ?_
        refine (AllReadyH.cons (o := ?oz299) ?iz299 (fun K hK => ?kz299) AllReadyH.nil)
        case iz299 => (simp only [List.getElem?_toArray, List.getElem?_cons_zero, List.getElem?_cons_succ]; rfl)
        simp only [Act.put]
        rw [if_pos (by rfl)]
        refine wp_store_node (.tmp 12) (.tmp 53) (by rfl) (w.heap.size + 3) _ _ _ ⟨eb.s, eb.cost, qb, qn, qc⟩ (by rfl) (by rfl) HC.out ?_
        intro wE hE hbE hoE hgE
        have hse := (HG.out.same (hoE _ HGN.out)).holds
        simp only [cellsN] at hse
        refine hK.out _ _ hse (fun hSn => ?_)
        clear hK
        refine tks [4, 5] 2 rfl (by kernel_rfl) (fun _ _ _ _ h => h) (by assumption) (fun KT hKT => ?_)
        iterate 2 (refine tkT (by (simp only [gA, gB, gC]; rfl)) (by rfl) (by (intro w hSw; (simp only [Holds] at hSw); go_simp <;> with_reducible rfl)) ?_; simp only [Act.put, pA, pB, pC])
        refine hKT _ ?_
        clear KT hKT
        refine wpAnyH_done (by kernel_rfl) ?_ _
        go_wp2_with fail
        go_meet
        exact ⟨qb, qn, qc, by rw [H4.out], by rw [H3.out, HEM.out, HTM.out], by rw [H3.out, HEB.out]; exact hE, by rw [H3.out, HEB.out]; exact HQ.out.kept hgE HC.out, HY.out.same (hoE _ (by omega)), HA.out.same (hoE _ (by omega)), HZ.out.beside HZB.out hgE HC.out, HBW.out.trans (hbE _ (by omega))⟩
    case rest =>
    obtain ⟨rb, rn, rc, rfl, rfl, f1, f2, f3, f4, f5, f6⟩ := hcut
    clear HY HA HC HPB HQ HZ HBW HG
    have HC := Lib.hid f1
    have HPB := Lib.hid f2
    have HY := Lib.hid f3
    have HA := Lib.hid f4
    have HZ := Lib.hid f5
    have HBW := Lib.hid f6
    clear f1 f2 f3 f4 f5 f6
    generalize wc = W6 at *
    go_wp2_with fail
    refine (gfront_any (w0 := w0) HZ.out.rowB (HW0.out.trans (HBW.out.mono HW0.out.size)) HLX.out HXL.out).mono ?_
    rintro e w7 ⟨fu, rfl, hfu, hb⟩
    have HFU := Lib.hid hfu
    clear hfu
    have HYn := Lib.hid (HY.out.later hb)
    have HAn := Lib.hid (HA.out.later hb)
    have HCn := Lib.hid (HC.out.later hb)
    have HPBn := Lib.hid (HPB.out.below hb)
    have HBWn := Lib.hid (HBW.out.trans (hb.mono HBW.out.size))
    clear HY
    have HY := HYn
    clear HYn
    clear HA
    have HA := HAn
    clear HAn
    clear HC
    have HC := HCn
    clear HCn
    clear HPB
    have HPB := HPBn
    clear HPBn
    clear HBW
    have HBW := HBWn
    clear HBWn
    clear hb
    go_wp2_with fail
    go_step3
    refine ⟨rfl, ⟨g, _, b2, up2, st + (l.length : Int), _, rb, rn, rc, _, _, _, _, _, _, _, _, _, _, _, _, _, _, _, _, _, _, _, _, _, _, _, _, _, _, _, _, _, _, _, _, _, _, _, _, _, _, _, _, _, _, rfl, by have := HF.out; omega, HLN.out, HRV.out, ⟨by have := HST.out; omega, by have := HST.out; have := HL3.out; omega⟩, HFU.out.rowB, HFL.out, HY.out, HA.out, HC.out, HPB.out, HBW.out⟩, ?_⟩
    have := HST.out
    have := HL3.out
    have := HL0.out
    simp [intOf]
    omega
end Go.Proofs.YtgplajofemencaaGreat
