/- Looking at all levels: the document's answer. -/
import Derived.Test.YtgplajofemencaaGreatYK
import Derived.Test.YtgplajofemencaaGreatYJ
import Derived.Test.YtgplajofemencaaGreatYL
namespace Go.Proofs.YtgplajofemencaaGreat
open Go.ChangeShapes Go.WideShapes Go.ChangeAt Go.RowKit

/-- What is known of the nodes of a level that has f levels behind it at most. -/
structure LevOk (I : Ins) (f : Nat) (l : List Nod) : Prop where
  sets : ∀ n ∈ l, SetsOk n.s
  path : ∀ n ∈ l, n.path.length + f ≤ 2000
  rank : ∀ n ∈ l, ∀ j, Can I n.s j → rankS I n.s + 1 < f
  one : l ≠ [] → 1 ≤ f
theorem rank_small {I : Ins} {s : Sta} {j : Int} (h : Can I s j) : rankS I s ≤ 40 := by
  have hf := fine_of h.1.1
  have hp := hf.p1
  have hc := (inb_iff _ _ _).1 ((may_iff I).1 h.1.1).2.1
  have hca := h.1.2.2.1
  unfold rankS missS
  have := List.length_filter_le (fun i : Nat => !has s.must ((i : Int) + 1)) (List.range (2 * I.p).toNat)
  rw [List.length_range] at this
  omega
theorem lev_first {I : Ins} {n : Nod} (hs : SetsOk n.s) (hp : n.path.length ≤ 1000) : LevOk I 44 [n] :=
  ⟨fun x hx => by rw [List.mem_singleton.1 hx]; exact hs, fun x hx => by rw [List.mem_singleton.1 hx]; omega, fun x hx j hc => by
    have := rank_small hc
    omega, fun _ => by omega⟩
theorem lev_next {I : Ins} {f : Nat} {l : List Nod} {up : Int} (h : LevOk I (f + 1) l) {m : List Nod} (hm : ∀ x ∈ m, x ∈ expandL I up l) : LevOk I f m := by
  have hk : ∀ x ∈ m, ∃ n ∈ l, ∃ j, Can I n.s j ∧ x = childN I n j := fun x hx => (expand_mem (hm x hx)).1
  refine ⟨fun x hx => ?_, fun x hx => ?_, fun x hx i hi => ?_, fun hne => ?_⟩
  · obtain ⟨n, hn, j, hc, rfl⟩ := hk x hx
    exact of_fits (fits_next (I := I) (fits_of (h.sets n hn)) j)
  · obtain ⟨n, hn, j, hc, rfl⟩ := hk x hx
    have := h.path n hn
    show (n.path ++ [j]).length + f ≤ 2000
    rw [List.length_append, List.length_cons, List.length_nil]; omega
  · obtain ⟨n, hn, j, hc, rfl⟩ := hk x hx
    have h1 := h.rank n hn j hc
    have h2 := rank_less hc
    show rankS I (nextS I n.s j) + 1 < f
    omega
  · obtain ⟨x, hx⟩ := List.exists_mem_of_ne_nil _ hne
    obtain ⟨n, hn, j, hc, rfl⟩ := hk x hx
    have h1 := h.rank n hn j hc
    omega
theorem expand_len {I : Ins} {up : Int} {l : List Nod} : (expandL I up l).length ≤ 33 * l.length := by
  refine Nat.le_trans (once_len _) ?_
  have := kids_len I up l l.length (Nat.le_refl _)
  rw [List.take_length] at this
  exact this
theorem step_is (b e : Option Nod) (up : Int) : stepUp b up e = if (e.isSome && decide ((bestV e).cost < up)) = true then (e, (bestV e).cost) else (b, up) := by
  cases e with
  | none => rfl
  | some n =>
    show (if n.cost < up then (some n, n.cost) else (b, up)) = if (true && decide (n.cost < up)) = true then (some n, n.cost) else (b, up)
    by_cases h : n.cost < up
    · rw [if_pos h, if_pos (by rw [decide_eq_true h]; rfl)]
    · rw [if_neg h, if_neg (by rw [decide_eq_false h]; decide)]
theorem boxes_best (w : World) (I : Ins) (v : Value) (s : Sta) (c : Int) (u : Value) : YBox ((((w.alloc (boxI I v)).alloc (boxN s c u)).alloc (boxN noughtS 0 (.slice none 0 0))).alloc (boxN noughtS 0 (.slice none 0 0))) w.heap.size I v ∧ NodB ((((w.alloc (boxI I v)).alloc (boxN s c u)).alloc (boxN noughtS 0 (.slice none 0 0))).alloc (boxN noughtS 0 (.slice none 0 0))) (w.heap.size + 1) s c u ∧
    NodB ((((w.alloc (boxI I v)).alloc (boxN s c u)).alloc (boxN noughtS 0 (.slice none 0 0))).alloc (boxN noughtS 0 (.slice none 0 0))) (w.heap.size + 2) noughtS 0 (.slice none 0 0) ∧ NodB ((((w.alloc (boxI I v)).alloc (boxN s c u)).alloc (boxN noughtS 0 (.slice none 0 0))).alloc (boxN noughtS 0 (.slice none 0 0))) (w.heap.size + 3) noughtS 0 (.slice none 0 0) ∧
    Below w.heap.size w ((((w.alloc (boxI I v)).alloc (boxN s c u)).alloc (boxN noughtS 0 (.slice none 0 0))).alloc (boxN noughtS 0 (.slice none 0 0))) := by
  obtain ⟨h1, h2, h3⟩ := boxes_in w I v s c u
  have e1 : ((w.alloc (boxI I v)).alloc (boxN s c u)).heap.size = w.heap.size + 2 := by simp
  have a3 := nod_new ((w.alloc (boxI I v)).alloc (boxN s c u)) noughtS 0 (.slice none 0 0)
  rw [e1] at a3
  have hb1 : Below ((w.alloc (boxI I v)).alloc (boxN s c u)).heap.size ((w.alloc (boxI I v)).alloc (boxN s c u)) (((w.alloc (boxI I v)).alloc (boxN s c u)).alloc (boxN noughtS 0 (.slice none 0 0))) := (Below.refl _ _).alloc (Nat.le_refl _) _
  have e2 : (((w.alloc (boxI I v)).alloc (boxN s c u)).alloc (boxN noughtS 0 (.slice none 0 0))).heap.size = w.heap.size + 3 := by simp
  have a4 := nod_new (((w.alloc (boxI I v)).alloc (boxN s c u)).alloc (boxN noughtS 0 (.slice none 0 0))) noughtS 0 (.slice none 0 0)
  rw [e2] at a4
  have hb2 : Below (((w.alloc (boxI I v)).alloc (boxN s c u)).alloc (boxN noughtS 0 (.slice none 0 0))).heap.size (((w.alloc (boxI I v)).alloc (boxN s c u)).alloc (boxN noughtS 0 (.slice none 0 0))) ((((w.alloc (boxI I v)).alloc (boxN s c u)).alloc (boxN noughtS 0 (.slice none 0 0))).alloc (boxN noughtS 0 (.slice none 0 0))) := (Below.refl _ _).alloc (Nat.le_refl _) _
  exact ⟨(h1.later hb1).later hb2, (h2.later hb1).later hb2, a3.later hb2, a4, (h3.alloc (by rw [e1]; omega) _).alloc (by rw [e2]; omega) _⟩
end Go.Proofs.YtgplajofemencaaGreat
/- Looking at few: the document's answer. -/
namespace Go.Proofs.YtgplajofemencaaGreat
open Go.ChangeShapes Go.WideShapes Go.ChangeAt Go.RowKit

theorem nrun_nil (I : Ins) (wn : Nat) (f : Nat) (b : Option Nod) (up st : Int) : narrowRun I wn f [] b up st = (b, st) := by cases f <;> rfl
theorem nrun_on {I : Ins} {wn : Nat} {f : Nat} {l : List Nod} {b : Option Nod} {up st : Int} (h : l ≠ []) : narrowRun I wn (f + 1) l b up st = narrowRun I wn f ((sortedL I (expandL I up l)).take wn) (stepUp b up (bestL I l)).1 (stepUp b up (bestL I l)).2 (st + (l.length : Int)) := by
  cases l with
  | nil => exact absurd rfl h
  | cons n l => rw [narrowRun]
/-- How many nodes a level may have. -/
def widN (width : Int) : Nat := if width < 1 then 1 else width.toNat
theorem NRowB.cut {w0 w : World} {a : Option Addr} {n cap : Nat} {l : List Nod} (h : NRowB w0 w (.slice a n cap) l) (q : Nat) (hq : q ≤ l.length) : NRowB w0 w (.slice a q cap) (l.take q) := by
  obtain ⟨raw, h1, h2⟩ := h
  exact ⟨raw.take q, h1.cut q (by rw [h2.len]; exact hq), h2.take q⟩
set_option maxRecDepth 1000000 in
set_option maxHeartbeats 4000000 in
theorem dnbest_any {w0 w : World} {v : Value} {I : Ins} {n : Nod} {xa : Option Addr} {xn xc : Nat} {up width : Int} (hi : SRow w v I.l) (hb0 : Below w0.heap.size w0 w) (hs : SetsOk n.s) (hx : PathB w0 w (.slice xa xn xc) n.path) (hp : n.path.length ≤ 1000) (hmost : width ≤ 30000) :
    Calls Tryz.prog 10 #[insV I v, nodeV n.s n.cost (.slice xa xn xc), .int .i64 width, .int .i64 up] w fun e w' => ∃ pb pn pc, e = .returned (.tuple #[nodeV (bestV (narrowRun I (widN width) 44 [n] none up 0).1).s (bestV (narrowRun I (widN width) 44 [n] none up 0).1).cost (.slice pb pn pc), .bool (narrowRun I (widN width) 44 [n] none up 0).1.isSome, .int .i64 (narrowRun I (widN width) 44 [n] none up 0).2]) ∧
      PathB w0 w' (.slice pb pn pc) (bestV (narrowRun I (widN width) 44 [n] none up 0).1).path ∧ Below w.heap.size w w' := by
  have HR := Lib.hid hi
  have HW0 := Lib.hid hb0
  have HX0 := Lib.hid hx
  have HMO := Lib.hid hmost
  have HLV := Lib.hid (lev_first (I := I) hs hp)
  obtain ⟨ad, cap, rfl, _⟩ := hi.form
  obtain ⟨R, hR⟩ : ∃ R, narrowRun I (widN width) 44 [n] none up 0 = R := ⟨_, rfl⟩
  rw [hR]
  have HRR := Lib.hid hR
  clear hi hb0 hs hx hp hmost hR
  unfold insV nodeV
  go_enter Tryz.func10, Tryz.ntmps10
  have HWN := Lib.hid (show (if width < 1 then (1 : Int) else width) = (widN width : Int) by unfold widN; split <;> omega)
  have HW3 := Lib.hid (show 1 ≤ widN width ∧ widN width ≤ 30000 by have := HMO.out; unfold widN; split <;> omega)
  go_upto_region 1 with fail
  go_upto_if 19 with fail
  obtain ⟨tw, htw⟩ : ∃ tw, decide (width < 1) = tw := ⟨_, rfl⟩
  rw [htw]
  have HTW := Lib.hid htw
  clear htw
  go_cut [2] from 20 (fun wv wx => wv = .int .i64 (widN width : Nat) ∧ wx = (((w.alloc (boxI I (.slice ad I.l.length cap))).alloc (boxN n.s n.cost (.slice xa xn xc))).alloc (boxN noughtS 0 (.slice none 0 0))))
  case first =>
    cases tw with
    | true =>
      have HW2 := Lib.hid ((HWN.out.symm.trans (if_pos (of_decide_eq_true HTW.out))))
      go_wp2_with fail
      go_meet
      exact ⟨by rw [HW2.out], rfl⟩
    | false =>
      have HW2 := Lib.hid ((HWN.out.symm.trans (if_neg (of_decide_eq_false HTW.out))))
      go_wp2_with fail
      go_meet
      exact ⟨by rw [HW2.out], rfl⟩
  case rest =>
  obtain ⟨rfl, hwc⟩ := hcut
  rw [hwc]
  clear hwc
  obtain ⟨wn, hwn⟩ : ∃ wn, widN width = wn := ⟨_, rfl⟩
  rw [hwn] at HRR HW3 ⊢
  clear hwn HWN
  go_upto_region 4 with fail
  obtain ⟨k1, k2, k3, k4, k5⟩ := boxes_best w I (.slice ad I.l.length cap) n.s n.cost (.slice xa xn xc)
  have HY := Lib.hid k1
  have HN := Lib.hid k2
  have HA := Lib.hid k3
  have HC := Lib.hid k4
  have HBW := Lib.hid k5
  clear k1 k2 k3 k4 k5
  change Code.wp _ _ _ _ ((((w.alloc (boxI I (.slice ad I.l.length cap))).alloc (boxN n.s n.cost (.slice xa xn xc))).alloc (boxN noughtS 0 (.slice none 0 0))).alloc (boxN noughtS 0 (.slice none 0 0)))
  generalize (((w.alloc (boxI I (.slice ad I.l.length cap))).alloc (boxN n.s n.cost (.slice xa xn xc))).alloc (boxN noughtS 0 (.slice none 0 0))).alloc (boxN noughtS 0 (.slice none 0 0)) = W at *
  have x0 := HN.out.c0
  have x1 := HN.out.c1
  have x2 := HN.out.c2
  have x3 := HN.out.c3
  have x4 := HN.out.c4
  have x5 := HN.out.c5
  have x6 := HN.out.c6
  have x7 := HN.out.c7
  have x8 := HN.out.c8
  have x9 := HN.out.c9
  go_upto_region 7 with fail
  clear x0 x1 x2 x3 x4 x5 x6 x7 x8 x9
  have hal : Below W.heap.size W (W.alloc (.cells #[.int .i64 n.s.pos, .int .i64 n.s.car, .int .i64 n.s.time, .int .i64 n.s.load, .int .i64 n.s.first, .int .u64 n.s.must, .int .u64 n.s.may, .int .u64 n.s.on, .int .i64 n.cost, (.slice xa xn xc)] 30)) := (Below.refl _ W).alloc (Nat.le_refl _) _
  have HPX := Lib.hid ((HX0.out.below HBW.out).below hal)
  have HROW := Lib.hid (show NRowB w0 _ (.slice (some ⟨W.heap.size, 0, none⟩) 1 1) [n] from ⟨[⟨n.s, n.cost, xa, xn, xc⟩], nrow_one (heap_alloc_new W _), ⟨rfl, rfl, HPX.out⟩, trivial⟩)
  have HYn := Lib.hid (HY.out.later hal)
  have HNn := Lib.hid (HN.out.later hal)
  have HAn := Lib.hid (HA.out.later hal)
  have HCn := Lib.hid (HC.out.later hal)
  clear HY HN HA HC
  have HY := HYn
  have HN := HNn
  have HA := HAn
  have HC := HCn
  clear HYn HNn HAn HCn
  have HBWn := Lib.hid (HBW.out.trans (hal.mono HBW.out.size))
  clear HBW
  have HBW := HBWn
  clear HBWn
  clear hal HPX
  change Code.wp _ _ _ _ (W.alloc (.cells #[.int .i64 n.s.pos, .int .i64 n.s.car, .int .i64 n.s.time, .int .i64 n.s.load, .int .i64 n.s.first, .int .u64 n.s.must, .int .u64 n.s.may, .int .u64 n.s.on, .int .i64 n.cost, (.slice xa xn xc)] 30))
  generalize W.alloc (.cells #[.int .i64 n.s.pos, .int .i64 n.s.car, .int .i64 n.s.time, .int .i64 n.s.load, .int .i64 n.s.first, .int .u64 n.s.must, .int .u64 n.s.may, .int .u64 n.s.on, .int .i64 n.cost, (.slice xa xn xc)] 30) = W1 at *
  generalize W.heap.size = b0 at *
  go_loopw [3, 12, 13, 14] (fun uv sv tv lv wr => ∃ (f : Nat) (l : List Nod) (b : Option Nod) (up' st : Int) (lx : Value) (pb : Option Addr) (pn pc : Nat), uv = .int .i64 up' ∧ sv = .bool b.isSome ∧ tv = .int .i64 st ∧ lx = lv ∧ f ≤ 44 ∧ LevOk I f l ∧ narrowRun I wn f l b up' st = R ∧ l.length ≤ 30000 ∧ (0 ≤ st ∧ st + 30000 * (f : Int) ≤ 1320000) ∧
    NRowB w0 wr lx l ∧ l.length ≤ 1000000 ∧ YBox wr w.heap.size I (.slice ad I.l.length cap) ∧ NodB wr (w.heap.size + 2) noughtS 0 (.slice none 0 0) ∧ NodB wr (w.heap.size + 3) (bestV b).s (bestV b).cost (.slice pb pn pc) ∧ PathB w0 wr (.slice pb pn pc) (bestV b).path ∧ Below w.heap.size w wr) (fun _ _ tv _ _ => 1320001 - (intOf tv).toNat)
  case atStart => exact ⟨44, [n], none, up, 0, _, none, 0, 0, rfl, rfl, rfl, rfl, by omega, HLV.out, HRR.out, by simp, ⟨by omega, by omega⟩, HROW.out, by simp, HY.out, HA.out, HC.out, .inl (row_nil _), HBW.out⟩
  case round =>
    obtain ⟨f, l, b, up', st, lx, pb, pn, pc, rfl, rfl, rfl, rfl, hf, hlv, hrun, hl3, hst, hrow, hll, hy, ha, hc, hpb, hbw⟩ := hrel
    clear HROW HY HN HA HC HBW HLV HRR
    have HLV := Lib.hid hlv
    have HRN := Lib.hid hrun
    have HST := Lib.hid hst
    have HL3 := Lib.hid hl3
    have HROW := Lib.hid hrow
    have HLL := Lib.hid hll
    have HY := Lib.hid hy
    have HA := Lib.hid ha
    have HC := Lib.hid hc
    have HPB := Lib.hid hpb
    have HBW := Lib.hid hbw
    have HF := Lib.hid hf
    clear hlv hrun hl3 hst hrow hll hy ha hc hpb hbw hf
    generalize wr = W2 at *
    obtain ⟨bb, hbb⟩ : ∃ x, bestV b = x := ⟨_, rfl⟩
    rw [hbb] at HC HPB
    have HBB := Lib.hid hbb
    clear hbb
    obtain ⟨la, lc, rfl, _⟩ := HROW.out.form
    have hlm : l.length ≤ 9223372036854775807 := by have := HLL.out; omega
    by_cases h0 : 0 < l.length
    rotate_left
    · have hn : l = [] := List.eq_nil_of_length_eq_zero (by omega)
      have d1 : decide ((0 : Int) < (l.length : Int)) = false := decide_eq_false (by omega)
      have d2 := decide_eq_false h0
      have HRV := Lib.hid (show R = (b, st) by rw [← HRN.out, hn, nrun_nil])
      clear hn
      have x0 := HC.out.c0
      have x1 := HC.out.c1
      have x2 := HC.out.c2
      have x3 := HC.out.c3
      have x4 := HC.out.c4
      have x5 := HC.out.c5
      have x6 := HC.out.c6
      have x7 := HC.out.c7
      have x8 := HC.out.c8
      have x9 := HC.out.c9
      go_wp2_with (refine wpList_store_node (by rfl) (.tmp 8) (.tmp 58) (by rfl) (w.heap.size + 2) _ _ _ ⟨bb.s, bb.cost, pb, pn, pc⟩ (by rfl) (by rfl) HA.out ?_; intro wE hE hbE hoE hgE)
      have z0 := hE.c0
      have z1 := hE.c1
      have z2 := hE.c2
      have z3 := hE.c3
      have z4 := hE.c4
      have z5 := hE.c5
      have z6 := hE.c6
      have z7 := hE.c7
      have z8 := hE.c8
      have z9 := hE.c9
      have HPE := HPB.out.kept hgE HA.out
      have HBE := HBW.out.trans (hbE _ (by omega))
      exact bodyPost_ret (v := .tuple #[nodeV bb.s bb.cost (.slice pb pn pc), .bool b.isSome, .int .i64 st]) (by simp [results, Tryz.results10, go_sem, z0, z1, z2, z3, z4, z5, z6, z7, z8, z9, nodeV, RawN.u]) rfl ⟨pb, pn, pc, by rw [HRV.out, HBB.out]; rfl, by rw [HRV.out, HBB.out]; exact HPE, HBE⟩
    have HNE := Lib.hid (show l ≠ [] from fun e => by rw [e] at h0; simp at h0)
    have d1 : decide ((0 : Int) < (l.length : Int)) = true := decide_eq_true (by omega)
    have d2 := decide_eq_true h0
    obtain ⟨g, rfl⟩ : ∃ g, f = g + 1 := ⟨f - 1, by have := HLV.out.one HNE.out; omega⟩
    have HRV := Lib.hid (show narrowRun I wn g ((sortedL I (expandL I up' l)).take wn) (stepUp b up' (bestL I l)).1 (stepUp b up' (bestL I l)).2 (st + (l.length : Int)) = R by rw [← HRN.out, nrun_on HNE.out])
    have e1 : IntKind.i64.wrap (st + (l.length : Int)) = st + (l.length : Int) := IntWalk.i64_in _ (by have := HST.out; have := HL3.out; omega)
    have HL0 := Lib.hid h0
    clear h0
    obtain ⟨y0, y1, y2, y3⟩ := HY.out.cells
    go_wp2_with fail
    clear y0 y1 y2 y3 d1 d2 e1
    change Calls _ _ #[insV I (.slice ad I.l.length cap), .slice la l.length lc, .int .i64 up'] _ _
    refine (dexpand_any (w0 := w0) (HR.out.below HBW.out) HROW.out (HW0.out.trans (HBW.out.mono HW0.out.size)) HLV.out.sets HL3.out (fun n hn => by have := HLV.out.path n hn; omega)).mono ?_
    rintro e w3 ⟨z, qb, qn, qc, rfl, hz, hq, hb⟩
    have HZB := Lib.hid (show w.heap.size + 3 < W2.heap.size from HC.out.lt)
    have HZ := Lib.hid hz
    have HQ := Lib.hid hq
    clear hz hq
    have HYn := Lib.hid (HY.out.later hb)
    have HAn := Lib.hid (HA.out.later hb)
    have HCn := Lib.hid (HC.out.later hb)
    have HPBn := Lib.hid (HPB.out.below hb)
    clear HY HA HC HPB
    have HY := HYn
    have HA := HAn
    have HC := HCn
    have HPB := HPBn
    clear HYn HAn HCn HPBn
    have HBWn := Lib.hid (HBW.out.trans (hb.mono HBW.out.size))
    clear HBW
    have HBW := HBWn
    clear HBWn
    clear hb HROW
    generalize W2.heap.size = B2 at *
    obtain ⟨za, zc, rfl⟩ := HZ.out.shape
    obtain ⟨e, he⟩ : ∃ e, bestL I l = e := ⟨_, rfl⟩
    rw [he] at HRV HQ ⊢
    clear he
    have HXL := Lib.hid (Nat.le_trans (expand_len (I := I) (up := up') (l := l)) (show 33 * l.length ≤ 1000000 by have := HL3.out; omega))
    have HLN := Lib.hid (fun m (hm : ∀ x ∈ m, x ∈ expandL I up' l) => lev_next (I := I) (up := up') HLV.out (m := m) hm)
    have HLX := Lib.hid (lev_next (I := I) (up := up') HLV.out (m := expandL I up' l) (fun x hx => hx))
    obtain ⟨E, hE⟩ : ∃ E, expandL I up' l = E := ⟨_, rfl⟩
    rw [hE] at HZ HXL HLN HLX HRV ⊢
    clear hE
    obtain ⟨eb, heb⟩ : ∃ x, bestV e = x := ⟨_, rfl⟩
    rw [heb] at HQ ⊢
    have HEB := Lib.hid heb
    clear heb
    obtain ⟨em, hem⟩ : ∃ x, e.isSome = x := ⟨_, rfl⟩
    rw [hem]
    have HEM := Lib.hid hem
    clear hem
    rw [show nodeV eb.s eb.cost (.slice qb qn qc) = .agg #[.int .i64 eb.s.pos, .int .i64 eb.s.car, .int .i64 eb.s.time, .int .i64 eb.s.load, .int .i64 eb.s.first, .int .u64 eb.s.must, .int .u64 eb.s.may, .int .u64 eb.s.on, .int .i64 eb.cost, .slice qb qn qc] from rfl]
    go_upto_region 10 with fail
    have HG := Lib.hid (nod_new w3 eb.s eb.cost (.slice qb qn qc))
    have HG3 := Lib.hid (show w.heap.size + 3 < w3.heap.size from HC.out.lt)
    have hal : Below w3.heap.size w3 (w3.alloc (boxN eb.s eb.cost (.slice qb qn qc))) := (Below.refl _ w3).alloc (Nat.le_refl _) _
    have HYn := Lib.hid (HY.out.later hal)
    have HAn := Lib.hid (HA.out.later hal)
    have HCn := Lib.hid (HC.out.later hal)
    have HPBn := Lib.hid (HPB.out.below hal)
    have HQn := Lib.hid (HQ.out.below hal)
    have HZn := Lib.hid (HZ.out.below hal)
    clear HY HA HC HPB HQ HZ
    have HY := HYn
    have HA := HAn
    have HC := HCn
    have HPB := HPBn
    have HQ := HQn
    have HZ := HZn
    clear HYn HAn HCn HPBn HQn HZn
    have HBWn := Lib.hid (HBW.out.trans (hal.mono HBW.out.size))
    clear HBW
    have HBW := HBWn
    clear HBWn
    clear hal
    change Code.wp _ _ _ _ (w3.alloc (boxN eb.s eb.cost (.slice qb qn qc)))
    generalize w3.alloc (boxN eb.s eb.cost (.slice qb qn qc)) = W5 at *
    generalize w3.heap.size = bg at *
    have hsi := step_is b e up'
    rw [HEM.out, HEB.out] at hsi
    obtain ⟨t, ht⟩ : ∃ t, (em && decide (eb.cost < up')) = t := ⟨_, rfl⟩
    rw [ht] at hsi
    have HT := Lib.hid ht
    have HSI := Lib.hid hsi
    clear ht hsi
    go_upto_region 10 with fail
    go_cut [44] from 38 to 57 (fun g wx => g = .bool t ∧ wx = W5)
    case first =>
      have x8 := HG.out.c8
      cases em with
      | false =>
        go_wp2_with fail
        go_meet
        exact ⟨by rw [← HT.out]; rfl, rfl⟩
      | true =>
        by_cases hc : eb.cost < up'
        · have d1 := decide_eq_true hc
          have HT2 := Lib.hid (show t = true by rw [← HT.out, d1]; rfl)
          clear hc
          go_wp2_with fail
          go_meet
          exact ⟨by rw [HT2.out], rfl⟩
        · have d1 := decide_eq_false hc
          have HT2 := Lib.hid (show t = false by rw [← HT.out, d1]; rfl)
          clear hc
          go_wp2_with fail
          go_meet
          exact ⟨by rw [HT2.out], rfl⟩
    case rest =>
    obtain ⟨rfl, rfl⟩ := hcut
    generalize wc = W5 at *
    obtain ⟨b2, up2, hstep⟩ : ∃ b2 up2, stepUp b up' e = (b2, up2) := ⟨_, _, rfl⟩
    rw [hstep] at HSI HRV
    clear hstep
    go_upto_if 44 with fail
    go_cut [3, 12] from 45 to 57 (fun uv sv wx => ∃ rb rn rc, uv = .int .i64 up2 ∧ sv = .bool b2.isSome ∧ NodB wx (w.heap.size + 3) (bestV b2).s (bestV b2).cost (.slice rb rn rc) ∧ PathB w0 wx (.slice rb rn rc) (bestV b2).path ∧ YBox wx w.heap.size I (.slice ad I.l.length cap) ∧ NodB wx (w.heap.size + 2) noughtS 0 (.slice none 0 0) ∧ OwnN w0 B2 wx (.slice za E.length zc) E ∧ Below w.heap.size w wx)
    case first =>
      cases t with
      | false =>
        have h2 := HSI.out.trans (if_neg (by decide))
        simp only [Prod.mk.injEq] at h2
        obtain ⟨h3, h4⟩ := h2
        have H3 := Lib.hid h3
        have H4 := Lib.hid h4
        clear h3 h4
        go_wp2_with fail
        go_meet
        exact ⟨pb, pn, pc, by rw [H4.out], by rw [H3.out], by rw [H3.out, HBB.out]; exact HC.out, by rw [H3.out, HBB.out]; exact HPB.out, HY.out, HA.out, HZ.out, HBW.out⟩
      | true =>
        have h2 := HSI.out.trans (if_pos rfl)
        simp only [Prod.mk.injEq] at h2
        obtain ⟨h3, h4⟩ := h2
        have H3 := Lib.hid h3
        have H4 := Lib.hid h4
        clear h3 h4
        have HGN := Lib.hid (show bg ≠ w.heap.size + 3 by have := HG3.out; omega)
        have HTM := Lib.hid (show em = true by
          have h := HT.out
          rw [Bool.and_eq_true] at h
          exact h.1)
        have x0 := HG.out.c0
        have x1 := HG.out.c1
        have x2 := HG.out.c2
        have x3 := HG.out.c3
        have x4 := HG.out.c4
        have x5 := HG.out.c5
        have x6 := HG.out.c6
        have x7 := HG.out.c7
        have x8 := HG.out.c8
        have x9 := HG.out.c9
        go_wp2_with (refine wpList_store_node (by rfl) (.tmp 11) (.tmp 45) (by rfl) (w.heap.size + 3) _ _ _ ⟨eb.s, eb.cost, qb, qn, qc⟩ (by rfl) (by rfl) HC.out ?_; intro wE hE hbE hoE hgE; have y8 := (HG.out.same (hoE _ HGN.out)).c8)
        go_meet
        exact ⟨qb, qn, qc, by rw [H4.out], by rw [H3.out, HEM.out, HTM.out], by rw [H3.out, HEB.out]; exact hE, by rw [H3.out, HEB.out]; exact HQ.out.kept hgE HC.out, HY.out.same (hoE _ (by omega)), HA.out.same (hoE _ (by omega)), HZ.out.beside HZB.out hgE HC.out, HBW.out.trans (hbE _ (by omega))⟩
    case rest =>
    obtain ⟨rb, rn, rc, rfl, rfl, f1, f2, f3, f4, f5, f6⟩ := hcut
    clear HY HA HC HPB HQ HZ HBW HG
    have HC := Lib.hid f1
    have HPB := Lib.hid f2
    have HY := Lib.hid f3
    have HA := Lib.hid f4
    have HZ := Lib.hid f5
    have HBW := Lib.hid f6
    clear f1 f2 f3 f4 f5 f6
    generalize wc = W6 at *
    obtain ⟨y0, y1, y2, y3⟩ := HY.out.cells
    go_wp2_with fail
    clear y0 y1 y2 y3
    change Calls _ _ #[insV I (.slice ad I.l.length cap), _] _ _
    refine (dnsorted_any (w0 := w0) (HR.out.below HBW.out) HZ.out.rowB (HW0.out.trans (HBW.out.mono HW0.out.size)) HLX.out.sets HXL.out).mono ?_
    rintro e w7 ⟨fu, rfl, hfu, hb⟩
    have HFU := Lib.hid hfu
    clear hfu
    have HYn := Lib.hid (HY.out.later hb)
    have HAn := Lib.hid (HA.out.later hb)
    have HCn := Lib.hid (HC.out.later hb)
    have HPBn := Lib.hid (HPB.out.below hb)
    clear HY HA HC HPB
    have HY := HYn
    have HA := HAn
    have HC := HCn
    have HPB := HPBn
    clear HYn HAn HCn HPBn
    have HBWn := Lib.hid (HBW.out.trans (hb.mono HBW.out.size))
    clear HBW
    have HBW := HBWn
    clear HBWn
    clear hb
    have HSM := Lib.hid (fun x (hx : x ∈ sortedL I E) => (sortG_perm _ E).mem_iff.1 hx)
    have HSL := Lib.hid (sorted_len I E)
    obtain ⟨S, hS⟩ : ∃ S, sortedL I E = S := ⟨_, rfl⟩
    rw [hS] at HFU HSM HSL HRV
    clear hS
    obtain ⟨sa, sc, rfl⟩ := HFU.out.shape
    have hsl : S.length ≤ 9223372036854775807 := by have := HSL.out; have := HXL.out; omega
    by_cases hc : wn < S.length
    · have d1 : decide ((wn : Int) < (S.length : Int)) = true := decide_eq_true (by omega)
      have d2 := decide_eq_true hc
      have HTK := Lib.hid (show (S.take wn).length = wn by rw [List.length_take]; omega)
      have HCB := Lib.hid (HFU.out.rowB.cut wn (by omega))
      have hsc : wn ≤ sc := by
        obtain ⟨a', c', hv, _, hc2, _⟩ := HFU.out.rowB.form
        simp only [Value.slice.injEq] at hv
        obtain ⟨rfl, _, rfl⟩ := hv
        omega
      have hsc2 : (wn : Int) ≤ (sc : Int) := by omega
      clear hc
      go_wp2_with fail
      go_roundw
      case rel => exact ⟨g, S.take wn, b2, up2, st + (l.length : Int), _, rb, rn, rc, rfl, rfl, rfl, rfl, by have := HF.out; omega, HLN.out _ (fun x hx => HSM.out x (List.mem_of_mem_take hx)), HRV.out, by rw [HTK.out]; exact HW3.out.2, ⟨by have := HST.out; omega, by have := HST.out; have := HL3.out; omega⟩, HCB.out, by rw [HTK.out]; have := HW3.out.2; omega, HY.out, HA.out, HC.out, HPB.out, HBW.out⟩
      case measure =>
        have := HST.out
        have := HL3.out
        have := HL0.out
        simp only [intOf]
        omega
    · have d1 : decide ((wn : Int) < (S.length : Int)) = false := decide_eq_false (by omega)
      have d2 := decide_eq_false hc
      have HTK := Lib.hid (show S.take wn = S from List.take_of_length_le (by omega))
      rw [HTK.out] at HRV
      have HC2 := Lib.hid hc
      clear hc
      go_wp2_with fail
      go_roundw
      case rel => exact ⟨g, S, b2, up2, st + (l.length : Int), _, rb, rn, rc, rfl, rfl, rfl, rfl, by have := HF.out; omega, HLN.out _ (fun x hx => HSM.out x hx), HRV.out, by have := HC2.out; have := HW3.out.2; omega, ⟨by have := HST.out; omega, by have := HST.out; have := HL3.out; omega⟩, HFU.out.rowB, by have := HC2.out; have := HW3.out.2; omega, HY.out, HA.out, HC.out, HPB.out, HBW.out⟩
      case measure =>
        have := HST.out
        have := HL3.out
        have := HL0.out
        simp only [intOf]
        omega
end Go.Proofs.YtgplajofemencaaGreat
