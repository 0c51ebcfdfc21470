/- The program's own Best (narrow): a loop of levels, each cut by three indices. -/
import Derived.Test.YtgplajofemencaaGreatYM
import Derived.Test.YtgplajofemencaaGreatXN
import Derived.Test.YtgplajofemencaaGreatXK
import Derived.Test.YtgplajofemencaaGreatEProg
import Derived.Test.YtgplajofemencaaGreatXO
namespace Go.Proofs.YtgplajofemencaaGreat
open Go.ChangeShapes Go.WideShapes Go.ChangeAt Go.RowKit

/-- A row whose room ends where it ends. -/
theorem GRow.shut {α : Type} {f : α → List Value} {k : Nat} {w : World} {a : Option Addr} {n cap : Nat} {l : List α} (h : GRow f k w (.slice a n cap) l) : GRow f k w (.slice a n n) l := by
  obtain ⟨hm, a', cap', hv, hc, hc2, hor⟩ := h
  simp only [Value.slice.injEq] at hv
  obtain ⟨rfl, rfl, rfl⟩ := hv
  refine ⟨hm, a, l.length, rfl, Nat.le_refl _, ⟨hm, fun ha => ?_⟩, hor⟩
  have := hc2.2 ha
  omega
theorem NRowB.shut {w0 w : World} {a : Option Addr} {n cap : Nat} {l : List Nod} (h : NRowB w0 w (.slice a n cap) l) : NRowB w0 w (.slice a n n) l := by
  obtain ⟨raw, h1, h2⟩ := h
  exact ⟨raw, h1.shut, h2⟩
set_option maxRecDepth 1000000 in
/-- The program's own cut of a level. -/
theorem ncut_any {w : World} {a : Option Addr} {n cap : Nat} {width : Int} (hn : n ≤ cap) (hc : cap ≤ maxLen) :
    Calls Tryz.prog 21 #[.slice a n cap, .int .i64 width] w fun e w' => e = .returned (.slice a (min n (widN width)) (min n (widN width))) ∧ w = w' := by
  have hm : cap ≤ 9223372036854775807 := hc
  have hnm : n ≤ 9223372036854775807 := by omega
  obtain ⟨q, hq⟩ : ∃ q, min n (widN width) = q := ⟨_, rfl⟩
  have hq1 : q ≤ n := by rw [← hq]; exact Nat.min_le_left _ _
  have hq2 : q ≤ cap := by omega
  have hq3 : (q : Int) ≤ (cap : Int) := by omega
  have hq4 : q ≤ 9223372036854775807 := by omega
  have HMX := Lib.hid (show (min (n : Int) (max 1 width)) = (q : Int) by rw [← hq]; unfold widN; split <;> omega)
  rw [hq]
  clear hq
  go_enter Tryz.func21, Tryz.ntmps21
  go_upto_region 2 with fail
  rw [HMX.out]
  generalize max 1 width = mw
  go_wp2
  go_ret
  exact ⟨rfl, rfl⟩
/-- A cut level: so many of it, and its room ends there. -/
theorem NRowB.few {w0 w : World} {a : Option Addr} {cap : Nat} {l : List Nod} (h : NRowB w0 w (.slice a l.length cap) l) (q : Nat) : NRowB w0 w (.slice a (min l.length q) (min l.length q)) (l.take q) := by
  have h2 := (h.cut (min l.length q) (Nat.min_le_left _ _)).shut
  have e : l.take (min l.length q) = l.take q := by
    rcases Nat.le_total l.length q with hq | hq
    · rw [Nat.min_eq_left hq, List.take_of_length_le (Nat.le_refl _), List.take_of_length_le hq]
    · rw [Nat.min_eq_right hq]
  rw [e] at h2
  exact h2
set_option maxRecDepth 1000000 in
set_option maxHeartbeats 4000000 in
theorem nbest_any {w0 w : World} {v : Value} {I : Ins} {n : Nod} {xa : Option Addr} {xn xc : Nat} {up width : Int} (hi : SRow w v I.l) (hb0 : Below w0.heap.size w0 w) (hs : SetsOk n.s) (hf : FitSt n.s) (hc : Fit n.cost) (hx : PathB w0 w (.slice xa xn xc) n.path) (hp : n.path.length ≤ 1000) (hmost : width ≤ 30000) :
    Calls Tryz.prog 9 #[insV I v, nodeV n.s n.cost (.slice xa xn xc), .int .i64 width, .int .i64 up] w fun e w' => ∃ pb pn pc, e = .returned (.tuple #[nodeV (bestV (narrowRun I (widN width) 44 [n] none up 0).1).s (bestV (narrowRun I (widN width) 44 [n] none up 0).1).cost (.slice pb pn pc), .bool (narrowRun I (widN width) 44 [n] none up 0).1.isSome, .int .i64 (narrowRun I (widN width) 44 [n] none up 0).2]) ∧
      PathB w0 w' (.slice pb pn pc) (bestV (narrowRun I (widN width) 44 [n] none up 0).1).path ∧ Below w.heap.size w w' := by
  have HR := Lib.hid hi
  have HW0 := Lib.hid hb0
  have HX0 := Lib.hid hx
  have HLV := Lib.hid (levg_first (I := I) hs hp hf hc)
  obtain ⟨ad, cap, rfl, _⟩ := hi.form
  obtain ⟨R, hR⟩ : ∃ R, narrowRun I (widN width) 44 [n] none up 0 = R := ⟨_, rfl⟩
  rw [hR]
  have HRR := Lib.hid hR
  have HW3 := Lib.hid (show 1 ≤ widN width ∧ widN width ≤ 30000 by unfold widN; split <;> omega)
  clear hi hb0 hs hx hp hmost hR hf hc
  unfold insV nodeV
  go_enter Tryz.func9, Tryz.ntmps9
  go_upto_region 2 with fail
  obtain ⟨k1, k2, k3, k4, k5⟩ := boxes_best w I (.slice ad I.l.length cap) n.s n.cost (.slice xa xn xc)
  have HY := Lib.hid k1
  have HN := Lib.hid k2
  have HA := Lib.hid k3
  have HC := Lib.hid k4
  have HBW := Lib.hid k5
  clear k1 k2 k3 k4 k5
  change Code.wp _ _ _ _ ((((w.alloc (boxI I (.slice ad I.l.length cap))).alloc (boxN n.s n.cost (.slice xa xn xc))).alloc (boxN noughtS 0 (.slice none 0 0))).alloc (boxN noughtS 0 (.slice none 0 0)))
  generalize (((w.alloc (boxI I (.slice ad I.l.length cap))).alloc (boxN n.s n.cost (.slice xa xn xc))).alloc (boxN noughtS 0 (.slice none 0 0))).alloc (boxN noughtS 0 (.slice none 0 0)) = W at *
  have x0 := HN.out.c0
  have x1 := HN.out.c1
  have x2 := HN.out.c2
  have x3 := HN.out.c3
  have x4 := HN.out.c4
  have x5 := HN.out.c5
  have x6 := HN.out.c6
  have x7 := HN.out.c7
  have x8 := HN.out.c8
  have x9 := HN.out.c9
  go_upto_region 4 with fail
  clear x0 x1 x2 x3 x4 x5 x6 x7 x8 x9
  have hal : Below W.heap.size W (W.alloc (.cells #[.int .i64 n.s.pos, .int .i64 n.s.car, .int .i64 n.s.time, .int .i64 n.s.load, .int .i64 n.s.first, .int .u64 n.s.must, .int .u64 n.s.may, .int .u64 n.s.on, .int .i64 n.cost, (.slice xa xn xc)] 30)) := (Below.refl _ W).alloc (Nat.le_refl _) _
  have HPX := Lib.hid ((HX0.out.below HBW.out).below hal)
  have HROW := Lib.hid (show NRowB w0 _ (.slice (some ⟨W.heap.size, 0, none⟩) 1 1) [n] from ⟨[⟨n.s, n.cost, xa, xn, xc⟩], nrow_one (heap_alloc_new W _), ⟨rfl, rfl, HPX.out⟩, trivial⟩)
  have HYn := Lib.hid (HY.out.later hal)
  have HAn := Lib.hid (HA.out.later hal)
  have HCn := Lib.hid (HC.out.later hal)
  have HBWn := Lib.hid (HBW.out.trans (hal.mono HBW.out.size))
  clear HY
  have HY := HYn
  clear HYn
  clear HA
  have HA := HAn
  clear HAn
  clear HC
  have HC := HCn
  clear HCn
  clear HBW
  have HBW := HBWn
  clear HBWn
  clear hal HPX
  change Code.wp _ _ _ _ (W.alloc (.cells #[.int .i64 n.s.pos, .int .i64 n.s.car, .int .i64 n.s.time, .int .i64 n.s.load, .int .i64 n.s.first, .int .u64 n.s.must, .int .u64 n.s.may, .int .u64 n.s.on, .int .i64 n.cost, (.slice xa xn xc)] 30))
  generalize W.alloc (.cells #[.int .i64 n.s.pos, .int .i64 n.s.car, .int .i64 n.s.time, .int .i64 n.s.load, .int .i64 n.s.first, .int .u64 n.s.must, .int .u64 n.s.may, .int .u64 n.s.on, .int .i64 n.cost, (.slice xa xn xc)] 30) = W1 at *
  generalize W.heap.size = b0 at *
  go_loopw [3, 12, 13, 14] (fun uv sv tv lv wr => ∃ (f : Nat) (l : List Nod) (b : Option Nod) (up' st : Int) (lx : Value) (pb : Option Addr) (pn pc : Nat), uv = .int .i64 up' ∧ sv = .bool b.isSome ∧ tv = .int .i64 st ∧ lx = lv ∧ f ≤ 44 ∧ LevG I f l ∧ narrowRun I (widN width) f l b up' st = R ∧ l.length ≤ 30000 ∧ (0 ≤ st ∧ st + 30000 * (f : Int) ≤ 1320000) ∧
    NRowB w0 wr lx l ∧ l.length ≤ 1000000 ∧ YBox wr w.heap.size I (.slice ad I.l.length cap) ∧ NodB wr (w.heap.size + 2) noughtS 0 (.slice none 0 0) ∧ NodB wr (w.heap.size + 3) (bestV b).s (bestV b).cost (.slice pb pn pc) ∧ PathB w0 wr (.slice pb pn pc) (bestV b).path ∧ Below w.heap.size w wr) (fun _ _ tv _ _ => 1320001 - (intOf tv).toNat)
  case atStart => exact ⟨44, [n], none, up, 0, _, none, 0, 0, rfl, rfl, rfl, rfl, by omega, HLV.out, HRR.out, by simp, ⟨by omega, by omega⟩, HROW.out, by simp, HY.out, HA.out, HC.out, .inl (row_nil _), HBW.out⟩
  case round =>
    obtain ⟨f, l, b, up', st, lx, pb, pn, pc, rfl, rfl, rfl, rfl, hf, hlv, hrun, hl3, hst, hrow, hll, hy, ha, hc, hpb, hbw⟩ := hrel
    clear HROW HY HA HC HBW HLV HRR HN HX0
    have HLV := Lib.hid hlv
    have HRN := Lib.hid hrun
    have HST := Lib.hid hst
    have HL3 := Lib.hid hl3
    have HROW := Lib.hid hrow
    have HLL := Lib.hid hll
    have HY := Lib.hid hy
    have HA := Lib.hid ha
    have HC := Lib.hid hc
    have HPB := Lib.hid hpb
    have HBW := Lib.hid hbw
    have HF := Lib.hid hf
    clear hlv hrun hl3 hst hrow hll hy ha hc hpb hbw hf
    generalize wr = W2 at *
    obtain ⟨bb, hbb⟩ : ∃ x, bestV b = x := ⟨_, rfl⟩
    rw [hbb] at HC HPB
    have HBB := Lib.hid hbb
    clear hbb
    obtain ⟨la, lc, rfl, _⟩ := HROW.out.form
    have hlm : l.length ≤ 9223372036854775807 := by have := HLL.out; omega
    by_cases h0 : 0 < l.length
    rotate_left
    · have hn : l = [] := List.eq_nil_of_length_eq_zero (by omega)
      have d1 : decide ((0 : Int) < (l.length : Int)) = false := decide_eq_false (by omega)
      have d2 := decide_eq_false h0
      have HRV := Lib.hid (show R = (b, st) by rw [← HRN.out, hn, nrun_nil])
      clear hn
      have x0 := HC.out.c0
      have x1 := HC.out.c1
      have x2 := HC.out.c2
      have x3 := HC.out.c3
      have x4 := HC.out.c4
      have x5 := HC.out.c5
      have x6 := HC.out.c6
      have x7 := HC.out.c7
      have x8 := HC.out.c8
      have x9 := HC.out.c9
      go_wp2_with (refine wpList_store_node (by rfl) (.tmp 8) (.tmp 50) (by rfl) (w.heap.size + 2) _ _ _ ⟨bb.s, bb.cost, pb, pn, pc⟩ (by rfl) (by rfl) HA.out ?_; intro wE hE hbE hoE hgE)
      have z0 := hE.c0
      have z1 := hE.c1
      have z2 := hE.c2
      have z3 := hE.c3
      have z4 := hE.c4
      have z5 := hE.c5
      have z6 := hE.c6
      have z7 := hE.c7
      have z8 := hE.c8
      have z9 := hE.c9
      have HPE := HPB.out.kept hgE HA.out
      have HBE := HBW.out.trans (hbE _ (by omega))
      exact bodyPost_ret (v := .tuple #[nodeV bb.s bb.cost (.slice pb pn pc), .bool b.isSome, .int .i64 st]) (by simp [results, Tryz.results9, go_sem, z0, z1, z2, z3, z4, z5, z6, z7, z8, z9, nodeV, RawN.u]) rfl ⟨pb, pn, pc, by rw [HRV.out, HBB.out]; rfl, by rw [HRV.out, HBB.out]; exact HPE, HBE⟩
    have HNE := Lib.hid (show l ≠ [] from fun e => by rw [e] at h0; simp at h0)
    have d1 : decide ((0 : Int) < (l.length : Int)) = true := decide_eq_true (by omega)
    have d2 := decide_eq_true h0
    obtain ⟨g, rfl⟩ : ∃ g, f = g + 1 := ⟨f - 1, by have := HLV.out.lev.one HNE.out; omega⟩
    have HRV := Lib.hid (show narrowRun I (widN width) g ((sortedL I (expandL I up' l)).take (widN width)) (stepUp b up' (bestL I l)).1 (stepUp b up' (bestL I l)).2 (st + (l.length : Int)) = R by rw [← HRN.out, nrun_on HNE.out])
    have e1 : IntKind.i64.wrap (st + (l.length : Int)) = st + (l.length : Int) := IntWalk.i64_in _ (by have := HST.out; have := HL3.out; omega)
    have HL0 := Lib.hid h0
    clear h0
    obtain ⟨y0, y1, y2, y3⟩ := HY.out.cells
    go_wp2_with fail
    clear y0 y1 y2 y3 d1 d2 e1
    change Calls _ _ #[insV I (.slice ad I.l.length cap), .slice la l.length lc, .int .i64 up'] _ _
    refine (lexpand_any (w0 := w0) (HR.out.below HBW.out) HROW.out (HW0.out.trans (HBW.out.mono HW0.out.size)) HLV.out.nodes HL3.out).mono ?_
    rintro e w3 ⟨z, qb, qn, qc, rfl, hz, hq, hb⟩
    have HZB := Lib.hid (show w.heap.size + 3 < W2.heap.size from HC.out.lt)
    have HZ := Lib.hid hz
    have HQ := Lib.hid hq
    clear hz hq
    have HYn := Lib.hid (HY.out.later hb)
    have HAn := Lib.hid (HA.out.later hb)
    have HCn := Lib.hid (HC.out.later hb)
    have HPBn := Lib.hid (HPB.out.below hb)
    have HBWn := Lib.hid (HBW.out.trans (hb.mono HBW.out.size))
    clear HY
    have HY := HYn
    clear HYn
    clear HA
    have HA := HAn
    clear HAn
    clear HC
    have HC := HCn
    clear HCn
    clear HPB
    have HPB := HPBn
    clear HPBn
    clear HBW
    have HBW := HBWn
    clear HBWn
    clear hb HROW
    generalize W2.heap.size = B2 at *
    obtain ⟨za, zc, rfl⟩ := HZ.out.shape
    obtain ⟨e, he⟩ : ∃ e, bestL I l = e := ⟨_, rfl⟩
    rw [he] at HRV HQ ⊢
    clear he
    have HXL := Lib.hid (Nat.le_trans (expand_len (I := I) (up := up') (l := l)) (show 33 * l.length ≤ 1000000 by have := HL3.out; omega))
    have HLN := Lib.hid (fun m (hm : ∀ x ∈ m, x ∈ expandL I up' l) => levg_next (I := I) (up := up') HLV.out (m := m) hm)
    have HLX := Lib.hid (levg_next (I := I) (up := up') HLV.out (m := expandL I up' l) (fun x hx => hx))
    obtain ⟨E, hE⟩ : ∃ E, expandL I up' l = E := ⟨_, rfl⟩
    rw [hE] at HZ HXL HLN HLX HRV ⊢
    clear hE
    obtain ⟨eb, heb⟩ : ∃ x, bestV e = x := ⟨_, rfl⟩
    rw [heb] at HQ ⊢
    have HEB := Lib.hid heb
    clear heb
    obtain ⟨em, hem⟩ : ∃ x, e.isSome = x := ⟨_, rfl⟩
    rw [hem]
    have HEM := Lib.hid hem
    clear hem
    rw [show nodeV eb.s eb.cost (.slice qb qn qc) = .agg #[.int .i64 eb.s.pos, .int .i64 eb.s.car, .int .i64 eb.s.time, .int .i64 eb.s.load, .int .i64 eb.s.first, .int .u64 eb.s.must, .int .u64 eb.s.may, .int .u64 eb.s.on, .int .i64 eb.cost, .slice qb qn qc] from rfl]
    go_upto_region 7 with fail
    have HG := Lib.hid (nod_new w3 eb.s eb.cost (.slice qb qn qc))
    have HG3 := Lib.hid (show w.heap.size + 3 < w3.heap.size from HC.out.lt)
    have hal : Below w3.heap.size w3 (w3.alloc (boxN eb.s eb.cost (.slice qb qn qc))) := (Below.refl _ w3).alloc (Nat.le_refl _) _
    have HYn := Lib.hid (HY.out.later hal)
    have HAn := Lib.hid (HA.out.later hal)
    have HCn := Lib.hid (HC.out.later hal)
    have HPBn := Lib.hid (HPB.out.below hal)
    have HQn := Lib.hid (HQ.out.below hal)
    have HZn := Lib.hid (HZ.out.below hal)
    have HBWn := Lib.hid (HBW.out.trans (hal.mono HBW.out.size))
    clear HY
    have HY := HYn
    clear HYn
    clear HA
    have HA := HAn
    clear HAn
    clear HC
    have HC := HCn
    clear HCn
    clear HPB
    have HPB := HPBn
    clear HPBn
    clear HQ
    have HQ := HQn
    clear HQn
    clear HZ
    have HZ := HZn
    clear HZn
    clear HBW
    have HBW := HBWn
    clear HBWn
    clear hal
    change Code.wp _ _ _ _ (w3.alloc (boxN eb.s eb.cost (.slice qb qn qc)))
    generalize w3.alloc (boxN eb.s eb.cost (.slice qb qn qc)) = W5 at *
    generalize w3.heap.size = bg at *
    have hsi := step_is b e up'
    rw [HEM.out, HEB.out] at hsi
    obtain ⟨t, ht⟩ : ∃ t, (em && decide (eb.cost < up')) = t := ⟨_, rfl⟩
    rw [ht] at hsi
    have HT := Lib.hid ht
    have HSI := Lib.hid hsi
    clear ht hsi
    go_upto_region 7 with fail
    go_cut [41] from 35 to 49 (fun g wx => g = .bool t ∧ wx = W5)
    case first =>
      have x8 := HG.out.c8
      cases em with
      | false =>
        go_wp2_with fail
        go_meet
        exact ⟨by rw [← HT.out]; rfl, rfl⟩
      | true =>
        by_cases hc : eb.cost < up'
        · have d1 := decide_eq_true hc
          have HT2 := Lib.hid (show t = true by rw [← HT.out, d1]; rfl)
          clear hc
          go_wp2_with fail
          go_meet
          exact ⟨by rw [HT2.out], rfl⟩
        · have d1 := decide_eq_false hc
          have HT2 := Lib.hid (show t = false by rw [← HT.out, d1]; rfl)
          clear hc
          go_wp2_with fail
          go_meet
          exact ⟨by rw [HT2.out], rfl⟩
    case rest =>
    obtain ⟨rfl, rfl⟩ := hcut
    generalize wc = W5 at *
    obtain ⟨b2, up2, hstep⟩ : ∃ b2 up2, stepUp b up' e = (b2, up2) := ⟨_, _, rfl⟩
    rw [hstep] at HSI HRV
    clear hstep
    go_upto_if 41 with fail
    go_cut [3, 12] from 42 to 49 (fun uv sv wx => ∃ rb rn rc, uv = .int .i64 up2 ∧ sv = .bool b2.isSome ∧ NodB wx (w.heap.size + 3) (bestV b2).s (bestV b2).cost (.slice rb rn rc) ∧ PathB w0 wx (.slice rb rn rc) (bestV b2).path ∧ YBox wx w.heap.size I (.slice ad I.l.length cap) ∧ NodB wx (w.heap.size + 2) noughtS 0 (.slice none 0 0) ∧ OwnN w0 B2 wx (.slice za E.length zc) E ∧ Below w.heap.size w wx)
    case first =>
      cases t with
      | false =>
        have h2 := HSI.out.trans (if_neg (by decide))
        simp only [Prod.mk.injEq] at h2
        obtain ⟨h3, h4⟩ := h2
        have H3 := Lib.hid h3
        have H4 := Lib.hid h4
        clear h3 h4
        go_wp2_with fail
        go_meet
        exact ⟨pb, pn, pc, by rw [H4.out], by rw [H3.out], by rw [H3.out, HBB.out]; exact HC.out, by rw [H3.out, HBB.out]; exact HPB.out, HY.out, HA.out, HZ.out, HBW.out⟩
      | true =>
        have h2 := HSI.out.trans (if_pos rfl)
        simp only [Prod.mk.injEq] at h2
        obtain ⟨h3, h4⟩ := h2
        have H3 := Lib.hid h3
        have H4 := Lib.hid h4
        clear h3 h4
        have HGN := Lib.hid (show bg ≠ w.heap.size + 3 by have := HG3.out; omega)
        have HTM := Lib.hid (show em = true by
          have h := HT.out
          rw [Bool.and_eq_true] at h
          exact h.1)
        go_upto_region 8 with fail
        have HGn := Lib.hid (HG.out.later (Below.refl _ W5).drew)
        have HCn := Lib.hid (HC.out.later (Below.refl _ W5).drew)
        have HYn := Lib.hid (HY.out.later (Below.refl _ W5).drew)
        have HAn := Lib.hid (HA.out.later (Below.refl _ W5).drew)
        have HPBn := Lib.hid (HPB.out.below (Below.refl _ W5).drew)
        have HQn := Lib.hid (HQ.out.below (Below.refl _ W5).drew)
        have HZn := Lib.hid (HZ.out.below (Below.refl _ W5).drew)
        have HBWn := Lib.hid HBW.out.drew
        clear HG HC HY HA HPB HQ HZ HBW
        have HG := HGn
        have HC := HCn
        have HY := HYn
        have HA := HAn
        have HPB := HPBn
        have HQ := HQn
        have HZ := HZn
        have HBW := HBWn
        clear HGn HCn HYn HAn HPBn HQn HZn HBWn
        have HS0 := Lib.hid (show Holds (cellsN bg eb.s eb.cost (.slice qb qn qc)) W5.drew from HG.out.holds)
        refine wp_region_held_drew (S := Holds (cellsN bg eb.s eb.cost (.slice qb qn qc))) (by kernel_rfl) HS0.out (fun hSn => ?_)
        generalize W5.drew = V at *
        have hlt := Lib.hid (show Lows V.heap.size (cellsN bg eb.s eb.cost (.slice qb qn qc)) from (lows_N HG.out.lt))
        have Bc := Lib.hid (Below.refl V.heap.size V)
        simp only [cellsN] at HS0 hlt hSn ⊢
        refine tks [0, 1, 2] 3 rfl (by kernel_rfl) (fun _ _ _ _ h => h) (by assumption) (fun KT hKT => ?_)
        iterate 3 (refine tkT (by (simp only [gA, gB, gC]; rfl)) (by rfl) (by (intro w hSw; (simp only [Holds] at hSw); go_simp <;> with_reducible rfl)) ?_; simp only [Act.put, pA, pB, pC])
        refine hKT _ ?_
        clear KT hKT
        refine wpAnyH_ready (rs := [3]) (by kernel_rfl) (by simp) ?_
        refine (AllReadyH.cons (o := ?oz300) ?iz300 (fun K hK => ?kz300) AllReadyH.nil)
        case iz300 => (simp only [List.getElem?_toArray, List.getElem?_cons_zero, List.getElem?_cons_succ]; rfl)
        simp only [Act.put]
        rw [if_pos (by rfl)]
        refine wp_store_node (.tmp 11) (.tmp 42) (by rfl) (w.heap.size + 3) _ _ _ ⟨eb.s, eb.cost, qb, qn, qc⟩ (by rfl) (by rfl) HC.out ?_
        intro wE hE hbE hoE hgE
        have hse := (HG.out.same (hoE _ HGN.out)).holds
        simp only [cellsN] at hse
        refine hK.out _ _ hse (fun hSn => ?_)
        clear hK
        refine tks [4, 5] 2 rfl (by kernel_rfl) (fun _ _ _ _ h => h) (by assumption) (fun KT hKT => ?_)
        iterate 2 (refine tkT (by (simp only [gA, gB, gC]; rfl)) (by rfl) (by (intro w hSw; (simp only [Holds] at hSw); go_simp <;> with_reducible rfl)) ?_; simp only [Act.put, pA, pB, pC])
        refine hKT _ ?_
        clear KT hKT
        refine wpAnyH_done (by kernel_rfl) ?_ _
        go_wp2_with fail
        go_meet
        exact ⟨qb, qn, qc, by rw [H4.out], by rw [H3.out, HEM.out, HTM.out], by rw [H3.out, HEB.out]; exact hE, by rw [H3.out, HEB.out]; exact HQ.out.kept hgE HC.out, HY.out.same (hoE _ (by omega)), HA.out.same (hoE _ (by omega)), HZ.out.beside HZB.out hgE HC.out, HBW.out.trans (hbE _ (by omega))⟩
    case rest =>
    obtain ⟨rb, rn, rc, rfl, rfl, f1, f2, f3, f4, f5, f6⟩ := hcut
    clear HY HA HC HPB HQ HZ HBW HG
    have HC := Lib.hid f1
    have HPB := Lib.hid f2
    have HY := Lib.hid f3
    have HA := Lib.hid f4
    have HZ := Lib.hid f5
    have HBW := Lib.hid f6
    clear f1 f2 f3 f4 f5 f6
    generalize wc = W6 at *
    obtain ⟨y0, y1, y2, y3⟩ := HY.out.cells
    go_wp2_with fail
    clear y0 y1 y2 y3
    change Calls _ _ #[insV I (.slice ad I.l.length cap), _] _ _
    refine (lsorted_any (w0 := w0) (HR.out.below HBW.out) HZ.out.rowB (HW0.out.trans (HBW.out.mono HW0.out.size)) HLX.out.nodes HXL.out).mono ?_
    rintro e w7 ⟨fu, rfl, hfu, hb⟩
    have HFU := Lib.hid hfu
    clear hfu
    have HYn := Lib.hid (HY.out.later hb)
    have HAn := Lib.hid (HA.out.later hb)
    have HCn := Lib.hid (HC.out.later hb)
    have HPBn := Lib.hid (HPB.out.below hb)
    have HBWn := Lib.hid (HBW.out.trans (hb.mono HBW.out.size))
    clear HY
    have HY := HYn
    clear HYn
    clear HA
    have HA := HAn
    clear HAn
    clear HC
    have HC := HCn
    clear HCn
    clear HPB
    have HPB := HPBn
    clear HPBn
    clear HBW
    have HBW := HBWn
    clear HBWn
    clear hb
    have HSM := Lib.hid (fun x (hx : x ∈ sortedL I E) => (sortG_perm _ E).mem_iff.1 hx)
    obtain ⟨S, hS⟩ : ∃ S, sortedL I E = S := ⟨_, rfl⟩
    rw [hS] at HFU HSM HRV
    clear hS
    obtain ⟨sa, sc, rfl⟩ := HFU.out.shape
    have HTK := Lib.hid (show (S.take (widN width)).length ≤ 30000 by rw [List.length_take]; have := HW3.out; omega)
    have HFW := Lib.hid (HFU.out.rowB.few (widN width))
    go_wp2_with fail
    obtain ⟨a', c', hv, hk1, hk2, hk3⟩ := HFU.out.rowB.form
    simp only [Value.slice.injEq] at hv
    obtain ⟨rfl, _, rfl⟩ := hv
    refine (ncut_any hk2 hk3).mono ?_
    clear hk1 hk2 hk3
    rintro e w8 ⟨rfl, rfl⟩
    generalize min S.length (widN width) = qq at *
    go_wp2_with fail
    go_roundw
    case rel => exact ⟨g, S.take (widN width), b2, up2, st + (l.length : Int), _, rb, rn, rc, rfl, rfl, rfl, rfl, by have := HF.out; omega, HLN.out _ (fun x hx => HSM.out x (List.mem_of_mem_take hx)), HRV.out, HTK.out, ⟨by have := HST.out; omega, by have := HST.out; have := HL3.out; omega⟩, HFW.out, by have := HTK.out; omega, HY.out, HA.out, HC.out, HPB.out, HBW.out⟩
    case measure =>
      have := HST.out
      have := HL3.out
      have := HL0.out
      simp only [intOf]
      omega
end Go.Proofs.YtgplajofemencaaGreat
