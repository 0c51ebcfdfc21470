/- Whether a node leaves another one without use: the document's answer; few nodes. -/
import Derived.Test.YtaaljploegiihaaGreatXN
import Derived.Test.YtaaljploegiihaaGreatYG
import Derived.Test.YtaaljploegiihaaGreatYC
namespace Go.Proofs.YtaaljploegiihaaGreat
open Go.ChangeShapes Go.WideShapes Go.ChangeAt Go.RowKit

theorem boxes_nn (w : World) (s t : Sta) (c d : Int) (u v : Value) : NodB ((w.alloc (boxN s c u)).alloc (boxN t d v)) w.heap.size s c u ∧ NodB ((w.alloc (boxN s c u)).alloc (boxN t d v)) (w.heap.size + 1) t d v ∧ Below w.heap.size w ((w.alloc (boxN s c u)).alloc (boxN t d v)) := by
  have h1 : (w.alloc (boxN s c u)).heap.size = w.heap.size + 1 := by simp
  have a1 := nod_new (w.alloc (boxN s c u)) t d v
  rw [h1] at a1
  exact ⟨(nod_new w s c u).later ((Below.refl _ _).alloc (Nat.le_refl _) _), a1, ((Below.refl w.heap.size w).alloc (Nat.le_refl _) _).alloc (by rw [h1]; omega) _⟩
set_option maxRecDepth 1000000 in
set_option maxHeartbeats 4000000 in
theorem dthan_any {a b : Nod} {xa xb : Option Addr} {na ca nb cb : Nat} (w : World) (ha : SetsOk a.s) (hb : SetsOk b.s) :
    Calls Tryz.prog 45 #[nodeV a.s a.cost (.slice xa na ca), nodeV b.s b.cost (.slice xb nb cb)] w fun e w' => e = .returned (.bool (decide (Than a b))) ∧ Below w.heap.size w w' := by
  have H1 := Lib.hid ha
  have H2 := Lib.hid hb
  clear ha hb
  unfold nodeV
  go_enter Tryz.func45, Tryz.ntmps45
  go_upto_region 1 with fail
  obtain ⟨k1, k2, k3⟩ := boxes_nn w a.s b.s a.cost b.cost (.slice xa na ca) (.slice xb nb cb)
  have HA := Lib.hid k1
  have HC := Lib.hid k2
  have HB := Lib.hid k3
  clear k1 k2 k3
  change Code.wp _ _ _ _ ((w.alloc (boxN a.s a.cost (.slice xa na ca))).alloc (boxN b.s b.cost (.slice xb nb cb)))
  generalize (w.alloc (boxN a.s a.cost (.slice xa na ca))).alloc (boxN b.s b.cost (.slice xb nb cb)) = W at *
  have x0 := HA.out.c0
  have x1 := HA.out.c1
  have x2 := HA.out.c2
  have x3 := HA.out.c3
  have x4 := HA.out.c4
  have x5 := HA.out.c5
  have x6 := HA.out.c6
  have x7 := HA.out.c7
  have z0 := HC.out.c0
  have z1 := HC.out.c1
  have z2 := HC.out.c2
  have z3 := HC.out.c3
  have z4 := HC.out.c4
  have z5 := HC.out.c5
  have z6 := HC.out.c6
  have z7 := HC.out.c7
  go_wp2_with fail
  clear x0 x1 x2 x3 x4 x5 x6 x7 z0 z1 z2 z3 z4 z5 z6 z7
  change Calls _ _ #[staV a.s, staV b.s] _ _
  refine (ycovers_any _ H1.out H2.out).mono ?_
  rintro e w1 ⟨rfl, hb⟩
  have HAn := Lib.hid (HA.out.later hb)
  have HCn := Lib.hid (HC.out.later hb)
  have HBn := Lib.hid (HB.out.trans (hb.mono HB.out.size))
  clear hb HA HC HB
  have HA := HAn
  have HC := HCn
  have HB := HBn
  clear HAn HCn HBn
  have x5 := HA.out.c5
  have x6 := HA.out.c6
  have x7 := HA.out.c7
  have x8 := HA.out.c8
  have z5 := HC.out.c5
  have z6 := HC.out.c6
  have z7 := HC.out.c7
  have z8 := HC.out.c8
  obtain ⟨cv, hcv⟩ : ∃ cv, decide (Covers a.s b.s) = cv := ⟨_, rfl⟩
  rw [hcv]
  have HCV := Lib.hid hcv
  clear hcv
  by_cases g0 : a.s.must = b.s.must
  rotate_left
  · have b0 : ((a.s.must : Int) == (b.s.must : Int)) = false := by simp; omega
    have HE := Lib.hid (show decide (Than a b) = false from decide_eq_false (fun h => g0 h.1))
    clear g0
    go_wp2
    go_ret
    exact ⟨ret_bool HE.out.symm, HB.out⟩
  have b0 : ((a.s.must : Int) == (b.s.must : Int)) = true := by simp; omega
  have G0 := Lib.hid g0
  clear g0
  by_cases g1 : a.s.may = b.s.may
  rotate_left
  · have b1 : ((a.s.may : Int) == (b.s.may : Int)) = false := by simp; omega
    have HE := Lib.hid (show decide (Than a b) = false from decide_eq_false (fun h => g1 h.2.1))
    clear g1
    go_wp2
    go_ret
    exact ⟨ret_bool HE.out.symm, HB.out⟩
  have b1 : ((a.s.may : Int) == (b.s.may : Int)) = true := by simp; omega
  have G1 := Lib.hid g1
  clear g1
  by_cases g2 : a.s.on = b.s.on
  rotate_left
  · have b2 : ((a.s.on : Int) == (b.s.on : Int)) = false := by simp; omega
    have HE := Lib.hid (show decide (Than a b) = false from decide_eq_false (fun h => g2 h.2.2.1))
    clear g2
    go_wp2
    go_ret
    exact ⟨ret_bool HE.out.symm, HB.out⟩
  have b2 : ((a.s.on : Int) == (b.s.on : Int)) = true := by simp; omega
  have G2 := Lib.hid g2
  clear g2
  cases cv with
  | false =>
    have HE := Lib.hid (show decide (Than a b) = false from decide_eq_false (fun h => (of_decide_eq_false HCV.out) h.2.2.2.1))
    go_wp2
    go_ret
    exact ⟨ret_bool HE.out.symm, HB.out⟩
  | true =>
    by_cases g4 : a.cost ≤ b.cost
    · have b4 := decide_eq_true g4
      have HE := Lib.hid (show decide (Than a b) = true from decide_eq_true ⟨G0.out, G1.out, G2.out, of_decide_eq_true HCV.out, g4⟩)
      clear g4
      go_wp2
      go_ret
      exact ⟨ret_bool HE.out.symm, HB.out⟩
    · have b4 := decide_eq_false g4
      have HE := Lib.hid (show decide (Than a b) = false from decide_eq_false (fun h => g4 h.2.2.2.2))
      clear g4
      go_wp2
      go_ret
      exact ⟨ret_bool HE.out.symm, HB.out⟩
/-- At most 60 nodes, of at most 100 moves each. -/
def FewN (l : List Nod) : Prop := l.length ≤ 60 ∧ ∀ n ∈ l, n.path.length ≤ 100
instance (l : List Nod) : Decidable (FewN l) := by unfold FewN; infer_instance
theorem nodAt_is {l : List Nod} {k : Nat} (hk : k < l.length) : l[k]? = some (nodAt l k) := by
  unfold nodAt; rw [List.getD_eq_getElem?_getD, List.getElem?_eq_getElem hk]; rfl
end Go.Proofs.YtaaljploegiihaaGreat
/- Which nodes are left: the document's answer. -/
namespace Go.Proofs.YtaaljploegiihaaGreat
open Go.ChangeShapes Go.WideShapes Go.ChangeAt Go.RowKit

/-- No node ahead of m leaves node k without use. -/
def keepsB (l : List Nod) (k m : Nat) : Bool := decide (∀ i, i < m → ¬ Beats l i k)
theorem keepsB_succ {l : List Nod} {k m : Nat} : keepsB l k (m + 1) = (keepsB l k m && !decide (Beats l m k)) := by
  unfold keepsB
  rw [Bool.eq_iff_iff]
  simp only [decide_eq_true_eq, Bool.and_eq_true, Bool.not_eq_true', decide_eq_false_iff_not]
  constructor
  · exact fun h => ⟨fun i hi => h i (by omega), h m (by omega)⟩
  · rintro ⟨h1, h2⟩ i hi
    by_cases e : i = m
    · subst e; exact h2
    · exact h1 i (by omega)
theorem keepsB_all {l : List Nod} {k : Nat} : keepsB l k l.length = decide (Stays l k) := by
  unfold keepsB; rw [Bool.eq_iff_iff]; simp only [decide_eq_true_eq]; rfl
set_option maxRecDepth 1000000 in
set_option maxHeartbeats 4000000 in
theorem dfront_any {w0 w : World} {v : Value} {l : List Nod} (h : NRowB w0 w v l) (hb0 : Below w0.heap.size w0 w) (hs : ∀ n ∈ l, SetsOk n.s) (hlen : l.length ≤ 1000000) :
    Calls Tryz.prog 19 #[v] w fun e w' => ∃ u, e = .returned u ∧ OwnN w0 w.heap.size w' u (frontL l) ∧ Below w.heap.size w w' := by
  have H := Lib.hid h
  have HW0 := Lib.hid hb0
  have HS := Lib.hid hs
  obtain ⟨a, cap, rfl, hm, _⟩ := h.form
  have HLE := Lib.hid hlen
  have hlm : l.length ≤ 9223372036854775807 := by omega
  clear h hs hm hlen hb0
  go_enter Tryz.func19, Tryz.ntmps19
  go_wp2_with fail
  go_loopw [3, 4] (fun u i wr => ∃ k : Nat, k ≤ l.length ∧ i = .int .i64 k ∧ OwnN w0 w.heap.size wr u (frontN l k) ∧ Below w.heap.size w wr) (fun _ i _ => l.length - (intOf i).toNat)
  case atStart => exact ⟨0, Nat.zero_le _, rfl, ownN_nil _ _ _, Below.refl _ _⟩
  case round =>
    obtain ⟨k, hk, rfl, hon, hbw⟩ := hrel
    have HON := Lib.hid hon
    have HBW := Lib.hid hbw
    clear hon hbw
    generalize wr = W1 at *
    by_cases hlt : k < l.length
    rotate_left
    · obtain rfl : k = l.length := by omega
      clear hlt hk
      go_wp2
      go_ret
      exact ⟨_, rfl, HON.out, HBW.out⟩
    have HK := Lib.hid hlt
    obtain ⟨b1, o1, pa, pc, ha, hn1, hl1, hr1⟩ := nrowB_at H.out k _ (nodAt_is hlt)
    subst ha
    have HR0 := Lib.hid hr1
    have HN1 := Lib.hid (hn1.below hl1 HBW.out)
    have HB1 := Lib.hid (Nat.lt_of_lt_of_le hl1 HBW.out.size)
    have HS1 := Lib.hid (HS.out _ (nodAt_mem hlt))
    have HNX := Lib.hid (frontN_succ l k)
    have HKA := Lib.hid (keepsB_all (l := l) (k := k))
    have HKS := Lib.hid (fun m => keepsB_succ (l := l) (k := k) (m := m))
    have HK0 := Lib.hid (show keepsB l k 0 = true from decide_eq_true (fun i hi => absurd hi (Nat.not_lt_zero _)))
    have HBT := Lib.hid (fun m => show decide (Beats l m k) = (!decide (m = k) && (decide (Than (nodAt l m) (nodAt l k)) && (decide (m < k) || !decide (Than (nodAt l k) (nodAt l m))))) by
      rw [Bool.eq_iff_iff]
      simp only [decide_eq_true_eq, Bool.and_eq_true, Bool.or_eq_true, Bool.not_eq_true', decide_eq_false_iff_not]
      rfl)
    have hki : (k : Int) < (l.length : Int) := by omega
    have hk2 : IntKind.i64.wrap ((k : Int) + 1) = (k : Int) + 1 := IntWalk.i64_in _ (by omega)
    have HFL := Lib.hid (front_len l k)
    obtain ⟨ua, uc, rfl⟩ := HON.out.shape
    obtain ⟨ul, hul⟩ : ∃ ul, (frontN l k).length = ul := ⟨_, rfl⟩
    rw [hul]
    have HUL := Lib.hid hul
    rw [hul] at HON
    clear hn1 hl1 hr1 hk hlt hul
    generalize keepsB l k = F at *
    obtain ⟨n, hn⟩ : ∃ n, nodAt l k = n := ⟨_, rfl⟩
    rw [hn] at HN1 HR0 HS1 HNX HBT
    have HNN := Lib.hid hn
    clear hn
    go_wp2_with fail
    go_loopw [5, 6] (fun lf j wq => ∃ m : Nat, m ≤ l.length ∧ j = .int .i64 m ∧ lf = .bool (F m) ∧ Below W1.heap.size W1 wq) (fun _ j _ => l.length - (intOf j).toNat)
    case atStart => exact ⟨0, Nat.zero_le _, rfl, by rw [HK0.out], Below.refl _ _⟩
    case round =>
      obtain ⟨m, hm, rfl, rfl, hbq⟩ := hrel
      by_cases hlt : m < l.length
      · have HQ := Lib.hid hbq
        have HM := Lib.hid hlt
        obtain ⟨qa, qc, hn2, hl2, hr2⟩ := nrowB_here (H.out.below HBW.out) m _ (nodAt_is hlt)
        have HN2 := Lib.hid hn2
        have HS2 := Lib.hid (HS.out _ (nodAt_mem hlt))
        have hbt := HBT.out m
        have hks := HKS.out m
        have hmi : (m : Int) < (l.length : Int) := by omega
        have hm2 : IntKind.i64.wrap ((m : Int) + 1) = (m : Int) + 1 := IntWalk.i64_in _ (by omega)
        clear hn2 hl2 hr2 hbq
        obtain ⟨y, hy⟩ : ∃ y, nodAt l m = y := ⟨_, rfl⟩
        rw [hy] at HN2 HS2 hbt
        obtain ⟨t1, ht1⟩ : ∃ t, decide (Than y n) = t := ⟨_, rfl⟩
        obtain ⟨t2, ht2⟩ : ∃ t, decide (Than n y) = t := ⟨_, rfl⟩
        rw [ht1, ht2] at hbt
        obtain ⟨lf, hlf⟩ : ∃ b, F m = b := ⟨_, rfl⟩
        rw [hlf, hbt] at hks
        rw [hlf]
        have HKS2 := Lib.hid hks
        have HT1 := Lib.hid ht1
        have HT2 := Lib.hid ht2
        clear hbt hks hy ht1 ht2 hlf hm hlt
        obtain ⟨WC, hWC⟩ : ∃ W, wr = W := ⟨_, rfl⟩
        rw [hWC] at HQ ⊢
        clear hWC
        go_upto_region 9 with fail
        go_cut [7] from 21 to 53 (fun p wx => p = .bool t1 ∧ Below W1.heap.size W1 wx)
        case first =>
          have HQD := Lib.hid HQ.out.drew
          have HS0 := Lib.hid (show Holds (cellsRN b1 (o1 + m * 10) y.s y.cost (.slice qa y.path.length qc) ++ cellsRN b1 (o1 + k * 10) n.s n.cost (.slice pa n.path.length pc)) WC.drew from Holds.app.2 ⟨(holds_RN (HN2.out.below HB1.out HQD.out)), (holds_RN (HN1.out.below HB1.out HQD.out))⟩)
          have hlt := Lib.hid (show Lows WC.drew.heap.size (cellsRN b1 (o1 + m * 10) y.s y.cost (.slice qa y.path.length qc) ++ cellsRN b1 (o1 + k * 10) n.s n.cost (.slice pa n.path.length pc)) from Lows.app (lows_RN (Nat.lt_of_lt_of_le HB1.out HQ.out.size)) (lows_RN (Nat.lt_of_lt_of_le HB1.out HQ.out.size)))
          refine wp_region_held_drew (S := Holds (cellsRN b1 (o1 + m * 10) y.s y.cost (.slice qa y.path.length qc) ++ cellsRN b1 (o1 + k * 10) n.s n.cost (.slice pa n.path.length pc))) (by kernel_rfl) HS0.out (fun hSn => ?_)
          generalize WC.drew = V at *
          have Bc := Lib.hid (Below.refl V.heap.size V)
          simp only [cellsRN, List.cons_append, List.nil_append] at HS0 hlt hSn ⊢
          refine tks [0, 1, 2, 3, 4, 5, 6, 7] 8 rfl (by kernel_rfl) (fun _ _ _ _ h => h) (by assumption) (fun KT hKT => ?_)
          iterate 8 (refine tkT (by (simp only [gA, gB, gC]; rfl)) (by rfl) (by (intro w hSw; (simp only [Holds] at hSw); go_simp <;> with_reducible rfl)) ?_; simp only [Act.put, pA, pB, pC])
          refine hKT _ ?_
          clear KT hKT
          refine wpAnyH_ready (rs := [8]) (by kernel_rfl) (by simp) ?_
          refine AllReadyH.cons (o := ?oz209) ?iz209 (fun K hK => ?kz209) AllReadyH.nil
          case iz209 => (simp only [List.getElem?_toArray, List.getElem?_cons_zero, List.getElem?_cons_succ]; rfl)
          go_simp
          change Calls _ _ #[nodeV y.s y.cost _, nodeV n.s n.cost _] _ _
          refine (dthan_any (a := y) (b := n) _ HS2.out HS1.out).mono ?_
          rintro e w' ⟨rfl, hb⟩
          refine held_more hK HS0.out hlt (Bc.out.trans (hb.mono Bc.out.size)) (fun Bc hSn => ?_)
          clear hb hK
          refine tks [9] 1 rfl (by kernel_rfl) (fun _ _ _ _ h => h) (by assumption) (fun KT hKT => ?_)
          refine tkT (by (simp only [gA, gB, gC]; rfl)) (by rfl) (by (intro w hSw; (simp only [Holds] at hSw); go_simp <;> with_reducible rfl)) ?_
          simp only [Act.put, pA, pB, pC]
          refine hKT _ ?_
          clear KT hKT
          refine wpAnyH_done (by kernel_rfl) ?_ _
          go_wp2_with fail
          go_meet
          exact ⟨by rw [HT1.out], HQD.out.trans (Bc.out.mono HQD.out.size)⟩
        case rest =>
        obtain ⟨rfl, hbx⟩ := hcut
        have HQ2 := Lib.hid hbx
        clear hbx HQ
        have HQ := HQ2
        clear HQ2
        generalize wc = WC at *
        go_upto_region 10 with fail
        go_cut [8] from 30 to 53 (fun p wx => p = .bool t2 ∧ Below W1.heap.size W1 wx)
        case first =>
          have HQD := Lib.hid HQ.out.drew
          have HS0 := Lib.hid (show Holds (cellsRN b1 (o1 + k * 10) n.s n.cost (.slice pa n.path.length pc) ++ cellsRN b1 (o1 + m * 10) y.s y.cost (.slice qa y.path.length qc)) WC.drew from Holds.app.2 ⟨(holds_RN (HN1.out.below HB1.out HQD.out)), (holds_RN (HN2.out.below HB1.out HQD.out))⟩)
          have hlt := Lib.hid (show Lows WC.drew.heap.size (cellsRN b1 (o1 + k * 10) n.s n.cost (.slice pa n.path.length pc) ++ cellsRN b1 (o1 + m * 10) y.s y.cost (.slice qa y.path.length qc)) from Lows.app (lows_RN (Nat.lt_of_lt_of_le HB1.out HQ.out.size)) (lows_RN (Nat.lt_of_lt_of_le HB1.out HQ.out.size)))
          refine wp_region_held_drew (S := Holds (cellsRN b1 (o1 + k * 10) n.s n.cost (.slice pa n.path.length pc) ++ cellsRN b1 (o1 + m * 10) y.s y.cost (.slice qa y.path.length qc))) (by kernel_rfl) HS0.out (fun hSn => ?_)
          generalize WC.drew = V at *
          have Bc := Lib.hid (Below.refl V.heap.size V)
          simp only [cellsRN, List.cons_append, List.nil_append] at HS0 hlt hSn ⊢
          refine tks [0, 1, 2, 3, 4, 5, 6, 7] 8 rfl (by kernel_rfl) (fun _ _ _ _ h => h) (by assumption) (fun KT hKT => ?_)
          iterate 8 (refine tkT (by (simp only [gA, gB, gC]; rfl)) (by rfl) (by (intro w hSw; (simp only [Holds] at hSw); go_simp <;> with_reducible rfl)) ?_; simp only [Act.put, pA, pB, pC])
          refine hKT _ ?_
          clear KT hKT
          refine wpAnyH_ready (rs := [8]) (by kernel_rfl) (by simp) ?_
          refine AllReadyH.cons (o := ?oz210) ?iz210 (fun K hK => ?kz210) AllReadyH.nil
          case iz210 => (simp only [List.getElem?_toArray, List.getElem?_cons_zero, List.getElem?_cons_succ]; rfl)
          go_simp
          change Calls _ _ #[nodeV n.s n.cost _, nodeV y.s y.cost _] _ _
          refine (dthan_any (a := n) (b := y) _ HS1.out HS2.out).mono ?_
          rintro e w' ⟨rfl, hb⟩
          refine held_more hK HS0.out hlt (Bc.out.trans (hb.mono Bc.out.size)) (fun Bc hSn => ?_)
          clear hb hK
          refine tks [9] 1 rfl (by kernel_rfl) (fun _ _ _ _ h => h) (by assumption) (fun KT hKT => ?_)
          refine tkT (by (simp only [gA, gB, gC]; rfl)) (by rfl) (by (intro w hSw; (simp only [Holds] at hSw); go_simp <;> with_reducible rfl)) ?_
          simp only [Act.put, pA, pB, pC]
          refine hKT _ ?_
          clear KT hKT
          refine wpAnyH_done (by kernel_rfl) ?_ _
          go_wp2_with fail
          go_meet
          exact ⟨by rw [HT2.out], HQD.out.trans (Bc.out.mono HQD.out.size)⟩
        case rest =>
        obtain ⟨rfl, hbx⟩ := hcut
        have HQ2 := Lib.hid hbx
        clear hbx HQ
        have HQ := HQ2
        clear HQ2
        generalize wc = WC at *
        have rel : ∀ b, F (m + 1) = b → ∃ m' : Nat, m' ≤ l.length ∧ Value.int .i64 ((m : Int) + 1) = .int .i64 m' ∧ Value.bool b = .bool (F m') ∧ Below W1.heap.size W1 WC := fun b hb => ⟨m + 1, by have := HM.out; omega, by go_num, by rw [hb], HQ.out⟩
        have HREL := Lib.hid rel
        clear rel
        by_cases e1 : m = k
        · have b1 : ((m : Int) != (k : Int)) = false := by simp; omega
          have HF := Lib.hid (show F (m + 1) = lf by rw [HKS2.out, decide_eq_true e1]; simp)
          clear e1
          go_wp2_with fail
          go_roundw
          case rel => exact HREL.out _ HF.out
          case measure => have := HM.out; simp [intOf]; omega
        have b1 : ((m : Int) != (k : Int)) = true := by simp; omega
        have E1 := Lib.hid (decide_eq_false e1)
        clear e1
        cases t1 with
        | false =>
          have HF := Lib.hid (show F (m + 1) = lf by rw [HKS2.out, E1.out]; simp)
          go_wp2_with fail
          go_roundw
          case rel => exact HREL.out _ HF.out
          case measure => have := HM.out; simp [intOf]; omega
        | true =>
          by_cases e2 : m < k
          · have b2 : decide ((m : Int) < (k : Int)) = true := decide_eq_true (by omega)
            have b3 := decide_eq_true e2
            have HF := Lib.hid (show F (m + 1) = false by rw [HKS2.out, E1.out, b3]; simp)
            clear e2
            go_wp2_with fail
            go_roundw
            case rel => exact HREL.out _ HF.out
            case measure => have := HM.out; simp [intOf]; omega
          have b2 : decide ((m : Int) < (k : Int)) = false := decide_eq_false (by omega)
          have b3 := decide_eq_false e2
          have hle : k ≤ m := by omega
          have E2 := Lib.hid b3
          clear e2
          cases t2 with
          | false =>
            have HF := Lib.hid (show F (m + 1) = false by rw [HKS2.out, E1.out, E2.out]; simp)
            go_wp2_with fail
            go_roundw
            case rel => exact HREL.out _ HF.out
            case measure => have := HM.out; simp [intOf]; omega
          | true =>
            have HF := Lib.hid (show F (m + 1) = lf by rw [HKS2.out, E1.out, E2.out]; simp)
            go_wp2_with fail
            go_roundw
            case rel => exact HREL.out _ HF.out
            case measure => have := HM.out; simp [intOf]; omega
      · obtain rfl : m = l.length := by omega
        have HQ := Lib.hid hbq
        clear hm hlt hbq
        rw [HKA.out]
        have hnx := HNX.out
        by_cases hst : Stays l k
        · rw [decide_eq_true hst]
          rw [if_pos hst] at hnx
          have HNX2 := Lib.hid hnx
          clear hst hnx
          have HBQ := Lib.hid (HBW.out.trans (HQ.out.mono HBW.out.size))
          have HOQ := Lib.hid (HON.out.below HQ.out)
          obtain ⟨c0, c1, c2, c3, c4, c5, c6, c7, c8, c9⟩ := HN1.out.below HB1.out HQ.out
          clear HON HQ HNX
          go_wp2_with (at_builtin; refine app_nodes Tryz.underlying35 rfl _ _ rfl w.heap.size _ (frontN l k) rfl (HOQ.out.below ((Below.refl _ _).alloc (Nat.le_refl _) _)) _ rfl [⟨n.s, n.cost, pa, n.path.length, pc⟩] [n] (nrow_one (heap_alloc_new _ _)) ⟨⟨rfl, rfl, HR0.out.below (HBQ.out.alloc HBQ.out.size _)⟩, trivial⟩ (by have := HFL.out; have := HK.out; have := HLE.out; simp only [List.length_cons, List.length_nil]; omega) (HBQ.out.alloc HBQ.out.size _).size HW0.out.size (HW0.out.trans ((HBQ.out.alloc HBQ.out.size _).mono HW0.out.size)) ?_; intro v1 w1 o1 b1' b2' g1)
          go_roundw
          case rel => exact ⟨k + 1, by have := HK.out; omega, by go_num, by rw [HNX2.out]; exact o1, (HBQ.out.alloc HBQ.out.size _).trans b2'⟩
          case measure => have := HK.out; simp [intOf]; omega
        · rw [decide_eq_false hst]
          rw [if_neg hst] at hnx
          have HNX2 := Lib.hid hnx
          clear hst hnx
          go_wp2_with fail
          go_roundw
          case rel => exact ⟨k + 1, by have := HK.out; omega, by go_num, by rw [HNX2.out]; exact HON.out.below HQ.out, HBW.out.trans (HQ.out.mono HBW.out.size)⟩
          case measure => have := HK.out; simp [intOf]; omega
end Go.Proofs.YtaaljploegiihaaGreat
/- Whether two lists of nodes are the same. -/
namespace Go.Proofs.YtaaljploegiihaaGreat
open Go.ChangeShapes Go.WideShapes Go.ChangeAt Go.RowKit

set_option maxRecDepth 1000000 in
set_option maxHeartbeats 4000000 in
theorem sameN_any {w : World} {u v : Value} {A B : List Nod} (hA : NRow w u A) (hB : NRow w v B) :
    Calls Tryz.prog 8 #[u, v] w fun e w' => e = .returned (.bool (decide (A = B))) ∧ Below w.heap.size w w' := by
  have HA := Lib.hid hA
  have HB := Lib.hid hB
  obtain ⟨a, capa, rfl, hma, _⟩ := hA.form
  obtain ⟨b, capb, rfl, hmb, _⟩ := hB.form
  unfold maxLen at hma hmb
  clear hA hB
  have hm1 : A.length ≤ 9223372036854775807 := by omega
  have hm2 : B.length ≤ 9223372036854775807 := by omega
  clear hma hmb
  by_cases hl : A.length = B.length
  rotate_left
  · have HL := Lib.hid hl
    have hne : ((A.length : Int) != (B.length : Int)) = true := by simp; omega
    clear hl
    go_enter Tryz.func8, Tryz.ntmps8
    go_wp2
    go_ret
    exact ⟨ret_bool (decide_eq_false (fun e => HL.out (by rw [e]))).symm, Below.refl _ _⟩
  have HL := Lib.hid hl
  rw [← hl] at HB ⊢
  have hne : ((A.length : Int) != (A.length : Int)) = false := by simp
  clear hl hm2
  go_enter Tryz.func8, Tryz.ntmps8
  go_wp2_with fail
  go_loopw [5] (fun i wr => ∃ j : Nat, j ≤ A.length ∧ i = .int .i64 j ∧ A.take j = B.take j ∧ Below w.heap.size w wr) (fun i _ => A.length - (intOf i).toNat)
  case atStart => exact ⟨0, Nat.zero_le _, rfl, by simp, Below.refl _ _⟩
  case round =>
    obtain ⟨k, hk, rfl, htk, hbk⟩ := hrel
    have HTK := Lib.hid htk
    have HW := Lib.hid hbk
    clear htk hbk
    by_cases hkl : k < A.length
    rotate_left
    · obtain rfl : k = A.length := by omega
      have HEQ := Lib.hid (take_all HL.out HTK.out)
      clear hkl hk
      go_wp2
      go_ret
      exact ⟨ret_bool (decide_eq_true HEQ.out).symm, HW.out⟩
    have HK := Lib.hid hkl
    obtain ⟨b1, o1, pa, pc, ha, hn1, hl1, hr1⟩ := nrow_at (HA.out.below HW.out) k _ (nodAt_is hkl)
    obtain ⟨b2, o2, qa, qc, hb, hn2, hl2, hr2⟩ := nrow_at (HB.out.below HW.out) k _ (nodAt_is (by have := HL.out; omega))
    subst ha hb
    have HON := Lib.hid (fun h => take_on (d := nod0) HL.out hkl HTK.out (show A.getD k nod0 = B.getD k nod0 from h))
    have HOF := Lib.hid (show nodAt A k ≠ nodAt B k → decide (A = B) = false from fun h => decide_eq_false (fun e => h (by rw [e])))
    change Hid (nodAt A k = nodAt B k → _) at HON
    generalize nodAt A k = n at *
    generalize nodAt B k = m at *
    have HN1 := Lib.hid hn1
    have HN2 := Lib.hid hn2
    have HR1 := Lib.hid hr1
    have HR2 := Lib.hid hr2
    have hki : (k : Int) < (A.length : Int) := by omega
    have hk2 : IntKind.i64.wrap ((k : Int) + 1) = (k : Int) + 1 := IntWalk.i64_in _ (by omega)
    have HB1 := Lib.hid hl1
    have HB2 := Lib.hid hl2
    clear hn1 hn2 hr1 hr2 hk hkl hl1 hl2
    go_upto_region 6 with fail
    go_cut [6] from 18 to 56 (fun p wx => p = .bool (decide (n.path = m.path)) ∧ Below wr.heap.size wr wx)
    case first =>
      have HS0 := Lib.hid (show Holds (cellsRN b1 (o1 + k * 10) n.s n.cost (.slice pa n.path.length pc) ++ cellsRN b2 (o2 + k * 10) m.s m.cost (.slice qa m.path.length qc)) wr.drew from Holds.app.2 ⟨(holds_RN HN1.out), (holds_RN HN2.out)⟩)
      have hlt := Lib.hid (show Lows wr.drew.heap.size (cellsRN b1 (o1 + k * 10) n.s n.cost (.slice pa n.path.length pc) ++ cellsRN b2 (o2 + k * 10) m.s m.cost (.slice qa m.path.length qc)) from Lows.app (lows_RN HB1.out) (lows_RN HB2.out))
      refine wp_region_held_drew (S := Holds (cellsRN b1 (o1 + k * 10) n.s n.cost (.slice pa n.path.length pc) ++ cellsRN b2 (o2 + k * 10) m.s m.cost (.slice qa m.path.length qc))) (by kernel_rfl) HS0.out (fun hSn => ?_)
      have HV1 := Lib.hid (HR1.out.below (Below.refl _ _).drew)
      have HV2 := Lib.hid (HR2.out.below (Below.refl _ _).drew)
      have HWD := Lib.hid ((Below.refl wr.heap.size wr).drew)
      generalize wr.drew = V at *
      have Bc := Lib.hid (Below.refl V.heap.size V)
      simp only [cellsRN, List.cons_append, List.nil_append] at HS0 hlt hSn ⊢
      refine tks [0, 1, 2, 3, 4, 5, 6, 7, 8, 9] 10 rfl (by kernel_rfl) (fun _ _ _ _ h => h) (by assumption) (fun KT hKT => ?_)
      iterate 10 (refine tkT (by (simp only [gA, gB, gC]; rfl)) (by rfl) (by (intro w hSw; (simp only [Holds] at hSw); go_simp <;> with_reducible rfl)) ?_; simp only [Act.put, pA, pB, pC])
      refine hKT _ ?_
      clear KT hKT
      refine wpAnyH_ready (rs := [10]) (by kernel_rfl) (by simp) ?_
      refine AllReadyH.cons (o := ?oz211) ?iz211 (fun K hK => ?kz211) AllReadyH.nil
      case iz211 => (simp only [List.getElem?_toArray, List.getElem?_cons_zero, List.getElem?_cons_succ]; rfl)
      go_simp
      refine (same2_any (HV1.out.below Bc.out) (HV2.out.below Bc.out)).mono ?_
      rintro e w' ⟨rfl, hb⟩
      refine held_more hK HS0.out hlt (Bc.out.trans (hb.mono Bc.out.size)) (fun Bc hSn => ?_)
      clear hb hK
      refine tks [11] 1 rfl (by kernel_rfl) (fun _ _ _ _ h => h) (by assumption) (fun KT hKT => ?_)
      refine tkT (by (simp only [gA, gB, gC]; rfl)) (by rfl) (by (intro w hSw; (simp only [Holds] at hSw); go_simp <;> with_reducible rfl)) ?_
      simp only [Act.put, pA, pB, pC]
      refine hKT _ ?_
      clear KT hKT
      refine wpAnyH_done (by kernel_rfl) ?_ _
      go_wp2_with fail
      go_meet
      exact ⟨rfl, HWD.out.trans (Bc.out.mono HWD.out.size)⟩
    case rest =>
    obtain ⟨rfl, hbx⟩ := hcut
    have HX := Lib.hid hbx
    have HM1 := Lib.hid (HN1.out.below HB1.out hbx)
    have HM2 := Lib.hid (HN2.out.below HB2.out hbx)
    have HBX1 := Lib.hid (Nat.lt_of_lt_of_le HB1.out hbx.size)
    have HBX2 := Lib.hid (Nat.lt_of_lt_of_le HB2.out hbx.size)
    clear hbx HN1 HN2 HB1 HB2
    generalize wc = W7 at *
    obtain ⟨pe, hpe⟩ : ∃ pe, decide (n.path = m.path) = pe := ⟨_, rfl⟩
    rw [hpe]
    have HPE := Lib.hid hpe
    clear hpe
    have kg := guardSta
    obtain ⟨df, hdf⟩ : ∃ df, decide (n = m) = df := ⟨_, rfl⟩
    have HDF := Lib.hid hdf
    clear hdf
    go_upto_region 7 with fail
    go_cut [56] from 29 to 56 (fun p wx => p = .bool (!df) ∧ Below wr.heap.size wr wx)
    case first =>
      have HS0 := Lib.hid (show Holds (cellsRN b1 (o1 + k * 10) n.s n.cost (.slice pa n.path.length pc) ++ cellsRN b2 (o2 + k * 10) m.s m.cost (.slice qa m.path.length qc)) W7.drew from Holds.app.2 ⟨(holds_RN HM1.out), (holds_RN HM2.out)⟩)
      have hlt := Lib.hid (show Lows W7.drew.heap.size (cellsRN b1 (o1 + k * 10) n.s n.cost (.slice pa n.path.length pc) ++ cellsRN b2 (o2 + k * 10) m.s m.cost (.slice qa m.path.length qc)) from Lows.app (lows_RN HBX1.out) (lows_RN HBX2.out))
      refine wp_region_held_drew (S := Holds (cellsRN b1 (o1 + k * 10) n.s n.cost (.slice pa n.path.length pc) ++ cellsRN b2 (o2 + k * 10) m.s m.cost (.slice qa m.path.length qc))) (by kernel_rfl) HS0.out (fun hSn => ?_)
      have HXD := Lib.hid HX.out.drew
      generalize W7.drew = V at *
      have Bc := Lib.hid (Below.refl V.heap.size V)
      simp only [cellsRN, List.cons_append, List.nil_append] at HS0 hlt hSn ⊢
      have fin := Lib.hid (show Below wr.heap.size wr V from HXD.out)
      cases pe with
      | false =>
        have HF := Lib.hid (show df = false by rw [← HDF.out]; exact decide_eq_false (fun e => of_decide_eq_false HPE.out (by rw [e])))
        refine tks [0, 1, 2] 3 rfl (by kernel_rfl) (fun _ _ _ _ h => h) (by assumption) (fun KT hKT => ?_)
        iterate 3 (refine tkT (by (simp only [gA, gB, gC]; rfl)) (by rfl) (by (intro w hSw; (simp only [Holds] at hSw); go_simp <;> with_reducible rfl)) ?_; simp only [Act.put, pA, pB, pC])
        refine hKT _ ?_
        clear KT hKT
        refine tks [3, 4, 5, 6, 7, 8, 9, 10, 11, 12, 13] 11 rfl (by kernel_rfl) (fun _ _ _ _ h => h) (by assumption) (fun KT hKT => ?_)
        iterate 11 (refine tkS (by (simp only [gA, gB, gC]; rfl)) (by rfl) ?_; simp only [Act.put, pA, pB, pC])
        refine hKT _ ?_
        clear KT hKT
        refine tks [14, 15] 2 rfl (by kernel_rfl) (fun _ _ _ _ h => h) (by assumption) (fun KT hKT => ?_)
        iterate 2 (refine tkT (by (simp only [gA, gB, gC]; rfl)) (by rfl) (by (intro w hSw; (simp only [Holds] at hSw); go_simp <;> with_reducible rfl)) ?_; simp only [Act.put, pA, pB, pC])
        refine hKT _ ?_
        clear KT hKT
        refine tks [16, 17, 18, 19, 20, 21, 22, 23, 24, 25, 26] 11 rfl (by kernel_rfl) (fun _ _ _ _ h => h) (by assumption) (fun KT hKT => ?_)
        iterate 11 (refine tkS (by (simp only [gA, gB, gC]; rfl)) (by rfl) ?_; simp only [Act.put, pA, pB, pC])
        refine hKT _ ?_
        clear KT hKT
        refine tks [27] 1 rfl (by kernel_rfl) (fun _ _ _ _ h => h) (by assumption) (fun KT hKT => ?_)
        refine tkT (by (simp only [gA, gB, gC]; rfl)) (by rfl) (by (intro w hSw; (simp only [Holds] at hSw); go_simp <;> with_reducible rfl)) ?_
        simp only [Act.put, pA, pB, pC]
        refine hKT _ ?_
        clear KT hKT
        refine wpAnyH_done (by kernel_rfl) ?_ _
        go_wp2_with fail
        go_meet
        exact ⟨by rw [HF.out]; rfl, fin.out⟩
      | true =>
        have keq := fun w => equalSta n.s m.s w
        by_cases hs : n.s = m.s
        rotate_left
        · rw [decide_eq_false hs] at keq
          have HF := Lib.hid (show df = false by rw [← HDF.out]; exact decide_eq_false (fun e => hs (by rw [e])))
          clear hs
          refine tks [0, 1, 2, 3, 4, 5, 6, 7, 8, 9, 10, 11, 12, 13, 14, 15] 16 rfl (by kernel_rfl) (fun _ _ _ _ h => h) (by assumption) (fun KT hKT => ?_)
          iterate 16 (refine tkT (by (simp only [gA, gB, gC]; rfl)) (by rfl) (by (intro w hSw; (simp only [Holds] at hSw); go_simp <;> with_reducible rfl)) ?_; simp only [Act.put, pA, pB, pC])
          refine hKT _ ?_
          clear KT hKT
          refine tks [16, 17, 18, 19, 20, 21, 22, 23, 24, 25, 26] 11 rfl (by kernel_rfl) (fun _ _ _ _ h => h) (by assumption) (fun KT hKT => ?_)
          iterate 11 (refine tkS (by (simp only [gA, gB, gC]; rfl)) (by rfl) ?_; simp only [Act.put, pA, pB, pC])
          refine hKT _ ?_
          clear KT hKT
          refine tks [27] 1 rfl (by kernel_rfl) (fun _ _ _ _ h => h) (by assumption) (fun KT hKT => ?_)
          refine tkT (by (simp only [gA, gB, gC]; rfl)) (by rfl) (by (intro w hSw; (simp only [Holds] at hSw); go_simp <;> with_reducible rfl)) ?_
          simp only [Act.put, pA, pB, pC]
          refine hKT _ ?_
          clear KT hKT
          refine wpAnyH_done (by kernel_rfl) ?_ _
          go_wp2_with fail
          go_meet
          exact ⟨by rw [HF.out]; rfl, fin.out⟩
        · rw [decide_eq_true hs] at keq
          have HSS := Lib.hid hs
          clear hs
          by_cases hc : n.cost = m.cost
          · have b1 : (n.cost != m.cost) = false := by simp [hc]
            have HF := Lib.hid (show df = true by
              rw [← HDF.out]
              have h1 := of_decide_eq_true HPE.out
              have h2 := HSS.out
              obtain ⟨a1, a2, a3⟩ := n
              obtain ⟨c1, c2, c3⟩ := m
              simp only at h1 h2 hc
              subst h1 h2 hc
              exact decide_eq_true rfl)
            clear hc
            refine tks [0, 1, 2, 3, 4, 5, 6, 7, 8, 9, 10, 11, 12, 13, 14, 15, 16, 17, 18, 19, 20, 21, 22, 23, 24, 25, 26, 27] 28 rfl (by kernel_rfl) (fun _ _ _ _ h => h) (by assumption) (fun KT hKT => ?_)
            iterate 28 (refine tkT (by (simp only [gA, gB, gC]; rfl)) (by rfl) (by (intro w hSw; (simp only [Holds] at hSw); go_simp <;> with_reducible rfl)) ?_; simp only [Act.put, pA, pB, pC])
            refine hKT _ ?_
            clear KT hKT
            refine wpAnyH_done (by kernel_rfl) ?_ _
            go_wp2_with fail
            go_meet
            exact ⟨by rw [HF.out]; rfl, fin.out⟩
          · have b1 : (n.cost != m.cost) = true := by simp [hc]
            have HF := Lib.hid (show df = false by rw [← HDF.out]; exact decide_eq_false (fun e => hc (by rw [e])))
            clear hc
            refine tks [0, 1, 2, 3, 4, 5, 6, 7, 8, 9, 10, 11, 12, 13, 14, 15, 16, 17, 18, 19, 20, 21, 22, 23, 24, 25, 26, 27] 28 rfl (by kernel_rfl) (fun _ _ _ _ h => h) (by assumption) (fun KT hKT => ?_)
            iterate 28 (refine tkT (by (simp only [gA, gB, gC]; rfl)) (by rfl) (by (intro w hSw; (simp only [Holds] at hSw); go_simp <;> with_reducible rfl)) ?_; simp only [Act.put, pA, pB, pC])
            refine hKT _ ?_
            clear KT hKT
            refine wpAnyH_done (by kernel_rfl) ?_ _
            go_wp2_with fail
            go_meet
            exact ⟨by rw [HF.out]; rfl, fin.out⟩
    case rest =>
    obtain ⟨rfl, hbx⟩ := hcut
    have HW9 := Lib.hid (HW.out.trans (hbx.mono HW.out.size))
    clear hbx HX HM1 HM2 HBX1 HBX2 HW
    generalize wc = W9 at *
    cases df with
    | false =>
      have HF := Lib.hid (HOF.out (of_decide_eq_false HDF.out))
      go_wp2
      go_ret
      exact ⟨ret_bool HF.out.symm, HW9.out⟩
    | true =>
      have HF := Lib.hid (HON.out (of_decide_eq_true HDF.out))
      go_wp2_with fail
      go_roundw
      case rel => exact ⟨k + 1, by have := HK.out; omega, by go_num, HF.out, HW9.out⟩
      case measure => have := HK.out; simp [intOf]; omega
end Go.Proofs.YtaaljploegiihaaGreat
