/- Which nodes are left: the document's answer. -/
import Derived.Test.YtofapalakpkkpaaGThan
import Derived.Test.YtofapalakpkkpaaXR3
namespace Go.Proofs.Ytofapalakpkkpaa
open Go.ChangeShapes Go.WideShapes Go.ChangeAt Go.RowKit

/-- No node ahead of m leaves node k without use. -/
def keepsB (l : List Nod) (k m : Nat) : Bool := decide (∀ i, i < m → ¬ Beats l i k)
theorem keepsB_succ {l : List Nod} {k m : Nat} : keepsB l k (m + 1) = (keepsB l k m && !decide (Beats l m k)) := by
  unfold keepsB
  rw [Bool.eq_iff_iff]
  simp only [decide_eq_true_eq, Bool.and_eq_true, Bool.not_eq_true', decide_eq_false_iff_not]
  constructor
  · exact fun h => ⟨fun i hi => h i (by omega), h m (by omega)⟩
  · rintro ⟨h1, h2⟩ i hi
    by_cases e : i = m
    · subst e; exact h2
    · exact h1 i (by omega)
theorem keepsB_all {l : List Nod} {k : Nat} : keepsB l k l.length = decide (Stays l k) := by
  unfold keepsB; rw [Bool.eq_iff_iff]; simp only [decide_eq_true_eq]; rfl
set_option maxRecDepth 1000000 in
set_option maxHeartbeats 4000000 in
theorem dfront_any {w0 w : World} {v : Value} {l : List Nod} (h : NRowB w0 w v l) (hb0 : Below w0.heap.size w0 w) (hs : ∀ n ∈ l, SetsOk n.s) (hlen : l.length ≤ 1000000) :
    Calls Try.prog 12 #[v] w fun e w' => ∃ u, e = .returned u ∧ OwnN w0 w.heap.size w' u (frontL l) ∧ Below w.heap.size w w' := by
  have H := Lib.hid h
  have HW0 := Lib.hid hb0
  have HS := Lib.hid hs
  obtain ⟨a, cap, rfl, hm, _⟩ := h.form
  have HLE := Lib.hid hlen
  have hlm : l.length ≤ 9223372036854775807 := by omega
  clear h hs hm hlen hb0
  go_enter Try.func12, Try.ntmps12
  go_wp2_with fail
  go_loopw [3, 4] (fun u i wr => ∃ k : Nat, k ≤ l.length ∧ i = .int .i64 k ∧ OwnN w0 w.heap.size wr u (frontN l k) ∧ Below w.heap.size w wr) (fun _ i _ => l.length - (intOf i).toNat)
  case atStart => exact ⟨0, Nat.zero_le _, rfl, ownN_nil _ _ _, Below.refl _ _⟩
  case round =>
    obtain ⟨k, hk, rfl, hon, hbw⟩ := hrel
    have HON := Lib.hid hon
    have HBW := Lib.hid hbw
    clear hon hbw
    generalize wr = W1 at *
    by_cases hlt : k < l.length
    rotate_left
    · obtain rfl : k = l.length := by omega
      clear hlt hk
      go_wp2
      go_ret
      exact ⟨_, rfl, HON.out, HBW.out⟩
    have HK := Lib.hid hlt
    obtain ⟨b1, o1, pa, pc, ha, hn1, hl1, hr1⟩ := nrowB_at H.out k _ (nodAt_is hlt)
    subst ha
    have HR0 := Lib.hid hr1
    have HN1 := Lib.hid (hn1.below hl1 HBW.out)
    have HB1 := Lib.hid (Nat.lt_of_lt_of_le hl1 HBW.out.size)
    have HS1 := Lib.hid (HS.out _ (nodAt_mem hlt))
    have HNX := Lib.hid (frontN_succ l k)
    have HKA := Lib.hid (keepsB_all (l := l) (k := k))
    have HKS := Lib.hid (fun m => keepsB_succ (l := l) (k := k) (m := m))
    have HK0 := Lib.hid (show keepsB l k 0 = true from decide_eq_true (fun i hi => absurd hi (Nat.not_lt_zero _)))
    have HBT := Lib.hid (fun m => show decide (Beats l m k) = (!decide (m = k) && (decide (Than (nodAt l m) (nodAt l k)) && (decide (m < k) || !decide (Than (nodAt l k) (nodAt l m))))) by
      rw [Bool.eq_iff_iff]
      simp only [decide_eq_true_eq, Bool.and_eq_true, Bool.or_eq_true, Bool.not_eq_true', decide_eq_false_iff_not]
      rfl)
    have hki : (k : Int) < (l.length : Int) := by omega
    have hk2 : IntKind.i64.wrap ((k : Int) + 1) = (k : Int) + 1 := IntWalk.i64_in _ (by omega)
    have HFL := Lib.hid (front_len l k)
    obtain ⟨ua, uc, rfl⟩ := HON.out.shape
    obtain ⟨ul, hul⟩ : ∃ ul, (frontN l k).length = ul := ⟨_, rfl⟩
    rw [hul]
    have HUL := Lib.hid hul
    rw [hul] at HON
    clear hn1 hl1 hr1 hk hlt hul
    generalize keepsB l k = F at *
    obtain ⟨n, hn⟩ : ∃ n, nodAt l k = n := ⟨_, rfl⟩
    rw [hn] at HN1 HR0 HS1 HNX HBT
    have HNN := Lib.hid hn
    clear hn
    go_wp2_with fail
    go_loopw [5, 6] (fun lf j wq => ∃ m : Nat, m ≤ l.length ∧ j = .int .i64 m ∧ lf = .bool (F m) ∧ Below W1.heap.size W1 wq) (fun _ j _ => l.length - (intOf j).toNat)
    case atStart => exact ⟨0, Nat.zero_le _, rfl, by rw [HK0.out], Below.refl _ _⟩
    case round =>
      obtain ⟨m, hm, rfl, rfl, hbq⟩ := hrel
      by_cases hlt : m < l.length
      · have HQ := Lib.hid hbq
        have HM := Lib.hid hlt
        obtain ⟨qa, qc, hn2, hl2, hr2⟩ := nrowB_here (H.out.below HBW.out) m _ (nodAt_is hlt)
        have HN2 := Lib.hid hn2
        have HS2 := Lib.hid (HS.out _ (nodAt_mem hlt))
        have hbt := HBT.out m
        have hks := HKS.out m
        have hmi : (m : Int) < (l.length : Int) := by omega
        have hm2 : IntKind.i64.wrap ((m : Int) + 1) = (m : Int) + 1 := IntWalk.i64_in _ (by omega)
        clear hn2 hl2 hr2 hbq
        obtain ⟨y, hy⟩ : ∃ y, nodAt l m = y := ⟨_, rfl⟩
        rw [hy] at HN2 HS2 hbt
        obtain ⟨t1, ht1⟩ : ∃ t, decide (Than y n) = t := ⟨_, rfl⟩
        obtain ⟨t2, ht2⟩ : ∃ t, decide (Than n y) = t := ⟨_, rfl⟩
        rw [ht1, ht2] at hbt
        obtain ⟨lf, hlf⟩ : ∃ b, F m = b := ⟨_, rfl⟩
        rw [hlf, hbt] at hks
        rw [hlf]
        have HKS2 := Lib.hid hks
        have HT1 := Lib.hid ht1
        have HT2 := Lib.hid ht2
        clear hbt hks hy ht1 ht2 hlf hm hlt
        obtain ⟨WC, hWC⟩ : ∃ W, wr = W := ⟨_, rfl⟩
        rw [hWC] at HQ ⊢
        clear hWC
        go_upto_region 9 with fail
        go_cut [7] from 21 to 53 (fun p wx => p = .bool t1 ∧ Below W1.heap.size W1 wx)
        case first =>
          have HQD := Lib.hid HQ.out.drew
          have HS0 := Lib.hid (show Holds (cellsRN b1 (o1 + m * 10) y.s y.cost (.slice qa y.path.length qc) ++ cellsRN b1 (o1 + k * 10) n.s n.cost (.slice pa n.path.length pc)) WC.drew from Holds.app.2 ⟨(holds_RN (HN2.out.below HB1.out HQD.out)), (holds_RN (HN1.out.below HB1.out HQD.out))⟩)
          have hlt := Lib.hid (show Lows WC.drew.heap.size (cellsRN b1 (o1 + m * 10) y.s y.cost (.slice qa y.path.length qc) ++ cellsRN b1 (o1 + k * 10) n.s n.cost (.slice pa n.path.length pc)) from Lows.app (lows_RN (Nat.lt_of_lt_of_le HB1.out HQ.out.size)) (lows_RN (Nat.lt_of_lt_of_le HB1.out HQ.out.size)))
          refine wp_region_held_drew (S := Holds (cellsRN b1 (o1 + m * 10) y.s y.cost (.slice qa y.path.length qc) ++ cellsRN b1 (o1 + k * 10) n.s n.cost (.slice pa n.path.length pc))) (by kernel_rfl) HS0.out (fun hSn => ?_)
          generalize WC.drew = V at *
          have Bc := Lib.hid (Below.refl V.heap.size V)
          simp only [cellsRN, List.cons_append, List.nil_append] at HS0 hlt hSn ⊢
          refine tks [0, 1, 2, 3, 4, 5, 6, 7] 8 rfl (by kernel_rfl) (fun _ _ _ _ h => h) (by assumption) (fun KT hKT => ?_)
          iterate 8 (refine tkT (by (simp only [gA, gB, gC]; rfl)) (by rfl) (by (intro w hSw; (simp only [Holds] at hSw); go_simp <;> with_reducible rfl)) ?_; simp only [Act.put, pA, pB, pC])
          refine hKT _ ?_
          clear KT hKT
          refine wpAnyH_ready (rs := [8]) (by kernel_rfl) (by simp) ?_
          refine AllReadyH.cons (o := ?oz2) ?iz2 (fun K hK => ?kz2) AllReadyH.nil
          case iz2 => (simp only [List.getElem?_toArray, List.getElem?_cons_zero, List.getElem?_cons_succ]; rfl)
          go_simp
          change Calls _ _ #[nodeV y.s y.cost _, nodeV n.s n.cost _] _ _
          refine (dthan_any (a := y) (b := n) _ HS2.out HS1.out).mono ?_
          rintro e w' ⟨rfl, hb⟩
          refine held_more hK HS0.out hlt (Bc.out.trans (hb.mono Bc.out.size)) (fun Bc hSn => ?_)
          clear hb hK
          refine tks [9] 1 rfl (by kernel_rfl) (fun _ _ _ _ h => h) (by assumption) (fun KT hKT => ?_)
          refine tkT (by (simp only [gA, gB, gC]; rfl)) (by rfl) (by (intro w hSw; (simp only [Holds] at hSw); go_simp <;> with_reducible rfl)) ?_
          simp only [Act.put, pA, pB, pC]
          refine hKT _ ?_
          clear KT hKT
          refine wpAnyH_done (by kernel_rfl) ?_ _
          go_wp2_with fail
          go_meet
          exact ⟨by rw [HT1.out], HQD.out.trans (Bc.out.mono HQD.out.size)⟩
        case rest =>
        obtain ⟨rfl, hbx⟩ := hcut
        have HQ2 := Lib.hid hbx
        clear hbx HQ
        have HQ := HQ2
        clear HQ2
        generalize wc = WC at *
        go_upto_region 10 with fail
        go_cut [8] from 30 to 53 (fun p wx => p = .bool t2 ∧ Below W1.heap.size W1 wx)
        case first =>
          have HQD := Lib.hid HQ.out.drew
          have HS0 := Lib.hid (show Holds (cellsRN b1 (o1 + k * 10) n.s n.cost (.slice pa n.path.length pc) ++ cellsRN b1 (o1 + m * 10) y.s y.cost (.slice qa y.path.length qc)) WC.drew from Holds.app.2 ⟨(holds_RN (HN1.out.below HB1.out HQD.out)), (holds_RN (HN2.out.below HB1.out HQD.out))⟩)
          have hlt := Lib.hid (show Lows WC.drew.heap.size (cellsRN b1 (o1 + k * 10) n.s n.cost (.slice pa n.path.length pc) ++ cellsRN b1 (o1 + m * 10) y.s y.cost (.slice qa y.path.length qc)) from Lows.app (lows_RN (Nat.lt_of_lt_of_le HB1.out HQ.out.size)) (lows_RN (Nat.lt_of_lt_of_le HB1.out HQ.out.size)))
          refine wp_region_held_drew (S := Holds (cellsRN b1 (o1 + k * 10) n.s n.cost (.slice pa n.path.length pc) ++ cellsRN b1 (o1 + m * 10) y.s y.cost (.slice qa y.path.length qc))) (by kernel_rfl) HS0.out (fun hSn => ?_)
          generalize WC.drew = V at *
          have Bc := Lib.hid (Below.refl V.heap.size V)
          simp only [cellsRN, List.cons_append, List.nil_append] at HS0 hlt hSn ⊢
          refine tks [0, 1, 2, 3, 4, 5, 6, 7] 8 rfl (by kernel_rfl) (fun _ _ _ _ h => h) (by assumption) (fun KT hKT => ?_)
          iterate 8 (refine tkT (by (simp only [gA, gB, gC]; rfl)) (by rfl) (by (intro w hSw; (simp only [Holds] at hSw); go_simp <;> with_reducible rfl)) ?_; simp only [Act.put, pA, pB, pC])
          refine hKT _ ?_
          clear KT hKT
          refine wpAnyH_ready (rs := [8]) (by kernel_rfl) (by simp) ?_
          refine AllReadyH.cons (o := ?oz3) ?iz3 (fun K hK => ?kz3) AllReadyH.nil
          case iz3 => (simp only [List.getElem?_toArray, List.getElem?_cons_zero, List.getElem?_cons_succ]; rfl)
          go_simp
          change Calls _ _ #[nodeV n.s n.cost _, nodeV y.s y.cost _] _ _
          refine (dthan_any (a := n) (b := y) _ HS1.out HS2.out).mono ?_
          rintro e w' ⟨rfl, hb⟩
          refine held_more hK HS0.out hlt (Bc.out.trans (hb.mono Bc.out.size)) (fun Bc hSn => ?_)
          clear hb hK
          refine tks [9] 1 rfl (by kernel_rfl) (fun _ _ _ _ h => h) (by assumption) (fun KT hKT => ?_)
          refine tkT (by (simp only [gA, gB, gC]; rfl)) (by rfl) (by (intro w hSw; (simp only [Holds] at hSw); go_simp <;> with_reducible rfl)) ?_
          simp only [Act.put, pA, pB, pC]
          refine hKT _ ?_
          clear KT hKT
          refine wpAnyH_done (by kernel_rfl) ?_ _
          go_wp2_with fail
          go_meet
          exact ⟨by rw [HT2.out], HQD.out.trans (Bc.out.mono HQD.out.size)⟩
        case rest =>
        obtain ⟨rfl, hbx⟩ := hcut
        have HQ2 := Lib.hid hbx
        clear hbx HQ
        have HQ := HQ2
        clear HQ2
        generalize wc = WC at *
        have rel : ∀ b, F (m + 1) = b → ∃ m' : Nat, m' ≤ l.length ∧ Value.int .i64 ((m : Int) + 1) = .int .i64 m' ∧ Value.bool b = .bool (F m') ∧ Below W1.heap.size W1 WC := fun b hb => ⟨m + 1, by have := HM.out; omega, by go_num, by rw [hb], HQ.out⟩
        have HREL := Lib.hid rel
        clear rel
        by_cases e1 : m = k
        · have b1 : ((m : Int) != (k : Int)) = false := by simp; omega
          have HF := Lib.hid (show F (m + 1) = lf by rw [HKS2.out, decide_eq_true e1]; simp)
          clear e1
          go_wp2_with fail
          go_roundw
          case rel => exact HREL.out _ HF.out
          case measure => have := HM.out; simp [intOf]; omega
        have b1 : ((m : Int) != (k : Int)) = true := by simp; omega
        have E1 := Lib.hid (decide_eq_false e1)
        clear e1
        cases t1 with
        | false =>
          have HF := Lib.hid (show F (m + 1) = lf by rw [HKS2.out, E1.out]; simp)
          go_wp2_with fail
          go_roundw
          case rel => exact HREL.out _ HF.out
          case measure => have := HM.out; simp [intOf]; omega
        | true =>
          by_cases e2 : m < k
          · have b2 : decide ((m : Int) < (k : Int)) = true := decide_eq_true (by omega)
            have b3 := decide_eq_true e2
            have HF := Lib.hid (show F (m + 1) = false by rw [HKS2.out, E1.out, b3]; simp)
            clear e2
            go_wp2_with fail
            go_roundw
            case rel => exact HREL.out _ HF.out
            case measure => have := HM.out; simp [intOf]; omega
          have b2 : decide ((m : Int) < (k : Int)) = false := decide_eq_false (by omega)
          have b3 := decide_eq_false e2
          have hle : k ≤ m := by omega
          have E2 := Lib.hid b3
          clear e2
          cases t2 with
          | false =>
            have HF := Lib.hid (show F (m + 1) = false by rw [HKS2.out, E1.out, E2.out]; simp)
            go_wp2_with fail
            go_roundw
            case rel => exact HREL.out _ HF.out
            case measure => have := HM.out; simp [intOf]; omega
          | true =>
            have HF := Lib.hid (show F (m + 1) = lf by rw [HKS2.out, E1.out, E2.out]; simp)
            go_wp2_with fail
            go_roundw
            case rel => exact HREL.out _ HF.out
            case measure => have := HM.out; simp [intOf]; omega
      · obtain rfl : m = l.length := by omega
        have HQ := Lib.hid hbq
        clear hm hlt hbq
        rw [HKA.out]
        have hnx := HNX.out
        by_cases hst : Stays l k
        · rw [decide_eq_true hst]
          rw [if_pos hst] at hnx
          have HNX2 := Lib.hid hnx
          clear hst hnx
          have HBQ := Lib.hid (HBW.out.trans (HQ.out.mono HBW.out.size))
          have HOQ := Lib.hid (HON.out.below HQ.out)
          obtain ⟨c0, c1, c2, c3, c4, c5, c6, c7, c8, c9⟩ := HN1.out.below HB1.out HQ.out
          clear HON HQ HNX
          go_wp2_with (at_builtin; refine app_nodes Try.underlying28 rfl _ _ rfl w.heap.size _ (frontN l k) rfl (HOQ.out.below ((Below.refl _ _).alloc (Nat.le_refl _) _)) _ rfl [⟨n.s, n.cost, pa, n.path.length, pc⟩] [n] (nrow_one (heap_alloc_new _ _)) ⟨⟨rfl, rfl, HR0.out.below (HBQ.out.alloc HBQ.out.size _)⟩, trivial⟩ (by have := HFL.out; have := HK.out; have := HLE.out; simp only [List.length_cons, List.length_nil]; omega) (HBQ.out.alloc HBQ.out.size _).size HW0.out.size (HW0.out.trans ((HBQ.out.alloc HBQ.out.size _).mono HW0.out.size)) ?_; intro v1 w1 o1 b1' b2' g1)
          go_roundw
          case rel => exact ⟨k + 1, by have := HK.out; omega, by go_num, by rw [HNX2.out]; exact o1, (HBQ.out.alloc HBQ.out.size _).trans b2'⟩
          case measure => have := HK.out; simp [intOf]; omega
        · rw [decide_eq_false hst]
          rw [if_neg hst] at hnx
          have HNX2 := Lib.hid hnx
          clear hst hnx
          go_wp2_with fail
          go_roundw
          case rel => exact ⟨k + 1, by have := HK.out; omega, by go_num, by rw [HNX2.out]; exact HON.out.below HQ.out, HBW.out.trans (HQ.out.mono HBW.out.size)⟩
          case measure => have := HK.out; simp [intOf]; omega
end Go.Proofs.Ytofapalakpkkpaa
