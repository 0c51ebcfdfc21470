/- Nodes by what they cost at least: the document's answer. -/
import Derived.Test.YtkljmnfekdoocaaGreatGThan
import Derived.Test.YtkljmnfekdoocaaGreatXN
import Derived.Test.YtkljmnfekdoocaaGreatXB
import Derived.Test.YtkljmnfekdoocaaGreatXR3
import Derived.Test.YtkljmnfekdoocaaGreatDBOf
namespace Go.Proofs.YtkljmnfekdoocaaGreat
open Go.ChangeShapes Go.WideShapes Go.ChangeAt Go.RowKit

/-- Where one is put in, told from the back. -/
theorem ins_at {f : Nod → Int} {O : List Nod} (ho : OrdG f O) {x : Nod} {q : Nat} (hq : q ≤ O.length) (h1 : ∀ i, q ≤ i → i < O.length → f x < f (nodAt O i)) (h2 : q = 0 ∨ ¬ f x < f (nodAt O (q - 1))) : insG f x O = O.take q ++ [x] ++ O.drop q := by
  obtain ⟨a, b, rfl, he, ha, hb⟩ := insG_split (f := f) x ho
  have hab : (a ++ b).length = a.length + b.length := List.length_append
  have e : q = a.length := by
    rcases Nat.lt_trichotomy q a.length with h | h | h
    · have h3 := h1 q (Nat.le_refl _) (by omega)
      rw [nodAt_left h] at h3
      have := ha _ (nodAt_mem h)
      omega
    · exact h
    · rcases h2 with h2 | h2
      · omega
      · exfalso
        obtain ⟨i, hi⟩ : ∃ i, q - 1 = a.length + i := ⟨q - 1 - a.length, by omega⟩
        rw [hi, nodAt_right] at h2
        exact h2 (hb _ (nodAt_mem (by omega)))
  subst e
  rw [he, List.take_left, List.drop_left, List.append_assoc]; rfl
theorem sort_take {f : Nod → Int} {l : List Nod} {k : Nat} (hk : k < l.length) : sortG f (l.take (k + 1)) = insG f (nodAt l k) (sortG f (l.take k)) := by
  rw [List.take_succ_eq_append_getElem hk, sortG_snoc]
  unfold nodAt
  rw [List.getD_eq_getElem?_getD, List.getElem?_eq_getElem hk]; rfl
set_option maxRecDepth 1000000 in
set_option maxHeartbeats 4000000 in
theorem dnsorted_any {w0 w : World} {v u : Value} {I : Ins} {l : List Nod} (hi : SRow w v I.l) (h : NRowB w0 w u l) (hb0 : Below w0.heap.size w0 w) (hs : ∀ n ∈ l, SetsOk n.s) (hlen : l.length ≤ 1000000) :
    Calls Tryz.prog 12 #[insV I v, u] w fun e w' => ∃ z, e = .returned z ∧ OwnN w0 w.heap.size w' z (sortedL I l) ∧ Below w.heap.size w w' := by
  have HR := Lib.hid hi
  have H := Lib.hid h
  have HW0 := Lib.hid hb0
  have HS := Lib.hid hs
  have HLE := Lib.hid hlen
  obtain ⟨ad, cap, rfl, _⟩ := hi.form
  obtain ⟨la, lc, rfl, hm, _⟩ := h.form
  have hlm : l.length ≤ 9223372036854775807 := by omega
  clear hi h hs hm hlen hb0
  unfold insV
  go_enter Tryz.func12, Tryz.ntmps12
  go_upto_region 1 with fail
  have HY0 := Lib.hid (ybox_new w I (.slice ad I.l.length cap))
  have HB0 := Lib.hid ((Below.refl w.heap.size w).alloc (Nat.le_refl _) (boxI I (.slice ad I.l.length cap)))
  change Code.wp _ _ _ _ (w.alloc (boxI I (.slice ad I.l.length cap)))
  generalize w.alloc (boxI I (.slice ad I.l.length cap)) = W at *
  go_wp2_with fail
  go_loopw [5, 6] (fun u i wr => ∃ k : Nat, k ≤ l.length ∧ i = .int .i64 k ∧ OwnN w0 w.heap.size wr u (sortG (ofB I) (l.take k)) ∧ YBox wr w.heap.size I (.slice ad I.l.length cap) ∧ Below w.heap.size w wr) (fun _ i _ => l.length - (intOf i).toNat)
  case atStart => exact ⟨0, Nat.zero_le _, rfl, ownN_nil _ _ _, HY0.out, HB0.out⟩
  case round =>
    obtain ⟨k, hk, rfl, hon, hy, hbw⟩ := hrel
    clear HY0 HB0
    have HON := Lib.hid hon
    have HY := Lib.hid hy
    have HBW := Lib.hid hbw
    clear hon hy hbw
    generalize wr = W1 at *
    by_cases hlt : k < l.length
    rotate_left
    · obtain rfl : k = l.length := by omega
      rw [List.take_length] at HON
      clear hlt hk
      go_wp2
      go_ret
      exact ⟨_, rfl, HON.out, HBW.out⟩
    have HK := Lib.hid hlt
    obtain ⟨b1, o1, pa, pc, ha, hn1, hl1, hr1⟩ := nrowB_at H.out k _ (nodAt_is hlt)
    subst ha
    have HN1 := Lib.hid hn1
    have HB1 := Lib.hid hl1
    have HR1 := Lib.hid hr1
    have HR1W := Lib.hid ((hr1.row HW0.out).below HBW.out)
    have HN1W := Lib.hid (hn1.below hl1 HBW.out)
    have HB1W := Lib.hid (Nat.lt_of_lt_of_le hl1 HBW.out.size)
    have HS1 := Lib.hid (HS.out _ (nodAt_mem hlt))
    have HST := Lib.hid (sort_take (f := ofB I) hlt)
    have HOR := Lib.hid (sortG_ord (ofB I) (l.take k))
    have HOL := Lib.hid (show (sortG (ofB I) (l.take k)).length = k by rw [(sortG_perm (ofB I) _).length_eq, List.length_take]; omega)
    have HOS := Lib.hid (fun n (hn : n ∈ sortG (ofB I) (l.take k)) => HS.out n (List.mem_of_mem_take ((sortG_perm (ofB I) _).mem_iff.1 hn)))
    have hki : (k : Int) < (l.length : Int) := by omega
    have hk2 : IntKind.i64.wrap ((k : Int) + 1) = (k : Int) + 1 := IntWalk.i64_in _ (by omega)
    obtain ⟨O, hO⟩ : ∃ O, sortG (ofB I) (l.take k) = O := ⟨_, rfl⟩
    rw [hO] at HON HST HOR HOL HOS
    obtain ⟨n, hn⟩ : ∃ n, nodAt l k = n := ⟨_, rfl⟩
    rw [hn] at HN1 HR1 HR1W HN1W HS1 HST
    obtain ⟨nv, hnv⟩ : ∃ nv, ofB I n = nv := ⟨_, rfl⟩
    have HNV := Lib.hid hnv
    clear hn1 hl1 hr1 hk hlt hO hn hnv
    obtain ⟨ua, uc, rfl⟩ := HON.out.shape
    have hol : O.length ≤ 9223372036854775807 := by have := HOL.out; have := HK.out; omega
    go_upto_region 5 with fail
    go_cut [7] from 16 to 55 (fun p wx => p = .int .i64 nv ∧ Below W1.heap.size W1 wx)
    case first =>
      have HQ := Lib.hid (Below.refl W1.heap.size W1)
      have HS0 := Lib.hid (show Holds (cellsI w.heap.size I (.slice ad I.l.length cap) ++ cellsRN b1 (o1 + k * 10) n.s n.cost (.slice pa n.path.length pc)) W1.drew from Holds.app.2 ⟨⟨HY.out.cells.1, HY.out.cells.2.1, HY.out.cells.2.2.1, HY.out.cells.2.2.2, trivial⟩, (holds_RN HN1W.out)⟩)
      have hlt := Lib.hid (show Lows W1.drew.heap.size (cellsI w.heap.size I (.slice ad I.l.length cap) ++ cellsRN b1 (o1 + k * 10) n.s n.cost (.slice pa n.path.length pc)) from Lows.app (show Lows _ (cellsI w.heap.size I (.slice ad I.l.length cap)) from ⟨HY.out.lt, HY.out.lt, HY.out.lt, HY.out.lt, trivial⟩) (lows_RN HB1W.out))
      refine wp_region_held_drew (S := Holds (cellsI w.heap.size I (.slice ad I.l.length cap) ++ cellsRN b1 (o1 + k * 10) n.s n.cost (.slice pa n.path.length pc))) (by kernel_rfl) HS0.out (fun hSn => ?_)
      have HQD := Lib.hid HQ.out.drew
      generalize W1.drew = V at *
      have Bc := Lib.hid (Below.refl V.heap.size V)
      simp only [cellsI, cellsRN, List.cons_append, List.nil_append] at HS0 hlt hSn ⊢
      refine tks [0, 1, 2, 3, 4] 5 rfl (by kernel_rfl) (fun _ _ _ _ h => h) (by assumption) (fun KT hKT => ?_)
      iterate 5 (refine tkT (by (simp only [gA, gB, gC]; rfl)) (by rfl) (by (intro w hSw; (simp only [Holds] at hSw); go_simp <;> with_reducible rfl)) ?_; simp only [Act.put, pA, pB, pC])
      refine hKT _ ?_
      clear KT hKT
      refine wpAnyH_ready (rs := [5]) (by kernel_rfl) (by simp) ?_
      refine AllReadyH.cons (o := ?oz130) ?iz130 (fun K hK => ?kz130) AllReadyH.nil
      case iz130 => (simp only [List.getElem?_toArray, List.getElem?_cons_zero, List.getElem?_cons_succ]; rfl)
      go_simp
      change Calls _ _ #[insV I (.slice ad I.l.length cap), nodeV n.s n.cost (.slice pa n.path.length pc)] _ _
      have BCUR := Lib.hid (HQD.out.trans (Bc.out.mono HQD.out.size))
      refine (dbof_any (I := I) (HR.out.below (HBW.out.trans (BCUR.out.mono HBW.out.size))) HS1.out (HR1W.out.below BCUR.out)).mono ?_
      clear BCUR
      rw [show sumOf [n.cost, boundS I n.s] = ofB I n from rfl, HNV.out]
      rintro e w' ⟨rfl, hb⟩
      refine held_more hK HS0.out hlt (Bc.out.trans (hb.mono Bc.out.size)) (fun Bc hSn => ?_)
      clear hb hK
      refine tks [6] 1 rfl (by kernel_rfl) (fun _ _ _ _ h => h) (by assumption) (fun KT hKT => ?_)
      refine tkT (by (simp only [gA, gB, gC]; rfl)) (by rfl) (by (intro w hSw; (simp only [Holds] at hSw); go_simp <;> with_reducible rfl)) ?_
      simp only [Act.put, pA, pB, pC]
      refine hKT _ ?_
      clear KT hKT
      refine wpAnyH_done (by kernel_rfl) ?_ _
      go_wp2_with fail
      go_meet
      exact ⟨rfl, HQD.out.trans (Bc.out.mono HQD.out.size)⟩
    case rest =>
    obtain ⟨rfl, hbx⟩ := hcut
    have HX := Lib.hid hbx
    clear hbx
    generalize wc = W6 at *
    go_wp2_with fail
    go_loopw [8] (fun a wq => ∃ q : Nat, q ≤ O.length ∧ a = .int .i64 q ∧ (∀ i, q ≤ i → i < O.length → nv < ofB I (nodAt O i)) ∧ Below W1.heap.size W1 wq) (fun a _ => (intOf a).toNat)
    case atStart => exact ⟨O.length, Nat.le_refl _, rfl, fun i h1 h2 => absurd h2 (by omega), HX.out⟩
    case round =>
      obtain ⟨q, hq, rfl, hall, hbq⟩ := hrel
      have HQ := Lib.hid hbq
      have HALL := Lib.hid hall
      have HQL := Lib.hid hq
      clear hbq hall HX
      obtain ⟨WC, hWC⟩ : ∃ W, wr = W := ⟨_, rfl⟩
      rw [hWC] at HQ ⊢
      clear hWC
      have HBQ := Lib.hid (HBW.out.trans (HQ.out.mono HBW.out.size))
      have HYQ := Lib.hid (HY.out.later HQ.out)
      have hq2 : IntKind.i64.wrap ((q : Int) - 1) = (q : Int) - 1 := IntWalk.i64_in _ (by have := HOL.out; have := HK.out; omega)
      go_upto_region 7 with fail
      go_cut [36] from 24 to 38 (fun g wx => g = .bool (decide (0 < q ∧ nv < ofB I (nodAt O (q - 1)))) ∧ Below W1.heap.size W1 wx)
      case first =>
        by_cases h0 : q = 0
        · have d1 : decide ((0 : Int) < (q : Int)) = false := decide_eq_false (by omega)
          have d2 : decide (0 < q) = false := decide_eq_false (by omega)
          have d3 : ¬ 0 < q := by omega
          have HF := Lib.hid (show decide (0 < q ∧ nv < ofB I (nodAt O (q - 1))) = false from decide_eq_false (fun h => by omega))
          clear h0
          have HS0 := Lib.hid (show Holds ((cellsI w.heap.size I (.slice ad I.l.length cap))) WC.drew from ⟨HYQ.out.cells.1, HYQ.out.cells.2.1, HYQ.out.cells.2.2.1, HYQ.out.cells.2.2.2, trivial⟩)
          have hlt := Lib.hid (show Lows WC.drew.heap.size ((cellsI w.heap.size I (.slice ad I.l.length cap))) from ⟨HYQ.out.lt, HYQ.out.lt, HYQ.out.lt, HYQ.out.lt, trivial⟩)
          refine wp_region_held_drew (S := Holds ((cellsI w.heap.size I (.slice ad I.l.length cap)))) (by kernel_rfl) HS0.out (fun hSn => ?_)
          have HQD := Lib.hid HQ.out.drew
          generalize WC.drew = V at *
          have Bc := Lib.hid (Below.refl V.heap.size V)
          simp only [cellsI] at HS0 hlt hSn ⊢
          refine tks [0, 1, 2] 3 rfl (by kernel_rfl) (fun _ _ _ _ h => h) (by assumption) (fun KT hKT => ?_)
          iterate 3 (refine tkT (by (simp only [gA, gB, gC]; rfl)) (by rfl) (by (intro w hSw; (simp only [Holds] at hSw); go_simp <;> with_reducible rfl)) ?_; simp only [Act.put, pA, pB, pC])
          refine hKT _ ?_
          clear KT hKT
          refine tks [3, 4, 5, 6, 7, 8, 9, 10, 11] 9 rfl (by kernel_rfl) (fun _ _ _ _ h => h) (by assumption) (fun KT hKT => ?_)
          iterate 9 (refine tkS (by (simp only [gA, gB, gC]; rfl)) (by rfl) ?_; simp only [Act.put, pA, pB, pC])
          refine hKT _ ?_
          clear KT hKT
          refine tks [12] 1 rfl (by kernel_rfl) (fun _ _ _ _ h => h) (by assumption) (fun KT hKT => ?_)
          refine tkT (by (simp only [gA, gB, gC]; rfl)) (by rfl) (by (intro w hSw; (simp only [Holds] at hSw); go_simp <;> with_reducible rfl)) ?_
          simp only [Act.put, pA, pB, pC]
          refine hKT _ ?_
          clear KT hKT
          refine wpAnyH_done (by kernel_rfl) ?_ _
          go_wp2_with fail
          go_meet
          exact ⟨by rw [HF.out], HQD.out.trans (Bc.out.mono HQD.out.size)⟩
        · have d1 : decide ((0 : Int) < (q : Int)) = true := decide_eq_true (by omega)
          have d2 : decide (0 < q) = true := decide_eq_true (by omega)
          have d3 : 0 < q := by omega
          have HP := Lib.hid (show q - 1 < O.length by have := HQL.out; omega)
          obtain ⟨b2, o2, qa, qc, ha, hn2, hl2, hr2⟩ := nrowB_at (HON.out.below HQ.out).rowB (q - 1) _ (nodAt_is HP.out)
          subst ha
          have HN2 := Lib.hid hn2
          have HB2 := Lib.hid hl2
          have HR2 := Lib.hid (hr2.row (HW0.out.trans (HBQ.out.mono HW0.out.size)))
          have HS2 := Lib.hid (HOS.out _ (nodAt_mem HP.out))
          have i1 : (q : Int) - 1 < (O.length : Int) := by have := HQL.out; omega
          have i2 : (0 : Int) ≤ (q : Int) - 1 := by omega
          have i4 : (1 : Int) ≤ (q : Int) := by omega
          have i5 : 1 ≤ q := by omega
          have i3 : ((q : Int) - 1).toNat = q - 1 := by omega
          obtain ⟨y, hy⟩ : ∃ y, nodAt O (q - 1) = y := ⟨_, rfl⟩
          rw [hy] at HN2 HR2 HS2
          obtain ⟨yv, hyv⟩ : ∃ yv, ofB I y = yv := ⟨_, rfl⟩
          have HYV := Lib.hid hyv
          have HF := Lib.hid (show decide (0 < q ∧ nv < ofB I (nodAt O (q - 1))) = decide (nv < yv) by
            rw [hy, hyv, Bool.eq_iff_iff]; simp [d3])
          clear hn2 hl2 hr2 hy hyv h0
          have HS0 := Lib.hid (show Holds (cellsI w.heap.size I (.slice ad I.l.length cap) ++ cellsRN b2 (o2 + (q - 1) * 10) y.s y.cost (.slice qa y.path.length qc)) WC.drew from Holds.app.2 ⟨⟨HYQ.out.cells.1, HYQ.out.cells.2.1, HYQ.out.cells.2.2.1, HYQ.out.cells.2.2.2, trivial⟩, (holds_RN HN2.out)⟩)
          have hlt := Lib.hid (show Lows WC.drew.heap.size (cellsI w.heap.size I (.slice ad I.l.length cap) ++ cellsRN b2 (o2 + (q - 1) * 10) y.s y.cost (.slice qa y.path.length qc)) from Lows.app (show Lows _ (cellsI w.heap.size I (.slice ad I.l.length cap)) from ⟨HYQ.out.lt, HYQ.out.lt, HYQ.out.lt, HYQ.out.lt, trivial⟩) (lows_RN HB2.out))
          refine wp_region_held_drew (S := Holds (cellsI w.heap.size I (.slice ad I.l.length cap) ++ cellsRN b2 (o2 + (q - 1) * 10) y.s y.cost (.slice qa y.path.length qc))) (by kernel_rfl) HS0.out (fun hSn => ?_)
          have HQD := Lib.hid HQ.out.drew
          have HR2V := Lib.hid (HR2.out.below (Below.refl _ _).drew)
          generalize WC.drew = V at *
          have Bc := Lib.hid (Below.refl V.heap.size V)
          simp only [cellsI, cellsRN, List.cons_append, List.nil_append] at HS0 hlt hSn ⊢
          refine tks [0, 1, 2, 3, 4, 5, 6, 7, 8, 10] 10 rfl (by kernel_rfl) (fun _ _ _ _ h => h) (by assumption) (fun KT hKT => ?_)
          iterate 10 (refine tkT (by (simp only [gA, gB, gC]; rfl)) (by rfl) (by (intro w hSw; (simp only [Holds] at hSw); go_simp <;> with_reducible rfl)) ?_; simp only [Act.put, pA, pB, pC])
          refine hKT _ ?_
          clear KT hKT
          refine wpAnyH_ready (rs := [9]) (by kernel_rfl) (by simp) ?_
          refine AllReadyH.cons (o := ?oz131) ?iz131 (fun K hK => ?kz131) AllReadyH.nil
          case iz131 => (simp only [List.getElem?_toArray, List.getElem?_cons_zero, List.getElem?_cons_succ]; rfl)
          go_simp
          change Calls _ _ #[insV I (.slice ad I.l.length cap), nodeV y.s y.cost (.slice qa y.path.length qc)] _ _
          have BCUR := Lib.hid (HQD.out.trans (Bc.out.mono HQD.out.size))
          refine (dbof_any (I := I) (HR.out.below (HBW.out.trans (BCUR.out.mono HBW.out.size))) HS2.out (HR2V.out.below Bc.out)).mono ?_
          clear BCUR
          rw [show sumOf [y.cost, boundS I y.s] = ofB I y from rfl, HYV.out]
          rintro e w' ⟨rfl, hb⟩
          refine held_more hK HS0.out hlt (Bc.out.trans (hb.mono Bc.out.size)) (fun Bc hSn => ?_)
          clear hb hK
          refine tks [11, 12] 2 rfl (by kernel_rfl) (fun _ _ _ _ h => h) (by assumption) (fun KT hKT => ?_)
          iterate 2 (refine tkT (by (simp only [gA, gB, gC]; rfl)) (by rfl) (by (intro w hSw; (simp only [Holds] at hSw); go_simp <;> with_reducible rfl)) ?_; simp only [Act.put, pA, pB, pC])
          refine hKT _ ?_
          clear KT hKT
          refine wpAnyH_done (by kernel_rfl) ?_ _
          go_wp2_with fail
          go_meet
          exact ⟨by rw [HF.out], HQD.out.trans (Bc.out.mono HQD.out.size)⟩
      case rest =>
      obtain ⟨rfl, hbx⟩ := hcut
      have HX := Lib.hid hbx
      clear hbx HQ HBQ HYQ
      generalize wc = WC at *
      by_cases hc : 0 < q ∧ nv < ofB I (nodAt O (q - 1))
      · rw [decide_eq_true hc]
        have HC := Lib.hid hc
        clear hc
        go_wp2_with fail
        go_roundw
        case rel => exact ⟨q - 1, by have := HQL.out; omega, by have := HC.out.1; congr 1; omega, fun i h1 h2 => by
          by_cases e : i = q - 1
          · rw [e]; exact HC.out.2
          · exact HALL.out i (by omega) h2, HX.out⟩
        case measure => have := HC.out.1; simp [intOf]; omega
      · rw [decide_eq_false hc]
        have HINS := Lib.hid (show sortG (ofB I) (l.take (k + 1)) = O.take q ++ [n] ++ O.drop q by
          rw [HST.out]
          refine ins_at HOR.out HQL.out (by rw [HNV.out]; exact HALL.out) ?_
          rw [HNV.out]
          by_cases h0 : q = 0
          · exact .inl h0
          · exact .inr (fun h => hc ⟨by omega, h⟩))
        clear hc
        have HBX := Lib.hid (HBW.out.trans (HX.out.mono HBW.out.size))
        obtain ⟨raw, r1, r2⟩ := HON.out.below HX.out
        have HG := Lib.hid (OwnG.row encNod r1)
        have HI := Lib.hid r2
        have HRL := Lib.hid r2.len
        have HQR := Lib.hid (show q ≤ raw.length by rw [r2.len]; exact HQL.out)
        have hq3 : (q : Int) ≤ (O.length : Int) := by have := HQL.out; omega
        have HRD := Lib.hid (show uc ≠ q → GRow nvL 10 WC (.slice (ua.map (fun a => a.add (q * 10))) (raw.length - q) (uc - q)) (raw.drop q) from fun hne => by
          have hg0 := HG.out
          rw [← HRL.out] at hg0
          refine hg0.rest q HQR.out _ (fun b off e => ?_) (fun e => ?_)
          · rw [if_neg hne, e]
            show some (Addr.add _ _) = _
            rw [Addr.add_mid]
          · obtain ⟨_, a', c', hv, _, hc2, _⟩ := HG.out
            simp only [Value.slice.injEq] at hv
            obtain ⟨rfl, _, rfl⟩ := hv
            cases ua with
            | none => rw [hc2.2 rfl]; exact Nat.zero_le _
            | some x => cases e)
        have HRS := Lib.hid (show uc = q → GRow nvL 10 WC (.slice ua (raw.length - q) (uc - q)) (raw.drop q) from fun he => by
          have hg0 := HG.out
          rw [← HRL.out] at hg0
          refine hg0.rest q HQR.out _ (fun b off e => ?_) (fun _ => by omega)
          rw [if_pos he, e])
        have hqu : (q : Int) ≤ (uc : Int) := by
          obtain ⟨_, a', c', hv, hc, _⟩ := HG.out
          simp only [Value.slice.injEq] at hv
          obtain ⟨rfl, _, rfl⟩ := hv
          have := HQR.out
          omega
        have hqu2 : q ≤ uc := by omega
        have hq4 : q ≤ O.length := by omega
        have hq0 : (0 : Int) ≤ (q : Int) := by omega
        rw [HRL.out] at HRD HRS
        clear r1 r2 HST
        go_upto_region 9 with fail
        go_upto_region 10 with (at_builtin; refine app_nodes Tryz.underlying25 rfl _ _ rfl WC.heap.size (.slice none 0 0) [] rfl (ownN_nil w0 _ _) _ rfl (raw.take q) (O.take q) (HG.out.cut q HQR.out) (HI.out.take q) (by have := HOL.out; have := HK.out; have := HLE.out; have := HQL.out; simp only [List.length_nil, List.length_take]; omega) (Nat.le_refl _) (Nat.le_trans HW0.out.size HBX.out.size) (HW0.out.trans (HBX.out.mono HW0.out.size)) ?_; intro v1 w1 o1 b1' b2' g1)
        have HO1 := Lib.hid o1
        have HBA := Lib.hid (show Below w.heap.size w w1 from HBX.out.trans (b2'.mono HBX.out.size))
        have HBC := Lib.hid b2'
        clear o1 b1' b2' g1
        obtain ⟨c0, c1, c2, c3, c4, c5, c6, c7, c8, c9⟩ := HN1.out.below HB1.out HBA.out
        go_upto_region 11 with (at_builtin; refine app_nodes Tryz.underlying25 rfl _ _ rfl WC.heap.size _ (O.take q) rfl (HO1.out.below ((Below.refl _ _).alloc (Nat.le_refl _) _)) _ rfl [⟨n.s, n.cost, pa, n.path.length, pc⟩] [n] (nrow_one (heap_alloc_new _ _)) ⟨⟨rfl, rfl, HR1.out.below (HBA.out.alloc HBA.out.size _)⟩, trivial⟩ (by have := HOL.out; have := HK.out; have := HLE.out; have := HQL.out; simp only [List.length_take, List.length_cons, List.length_nil]; omega) (Nat.le_trans HBC.out.size (World.grownBy_alloc _ _ none).size) (Nat.le_trans HW0.out.size HBX.out.size) (HW0.out.trans ((HBA.out.alloc HBA.out.size _).mono HW0.out.size)) ?_; intro v2 w2 o2 b1' b2' g2)
        have HO2 := Lib.hid o2
        have HBC2 := Lib.hid (show Below WC.heap.size WC w2 from (HBC.out.alloc HBC.out.size _).trans b2')
        have HBA2 := Lib.hid (show Below w.heap.size w w2 from HBX.out.trans (HBC2.out.mono HBX.out.size))
        clear o2 b1' b2' g2 c0 c1 c2 c3 c4 c5 c6 c7 c8 c9 HO1 HBA HBC
        go_cut [9] from 50 to 55 (fun nx wx => OwnN w0 WC.heap.size wx nx (O.take q ++ [n] ++ O.drop q) ∧ Below w.heap.size w wx ∧ Below WC.heap.size WC wx)
        case first =>
          have HI2 := Lib.hid ((HI.out.mono (fun v l h => h.below HBC2.out)).drop q)
          by_cases hu : uc = q
          · have HG2 := Lib.hid (GRow.below encNod (HRS.out hu) HBC2.out)
            have hu2 := hu.symm
            clear hu
            subst hu2
            rw [Nat.sub_self] at HG2
            go_wp2_with (at_builtin; refine app_nodes Tryz.underlying25 rfl _ _ rfl WC.heap.size _ (O.take q ++ [n]) rfl HO2.out _ rfl (raw.drop q) (O.drop q) HG2.out HI2.out (by have := HOL.out; have := HK.out; have := HLE.out; have := HQL.out; simp only [List.length_append, List.length_take, List.length_cons, List.length_nil, List.length_drop]; omega) HBC2.out.size (Nat.le_trans HW0.out.size HBX.out.size) (HW0.out.trans (HBA2.out.mono HW0.out.size)) ?_; intro v3 w3 o3 b1' b2' g3)
            go_meet
            exact ⟨o3, HBX.out.trans ((HBC2.out.trans b2').mono HBX.out.size), HBC2.out.trans b2'⟩
          · have b1 := decide_eq_false hu
            have HG2 := Lib.hid (GRow.below encNod (HRD.out hu) HBC2.out)
            go_wp2_with (at_builtin; refine app_nodes Tryz.underlying25 rfl _ _ rfl WC.heap.size _ (O.take q ++ [n]) rfl HO2.out _ rfl (raw.drop q) (O.drop q) HG2.out HI2.out (by have := HOL.out; have := HK.out; have := HLE.out; have := HQL.out; simp only [List.length_append, List.length_take, List.length_cons, List.length_nil, List.length_drop]; omega) HBC2.out.size (Nat.le_trans HW0.out.size HBX.out.size) (HW0.out.trans (HBA2.out.mono HW0.out.size)) ?_; intro v3 w3 o3 b1' b2' g3)
            go_meet
            exact ⟨o3, HBX.out.trans ((HBC2.out.trans b2').mono HBX.out.size), HBC2.out.trans b2'⟩
        case rest =>
        obtain ⟨f1, f2, f3⟩ := hcut
        have HO3 := Lib.hid (f1.less HBX.out.size)
        have HB3 := Lib.hid f2
        have HY3 := Lib.hid ((HY.out.later HX.out).later f3)
        clear f1 f2 f3 HX HON HBX HO2
        go_wp2_with fail
        go_roundw
        case rel => exact ⟨k + 1, by have := HK.out; omega, by go_num, by rw [HINS.out]; exact HO3.out, HY3.out, HB3.out⟩
        case measure => have := HK.out; simp [intOf]; omega
end Go.Proofs.YtkljmnfekdoocaaGreat
