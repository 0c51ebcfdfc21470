/- Each node that level.Expand answers is behind one move of one of the nodes given, costs that more, has that path and may still cost less than the bound; and the best one is: haulierlaw14.LevelChildren answers true. Condition: none. -/
import Derived.Test.YtkljmnfekdoocaaRows
import Derived.Test.YtkljmnfekdoocaaLAwake
import Derived.Test.YtkljmnfekdoocaaXN
import Derived.Test.YtkljmnfekdoocaaGSame
import Derived.Test.YtkljmnfekdoocaaGThan
import Derived.Test.YtkljmnfekdoocaaXK
import Derived.Test.YtkljmnfekdoocaaSArgs
import Derived.Test.YtkljmnfekdoocaaBOf
import Derived.Test.YtkljmnfekdoocaaXSMove
import Derived.Test.YtkljmnfekdoocaaXR3
namespace Go.Proofs.Ytkljmnfekdoocaa.levelChildren
open Go.ChangeShapes Go.WideShapes Go.ChangeAt Go.RowKit

/-- Whether one of the first i is so. -/
def anyK (p : Nat → Prop) [DecidablePred p] (i : Nat) : Bool := decide (∃ j, j < i ∧ p j)
theorem anyK_succ (p : Nat → Prop) [DecidablePred p] (i : Nat) : anyK p (i + 1) = (anyK p i || decide (p i)) := by
  unfold anyK
  rw [Bool.eq_iff_iff]
  simp only [decide_eq_true_eq, Bool.or_eq_true]
  constructor
  · rintro ⟨j, hj, hp⟩
    by_cases e : j = i
    · subst e; exact .inr hp
    · exact .inl ⟨j, by omega, hp⟩
  · rintro (⟨j, hj, hp⟩ | h)
    · exact ⟨j, by omega, hp⟩
    · exact ⟨i, by omega, h⟩
theorem anyK_zero (p : Nat → Prop) [DecidablePred p] : anyK p 0 = false := by unfold anyK; simp
/-- Node i leads to that one by its last move. -/
def LeadsTo (I : Ins) (n c : Nod) : Prop := c.path.length = n.path.length + 1 ∧ Can I n.s (c.path.getD n.path.length 0) ∧ nextS I n.s (c.path.getD n.path.length 0) = c.s ∧ n.cost + farS1 I n.s (c.path.getD n.path.length 0) = c.cost
instance (I : Ins) (n c : Nod) : Decidable (LeadsTo I n c) := by unfold LeadsTo; infer_instance
theorem sum_small {a b : Int} (h1 : 0 ≤ a) (h2 : a ≤ 1099511627776) (h3 : 0 ≤ b) (h4 : b ≤ 1000000) : sumOf [a, b] = a + b := sum_add h1 h3 (by omega)
theorem expand_le {I : Ins} {up : Int} {l : List Nod} : (expandL I up l).length ≤ 33 * l.length := by
  refine Nat.le_trans (once_len _) ?_
  have := kids_len I up l l.length (Nat.le_refl _)
  rw [List.take_length] at this
  exact this
theorem nod_in {l : List Nod} {x : Nod} (h : x ∈ l) : ∃ i, i < l.length ∧ nodAt l i = x := by
  obtain ⟨i, hi, rfl⟩ := List.mem_iff_getElem.1 h
  exact ⟨i, hi, by unfold nodAt; rw [List.getD_eq_getElem?_getD, List.getElem?_eq_getElem hi]; rfl⟩
theorem child_leads {I : Ins} {n : Nod} {j : Int} (hc : Can I n.s j) (h0 : 0 ≤ n.cost) (h1 : n.cost ≤ 1099511627776) : LeadsTo I n (childN I n j) := by
  have hf := farF_bd (stp I n.s.pos) (stp I j)
  have e : (n.path ++ [j]).getD n.path.length 0 = j := by rw [List.getD_eq_getElem?_getD, List.getElem?_append_right (Nat.le_refl _)]; simp
  unfold LeadsTo childN
  simp only [e]
  refine ⟨by simp, hc, (by first | rfl | trivial), ?_⟩
  have := sum_small h0 h1 (show 0 ≤ farS1 I n.s j from hf.1) (by unfold farS1; have := hf.2; omega)
  rw [this]
set_option maxRecDepth 1000000 in
set_option maxHeartbeats 4000000 in
theorem walk (I0 : Ins) (v0 : Value) (v1 : Value) (l1 : List Nod) (a2 : Int) (w : World) (e0 : SRow w v0 I0.l) (e1 : NRow w v1 l1) (f1 : ∀ n ∈ l1, NodFit n) :
    Calls Try.prog 5 #[insV I0 v0, v1, .int .i64 a2] w fun e w' => e = .returned (.bool true) ∧ Below w.heap.size w w' := by
  have HR := Lib.hid e0
  have HL := Lib.hid e1
  have HFT := Lib.hid f1
  obtain ⟨ad, cap, rfl, hlm, _⟩ := e0.form
  obtain ⟨la, lc, rfl, hm, _⟩ := e1.form
  clear e0 e1 f1 hm
  unfold insV
  go_enter Try.func5, Try.ntmps5
  go_upto_region 1 with fail
  have HY := Lib.hid (ybox_new w I0 (.slice ad I0.l.length cap))
  have HB := Lib.hid ((Below.refl w.heap.size w).alloc (Nat.le_refl _) (boxI I0 (.slice ad I0.l.length cap)))
  change Code.wp _ _ _ _ (w.alloc (boxI I0 (.slice ad I0.l.length cap)))
  generalize hW : w.alloc (boxI I0 (.slice ad I0.l.length cap)) = W at *
  have HRn := Lib.hid (HR.out.below HB.out)
  clear HR
  have HR := HRn
  clear HRn
  have HLn := Lib.hid (HL.out.below HB.out)
  clear HL
  have HL := HLn
  clear HLn
  clear hW
  go_wp2_with fail
  refine (lawake_any _).mono ?_
  rintro e w1 ⟨rfl, hb⟩
  have HYn := Lib.hid (HY.out.later hb)
  clear HY
  have HY := HYn
  clear HYn
  have HRn := Lib.hid (HR.out.below hb)
  clear HR
  have HR := HRn
  clear HRn
  have HLn := Lib.hid (HL.out.below hb)
  clear HL
  have HL := HLn
  clear HLn
  have HBn := Lib.hid (HB.out.trans (hb.mono HB.out.size))
  clear HB
  have HB := HBn
  clear HBn
  clear hb
  go_wp2_with fail
  refine (fewN_any HL.out).mono ?_
  rintro e w2 ⟨rfl, rfl⟩
  have y3 := HY.out.cells.2.2.2
  by_cases hf : FewN l1
  rotate_left
  · rw [decide_eq_false hf]
    clear hf
    go_wp2
    go_ret
    exact ⟨rfl, HB.out⟩
  rw [decide_eq_true hf]
  have HF := Lib.hid hf
  clear hf
  by_cases g1 : 100 < I0.l.length
  · have d1 : decide ((100 : Int) < (I0.l.length : Int)) = true := decide_eq_true (by omega)
    have d2 := decide_eq_true g1
    clear g1
    go_wp2
    go_ret
    exact ⟨rfl, HB.out⟩
  have d1 : decide ((100 : Int) < (I0.l.length : Int)) = false := decide_eq_false (by omega)
  have d2 := decide_eq_false g1
  have HG := Lib.hid g1
  have HOK := Lib.hid (NodesOk.of HFT.out HF.out.2)
  have HLE := Lib.hid (show l1.length ≤ 60 from HF.out.1)
  clear g1
  by_cases g2 : 30 < l1.length
  · have d3 : decide ((30 : Int) < (l1.length : Int)) = true := decide_eq_true (by omega)
    have d4 := decide_eq_true g2
    clear g2
    go_wp2
    go_ret
    exact ⟨rfl, HB.out⟩
  have d3 : decide ((30 : Int) < (l1.length : Int)) = false := decide_eq_false (by omega)
  have d4 := decide_eq_false g2
  clear g2
  have hlm1 : l1.length ≤ 9223372036854775807 := by have := HLE.out; omega
  go_upto_region 5 with fail
  clear y3 d1 d2 d3 d4
  go_wp2_with fail
  go_loop [9] (fun i => ∃ k : Nat, k ≤ l1.length ∧ i = .int .i64 k ∧ ∀ j, j < k → 0 ≤ (nodAt l1 j).cost ∧ (nodAt l1 j).cost ≤ 1099511627776) (fun i => l1.length - (intOf i).toNat)
  case atStart => exact ⟨0, Nat.zero_le _, rfl, fun j hj => absurd hj (Nat.not_lt_zero _)⟩
  case round =>
    obtain ⟨k, hk, rfl, hall⟩ := hrel
    have HA := Lib.hid hall
    clear hall
    by_cases hlt : k < l1.length
    · have HK := Lib.hid hlt
      obtain ⟨b1, o1, pa, pc, ha, hc, _, _⟩ := nrow_at HL.out k _ (nodAt_is hlt)
      subst ha
      have q8 := hc.2.2.2.2.2.2.2.2.1
      have hki : (k : Int) < (l1.length : Int) := by omega
      have hk2 : IntKind.i64.wrap ((k : Int) + 1) = (k : Int) + 1 := IntWalk.i64_in _ (by omega)
      have HON := Lib.hid (show ∀ c, (nodAt l1 k).cost = c → 0 ≤ c → c ≤ 1099511627776 → ∀ j, j < k + 1 → 0 ≤ (nodAt l1 j).cost ∧ (nodAt l1 j).cost ≤ 1099511627776 from fun c hc h1 h2 j hj => by
        by_cases e : j = k
        · subst e; rw [hc]; exact ⟨h1, h2⟩
        · exact HA.out j (by omega))
      obtain ⟨c, hcc⟩ : ∃ c, (nodAt l1 k).cost = c := ⟨_, rfl⟩
      rw [hcc] at q8
      have HCC := Lib.hid hcc
      clear hc hcc hk hlt
      by_cases g3 : c < 0
      · have d1 := decide_eq_true g3
        clear g3
        go_wp2
        go_ret
        exact ⟨rfl, HB.out⟩
      have d1 := decide_eq_false g3
      by_cases g4 : 1099511627776 < c
      · have d2 := decide_eq_true g4
        clear g4
        go_wp2
        go_ret
        exact ⟨rfl, HB.out⟩
      have d2 := decide_eq_false g4
      have HF2 := Lib.hid (HON.out c HCC.out (by omega) (by omega))
      go_wp2
      go_round
      case rel => exact ⟨k + 1, HK.out, by go_num, HF2.out⟩
      case measure => have := HK.out; simp [intOf]; omega
    obtain rfl : k = l1.length := by omega
    have hlt2 : ¬ (l1.length : Int) < (l1.length : Int) := by omega
    clear hlt hk
    obtain ⟨y0, y1, y2, y3⟩ := HY.out.cells
    go_wp2_with fail
    clear y0 y1 y2 y3
    change Calls _ _ #[insV I0 (.slice ad I0.l.length cap), .slice la l1.length lc, .int .i64 a2] _ _
    refine (lexpand_any (up := a2) HR.out HL.out (Below.refl _ _) HOK.out (by have := HLE.out; omega)).mono ?_
    rintro e w3 ⟨z, pb, pn, pc, rfl, hu, _, hb⟩
    have HZ := Lib.hid (hu.row hb)
    clear hu
    have HYn := Lib.hid (HY.out.later hb)
    clear HY
    have HY := HYn
    clear HYn
    have HRn := Lib.hid (HR.out.below hb)
    clear HR
    have HR := HRn
    clear HRn
    have HLn := Lib.hid (HL.out.below hb)
    clear HL
    have HL := HLn
    clear HLn
    have HBn := Lib.hid (HB.out.trans (hb.mono HB.out.size))
    clear HB
    have HB := HBn
    clear HBn
    clear hb
    have HKID := Lib.hid (show ∀ c ∈ expandL I0 a2 l1, (∃ i, i < l1.length ∧ LeadsTo I0 (nodAt l1 i) c) ∧ ofB I0 c < a2 from fun c hc => by
      obtain ⟨⟨n, hn, j, hj, rfl⟩, h2⟩ := expand_mem hc
      obtain ⟨i, hi, rfl⟩ := nod_in hn
      exact ⟨⟨i, hi, child_leads hj (HA.out i hi).1 (HA.out i hi).2⟩, h2⟩)
    have HEND := Lib.hid (show ∀ i, i < l1.length → EndS I0 (nodAt l1 i).s → (bestL I0 l1).isSome = true ∧ (bestV (bestL I0 l1)).cost ≤ (nodAt l1 i).cost + endC I0 (nodAt l1 i).s from fun i hi he => by
      obtain ⟨h1, h2⟩ := best_is (I := I0) l1
      cases hb : bestL I0 l1 with
      | none => exact absurd he (h1.1 hb _ (nodAt_mem hi))
      | some b =>
        have h3 := (h2 b hb).2 _ (nodAt_mem hi) he
        have h4 := sum_small (HA.out i hi).1 (HA.out i hi).2 (endC_bd I0 (nodAt l1 i).s).1 (by have := (endC_bd I0 (nodAt l1 i).s).2; omega)
        refine ⟨rfl, ?_⟩
        show b.cost ≤ _
        have h5 : (endN I0 (nodAt l1 i)).cost = sumOf [(nodAt l1 i).cost, endC I0 (nodAt l1 i).s] := rfl
        omega)
    have HML := Lib.hid (show (expandL I0 a2 l1).length ≤ 1000000 by have h1 := expand_le (I := I0) (up := a2) (l := l1); have := HLE.out; omega)
    have HNS := Lib.hid (show ∀ c ∈ expandL I0 a2 l1, SetsOk c.s from fun c hc => by
      obtain ⟨⟨n, hn, j, hj, rfl⟩, _⟩ := expand_mem hc
      exact of_fits (fits_next (I := I0) (fits_of (HOK.out.sets n hn)) j))
    obtain ⟨M, hM⟩ : ∃ M, expandL I0 a2 l1 = M := ⟨_, rfl⟩
    rw [hM] at HZ HKID HML HNS
    clear hM
    obtain ⟨za, zc, rfl, _⟩ := HZ.out.form
    obtain ⟨ml, hml⟩ : ∃ m, M.length = m := ⟨_, rfl⟩
    rw [hml] at HZ HML ⊢
    have HLM := Lib.hid hml
    have hmlm : ml ≤ 9223372036854775807 := by have := HML.out; omega
    clear hml
    obtain ⟨bs, hbs⟩ : ∃ b, bestV (bestL I0 l1) = b := ⟨_, rfl⟩
    obtain ⟨is, his⟩ : ∃ b, (bestL I0 l1).isSome = b := ⟨_, rfl⟩
    rw [hbs, his] at HEND
    rw [hbs, his]
    clear hbs his
    unfold nodeV
    go_upto_region 11 with fail
    change Code.wp _ _ _ _ (w3.alloc (boxN bs.s bs.cost (.slice pb pn pc)))
    have HN := Lib.hid (nod_new w3 bs.s bs.cost (.slice pb pn pc))
    have hb := (Below.refl w3.heap.size w3).alloc (Nat.le_refl _) (boxN bs.s bs.cost (.slice pb pn pc))
    have HYn := Lib.hid (HY.out.later hb)
    clear HY
    have HY := HYn
    clear HYn
    have HRn := Lib.hid (HR.out.below hb)
    clear HR
    have HR := HRn
    clear HRn
    have HLn := Lib.hid (HL.out.below hb)
    clear HL
    have HL := HLn
    clear HLn
    have HZn := Lib.hid (HZ.out.below hb)
    clear HZ
    have HZ := HZn
    clear HZn
    have HBn := Lib.hid (HB.out.trans (hb.mono HB.out.size))
    clear HB
    have HB := HBn
    clear HBn
    clear hb
    generalize w3.alloc (boxN bs.s bs.cost (.slice pb pn pc)) = W5 at *
    obtain ⟨bn, hbn⟩ : ∃ b, w3.heap.size = b := ⟨_, rfl⟩
    rw [hbn] at HN ⊢
    clear hbn
    go_wp2_with fail
    go_loopw [13] (fun i wr => ∃ k : Nat, k ≤ ml ∧ i = .int .i64 k ∧ Below W5.heap.size W5 wr) (fun i _ => ml - (intOf i).toNat)
    case atStart => exact ⟨0, Nat.zero_le _, rfl, Below.refl _ _⟩
    case round =>
      obtain ⟨k, hk, rfl, hbw⟩ := hrel
      have HBW := Lib.hid hbw
      clear hbw
      generalize wr = W1 at *
      by_cases hlt : k < ml
      rotate_left
      · obtain rfl : k = ml := by omega
        have hlt2 : ¬ (k : Int) < (k : Int) := by omega
        clear hlt hk
        have HBX := Lib.hid (HB.out.trans (HBW.out.mono HB.out.size))
        have HYx := Lib.hid (HY.out.later HBW.out)
        have HRx := Lib.hid (HR.out.below HBW.out)
        have HLx := Lib.hid (HL.out.below HBW.out)
        have HNx := Lib.hid (HN.out.later HBW.out)
        go_wp2_with fail
        go_loopw [20] (fun i wr => ∃ i' : Nat, i' ≤ l1.length ∧ i = .int .i64 i' ∧ Below W1.heap.size W1 wr) (fun i _ => l1.length - (intOf i).toNat)
        case atStart => exact ⟨0, Nat.zero_le _, rfl, Below.refl _ _⟩
        case round =>
          obtain ⟨j, hj, rfl, hbq⟩ := hrel
          have HBQ := Lib.hid hbq
          clear hbq
          generalize wr = WC at *
          by_cases hlt : j < l1.length
          rotate_left
          · obtain rfl : j = l1.length := by omega
            have hji : ¬ (l1.length : Int) < (l1.length : Int) := by omega
            clear hlt hj
            go_wp2
            go_ret
            exact ⟨rfl, HBX.out.trans (HBQ.out.mono HBX.out.size)⟩
          have HJ := Lib.hid hlt
          have hji : (j : Int) < (l1.length : Int) := by omega
          have hja : IntKind.i64.wrap ((j : Int) + 1) = ((j + 1 : Nat) : Int) := by rw [IntWalk.i64_in _ (by omega)]; omega
          obtain ⟨b1, o1, qa, qc, ha1, hn1, hl1, _⟩ := nrow_at (HLx.out.below HBQ.out) j _ (nodAt_is hlt)
          subst ha1
          have HN1 := Lib.hid hn1
          have HL1 := Lib.hid hl1
          have HSY := Lib.hid (HOK.out.sets _ (nodAt_mem hlt))
          have HCY := Lib.hid (HA.out j hlt)
          have hend := HEND.out j hlt
          obtain ⟨y, hy⟩ : ∃ y, nodAt l1 j = y := ⟨_, rfl⟩
          rw [hy] at HN1 HSY HCY hend
          have HE := Lib.hid hend
          have hcb := endC_bd I0 y.s
          obtain ⟨cc, hcc⟩ : ∃ c, endC I0 y.s = c := ⟨_, rfl⟩
          rw [hcc] at hcb HE
          have HCC := Lib.hid hcc
          have hadd : IntKind.i64.wrap (y.cost + cc) = y.cost + cc := IntWalk.i64_in _ (by have := HCY.out; omega)
          clear hn1 hl1 hy hend hcc hcb hlt hj
          obtain ⟨yn, hyn⟩ : ∃ n, y.path.length = n := ⟨_, rfl⟩
          rw [hyn] at HN1
          clear hyn
          have HYc := Lib.hid (HYx.out.later HBQ.out)
          have HRc := Lib.hid (HRx.out.below HBQ.out)
          have HNc := Lib.hid (HNx.out.later HBQ.out)
          have HBc := Lib.hid (HBX.out.trans (HBQ.out.mono HBX.out.size))
          go_upto_region 27 with fail
          go_cut [21, 22] from 164 to 173 (fun c e wx => c = .int .i64 cc ∧ e = .bool (decide (EndS I0 y.s)) ∧ Below WC.heap.size WC wx)
          case first =>
            have HBR := Lib.hid (Below.refl WC.heap.size WC).drew
            have HL1v := Lib.hid (show b1 < WC.drew.heap.size from HL1.out)
            have HYcn := Lib.hid (HYc.out.later (Below.refl _ WC).drew)
            have HRcn := Lib.hid (HRc.out.below (Below.refl _ WC).drew)
            have HBcn := Lib.hid HBc.out.drew
            clear HYc HRc HBc
            have HYc := HYcn
            have HRc := HRcn
            have HBc := HBcn
            clear HYcn HRcn HBcn
            have HS0 := Lib.hid (show Holds (cellsI w.heap.size I0 (.slice ad I0.l.length cap) ++ (cellsRN b1 (o1 + j * 10) y.s y.cost (.slice qa yn qc))) WC.drew from (Holds.app.2 ⟨⟨HYc.out.cells.1, HYc.out.cells.2.1, HYc.out.cells.2.2.1, HYc.out.cells.2.2.2, trivial⟩, holds_RN HN1.out⟩))
            refine wp_region_held_drew (S := Holds (cellsI w.heap.size I0 (.slice ad I0.l.length cap) ++ (cellsRN b1 (o1 + j * 10) y.s y.cost (.slice qa yn qc)))) (by kernel_rfl) HS0.out (fun hSn => ?_)
            generalize WC.drew = V at *
            have hlt := Lib.hid (show Lows V.heap.size (cellsI w.heap.size I0 (.slice ad I0.l.length cap) ++ (cellsRN b1 (o1 + j * 10) y.s y.cost (.slice qa yn qc))) from (Lows.app (show Lows _ (cellsI w.heap.size I0 (.slice ad I0.l.length cap)) from ⟨HYc.out.lt, HYc.out.lt, HYc.out.lt, HYc.out.lt, trivial⟩) (lows_RN HL1v.out)))
            have Bc := Lib.hid (Below.refl V.heap.size V)
            simp only [cellsI, cellsRN, List.cons_append, List.nil_append] at HS0 hlt hSn ⊢
            refine tks [0, 1, 2, 3, 4, 5] 6 rfl (by kernel_rfl) (fun _ _ _ _ h => h) (by assumption) (fun KT hKT => ?_)
            iterate 6 (refine tkT (by (simp only [gA, gB, gC]; rfl)) (by rfl) (by (intro w hSw; (simp only [Holds] at hSw); go_simp <;> with_reducible rfl)) ?_; simp only [Act.put, pA, pB, pC])
            refine hKT _ ?_
            clear KT hKT
            refine wpAnyH_ready (rs := [6]) (by kernel_rfl) (by simp) ?_
            refine AllReadyH.cons (o := ?oz2) ?iz2 (fun K hK => ?kz2) AllReadyH.nil
            case iz2 => (simp only [List.getElem?_toArray, List.getElem?_cons_zero, List.getElem?_cons_succ]; rfl)
            go_simp
            change Calls _ _ #[insV I0 (.slice ad I0.l.length cap), staV y.s] _ _
            refine (send_any (HRc.out.below Bc.out) HSY.out).mono ?_
            rw [HCC.out]
            rintro e w' ⟨rfl, hb⟩
            refine held_more hK HS0.out hlt (Bc.out.trans (hb.mono Bc.out.size)) (fun Bc hSn => ?_)
            clear hb hK
            refine tks [7, 8, 9, 10, 11] 5 rfl (by kernel_rfl) (fun _ _ _ _ h => h) (by assumption) (fun KT hKT => ?_)
            iterate 5 (refine tkT (by (simp only [gA, gB, gC]; rfl)) (by rfl) (by (intro w hSw; (simp only [Holds] at hSw); go_simp <;> with_reducible rfl)) ?_; simp only [Act.put, pA, pB, pC])
            refine hKT _ ?_
            clear KT hKT
            refine wpAnyH_done (by kernel_rfl) ?_ _
            go_wp2_with fail
            go_meet
            exact ⟨rfl, rfl, HBR.out.trans (Bc.out.mono HBR.out.size)⟩
          case rest =>
          obtain ⟨rfl, rfl, fb2⟩ := hcut
          have HBY := Lib.hid fb2
          have HNA := Lib.hid (HN1.out.below HL1.out HBY.out)
          have HND := Lib.hid (HNc.out.later HBY.out)
          have HBZ := Lib.hid (HBQ.out.trans ((HBY.out.trans ((Below.refl _ wc).drew.mono HBY.out.size)).mono HBQ.out.size))
          clear fb2
          generalize wc = WE at *
          go_upto_region 28 with fail
          have HL1v := Lib.hid (show b1 < WE.drew.heap.size from Nat.lt_of_lt_of_le HL1.out HBY.out.size)
          have HNDn := Lib.hid (HND.out.later (Below.refl _ WE).drew)
          have HBYn := Lib.hid HBY.out.drew
          clear HND HBY
          have HND := HNDn
          have HBY := HBYn
          clear HNDn HBYn
          have HS0 := Lib.hid (show Holds ((cellsRN b1 (o1 + j * 10) y.s y.cost (.slice qa yn qc)) ++ (cellsN bn bs.s bs.cost (.slice pb pn pc))) WE.drew from (Holds.app.2 ⟨holds_RN HNA.out, HND.out.holds⟩))
          refine wp_region_held_drew (S := Holds ((cellsRN b1 (o1 + j * 10) y.s y.cost (.slice qa yn qc)) ++ (cellsN bn bs.s bs.cost (.slice pb pn pc)))) (by kernel_rfl) HS0.out (fun hSn => ?_)
          generalize WE.drew = V at *
          have hlt := Lib.hid (show Lows V.heap.size ((cellsRN b1 (o1 + j * 10) y.s y.cost (.slice qa yn qc)) ++ (cellsN bn bs.s bs.cost (.slice pb pn pc))) from (Lows.app (lows_RN HL1v.out) (lows_N HND.out.lt)))
          have Bc := Lib.hid (Below.refl V.heap.size V)
          simp only [cellsN, cellsRN, List.cons_append, List.nil_append] at HS0 hlt hSn ⊢
          by_cases hes : EndS I0 y.s
          · rw [decide_eq_true hes]
            obtain ⟨h1, h2⟩ := HE.out hes
            subst h1
            have hd : decide (y.cost + cc < bs.cost) = false := decide_eq_false (by omega)
            clear hes h2
            refine tks [0, 1, 2, 3, 4, 5, 6, 7, 8, 9, 10, 11, 12, 13, 14, 15, 16] 17 rfl (by kernel_rfl) (fun _ _ _ _ h => h) (by assumption) (fun KT hKT => ?_)
            iterate 17 (refine tkT (by (simp only [gA, gB, gC]; rfl)) (by rfl) (by (intro w hSw; (simp only [Holds] at hSw); go_simp <;> with_reducible rfl)) ?_; simp only [Act.put, pA, pB, pC])
            refine hKT _ ?_
            clear KT hKT
            refine wpAnyH_done (by kernel_rfl) ?_ _
            go_wp2_with fail
            go_roundw
            case rel => exact ⟨j + 1, HJ.out, by go_num, HBZ.out⟩
            case measure => have := HJ.out; simp [intOf]; omega
          · rw [decide_eq_false hes]
            clear hes
            refine tks [0, 1] 2 rfl (by kernel_rfl) (fun _ _ _ _ h => h) (by assumption) (fun KT hKT => ?_)
            iterate 2 (refine tkT (by (simp only [gA, gB, gC]; rfl)) (by rfl) (by (intro w hSw; (simp only [Holds] at hSw); go_simp <;> with_reducible rfl)) ?_; simp only [Act.put, pA, pB, pC])
            refine hKT _ ?_
            clear KT hKT
            refine tks [2, 3, 4, 5, 6, 7, 8, 9, 10, 11, 12, 13, 14, 15] 14 rfl (by kernel_rfl) (fun _ _ _ _ h => h) (by assumption) (fun KT hKT => ?_)
            iterate 14 (refine tkS (by (simp only [gA, gB, gC]; rfl)) (by rfl) ?_; simp only [Act.put, pA, pB, pC])
            refine hKT _ ?_
            clear KT hKT
            refine tks [16] 1 rfl (by kernel_rfl) (fun _ _ _ _ h => h) (by assumption) (fun KT hKT => ?_)
            refine tkT (by (simp only [gA, gB, gC]; rfl)) (by rfl) (by (intro w hSw; (simp only [Holds] at hSw); go_simp <;> with_reducible rfl)) ?_
            simp only [Act.put, pA, pB, pC]
            refine hKT _ ?_
            clear KT hKT
            refine wpAnyH_done (by kernel_rfl) ?_ _
            go_wp2_with fail
            go_roundw
            case rel => exact ⟨j + 1, HJ.out, by go_num, HBZ.out⟩
            case measure => have := HJ.out; simp [intOf]; omega
      have HK := Lib.hid hlt
      have hki : (k : Int) < (ml : Int) := by omega
      have hka : IntKind.i64.wrap ((k : Int) + 1) = ((k + 1 : Nat) : Int) := by rw [IntWalk.i64_in _ (by omega)]; omega
      have HC0 := Lib.hid (HKID.out _ (nodAt_mem (l := M) (i := k) (by rw [HLM.out]; exact hlt)))
      have HCS := Lib.hid (HNS.out _ (nodAt_mem (l := M) (i := k) (by rw [HLM.out]; exact hlt)))
      clear hlt hk
      go_wp2_with fail
      go_loopw [14, 15] (fun s i wr => ∃ j : Nat, j ≤ l1.length ∧ i = .int .i64 j ∧ s = .bool (anyK (fun i => LeadsTo I0 (nodAt l1 i) (nodAt M k)) j) ∧ Below W1.heap.size W1 wr) (fun _ i _ => l1.length - (intOf i).toNat)
      case atStart => exact ⟨0, Nat.zero_le _, rfl, by rw [anyK_zero], Below.refl _ _⟩
      case round =>
        obtain ⟨j, hj, rfl, rfl, hbq⟩ := hrel
        have HBQ := Lib.hid hbq
        clear hbq
        generalize wr = WC at *
        obtain ⟨fb, hfb⟩ : ∃ b, anyK (fun i => LeadsTo I0 (nodAt l1 i) (nodAt M k)) j = b := ⟨_, rfl⟩
        rw [hfb]
        have HFB := Lib.hid hfb
        clear hfb
        by_cases hlt : j < l1.length
        rotate_left
        · obtain rfl : j = l1.length := by omega
          have hji : ¬ (l1.length : Int) < (l1.length : Int) := by omega
          obtain rfl : fb = true := by
            rw [← HFB.out]
            obtain ⟨i, hi, he⟩ := HC0.out.1
            exact decide_eq_true ⟨i, hi, he⟩
          have HWQ := Lib.hid (HBW.out.trans (HBQ.out.mono HBW.out.size))
          clear hlt hj HFB
          obtain ⟨b2, o2, pa, pc, ha2, hn2, hl2, hp2⟩ := nrow_at (HZ.out.below HWQ.out) k _ (nodAt_is (by rw [HLM.out]; exact HK.out))
          subst ha2
          have HN2 := Lib.hid hn2
          have HL2 := Lib.hid hl2
          have HP2 := Lib.hid hp2
          have hof := HC0.out.2
          clear hn2 hl2 hp2
          obtain ⟨x, hx⟩ : ∃ x, nodAt M k = x := ⟨_, rfl⟩
          rw [hx] at HN2 HP2 hof HCS
          have hd : decide (a2 ≤ sumOf [x.cost, boundS I0 x.s]) = false := decide_eq_false (by unfold ofB at hof; omega)
          have HYc := Lib.hid (HY.out.later HWQ.out)
          have HRc := Lib.hid (HR.out.below HWQ.out)
          have HBc := Lib.hid (HB.out.trans (HWQ.out.mono HB.out.size))
          clear hx hof
          go_wp2_with fail
          go_upto_region 22 with fail
          have HL2v := Lib.hid (show b2 < WC.drew.heap.size from HL2.out)
          have HBD := Lib.hid (HWQ.out.trans ((Below.refl _ WC).drew.mono HWQ.out.size))
          have HYcn := Lib.hid (HYc.out.later (Below.refl _ WC).drew)
          have HRcn := Lib.hid (HRc.out.below (Below.refl _ WC).drew)
          have HP2n := Lib.hid (HP2.out.below (Below.refl _ WC).drew)
          have HBcn := Lib.hid HBc.out.drew
          clear HYc HRc HP2 HBc
          have HYc := HYcn
          have HRc := HRcn
          have HP2 := HP2n
          have HBc := HBcn
          clear HYcn HRcn HP2n HBcn
          have HS0 := Lib.hid (show Holds (cellsI w.heap.size I0 (.slice ad I0.l.length cap) ++ (cellsRN b2 (o2 + k * 10) x.s x.cost (.slice pa x.path.length pc))) WC.drew from (Holds.app.2 ⟨⟨HYc.out.cells.1, HYc.out.cells.2.1, HYc.out.cells.2.2.1, HYc.out.cells.2.2.2, trivial⟩, holds_RN HN2.out⟩))
          refine wp_region_held_drew (S := Holds (cellsI w.heap.size I0 (.slice ad I0.l.length cap) ++ (cellsRN b2 (o2 + k * 10) x.s x.cost (.slice pa x.path.length pc)))) (by kernel_rfl) HS0.out (fun hSn => ?_)
          generalize WC.drew = V at *
          have hlt := Lib.hid (show Lows V.heap.size (cellsI w.heap.size I0 (.slice ad I0.l.length cap) ++ (cellsRN b2 (o2 + k * 10) x.s x.cost (.slice pa x.path.length pc))) from (Lows.app (show Lows _ (cellsI w.heap.size I0 (.slice ad I0.l.length cap)) from ⟨HYc.out.lt, HYc.out.lt, HYc.out.lt, HYc.out.lt, trivial⟩) (lows_RN HL2v.out)))
          have Bc := Lib.hid (Below.refl V.heap.size V)
          simp only [cellsI, cellsRN, List.cons_append, List.nil_append] at HS0 hlt hSn ⊢
          refine tks [0, 1, 2, 3, 4, 5, 6, 7, 9] 9 rfl (by kernel_rfl) (fun _ _ _ _ h => h) (by assumption) (fun KT hKT => ?_)
          iterate 9 (refine tkT (by (simp only [gA, gB, gC]; rfl)) (by rfl) (by (intro w hSw; (simp only [Holds] at hSw); go_simp <;> with_reducible rfl)) ?_; simp only [Act.put, pA, pB, pC])
          refine hKT _ ?_
          clear KT hKT
          refine wpAnyH_ready (rs := [8]) (by kernel_rfl) (by simp) ?_
          refine AllReadyH.cons (o := ?oz3) ?iz3 (fun K hK => ?kz3) AllReadyH.nil
          case iz3 => (simp only [List.getElem?_toArray, List.getElem?_cons_zero, List.getElem?_cons_succ]; rfl)
          go_simp
          change Calls _ _ #[insV I0 (.slice ad I0.l.length cap), nodeV x.s x.cost _] _ _
          refine (bof_any (HRc.out.below Bc.out) HCS.out (HP2.out.below Bc.out)).mono ?_
          rintro e w' ⟨rfl, hb⟩
          refine held_more hK HS0.out hlt (Bc.out.trans (hb.mono Bc.out.size)) (fun Bc hSn => ?_)
          clear hb hK
          refine tks [10, 11] 2 rfl (by kernel_rfl) (fun _ _ _ _ h => h) (by assumption) (fun KT hKT => ?_)
          iterate 2 (refine tkT (by (simp only [gA, gB, gC]; rfl)) (by rfl) (by (intro w hSw; (simp only [Holds] at hSw); go_simp <;> with_reducible rfl)) ?_; simp only [Act.put, pA, pB, pC])
          refine hKT _ ?_
          clear KT hKT
          refine wpAnyH_done (by kernel_rfl) ?_ _
          have HBQ2 := Lib.hid (HBD.out.trans (Bc.out.mono HBD.out.size))
          go_wp2_with fail
          go_roundw
          case rel => exact ⟨k + 1, HK.out, by go_num, HBQ2.out⟩
          case measure => have := HK.out; simp [intOf]; omega
        have HJ := Lib.hid hlt
        have hji : (j : Int) < (l1.length : Int) := by omega
        have hja : IntKind.i64.wrap ((j : Int) + 1) = ((j + 1 : Nat) : Int) := by rw [IntWalk.i64_in _ (by omega)]; omega
        have HWQ := Lib.hid (HBW.out.trans (HBQ.out.mono HBW.out.size))
        obtain ⟨b1, o1, qa, qc, ha1, hn1, hl1, _⟩ := nrow_at (HL.out.below HWQ.out) j _ (nodAt_is hlt)
        subst ha1
        obtain ⟨b2, o2, pa, pc, ha2, hn2, hl2, hp2⟩ := nrow_at (HZ.out.below HWQ.out) k _ (nodAt_is (by rw [HLM.out]; exact HK.out))
        subst ha2
        have HNX := Lib.hid (show anyK (fun i => LeadsTo I0 (nodAt l1 i) (nodAt M k)) (j + 1) = (fb || decide (LeadsTo I0 (nodAt l1 j) (nodAt M k))) by rw [anyK_succ, HFB.out])
        have hyp := HF.out.2 _ (nodAt_mem hlt)
        have HN1 := Lib.hid hn1
        have HN2 := Lib.hid hn2
        have HL1 := Lib.hid hl1
        have HL2 := Lib.hid hl2
        have HP2 := Lib.hid hp2
        have HSY := Lib.hid (HOK.out.sets _ (nodAt_mem hlt))
        have HCY := Lib.hid (HA.out j hlt)
        obtain ⟨y, hy⟩ : ∃ y, nodAt l1 j = y := ⟨_, rfl⟩
        obtain ⟨x, hx⟩ : ∃ x, nodAt M k = x := ⟨_, rfl⟩
        rw [hy] at HN1 HSY hyp HCY
        rw [hx] at HN2 HP2
        obtain ⟨dq, hdq⟩ : ∃ b, decide (LeadsTo I0 (nodAt l1 j) (nodAt M k)) = b := ⟨_, rfl⟩
        rw [hdq] at HNX
        rw [hx, hy] at hdq
        have HDQ := Lib.hid hdq
        clear hdq
        clear hn1 hn2 hl1 hl2 hp2 hlt hj hx hy
        obtain ⟨yn, hyn⟩ : ∃ n, y.path.length = n := ⟨_, rfl⟩
        obtain ⟨xn, hxn⟩ : ∃ n, x.path.length = n := ⟨_, rfl⟩
        rw [hyn] at HN1 hyp
        rw [hxn] at HN2 HP2
        have HYN := Lib.hid hyn
        have HXN := Lib.hid hxn
        obtain ⟨ym, hym⟩ : ∃ m : Nat, m = yn + 1 := ⟨_, rfl⟩
        have HYM := Lib.hid hym
        have hyw : IntKind.i64.wrap ((yn : Int) + 1) = (ym : Int) := by rw [IntWalk.i64_in _ (by omega)]; omega
        have q9 := HN1.out.2.2.2.2.2.2.2.2.2
        have p9 := HN2.out.2.2.2.2.2.2.2.2.2
        clear hyn hxn hyp hym
        by_cases e0 : xn = yn + 1
        rotate_left
        · have b0 : ((xn : Int) != (ym : Int)) = true := by have := HYM.out; simp; omega
          have HQ := Lib.hid (show decide (LeadsTo I0 y x) = false from decide_eq_false (fun h => e0 (by rw [← HXN.out, ← HYN.out]; exact h.1)))
          clear e0
          go_wp2_with fail
          go_roundw
          case rel => exact ⟨j + 1, HJ.out, by go_num, by rw [HNX.out, ← HDQ.out, HQ.out, Bool.or_false], HBQ.out⟩
          case measure => have := HJ.out; simp [intOf]; omega
        have b0 : ((xn : Int) != (ym : Int)) = false := by have := HYM.out; simp; omega
        have hyx : (yn : Int) < (xn : Int) := by omega
        have hyx2 : yn < xn := by omega
        have E0 := Lib.hid e0
        clear e0
        obtain ⟨b3, o3, c3, hpa, hpc, _, hb3⟩ := row_at (p := yn) HP2.out (by rw [ints_len, HXN.out]; exact hyx2)
        rw [ints_len, HXN.out] at hpa
        simp only [Value.slice.injEq, true_and] at hpa
        obtain ⟨rfl, rfl⟩ := hpa
        rw [ints_at _ _ (by rw [HXN.out]; exact hyx2)] at hpc
        have HPC := Lib.hid hpc
        have HB3 := Lib.hid hb3
        obtain ⟨jv, hjv⟩ : ∃ v, x.path.getD yn 0 = v := ⟨_, rfl⟩
        rw [hjv] at HPC
        have HLT := Lib.hid (show LeadsTo I0 y x ↔ (Can I0 y.s jv ∧ nextS I0 y.s jv = x.s ∧ y.cost + farS1 I0 y.s jv = x.cost) by
          unfold LeadsTo
          rw [HYN.out, HXN.out, hjv]
          exact ⟨fun h => h.2, fun h => ⟨E0.out, h⟩⟩)
        clear hpc hb3 hjv
        obtain ⟨qs, hqs⟩ : ∃ q, moveS I0 y.s jv = q := ⟨_, rfl⟩
        obtain ⟨cc, hcc⟩ : ∃ q, moveC I0 y.s jv = q := ⟨_, rfl⟩
        obtain ⟨pp, hpp⟩ : ∃ q, decide (Can I0 y.s jv) = q := ⟨_, rfl⟩
        have HQS := Lib.hid hqs
        have HCC := Lib.hid hcc
        have HPP := Lib.hid hpp
        clear hqs hcc hpp
        have HYc := Lib.hid (HY.out.later HWQ.out)
        have HRc := Lib.hid (HR.out.below HWQ.out)
        have HBc := Lib.hid (HB.out.trans (HWQ.out.mono HB.out.size))
        go_upto_region 20 with fail
        clear q9 p9 b0
        go_cut [17, 18, 19] from 99 to 117 (fun p c e wx => ∃ bm, p = .pointer (some ⟨bm, 0, none⟩) ∧ c = .int .i64 cc ∧ e = .bool pp ∧ StB wx bm qs ∧ Below WC.heap.size WC wx)
        case first =>
          have HBR := Lib.hid (Below.refl WC.heap.size WC).drew
          have HL1v := Lib.hid (show b1 < WC.drew.heap.size from HL1.out)
          have HL2v := Lib.hid (show b2 < WC.drew.heap.size from HL2.out)
          have HB3v := Lib.hid (show b3 < WC.drew.heap.size from HB3.out)
          have HYcn := Lib.hid (HYc.out.later (Below.refl _ WC).drew)
          have HRcn := Lib.hid (HRc.out.below (Below.refl _ WC).drew)
          have HBcn := Lib.hid HBc.out.drew
          clear HYc HRc HBc
          have HYc := HYcn
          have HRc := HRcn
          have HBc := HBcn
          clear HYcn HRcn HBcn
          have HS0 := Lib.hid (show Holds (cellsI w.heap.size I0 (.slice ad I0.l.length cap) ++ ((cellsRN b1 (o1 + j * 10) y.s y.cost (.slice qa yn qc)) ++ ((cellsRN b2 (o2 + k * 10) x.s x.cost (.slice (some ⟨b3, o3, none⟩) xn pc)) ++ [((⟨b3, o3 + yn, none⟩ : Addr), (.int .i64 jv : Value))]))) WC.drew from (Holds.app.2 ⟨⟨HYc.out.cells.1, HYc.out.cells.2.1, HYc.out.cells.2.2.1, HYc.out.cells.2.2.2, trivial⟩, (Holds.app.2 ⟨holds_RN HN1.out, (Holds.app.2 ⟨holds_RN HN2.out, ⟨HPC.out, trivial⟩⟩)⟩)⟩))
          refine wp_region_held_drew (S := Holds (cellsI w.heap.size I0 (.slice ad I0.l.length cap) ++ ((cellsRN b1 (o1 + j * 10) y.s y.cost (.slice qa yn qc)) ++ ((cellsRN b2 (o2 + k * 10) x.s x.cost (.slice (some ⟨b3, o3, none⟩) xn pc)) ++ [((⟨b3, o3 + yn, none⟩ : Addr), (.int .i64 jv : Value))])))) (by kernel_rfl) HS0.out (fun hSn => ?_)
          generalize WC.drew = V at *
          have hlt := Lib.hid (show Lows V.heap.size (cellsI w.heap.size I0 (.slice ad I0.l.length cap) ++ ((cellsRN b1 (o1 + j * 10) y.s y.cost (.slice qa yn qc)) ++ ((cellsRN b2 (o2 + k * 10) x.s x.cost (.slice (some ⟨b3, o3, none⟩) xn pc)) ++ [((⟨b3, o3 + yn, none⟩ : Addr), (.int .i64 jv : Value))]))) from (Lows.app (show Lows _ (cellsI w.heap.size I0 (.slice ad I0.l.length cap)) from ⟨HYc.out.lt, HYc.out.lt, HYc.out.lt, HYc.out.lt, trivial⟩) (Lows.app (lows_RN HL1v.out) (Lows.app (lows_RN HL2v.out) ⟨HB3v.out, trivial⟩))))
          have Bc := Lib.hid (Below.refl V.heap.size V)
          simp only [cellsI, cellsRN, List.cons_append, List.nil_append] at HS0 hlt hSn ⊢
          refine tks [0, 1, 2, 3, 4, 5, 6, 7, 8, 9, 10, 11, 12, 13] 14 rfl (by kernel_rfl) (fun _ _ _ _ h => h) (by assumption) (fun KT hKT => ?_)
          iterate 14 (refine tkT (by (simp only [gA, gB, gC]; rfl)) (by rfl) (by (intro w hSw; (simp only [Holds] at hSw); go_simp <;> with_reducible rfl)) ?_; simp only [Act.put, pA, pB, pC])
          refine hKT _ ?_
          clear KT hKT
          refine wpAnyH_ready (rs := [14, 19]) (by kernel_rfl) (by simp) ?_
          refine (AllReadyH.cons (o := ?oz4) ?iz4 (fun K hK => ?kz4) (AllReadyH.cons (o := ?oz5) ?iz5 (fun K hK => ?kz5) AllReadyH.nil))
          case iz4 => (simp only [List.getElem?_toArray, List.getElem?_cons_zero, List.getElem?_cons_succ]; rfl)
          case iz5 => (simp only [List.getElem?_toArray, List.getElem?_cons_zero, List.getElem?_cons_succ]; rfl)
          · skip
            go_simp
            change Calls _ _ #[insV I0 (.slice ad I0.l.length cap), staV y.s, .int .i64 jv] _ _
            have BCUR := Lib.hid (HBc.out.trans (Bc.out.mono HBc.out.size))
            refine (smove_any (HRc.out.below Bc.out) HSY.out).mono ?_
            clear BCUR
            rintro e w7 ⟨rfl, hb⟩
            rw [HQS.out, HCC.out, HPP.out]
            rw [show staV qs = .agg #[.int .i64 qs.pos, .int .i64 qs.car, .int .i64 qs.time, .int .i64 qs.load, .int .i64 qs.first, .int .u64 qs.must, .int .u64 qs.may, .int .u64 qs.on] from rfl]
            refine held_more hK HS0.out hlt (Bc.out.trans (hb.mono Bc.out.size)) (fun Bc hSn => ?_)
            clear hb hK
            refine tks [15, 16, 17, 18] 4 rfl (by kernel_rfl) (fun _ _ _ _ h => h) (by assumption) (fun KT hKT => ?_)
            iterate 4 (refine tkT (by (simp only [gA, gB, gC]; rfl)) (by rfl) (by (intro w hSw; (simp only [Holds] at hSw); go_simp <;> with_reducible rfl)) ?_; simp only [Act.put, pA, pB, pC])
            refine hKT _ ?_
            clear KT hKT
            have HSZ := Lib.hid Bc.out.size
            refine wpAnyH_ready (rs := [19]) (by kernel_rfl) (by simp) ?_
            refine AllReadyH.cons (o := ?oz6) ?iz6 (fun K hK => ?kz6) AllReadyH.nil
            case iz6 => (simp only [List.getElem?_toArray, List.getElem?_cons_zero, List.getElem?_cons_succ]; rfl)
            go_simp
            refine held_more hK HS0.out hlt (Bc.out.alloc Bc.out.size _) (fun Bc hSn => ?_)
            have HN := Lib.hid (st_new w7 noughtS)
            change wpAnyH _ _ _ _ _ _ _ _ (w7.alloc (boxSt noughtS))
            have Bc2 := Lib.hid (show Below V.heap.size V (w7.alloc (boxSt noughtS)) from Bc.out)
            clear Bc
            have Bc := Bc2
            clear Bc2
            generalize w7.alloc (boxSt noughtS) = Xn at *
            obtain ⟨bm, hbm⟩ : ∃ bm, bm = w7.heap.size := ⟨_, rfl⟩
            have HLE := Lib.hid (show V.heap.size ≤ bm by rw [hbm]; exact HSZ.out)
            rw [← hbm] at HN ⊢
            clear hbm HSZ
            refine wpAnyH_ready (rs := [20]) (by kernel_rfl) (by simp) ?_
            refine (AllReadyH.cons (o := ?oz7) ?iz7 (fun K hK => ?kz7) AllReadyH.nil)
            case iz7 => (simp only [List.getElem?_toArray, List.getElem?_cons_zero, List.getElem?_cons_succ]; rfl)
            simp only [Act.put]
            rw [if_pos (by rfl)]
            refine wp_store_state (.tmp 17) (.tmp 115) (by rfl) bm _ qs (by rfl) (by rfl) HN.out ?_
            intro wE hE hbE
            refine held_more hK HS0.out hlt (Bc.out.trans (hbE _ HLE.out)) (fun Bc hSn => ?_)
            clear hK
            refine tks [21, 22] 2 rfl (by kernel_rfl) (fun _ _ _ _ h => h) (by assumption) (fun KT hKT => ?_)
            iterate 2 (refine tkT (by (simp only [gA, gB, gC]; rfl)) (by rfl) (by (intro w hSw; (simp only [Holds] at hSw); go_simp <;> with_reducible rfl)) ?_; simp only [Act.put, pA, pB, pC])
            refine hKT _ ?_
            clear KT hKT
            refine wpAnyH_done (by kernel_rfl) ?_ _
            go_wp2_with fail
            go_meet
            exact ⟨bm, rfl, rfl, rfl, hE, HBR.out.trans (Bc.out.mono HBR.out.size)⟩
          · skip
            have HSZ := Lib.hid Bc.out.size
            go_simp
            refine held_more hK HS0.out hlt (Bc.out.alloc Bc.out.size _) (fun Bc hSn => ?_)
            clear hK
            have HN := Lib.hid (st_new V noughtS)
            change wpAnyH _ _ _ _ _ _ _ _ (V.alloc (boxSt noughtS))
            have Bc2 := Lib.hid (show Below V.heap.size V (V.alloc (boxSt noughtS)) from Bc.out)
            clear Bc
            have Bc := Bc2
            clear Bc2
            generalize V.alloc (boxSt noughtS) = Xn at *
            obtain ⟨bm, hbm⟩ : ∃ bm, bm = V.heap.size := ⟨_, rfl⟩
            have HLE := Lib.hid (show V.heap.size ≤ bm by rw [hbm]; exact HSZ.out)
            rw [← hbm] at HN ⊢
            clear hbm HSZ
            refine wpAnyH_ready (rs := [14]) (by kernel_rfl) (by simp) ?_
            refine AllReadyH.cons (o := ?oz8) ?iz8 (fun K hK => ?kz8) AllReadyH.nil
            case iz8 => (simp only [List.getElem?_toArray, List.getElem?_cons_zero, List.getElem?_cons_succ]; rfl)
            go_simp
            change Calls _ _ #[insV I0 (.slice ad I0.l.length cap), staV y.s, .int .i64 jv] _ _
            have BCUR := Lib.hid (HBc.out.trans (Bc.out.mono HBc.out.size))
            refine (smove_any (HRc.out.below Bc.out) HSY.out).mono ?_
            clear BCUR
            rintro e w7 ⟨rfl, hb⟩
            have HNn := Lib.hid (HN.out.later hb)
            clear HN
            have HN := HNn
            clear HNn
            rw [HQS.out, HCC.out, HPP.out]
            rw [show staV qs = .agg #[.int .i64 qs.pos, .int .i64 qs.car, .int .i64 qs.time, .int .i64 qs.load, .int .i64 qs.first, .int .u64 qs.must, .int .u64 qs.may, .int .u64 qs.on] from rfl]
            refine held_more hK HS0.out hlt (Bc.out.trans (hb.mono Bc.out.size)) (fun Bc hSn => ?_)
            clear hb hK
            refine tks [15, 16, 17, 18] 4 rfl (by kernel_rfl) (fun _ _ _ _ h => h) (by assumption) (fun KT hKT => ?_)
            iterate 4 (refine tkT (by (simp only [gA, gB, gC]; rfl)) (by rfl) (by (intro w hSw; (simp only [Holds] at hSw); go_simp <;> with_reducible rfl)) ?_; simp only [Act.put, pA, pB, pC])
            refine hKT _ ?_
            clear KT hKT
            refine wpAnyH_ready (rs := [20]) (by kernel_rfl) (by simp) ?_
            refine (AllReadyH.cons (o := ?oz9) ?iz9 (fun K hK => ?kz9) AllReadyH.nil)
            case iz9 => (simp only [List.getElem?_toArray, List.getElem?_cons_zero, List.getElem?_cons_succ]; rfl)
            simp only [Act.put]
            rw [if_pos (by rfl)]
            refine wp_store_state (.tmp 17) (.tmp 115) (by rfl) bm _ qs (by rfl) (by rfl) HN.out ?_
            intro wE hE hbE
            refine held_more hK HS0.out hlt (Bc.out.trans (hbE _ HLE.out)) (fun Bc hSn => ?_)
            clear hK
            refine tks [21, 22] 2 rfl (by kernel_rfl) (fun _ _ _ _ h => h) (by assumption) (fun KT hKT => ?_)
            iterate 2 (refine tkT (by (simp only [gA, gB, gC]; rfl)) (by rfl) (by (intro w hSw; (simp only [Holds] at hSw); go_simp <;> with_reducible rfl)) ?_; simp only [Act.put, pA, pB, pC])
            refine hKT _ ?_
            clear KT hKT
            refine wpAnyH_done (by kernel_rfl) ?_ _
            go_wp2_with fail
            go_meet
            exact ⟨bm, rfl, rfl, rfl, hE, HBR.out.trans (Bc.out.mono HBR.out.size)⟩
        case rest =>
        obtain ⟨bm, rfl, rfl, rfl, fn, fb2⟩ := hcut
        have HM := Lib.hid fn
        have HBX := Lib.hid fb2
        have HNA := Lib.hid (HN1.out.below HL1.out HBX.out)
        have HNB := Lib.hid (HN2.out.below HL2.out HBX.out)
        have HBY := Lib.hid (HBQ.out.trans (HBX.out.mono HBQ.out.size))
        clear fn fb2
        generalize wc = WE at *
        go_upto_region 21 with fail
        have HL1v := Lib.hid (show b1 < WE.drew.heap.size from Nat.lt_of_lt_of_le HL1.out HBX.out.size)
        have HL2v := Lib.hid (show b2 < WE.drew.heap.size from Nat.lt_of_lt_of_le HL2.out HBX.out.size)
        have HBZ := Lib.hid (HBY.out.trans ((Below.refl _ WE).drew.mono HBY.out.size))
        have HMn := Lib.hid (HM.out.later (Below.refl _ WE).drew)
        have HBYn := Lib.hid HBY.out.drew
        clear HM HBY
        have HM := HMn
        have HBY := HBYn
        clear HMn HBYn
        have HS0 := Lib.hid (show Holds (cellsSt bm qs ++ ((cellsRN b1 (o1 + j * 10) y.s y.cost (.slice qa yn qc)) ++ (cellsRN b2 (o2 + k * 10) x.s x.cost (.slice (some ⟨b3, o3, none⟩) xn pc)))) WE.drew from (Holds.app.2 ⟨HM.out.holds, (Holds.app.2 ⟨holds_RN HNA.out, holds_RN HNB.out⟩)⟩))
        refine wp_region_held_drew (S := Holds (cellsSt bm qs ++ ((cellsRN b1 (o1 + j * 10) y.s y.cost (.slice qa yn qc)) ++ (cellsRN b2 (o2 + k * 10) x.s x.cost (.slice (some ⟨b3, o3, none⟩) xn pc))))) (by kernel_rfl) HS0.out (fun hSn => ?_)
        generalize WE.drew = V at *
        have hlt := Lib.hid (show Lows V.heap.size (cellsSt bm qs ++ ((cellsRN b1 (o1 + j * 10) y.s y.cost (.slice qa yn qc)) ++ (cellsRN b2 (o2 + k * 10) x.s x.cost (.slice (some ⟨b3, o3, none⟩) xn pc)))) from (Lows.app (lows_St HM.out.lt) (Lows.app (lows_RN HL1v.out) (lows_RN HL2v.out))))
        have Bc := Lib.hid (Below.refl V.heap.size V)
        simp only [cellsSt, cellsRN, List.cons_append, List.nil_append] at HS0 hlt hSn ⊢
        have kg := guardSta
        cases fb with
        | true =>
          refine tks [0, 1] 2 rfl (by kernel_rfl) (fun _ _ _ _ h => h) (by assumption) (fun KT hKT => ?_)
          iterate 2 (refine tkT (by (simp only [gA, gB, gC]; rfl)) (by rfl) (by (intro w hSw; (simp only [Holds] at hSw); go_simp <;> with_reducible rfl)) ?_; simp only [Act.put, pA, pB, pC])
          refine hKT _ ?_
          clear KT hKT
          refine tks [2, 3, 4, 5, 6, 7, 8, 9, 10, 11, 12, 13, 14, 15, 16, 17, 18, 19, 20, 21, 22, 23, 24, 25, 26] 25 rfl (by kernel_rfl) (fun _ _ _ _ h => h) (by assumption) (fun KT hKT => ?_)
          iterate 25 (refine tkS (by (simp only [gA, gB, gC]; rfl)) (by rfl) ?_; simp only [Act.put, pA, pB, pC])
          refine hKT _ ?_
          clear KT hKT
          refine tks [27, 28] 2 rfl (by kernel_rfl) (fun _ _ _ _ h => h) (by assumption) (fun KT hKT => ?_)
          iterate 2 (refine tkT (by (simp only [gA, gB, gC]; rfl)) (by rfl) (by (intro w hSw; (simp only [Holds] at hSw); go_simp <;> with_reducible rfl)) ?_; simp only [Act.put, pA, pB, pC])
          refine hKT _ ?_
          clear KT hKT
          refine wpAnyH_done (by kernel_rfl) ?_ _
          go_wp2_with fail
          go_roundw
          case rel => exact ⟨j + 1, HJ.out, by go_num, by rw [HNX.out]; rfl, HBZ.out⟩
          case measure => have := HJ.out; simp [intOf]; omega
        | false =>
          cases pp with
          | false =>
            have HQ := Lib.hid (show decide (LeadsTo I0 y x) = false from decide_eq_false (fun h => of_decide_eq_false HPP.out (HLT.out.1 h).1))
            refine tks [0, 1, 2, 3] 4 rfl (by kernel_rfl) (fun _ _ _ _ h => h) (by assumption) (fun KT hKT => ?_)
            iterate 4 (refine tkT (by (simp only [gA, gB, gC]; rfl)) (by rfl) (by (intro w hSw; (simp only [Holds] at hSw); go_simp <;> with_reducible rfl)) ?_; simp only [Act.put, pA, pB, pC])
            refine hKT _ ?_
            clear KT hKT
            refine tks [4, 5, 6, 7, 8, 9, 10] 7 rfl (by kernel_rfl) (fun _ _ _ _ h => h) (by assumption) (fun KT hKT => ?_)
            iterate 7 (refine tkS (by (simp only [gA, gB, gC]; rfl)) (by rfl) ?_; simp only [Act.put, pA, pB, pC])
            refine hKT _ ?_
            clear KT hKT
            refine tks [11, 12] 2 rfl (by kernel_rfl) (fun _ _ _ _ h => h) (by assumption) (fun KT hKT => ?_)
            iterate 2 (refine tkT (by (simp only [gA, gB, gC]; rfl)) (by rfl) (by (intro w hSw; (simp only [Holds] at hSw); go_simp <;> with_reducible rfl)) ?_; simp only [Act.put, pA, pB, pC])
            refine hKT _ ?_
            clear KT hKT
            refine tks [13, 14, 15, 16, 17, 18, 19, 20, 21, 22, 23, 24, 25] 13 rfl (by kernel_rfl) (fun _ _ _ _ h => h) (by assumption) (fun KT hKT => ?_)
            iterate 13 (refine tkS (by (simp only [gA, gB, gC]; rfl)) (by rfl) ?_; simp only [Act.put, pA, pB, pC])
            refine hKT _ ?_
            clear KT hKT
            refine tks [26, 27, 28] 3 rfl (by kernel_rfl) (fun _ _ _ _ h => h) (by assumption) (fun KT hKT => ?_)
            iterate 3 (refine tkT (by (simp only [gA, gB, gC]; rfl)) (by rfl) (by (intro w hSw; (simp only [Holds] at hSw); go_simp <;> with_reducible rfl)) ?_; simp only [Act.put, pA, pB, pC])
            refine hKT _ ?_
            clear KT hKT
            refine wpAnyH_done (by kernel_rfl) ?_ _
            go_wp2_with fail
            go_roundw
            case rel => exact ⟨j + 1, HJ.out, by go_num, by rw [HNX.out, ← HDQ.out, HQ.out]; rfl, HBZ.out⟩
            case measure => have := HJ.out; simp [intOf]; omega
          | true =>
            have hcan : Can I0 y.s jv := of_decide_eq_true HPP.out
            have hq : nextS I0 y.s jv = qs := by rw [← HQS.out]; unfold moveS; rw [if_pos hcan]
            have hc : farS1 I0 y.s jv = cc := by rw [← HCC.out]; unfold moveC; rw [if_pos hcan]
            have hcb : 0 ≤ cc ∧ cc ≤ 14143 := by rw [← hc]; exact farF_bd _ _
            have HLT2 := Lib.hid (show LeadsTo I0 y x ↔ (qs = x.s ∧ y.cost + cc = x.cost) by rw [HLT.out, hq, hc]; exact ⟨fun h => h.2, fun h => ⟨hcan, h⟩⟩)
            have hadd : IntKind.i64.wrap (y.cost + cc) = y.cost + cc := IntWalk.i64_in _ (by have := HCY.out; omega)
            clear hcan hq hc hcb
            by_cases e1 : qs = x.s
            rotate_left
            · have keq := fun w => equalSta qs x.s w
              rw [decide_eq_false e1] at keq
              have HQ := Lib.hid (show decide (LeadsTo I0 y x) = false from decide_eq_false (fun h => e1 (HLT2.out.1 h).1))
              clear e1
              refine tks [0, 1, 2, 3, 4, 5, 6, 7, 8, 9, 10, 11, 12] 13 rfl (by kernel_rfl) (fun _ _ _ _ h => h) (by assumption) (fun KT hKT => ?_)
              iterate 13 (refine tkT (by (simp only [gA, gB, gC]; rfl)) (by rfl) (by (intro w hSw; (simp only [Holds] at hSw); go_simp <;> with_reducible rfl)) ?_; simp only [Act.put, pA, pB, pC])
              refine hKT _ ?_
              clear KT hKT
              refine tks [13, 14, 15, 16, 17, 18, 19, 20, 21, 22, 23, 24, 25] 13 rfl (by kernel_rfl) (fun _ _ _ _ h => h) (by assumption) (fun KT hKT => ?_)
              iterate 13 (refine tkS (by (simp only [gA, gB, gC]; rfl)) (by rfl) ?_; simp only [Act.put, pA, pB, pC])
              refine hKT _ ?_
              clear KT hKT
              refine tks [26, 27, 28] 3 rfl (by kernel_rfl) (fun _ _ _ _ h => h) (by assumption) (fun KT hKT => ?_)
              iterate 3 (refine tkT (by (simp only [gA, gB, gC]; rfl)) (by rfl) (by (intro w hSw; (simp only [Holds] at hSw); go_simp <;> with_reducible rfl)) ?_; simp only [Act.put, pA, pB, pC])
              refine hKT _ ?_
              clear KT hKT
              refine wpAnyH_done (by kernel_rfl) ?_ _
              go_wp2_with fail
              go_roundw
              case rel => exact ⟨j + 1, HJ.out, by go_num, by rw [HNX.out, ← HDQ.out, HQ.out]; rfl, HBZ.out⟩
              case measure => have := HJ.out; simp [intOf]; omega
            have keq := fun w => equalSta qs x.s w
            rw [decide_eq_true e1] at keq
            have E1 := Lib.hid e1
            clear e1
            by_cases e2 : y.cost + cc = x.cost
            · have b2 : (y.cost + cc == x.cost) = true := by simp [e2]
              have HQ := Lib.hid (show decide (LeadsTo I0 y x) = true from decide_eq_true (HLT2.out.2 ⟨E1.out, e2⟩))
              clear e2
              refine tks [0, 1, 2, 3, 4, 5, 6, 7, 8, 9, 10, 11, 12, 13, 14, 15, 16, 17, 18, 19, 20, 21, 22, 23, 24, 25, 26, 27, 28] 29 rfl (by kernel_rfl) (fun _ _ _ _ h => h) (by assumption) (fun KT hKT => ?_)
              iterate 29 (refine tkT (by (simp only [gA, gB, gC]; rfl)) (by rfl) (by (intro w hSw; (simp only [Holds] at hSw); go_simp <;> with_reducible rfl)) ?_; simp only [Act.put, pA, pB, pC])
              refine hKT _ ?_
              clear KT hKT
              refine wpAnyH_done (by kernel_rfl) ?_ _
              go_wp2_with fail
              go_roundw
              case rel => exact ⟨j + 1, HJ.out, by go_num, by rw [HNX.out, ← HDQ.out, HQ.out]; rfl, HBZ.out⟩
              case measure => have := HJ.out; simp [intOf]; omega
            · have b2 : (y.cost + cc == x.cost) = false := by simp [e2]
              have HQ := Lib.hid (show decide (LeadsTo I0 y x) = false from decide_eq_false (fun h => e2 (HLT2.out.1 h).2))
              clear e2
              refine tks [0, 1, 2, 3, 4, 5, 6, 7, 8, 9, 10, 11, 12, 13, 14, 15, 16, 17, 18, 19, 20, 21, 22, 23, 24, 25, 26, 27, 28] 29 rfl (by kernel_rfl) (fun _ _ _ _ h => h) (by assumption) (fun KT hKT => ?_)
              iterate 29 (refine tkT (by (simp only [gA, gB, gC]; rfl)) (by rfl) (by (intro w hSw; (simp only [Holds] at hSw); go_simp <;> with_reducible rfl)) ?_; simp only [Act.put, pA, pB, pC])
              refine hKT _ ?_
              clear KT hKT
              refine wpAnyH_done (by kernel_rfl) ?_ _
              go_wp2_with fail
              go_roundw
              case rel => exact ⟨j + 1, HJ.out, by go_num, by rw [HNX.out, ← HDQ.out, HQ.out]; rfl, HBZ.out⟩
              case measure => have := HJ.out; simp [intOf]; omega

set_option maxRecDepth 100000 in
theorem lifted (os : Os) (started : os.Started) (H : Type) (enc : TypeId × Value → H) :
    ReturnsInHanded {} Try.checked os 5 .any (Rows.levelChildrenSpec.pre6 enc Try.prog Try.f5 Rows.levelChildrenRow.domain false) (Rows.levelChildrenSpec.post enc Try.prog Try.f5 false true false false) := by
  refine returnsInHanded_of_change (C := Try.checked) own started (by kernel_rfl) Try.func5
    (ChangeSpec.witness6 (enc := enc) (C := Try.checked) false ⟨#[], #[.agg #[.int .i64 0, .int .i64 0, .int .i64 0, .slice none 0 0], .slice none 0 0, .int .i64 0], []⟩ 8 (by kernel_rfl) (by kernel_rfl) (by kernel_rfl) (by kernel_rfl)) ?_
  intro W base args ds gs before hval0 hW hcnd _
  have hval : ∀ (j : Nat) t v, Try.f5.params[j]? = some t → args[j]? = some v → Value.okWide Try.prog W .any base t v := hval0
  have hW' := hW
  obtain ⟨p, q, hA0, hV, rfl, hfz, hnd⟩ := hW
  have hA : DataW.TrodAll enc Try.prog W 0 (fun _ => true) true Try.f5.params.toList args.toList ds p := hA0
  rw [Try.params5] at hA hval
  obtain ⟨v0, vs0, d0, ds0, p0, q0, hargs, rfl, rfl, h0, r0⟩ := trodAll_cons hA
  obtain ⟨v1, vs1, d1, ds1, p1, q1, rfl, rfl, rfl, h1, r1⟩ := trodAll_cons r0
  obtain ⟨v2, vs2, d2, ds2, p2, q2, rfl, rfl, rfl, h2, r2⟩ := trodAll_cons r1
  obtain ⟨rfl, rfl, rfl⟩ := trodAll_nil r2
  obtain rfl : args = #[v0, v1, v2] := by cases args; simp_all
  obtain ⟨rfl, rfl⟩ := trodVars_none hV
  have k0 := h0
  have lt0 : ∀ x ∈ p0, x.block < W.heap.size := by obtain ⟨m, hm⟩ := k0; exact DataW.trod_lt m _ _ _ hm
  have k1 := h1
  have lt1 : ∀ x ∈ p1, x.block < W.heap.size := by obtain ⟨m, hm⟩ := k1; exact DataW.trod_lt m _ _ _ hm
  have k2 := h2
  have lt2 : ∀ x ∈ p2, x.block < W.heap.size := by obtain ⟨m, hm⟩ := k2; exact DataW.trod_lt m _ _ _ hm
  obtain ⟨I0, u0, rfl, e0, _⟩ := open_inst (hval 0 24 v0 rfl rfl) h0
  obtain ⟨a1, len1, cap1, rfl⟩ := okWide_slice Try.underlying26 (hval 1 26 v1 rfl rfl)
  obtain ⟨l1, e1, f1⟩ := open_nodes h1
  obtain ⟨a2, rfl, rfl, rfl, i2⟩ := open_int Try.underlying3 (hval 2 3 v2 rfl rfl) h2
  clear hA0 hval0
  refine (walk I0 _ _ l1 a2 W e0 e1 f1).mono fun e W' ⟨he, bel⟩ => ?_
  subst he
  exact ⟨_, rfl, _, _, _, [], _, [], hW', trodAll_mk1 (shut_bool Try.underlying4 _), (trodAll_cons_mk (Below.trod laidOut (by kernel_rfl) (of_decide_eq_true (by kernel_rfl)) k0 bel lt0) (trodAll_cons_mk (Below.trod laidOut (by kernel_rfl) (of_decide_eq_true (by kernel_rfl)) k1 bel lt1) (trodAll_cons_mk (Below.trod laidOut (by kernel_rfl) (of_decide_eq_true (by kernel_rfl)) k2 bel lt2) trodAll_mk0))), rfl, bel.frame _, fun h => by cases h⟩

theorem over : Rows.levelChildrenRow.holds Try.pinned (OpenSpec.ofChange Rows.levelChildrenSpec) :=
  OpenClaim.holds_of_wide 5 Try.f5 rfl rfl rfl rfl rfl rfl rfl ⟨rfl, rfl, rfl, rfl, rfl⟩ rfl rfl rfl rfl rfl (by kernel_rfl) Try.func5 (by kernel_rfl)
    (of_decide_eq_true (by kernel_rfl)) (by unfold Func.isWrapper; first | (rw [if_pos (by decide +kernel)]; kernel_rfl) | (rw [if_neg (by decide +kernel)]; exact ⟨rfl, rfl⟩))
    (fun os started H enc _ => lifted os started H enc)

theorem proved : Rows.LevelChildrenSaid := over
#print axioms proved
end Go.Proofs.Ytkljmnfekdoocaa.levelChildren
