/- Of what level.Once answers for at most 60 nodes no two have the same state, each stands in the list, and for each of the list there is one of its state that has cost no more: haulierlaw14.LevelOnce answers true. Condition: none. -/
import Derived.Test.YtkljmnfekdoocaaRows
import Derived.Test.YtkljmnfekdoocaaLAwake
import Derived.Test.YtkljmnfekdoocaaXN
import Derived.Test.YtkljmnfekdoocaaGSame
import Derived.Test.YtkljmnfekdoocaaGThan
import Derived.Test.YtkljmnfekdoocaaXK
import Derived.Test.YtkljmnfekdoocaaSArgs
import Derived.Test.YtkljmnfekdoocaaXSDoc
import Derived.Test.YtkljmnfekdoocaaBMore
import Derived.Test.YtkljmnfekdoocaaXR3
namespace Go.Proofs.Ytkljmnfekdoocaa.levelOnce
open Go.ChangeShapes Go.WideShapes Go.ChangeAt Go.RowKit

/-- One node of a row, as a row. -/
theorem nrow_sub {w : World} {b off n cap : Nat} {l : List Nod} (h : NRow w (.slice (some ⟨b, off, none⟩) n cap) l) (i : Nat) (hi : i < l.length) : NRow w (.slice (some ⟨b, off + i * 10, none⟩) 1 (cap - i)) [nodAt l i] := by
  obtain ⟨a0, cap0, he, hm, hc, hcm⟩ := h.form
  simp only [Value.slice.injEq] at he
  obtain ⟨-, rfl, rfl⟩ := he
  obtain ⟨raw, h1, h2⟩ := h
  have hl := h2.len
  have k1 := GRow.cut h1 (i + 1) (by omega)
  have e1 : (raw.take (i + 1)).length = i + 1 := by rw [List.length_take]; omega
  have k2 := GRow.rest k1 i (by omega) (some ⟨b, off + i * 10, none⟩) (fun b' off' he => by
    simp only [Option.some.injEq, Addr.mk.injEq, and_true] at he
    obtain ⟨rfl, rfl⟩ := he
    rw [if_neg (by omega)]) (fun he => by cases he)
  rw [e1, show i + 1 - i = 1 by omega] at k2
  have e2 : (l.take (i + 1)).drop i = [nodAt l i] := by
    rw [List.take_succ_eq_append_getElem hi, List.drop_append_of_le_length (by rw [List.length_take]; omega), List.drop_eq_nil_of_le (by rw [List.length_take]; omega)]
    unfold nodAt
    rw [List.getD_eq_getElem?_getD, List.getElem?_eq_getElem hi]; rfl
  exact ⟨_, k2, by rw [← e2]; exact NIn.drop i (NIn.take (i + 1) h2)⟩
/-- Whether one of the first i is so. -/
def anyK (p : Nat → Prop) [DecidablePred p] (i : Nat) : Bool := decide (∃ j, j < i ∧ p j)
theorem anyK_succ (p : Nat → Prop) [DecidablePred p] (i : Nat) : anyK p (i + 1) = (anyK p i || decide (p i)) := by
  unfold anyK
  rw [Bool.eq_iff_iff]
  simp only [decide_eq_true_eq, Bool.or_eq_true]
  constructor
  · rintro ⟨j, hj, hp⟩
    by_cases e : j = i
    · subst e; exact .inr hp
    · exact .inl ⟨j, by omega, hp⟩
  · rintro (⟨j, hj, hp⟩ | h)
    · exact ⟨j, by omega, hp⟩
    · exact ⟨i, by omega, h⟩
theorem anyK_zero (p : Nat → Prop) [DecidablePred p] : anyK p 0 = false := by unfold anyK; simp
theorem nod_in {l : List Nod} {x : Nod} (h : x ∈ l) : ∃ i, i < l.length ∧ nodAt l i = x := by
  obtain ⟨i, hi, rfl⟩ := List.mem_iff_getElem.1 h
  exact ⟨i, hi, by unfold nodAt; rw [List.getD_eq_getElem?_getD, List.getElem?_eq_getElem hi]; rfl⟩
set_option maxRecDepth 1000000 in
set_option maxHeartbeats 4000000 in
theorem walk (v0 : Value) (l0 : List Nod) (w : World) (e0 : NRow w v0 l0) (f0 : ∀ n ∈ l0, NodFit n) :
    Calls Try.prog 4 #[v0] w fun e w' => e = .returned (.bool true) ∧ Below w.heap.size w w' := by
  have HL := Lib.hid e0
  have HFT := Lib.hid f0
  have HB := Lib.hid (Below.refl w.heap.size w)
  obtain ⟨la, lc, rfl, hm, _⟩ := e0.form
  clear e0 f0 hm
  go_enter Try.func4, Try.ntmps4
  go_wp2_with fail
  refine (lawake_any _).mono ?_
  rintro e w1 ⟨rfl, hb⟩
  have HLn := Lib.hid (HL.out.below hb)
  clear HL
  have HL := HLn
  clear HLn
  have HBn := Lib.hid (HB.out.trans (hb.mono HB.out.size))
  clear HB
  have HB := HBn
  clear HBn
  clear hb
  go_wp2_with fail
  refine (fewN_any HL.out).mono ?_
  rintro e w2 ⟨rfl, rfl⟩
  by_cases hf : FewN l0
  rotate_left
  · rw [decide_eq_false hf]
    clear hf
    go_wp2
    go_ret
    exact ⟨rfl, HB.out⟩
  rw [decide_eq_true hf]
  have HF := Lib.hid hf
  clear hf
  have HOK := Lib.hid (NodesOk.of HFT.out HF.out.2)
  have HLE := Lib.hid (show l0.length ≤ 60 from HF.out.1)
  have hlm : l0.length ≤ 9223372036854775807 := by have := HLE.out; omega
  go_wp2_with fail
  refine (lonce_any HL.out (Below.refl _ _) HOK.out (by have := HLE.out; omega)).mono ?_
  rintro e w3 ⟨z, rfl, hu, hb⟩
  have HZ := Lib.hid (hu.row hb)
  clear hu
  have HLn := Lib.hid (HL.out.below hb)
  clear HL
  have HL := HLn
  clear HLn
  have HBn := Lib.hid (HB.out.trans (hb.mono HB.out.size))
  clear HB
  have HB := HBn
  clear HBn
  clear hb
  have HAP := Lib.hid (show ∀ i k, i < k → k < (onceL l0).length → (nodAt (onceL l0) i).s ≠ (nodAt (onceL l0) k).s from fun i k hik hk => by
    have h1 := (List.pairwise_iff_getElem.1 (once_apart l0)) i k (by omega) hk hik
    have e1 : nodAt (onceL l0) i = (onceL l0)[i]'(by omega) := by unfold nodAt; rw [List.getD_eq_getElem?_getD, List.getElem?_eq_getElem (by omega)]; rfl
    have e2 : nodAt (onceL l0) k = (onceL l0)[k]'hk := by unfold nodAt; rw [List.getD_eq_getElem?_getD, List.getElem?_eq_getElem hk]; rfl
    rw [e1, e2]; exact h1)
  have HIN := Lib.hid (show ∀ k, k < (onceL l0).length → ∃ i, i < l0.length ∧ nodAt l0 i = nodAt (onceL l0) k from fun k hk => nod_in (once_mem _ (nodAt_mem hk)))
  have HHS := Lib.hid (show ∀ i, i < l0.length → ∃ k, k < (onceL l0).length ∧ ((nodAt (onceL l0) k).s = (nodAt l0 i).s ∧ (nodAt (onceL l0) k).cost ≤ (nodAt l0 i).cost) from fun i hi => by
    obtain ⟨y, hy, h1, h2⟩ := once_has _ (nodAt_mem hi)
    obtain ⟨k, hk, rfl⟩ := nod_in hy
    exact ⟨k, hk, h1, h2⟩)
  have HML := Lib.hid (show (onceL l0).length ≤ 60 from Nat.le_trans (once_len _) HLE.out)
  obtain ⟨M, hM⟩ : ∃ M, onceL l0 = M := ⟨_, rfl⟩
  rw [hM] at HZ HAP HIN HHS HML
  clear hM
  obtain ⟨za, zc, rfl, _⟩ := HZ.out.form
  obtain ⟨ml, hml⟩ : ∃ m, M.length = m := ⟨_, rfl⟩
  rw [hml] at HZ HAP HIN HHS HML ⊢
  have HLM := Lib.hid hml
  have hmlm : ml ≤ 9223372036854775807 := by have := HML.out; omega
  clear hml
  obtain ⟨W5, hW5⟩ : ∃ W, w3 = W := ⟨_, rfl⟩
  rw [hW5] at HL HZ HB ⊢
  clear hW5
  go_wp2_with fail
  go_loopw [6] (fun i wr => ∃ k : Nat, k ≤ ml ∧ i = .int .i64 k ∧ Below W5.heap.size W5 wr) (fun i _ => ml - (intOf i).toNat)
  case atStart => exact ⟨0, Nat.zero_le _, rfl, Below.refl _ _⟩
  case round =>
    obtain ⟨k, hk, rfl, hbw⟩ := hrel
    have HBW := Lib.hid hbw
    clear hbw
    generalize wr = W1 at *
    by_cases hlt : k < ml
    rotate_left
    · obtain rfl : ml = k := by omega
      have hlt2 : ¬ (ml : Int) < (ml : Int) := by omega
      clear hlt hk
      go_wp2_with fail
      have HB9 := Lib.hid (HB.out.trans (HBW.out.mono HB.out.size))
      go_loopw [11] (fun i wr => ∃ k : Nat, k ≤ l0.length ∧ i = .int .i64 k ∧ Below W1.heap.size W1 wr) (fun i _ => l0.length - (intOf i).toNat)
      case atStart => exact ⟨0, Nat.zero_le _, rfl, Below.refl _ _⟩
      case round =>
        obtain ⟨i, hi, rfl, hbx⟩ := hrel
        have HBX := Lib.hid hbx
        clear hbx
        generalize wr = W2 at *
        by_cases hlt : i < l0.length
        rotate_left
        · obtain rfl : i = l0.length := by omega
          have hlt2 : ¬ (l0.length : Int) < (l0.length : Int) := by omega
          clear hlt hi
          go_wp2
          go_ret
          exact ⟨rfl, HB9.out.trans (HBX.out.mono HB9.out.size)⟩
        have HI := Lib.hid hlt
        have hii : (i : Int) < (l0.length : Int) := by omega
        have hia : IntKind.i64.wrap ((i : Int) + 1) = ((i + 1 : Nat) : Int) := by rw [IntWalk.i64_in _ (by omega)]; omega
        clear hlt hi
        go_wp2_with fail
        go_loopw [12, 13] (fun s iv wr => ∃ j : Nat, j ≤ ml ∧ iv = .int .i64 j ∧ s = .bool (anyK (fun k => (nodAt M k).s = (nodAt l0 i).s ∧ (nodAt M k).cost ≤ (nodAt l0 i).cost) j) ∧ Below W2.heap.size W2 wr) (fun _ i _ => ml - (intOf i).toNat)
        case atStart => exact ⟨0, Nat.zero_le _, rfl, by rw [anyK_zero], Below.refl _ _⟩
        case round =>
          obtain ⟨j, hj, rfl, rfl, hbq⟩ := hrel
          have HBQ := Lib.hid hbq
          clear hbq
          generalize wr = WC at *
          obtain ⟨fb, hfb⟩ : ∃ b, anyK (fun k => (nodAt M k).s = (nodAt l0 i).s ∧ (nodAt M k).cost ≤ (nodAt l0 i).cost) j = b := ⟨_, rfl⟩
          rw [hfb]
          have HFB := Lib.hid hfb
          clear hfb
          by_cases hlt : j < ml
          rotate_left
          · obtain rfl : ml = j := by omega
            have hji : ¬ (ml : Int) < (ml : Int) := by omega
            obtain rfl : fb = true := by
              rw [← HFB.out]
              obtain ⟨k, hk, he⟩ := HHS.out i HI.out
              exact decide_eq_true ⟨k, hk, he⟩
            have HBY := Lib.hid (HBX.out.trans (HBQ.out.mono HBX.out.size))
            clear hlt hj
            go_wp2_with fail
            go_roundw
            case rel => exact ⟨i + 1, HI.out, by go_num, HBY.out⟩
            case measure => have := HI.out; simp [intOf]; omega
          have HJ := Lib.hid hlt
          have hji : (j : Int) < (ml : Int) := by omega
          have hja : IntKind.i64.wrap ((j : Int) + 1) = ((j + 1 : Nat) : Int) := by rw [IntWalk.i64_in _ (by omega)]; omega
          have hbz : Below W5.heap.size W5 WC := HBW.out.trans ((HBX.out.trans (HBQ.out.mono HBX.out.size)).mono HBW.out.size)
          obtain ⟨b1, o1, pa, pc, ha1, hn1, hl1, _⟩ := nrow_at (HL.out.below hbz) i _ (nodAt_is HI.out)
          subst ha1
          obtain ⟨b2, o2, qa, qc, ha2, hn2, hl2, _⟩ := nrow_at (HZ.out.below hbz) j _ (nodAt_is (by rw [HLM.out]; exact hlt))
          subst ha2
          have HNX := Lib.hid (show anyK (fun k => (nodAt M k).s = (nodAt l0 i).s ∧ (nodAt M k).cost ≤ (nodAt l0 i).cost) (j + 1) = (fb || decide ((nodAt M j).s = (nodAt l0 i).s ∧ (nodAt M j).cost ≤ (nodAt l0 i).cost)) by rw [anyK_succ, HFB.out])
          have HN1 := Lib.hid hn1
          have HN2 := Lib.hid hn2
          have HL1 := Lib.hid hl1
          have HL2 := Lib.hid hl2
          obtain ⟨x, hx⟩ : ∃ x, nodAt l0 i = x := ⟨_, rfl⟩
          obtain ⟨y, hy⟩ : ∃ y, nodAt M j = y := ⟨_, rfl⟩
          rw [hx] at HN1
          rw [hy] at HN2
          obtain ⟨dq, hdq⟩ : ∃ b, decide ((nodAt M j).s = (nodAt l0 i).s ∧ (nodAt M j).cost ≤ (nodAt l0 i).cost) = b := ⟨_, rfl⟩
          rw [hdq] at HNX
          rw [hx, hy] at hdq
          have HDQ := Lib.hid hdq
          clear hdq
          have HBD := Lib.hid HBQ.out.drew
          clear hn1 hn2 hl1 hl2 hbz hx hy hlt hj
          go_upto_region 29 with fail
          have HS0 := Lib.hid (show Holds (cellsRN b1 (o1 + i * 10) x.s x.cost (.slice pa x.path.length pc) ++ cellsRN b2 (o2 + j * 10) y.s y.cost (.slice qa y.path.length qc)) WC.drew from Holds.app.2 ⟨holds_RN HN1.out, holds_RN HN2.out⟩)
          have hlt := Lib.hid (show Lows WC.drew.heap.size (cellsRN b1 (o1 + i * 10) x.s x.cost (.slice pa x.path.length pc) ++ cellsRN b2 (o2 + j * 10) y.s y.cost (.slice qa y.path.length qc)) from Lows.app (lows_RN HL1.out) (lows_RN HL2.out))
          refine wp_region_held_drew (S := Holds (cellsRN b1 (o1 + i * 10) x.s x.cost (.slice pa x.path.length pc) ++ cellsRN b2 (o2 + j * 10) y.s y.cost (.slice qa y.path.length qc))) (by kernel_rfl) HS0.out (fun hSn => ?_)
          generalize WC.drew = V at *
          have Bc := Lib.hid (Below.refl V.heap.size V)
          simp only [cellsRN, List.cons_append, List.nil_append] at HS0 hlt hSn ⊢
          have kg := guardSta
          cases fb with
          | true =>
            refine tks [0, 1] 2 rfl (by kernel_rfl) (fun _ _ _ _ h => h) (by assumption) (fun KT hKT => ?_)
            iterate 2 (refine tkT (by (simp only [gA, gB, gC]; rfl)) (by rfl) (by (intro w hSw; (simp only [Holds] at hSw); go_simp <;> with_reducible rfl)) ?_; simp only [Act.put, pA, pB, pC])
            refine hKT _ ?_
            clear KT hKT
            refine tks [2, 3, 4, 5, 6, 7, 8, 9, 10, 11, 12, 13, 14, 15, 16, 17, 18, 19, 20, 21, 22, 23, 24, 25] 24 rfl (by kernel_rfl) (fun _ _ _ _ h => h) (by assumption) (fun KT hKT => ?_)
            iterate 24 (refine tkS (by (simp only [gA, gB, gC]; rfl)) (by rfl) ?_; simp only [Act.put, pA, pB, pC])
            refine hKT _ ?_
            clear KT hKT
            refine tks [26, 27] 2 rfl (by kernel_rfl) (fun _ _ _ _ h => h) (by assumption) (fun KT hKT => ?_)
            iterate 2 (refine tkT (by (simp only [gA, gB, gC]; rfl)) (by rfl) (by (intro w hSw; (simp only [Holds] at hSw); go_simp <;> with_reducible rfl)) ?_; simp only [Act.put, pA, pB, pC])
            refine hKT _ ?_
            clear KT hKT
            refine wpAnyH_done (by kernel_rfl) ?_ _
            go_wp2_with fail
            go_roundw
            case rel => exact ⟨j + 1, HJ.out, by go_num, by rw [HNX.out]; rfl, HBD.out⟩
            case measure => have := HJ.out; simp [intOf]; omega
          | false =>
            by_cases e1 : y.s = x.s
            rotate_left
            · have keq := fun w => equalSta y.s x.s w
              rw [decide_eq_false e1] at keq
              have HQ := Lib.hid (show decide (y.s = x.s ∧ y.cost ≤ x.cost) = false from decide_eq_false (fun h => e1 h.1))
              clear e1
              refine tks [0, 1, 2, 3, 4, 5, 6, 7, 8, 9, 10, 11, 12, 13] 14 rfl (by kernel_rfl) (fun _ _ _ _ h => h) (by assumption) (fun KT hKT => ?_)
              iterate 14 (refine tkT (by (simp only [gA, gB, gC]; rfl)) (by rfl) (by (intro w hSw; (simp only [Holds] at hSw); go_simp <;> with_reducible rfl)) ?_; simp only [Act.put, pA, pB, pC])
              refine hKT _ ?_
              clear KT hKT
              refine tks [14, 15, 16, 17, 18, 19, 20, 21, 22, 23, 24] 11 rfl (by kernel_rfl) (fun _ _ _ _ h => h) (by assumption) (fun KT hKT => ?_)
              iterate 11 (refine tkS (by (simp only [gA, gB, gC]; rfl)) (by rfl) ?_; simp only [Act.put, pA, pB, pC])
              refine hKT _ ?_
              clear KT hKT
              refine tks [25, 26, 27] 3 rfl (by kernel_rfl) (fun _ _ _ _ h => h) (by assumption) (fun KT hKT => ?_)
              iterate 3 (refine tkT (by (simp only [gA, gB, gC]; rfl)) (by rfl) (by (intro w hSw; (simp only [Holds] at hSw); go_simp <;> with_reducible rfl)) ?_; simp only [Act.put, pA, pB, pC])
              refine hKT _ ?_
              clear KT hKT
              refine wpAnyH_done (by kernel_rfl) ?_ _
              go_wp2_with fail
              go_roundw
              case rel => exact ⟨j + 1, HJ.out, by go_num, by rw [HNX.out, ← HDQ.out, HQ.out]; rfl, HBD.out⟩
              case measure => have := HJ.out; simp [intOf]; omega
            have keq := fun w => equalSta y.s x.s w
            rw [decide_eq_true e1] at keq
            have E1 := Lib.hid e1
            clear e1
            by_cases e2 : y.cost ≤ x.cost
            · have d2 := decide_eq_true e2
              have HQ := Lib.hid (show decide (y.s = x.s ∧ y.cost ≤ x.cost) = true from decide_eq_true ⟨E1.out, e2⟩)
              clear e2
              refine tks [0, 1, 2, 3, 4, 5, 6, 7, 8, 9, 10, 11, 12, 13, 14, 15, 16, 17, 18, 19, 20, 21, 22, 23, 24, 25, 26, 27] 28 rfl (by kernel_rfl) (fun _ _ _ _ h => h) (by assumption) (fun KT hKT => ?_)
              iterate 28 (refine tkT (by (simp only [gA, gB, gC]; rfl)) (by rfl) (by (intro w hSw; (simp only [Holds] at hSw); go_simp <;> with_reducible rfl)) ?_; simp only [Act.put, pA, pB, pC])
              refine hKT _ ?_
              clear KT hKT
              refine wpAnyH_done (by kernel_rfl) ?_ _
              go_wp2_with fail
              go_roundw
              case rel => exact ⟨j + 1, HJ.out, by go_num, by rw [HNX.out, ← HDQ.out, HQ.out]; rfl, HBD.out⟩
              case measure => have := HJ.out; simp [intOf]; omega
            · have d2 := decide_eq_false e2
              have HQ := Lib.hid (show decide (y.s = x.s ∧ y.cost ≤ x.cost) = false from decide_eq_false (fun h => e2 h.2))
              clear e2
              refine tks [0, 1, 2, 3, 4, 5, 6, 7, 8, 9, 10, 11, 12, 13, 14, 15, 16, 17, 18, 19, 20, 21, 22, 23, 24, 25, 26, 27] 28 rfl (by kernel_rfl) (fun _ _ _ _ h => h) (by assumption) (fun KT hKT => ?_)
              iterate 28 (refine tkT (by (simp only [gA, gB, gC]; rfl)) (by rfl) (by (intro w hSw; (simp only [Holds] at hSw); go_simp <;> with_reducible rfl)) ?_; simp only [Act.put, pA, pB, pC])
              refine hKT _ ?_
              clear KT hKT
              refine wpAnyH_done (by kernel_rfl) ?_ _
              go_wp2_with fail
              go_roundw
              case rel => exact ⟨j + 1, HJ.out, by go_num, by rw [HNX.out, ← HDQ.out, HQ.out]; rfl, HBD.out⟩
              case measure => have := HJ.out; simp [intOf]; omega
    have HK := Lib.hid hlt
    have hki : (k : Int) < (ml : Int) := by omega
    have hadd : IntKind.i64.wrap ((k : Int) + 1) = ((k + 1 : Nat) : Int) := by rw [IntWalk.i64_in _ (by omega)]; omega
    go_wp2_with fail
    go_loopw [7, 8] (fun s i wr => ∃ j : Nat, j ≤ l0.length ∧ i = .int .i64 j ∧ s = .bool (anyK (fun j => nodAt l0 j = nodAt M k) j) ∧ Below W1.heap.size W1 wr) (fun _ i _ => l0.length - (intOf i).toNat)
    case atStart => exact ⟨0, Nat.zero_le _, rfl, by rw [anyK_zero], Below.refl _ _⟩
    case round =>
      obtain ⟨j, hj, rfl, rfl, hbq⟩ := hrel
      have HBQ := Lib.hid hbq
      clear hbq
      generalize wr = WC at *
      obtain ⟨fb, hfb⟩ : ∃ b, anyK (fun j => nodAt l0 j = nodAt M k) j = b := ⟨_, rfl⟩
      rw [hfb]
      have HFB := Lib.hid hfb
      clear hfb
      by_cases hlt : j < l0.length
      · have HJ := Lib.hid hlt
        have hji : (j : Int) < (l0.length : Int) := by omega
        have hja : IntKind.i64.wrap ((j : Int) + 1) = ((j + 1 : Nat) : Int) := by rw [IntWalk.i64_in _ (by omega)]; omega
        have hka : IntKind.i64.wrap ((k : Int) + 1) = ((k + 1 : Nat) : Int) := by rw [IntWalk.i64_in _ (by have := HK.out; omega)]; have := HK.out; omega
        obtain ⟨b1, o1, _, _, ha1, _, _, _⟩ := nrow_at HL.out j _ (nodAt_is hlt)
        subst ha1
        obtain ⟨b2, o2, _, _, ha2, _, _, _⟩ := nrow_at HZ.out k _ (nodAt_is (by rw [HLM.out]; exact HK.out))
        subst ha2
        have hq1 : (j + 1 : Nat) ≤ lc := by obtain ⟨_, _, he, _, hc, _⟩ := HL.out.form; simp only [Value.slice.injEq] at he; omega
        have hq2 : (k + 1 : Nat) ≤ zc := by obtain ⟨_, _, he, _, hc, _⟩ := HZ.out.form; simp only [Value.slice.injEq] at he; have := HLM.out; have := HK.out; omega
        have hq3 : (0 : Int) ≤ (j : Int) + 1 := by omega
        have hq4 : (j : Int) + 1 ≤ (lc : Int) := by omega
        have hq5 : (0 : Int) ≤ (k : Int) + 1 := by omega
        have hq6 : (k : Int) + 1 ≤ (zc : Int) := by omega
        have hq7 : ¬ lc = j := by omega
        have hq8 : ¬ zc = k := by omega
        have HA := Lib.hid (nrow_sub (HL.out.below (HBW.out.trans (HBQ.out.mono HBW.out.size))) j hlt)
        have HC := Lib.hid (nrow_sub (HZ.out.below (HBW.out.trans (HBQ.out.mono HBW.out.size))) k (by rw [HLM.out]; exact HK.out))
        have HNX := Lib.hid (show anyK (fun j => nodAt l0 j = nodAt M k) (j + 1) = (fb || decide (nodAt l0 j = nodAt M k)) by rw [anyK_succ, HFB.out])
        have HDQ := Lib.hid (show decide ([nodAt l0 j] = [nodAt M k]) = decide (nodAt l0 j = nodAt M k) by simp)
        clear hlt hj
        go_upto_region 13 with fail
        have HS0 := Lib.hid (show Holds [] WC.drew from trivial)
        have hlt := Lib.hid (show Lows WC.drew.heap.size [] from trivial)
        have HAd := Lib.hid (HA.out.below (Below.refl _ WC).drew)
        have HCd := Lib.hid (HC.out.below (Below.refl _ WC).drew)
        have HBD := Lib.hid HBQ.out.drew
        refine wp_region_held_drew (S := Holds []) (by kernel_rfl) HS0.out (fun hSn => ?_)
        generalize WC.drew = V at *
        have Bc := Lib.hid (Below.refl V.heap.size V)
        refine tks [0, 1, 2, 3, 4, 5, 6, 7, 8, 9] 10 rfl (by kernel_rfl) (fun _ _ _ _ h => h) (by assumption) (fun KT hKT => ?_)
        iterate 10 (refine tkT (by (simp only [gA, gB, gC]; rfl)) (by rfl) (by (intro w hSw; (simp only [Holds] at hSw); go_simp <;> with_reducible rfl)) ?_; simp only [Act.put, pA, pB, pC])
        refine hKT _ ?_
        clear KT hKT
        refine wpAnyH_ready (rs := [10]) (by kernel_rfl) (by simp) ?_
        refine AllReadyH.cons (o := ?oz1) ?iz1 (fun K hK => ?kz1) AllReadyH.nil
        case iz1 => (simp only [List.getElem?_toArray, List.getElem?_cons_zero, List.getElem?_cons_succ]; rfl)
        go_simp
        refine (sameN_any HAd.out HCd.out).mono ?_
        rw [HDQ.out]
        rintro e w' ⟨rfl, hb⟩
        refine held_more hK HS0.out hlt (Bc.out.trans (hb.mono Bc.out.size)) (fun Bc hSn => ?_)
        clear hb hK
        refine tks [11] 1 rfl (by kernel_rfl) (fun _ _ _ _ h => h) (by assumption) (fun KT hKT => ?_)
        refine tkT (by (simp only [gA, gB, gC]; rfl)) (by rfl) (by (intro w hSw; (simp only [Holds] at hSw); go_simp <;> with_reducible rfl)) ?_
        simp only [Act.put, pA, pB, pC]
        refine hKT _ ?_
        clear KT hKT
        refine wpAnyH_done (by kernel_rfl) ?_ _
        obtain ⟨dq, hdq⟩ : ∃ b, decide (nodAt l0 j = nodAt M k) = b := ⟨_, rfl⟩
        rw [hdq] at HNX ⊢
        clear hdq HDQ HA HC HAd HCd
        cases fb with
        | true =>
          go_wp2_with fail
          go_roundw
          case rel => exact ⟨j + 1, HJ.out, by go_num, by rw [HNX.out]; rfl, HBD.out.trans (Bc.out.mono HBD.out.size)⟩
          case measure => have := HJ.out; simp [intOf]; omega
        | false =>
          go_wp2_with fail
          go_roundw
          case rel => exact ⟨j + 1, HJ.out, by go_num, by rw [HNX.out]; first | rfl | simp, HBD.out.trans (Bc.out.mono HBD.out.size)⟩
          case measure => have := HJ.out; simp [intOf]; omega
      · obtain rfl : j = l0.length := by omega
        have hji : ¬ (l0.length : Int) < (l0.length : Int) := by omega
        obtain rfl : fb = true := by
          rw [← HFB.out]
          obtain ⟨i, hi, he⟩ := HIN.out k HK.out
          exact decide_eq_true ⟨i, hi, he⟩
        have HBX := Lib.hid (HBW.out.trans (HBQ.out.mono HBW.out.size))
        clear hlt hj HFB HBQ
        go_wp2_with fail
        go_loopw [10] (fun i wr => ∃ j : Nat, j ≤ k ∧ i = .int .i64 j ∧ Below WC.heap.size WC wr) (fun i _ => k - (intOf i).toNat)
        case atStart => exact ⟨0, Nat.zero_le _, rfl, Below.refl _ _⟩
        case round =>
          obtain ⟨j, hj, rfl, hbq⟩ := hrel
          have HBQ := Lib.hid hbq
          clear hbq
          generalize wr = WD at *
          by_cases hlt : j < k
          rotate_left
          · have hji : ¬ (j : Int) < (k : Int) := by omega
            have HB9 := Lib.hid (HBX.out.trans (HBQ.out.mono HBX.out.size))
            clear hlt hj
            go_wp2_with fail
            go_roundw
            case rel => exact ⟨k + 1, HK.out, by go_num, HB9.out⟩
            case measure => have := HK.out; simp [intOf]; omega
          have HJ := Lib.hid hlt
          have hji : (j : Int) < (k : Int) := by omega
          have hjm : (j : Int) < (ml : Int) := by have := HK.out; omega
          have hja : IntKind.i64.wrap ((j : Int) + 1) = ((j + 1 : Nat) : Int) := by rw [IntWalk.i64_in _ (by omega)]; omega
          have HB9 := Lib.hid (HBX.out.trans (HBQ.out.mono HBX.out.size))
          obtain ⟨b2, o2, qa, qc, ha2, hn1, hl1, _⟩ := nrow_at (HZ.out.below HB9.out) j _ (nodAt_is (by rw [HLM.out]; have := HK.out; omega))
          subst ha2
          obtain ⟨pa, pc, hn2, _, _⟩ := nrow_here (HZ.out.below HB9.out) k _ (nodAt_is (by rw [HLM.out]; exact HK.out))
          have hap := HAP.out j k hlt HK.out
          have HN1 := Lib.hid hn1
          have HN2 := Lib.hid hn2
          have HL1 := Lib.hid hl1
          obtain ⟨y, hy⟩ : ∃ y, nodAt M j = y := ⟨_, rfl⟩
          obtain ⟨x, hx⟩ : ∃ x, nodAt M k = x := ⟨_, rfl⟩
          rw [hy, hx] at hap
          rw [hy] at HN1
          rw [hx] at HN2
          have keq := fun w => equalSta y.s x.s w
          rw [decide_eq_false hap] at keq
          have kg := guardSta
          have HBD := Lib.hid HBQ.out.drew
          have hkm : (k : Int) < (ml : Int) := hki
          clear hap hn1 hn2 hl1 hy hx hlt hj
          go_upto_region 18 with fail
          have HS0 := Lib.hid (show Holds (cellsRN b2 (o2 + j * 10) y.s y.cost (.slice qa y.path.length qc) ++ cellsRN b2 (o2 + k * 10) x.s x.cost (.slice pa x.path.length pc)) WD.drew from Holds.app.2 ⟨holds_RN HN1.out, holds_RN HN2.out⟩)
          have hlt := Lib.hid (show Lows WD.drew.heap.size (cellsRN b2 (o2 + j * 10) y.s y.cost (.slice qa y.path.length qc) ++ cellsRN b2 (o2 + k * 10) x.s x.cost (.slice pa x.path.length pc)) from Lows.app (lows_RN HL1.out) (lows_RN HL1.out))
          refine wp_region_held_drew (S := Holds (cellsRN b2 (o2 + j * 10) y.s y.cost (.slice qa y.path.length qc) ++ cellsRN b2 (o2 + k * 10) x.s x.cost (.slice pa x.path.length pc))) (by kernel_rfl) HS0.out (fun hSn => ?_)
          generalize WD.drew = V at *
          have Bc := Lib.hid (Below.refl V.heap.size V)
          simp only [cellsRN, List.cons_append, List.nil_append] at HS0 hlt hSn ⊢
          refine tks [0, 1, 2, 3, 4, 5, 6, 7, 8, 9] 10 rfl (by kernel_rfl) (fun _ _ _ _ h => h) (by assumption) (fun KT hKT => ?_)
          iterate 10 (refine tkT (by (simp only [gA, gB, gC]; rfl)) (by rfl) (by (intro w hSw; (simp only [Holds] at hSw); go_simp <;> with_reducible rfl)) ?_; simp only [Act.put, pA, pB, pC])
          refine hKT _ ?_
          clear KT hKT
          refine tks [10] 1 rfl (by kernel_rfl) (fun _ _ _ _ h => h) (by assumption) (fun KT hKT => ?_)
          refine tkT (by (simp only [gA, gB, gC]; rfl)) (by rfl) (by (intro w hSw; (simp only [Holds] at hSw); go_simp <;> with_reducible rfl)) ?_
          simp only [Act.put, pA, pB, pC]
          refine hKT _ ?_
          clear KT hKT
          refine wpAnyH_done (by kernel_rfl) ?_ _
          go_wp2_with fail
          go_roundw
          case rel => exact ⟨j + 1, HJ.out, by go_num, HBD.out⟩
          case measure => have := HJ.out; simp [intOf]; omega

set_option maxRecDepth 100000 in
theorem lifted (os : Os) (started : os.Started) (H : Type) (enc : TypeId × Value → H) :
    ReturnsInHanded {} Try.checked os 4 .any (Rows.levelOnceSpec.pre6 enc Try.prog Try.f4 Rows.levelOnceRow.domain false) (Rows.levelOnceSpec.post enc Try.prog Try.f4 false true false false) := by
  refine returnsInHanded_of_change (C := Try.checked) own started (by kernel_rfl) Try.func4
    (ChangeSpec.witness6 (enc := enc) (C := Try.checked) false ⟨#[], #[.slice none 0 0], []⟩ 8 (by kernel_rfl) (by kernel_rfl) (by kernel_rfl) (by kernel_rfl)) ?_
  intro W base args ds gs before hval0 hW hcnd _
  have hval : ∀ (j : Nat) t v, Try.f4.params[j]? = some t → args[j]? = some v → Value.okWide Try.prog W .any base t v := hval0
  have hW' := hW
  obtain ⟨p, q, hA0, hV, rfl, hfz, hnd⟩ := hW
  have hA : DataW.TrodAll enc Try.prog W 0 (fun _ => true) true Try.f4.params.toList args.toList ds p := hA0
  rw [Try.params4] at hA hval
  obtain ⟨v0, vs0, d0, ds0, p0, q0, hargs, rfl, rfl, h0, r0⟩ := trodAll_cons hA
  obtain ⟨rfl, rfl, rfl⟩ := trodAll_nil r0
  obtain rfl : args = #[v0] := by cases args; simp_all
  obtain ⟨rfl, rfl⟩ := trodVars_none hV
  have k0 := h0
  have lt0 : ∀ x ∈ p0, x.block < W.heap.size := by obtain ⟨m, hm⟩ := k0; exact DataW.trod_lt m _ _ _ hm
  obtain ⟨a0, len0, cap0, rfl⟩ := okWide_slice Try.underlying26 (hval 0 26 v0 rfl rfl)
  obtain ⟨l0, e0, f0⟩ := open_nodes h0
  clear hA0 hval0
  refine (walk _ l0 W e0 f0).mono fun e W' ⟨he, bel⟩ => ?_
  subst he
  exact ⟨_, rfl, _, _, _, [], _, [], hW', trodAll_mk1 (shut_bool Try.underlying4 _), (trodAll_cons_mk (Below.trod laidOut (by kernel_rfl) (of_decide_eq_true (by kernel_rfl)) k0 bel lt0) trodAll_mk0), rfl, bel.frame _, fun h => by cases h⟩

theorem over : Rows.levelOnceRow.holds Try.pinned (OpenSpec.ofChange Rows.levelOnceSpec) :=
  OpenClaim.holds_of_wide 4 Try.f4 rfl rfl rfl rfl rfl rfl rfl ⟨rfl, rfl, rfl, rfl, rfl⟩ rfl rfl rfl rfl rfl (by kernel_rfl) Try.func4 (by kernel_rfl)
    (of_decide_eq_true (by kernel_rfl)) (by unfold Func.isWrapper; first | (rw [if_pos (by decide +kernel)]; kernel_rfl) | (rw [if_neg (by decide +kernel)]; exact ⟨rfl, rfl⟩))
    (fun os started H enc _ => lifted os started H enc)

theorem proved : Rows.LevelOnceSaid := over
#print axioms proved
end Go.Proofs.Ytkljmnfekdoocaa.levelOnce
