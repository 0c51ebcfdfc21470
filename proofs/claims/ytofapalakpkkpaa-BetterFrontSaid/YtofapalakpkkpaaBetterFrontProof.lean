/- Of at most 60 nodes better.Front leaves for each one that is Than it, and none that is Than another one that is left: haulierlaw13.BetterFront answers true. Condition: none. -/
import Derived.Test.YtofapalakpkkpaaRows
import Derived.Test.YtofapalakpkkpaaGAwake
import Derived.Test.YtofapalakpkkpaaNOpen
import Derived.Test.YtofapalakpkkpaaGSame
import Derived.Test.YtofapalakpkkpaaGProg
namespace Go.Proofs.Ytofapalakpkkpaa.betterFront
open Go.ChangeShapes Go.WideShapes Go.ChangeAt Go.RowKit

def someB (F : List Nod) (m : Nod) (j : Nat) : Bool := (List.range j).any (fun i => decide (Than (nodAt F i) m))
theorem someB_succ (F : List Nod) (m : Nod) (j : Nat) : someB F m (j + 1) = (someB F m j || decide (Than (nodAt F j) m)) := by
  unfold someB
  rw [List.range_succ, List.any_append]
  simp
theorem someB_all {F : List Nod} {m : Nod} (h : ∃ f ∈ F, Than f m) : someB F m F.length = true := by
  obtain ⟨f, hf, ht⟩ := h
  obtain ⟨i, hi, rfl⟩ := List.mem_iff_getElem.1 hf
  unfold someB
  rw [List.any_eq_true]
  refine ⟨i, List.mem_range.2 hi, decide_eq_true ?_⟩
  unfold nodAt
  rw [List.getD_eq_getElem?_getD, List.getElem?_eq_getElem hi]
  exact ht
set_option maxRecDepth 1000000 in
set_option maxHeartbeats 4000000 in
theorem walk (v0 : Value) (l0 : List Nod) (w : World) (e0 : NRow w v0 l0) (f0 : ∀ n ∈ l0, NodFit n) :
    Calls Try.prog 4 #[v0] w fun e w' => e = .returned (.bool true) ∧ Below w.heap.size w w' := by
  have HL := Lib.hid e0
  have HB := Lib.hid (Below.refl w.heap.size w)
  have HS := Lib.hid (fun n hn => (f0 n hn).1)
  have HFI := Lib.hid (fun n hn => (f0 n hn).2.2.2)
  obtain ⟨la, lc, rfl, hm, _⟩ := e0.form
  clear e0 f0 hm
  go_enter Try.func4, Try.ntmps4
  go_wp2_with fail
  refine (gawake_any _).mono ?_
  rintro e w1 ⟨rfl, hb⟩
  have HLn := Lib.hid (HL.out.below hb)
  clear HL
  have HL := HLn
  clear HLn
  have HBn := Lib.hid (HB.out.trans (hb.mono HB.out.size))
  clear HB
  have HB := HBn
  clear HBn
  clear hb
  go_wp2_with fail
  refine (fewN_any HL.out).mono ?_
  rintro e w2 ⟨rfl, rfl⟩
  by_cases hf : FewN l0
  rotate_left
  · rw [decide_eq_false hf]
    clear hf
    go_wp2
    go_ret
    exact ⟨rfl, HB.out⟩
  rw [decide_eq_true hf]
  have HF := Lib.hid hf
  clear hf
  have HOK := Lib.hid (show FrontOk l0 from fun n hn => ⟨HS.out n hn, HFI.out n hn, by have := HF.out.2 n hn; omega⟩)
  have HLE := Lib.hid (show l0.length ≤ 60 from HF.out.1)
  have hlm : l0.length ≤ 9223372036854775807 := by have := HLE.out; omega
  go_wp2_with fail
  refine (gfront_any (w0 := w1) HL.out (Below.refl _ _) HOK.out (by have := HLE.out; omega)).mono ?_
  rintro e w3 ⟨u, rfl, hu, hb⟩
  have HU := Lib.hid (hu.row hb)
  clear hu
  have HLn := Lib.hid (HL.out.below hb)
  clear HL
  have HL := HLn
  clear HLn
  have HBn := Lib.hid (HB.out.trans (hb.mono HB.out.size))
  clear HB
  have HB := HBn
  clear HBn
  clear hb
  have HFL := Lib.hid (show (frontL l0).length ≤ l0.length from front_len _ _)
  have HFS := Lib.hid (show ∀ n ∈ frontL l0, SetsOk n.s from fun n hn => by
    obtain ⟨k, hk, _, rfl⟩ := mem_front.1 hn
    exact HS.out _ (nodAt_mem hk))
  have HALL := Lib.hid (fun (k : Nat) (hk : k < l0.length) => front_all (fun x hx => fits_of (HS.out x hx)) hk)
  have HAP := Lib.hid (fun (i k : Nat) (hi : i < (frontL l0).length) (hk : k < (frontL l0).length) (hne : i ≠ k) => front_apart hi hk hne)
  obtain ⟨F, hF⟩ : ∃ F, frontL l0 = F := ⟨_, rfl⟩
  rw [hF] at HU HFL HFS HALL HAP
  clear hF
  obtain ⟨ua, uc, rfl, _⟩ := HU.out.form
  have hfm : F.length ≤ 9223372036854775807 := by have := HFL.out; have := HLE.out; omega
  have hfl : (F.length : Int) ≤ (l0.length : Int) := by have := HFL.out; omega
  have hfl2 := decide_eq_true hfl
  clear hfl
  have hfl3 := decide_eq_true HFL.out
  generalize w3 = W at *
  go_wp2_with fail
  go_loopw [6] (fun i wr => ∃ k : Nat, k ≤ l0.length ∧ i = .int .i64 k ∧ Below W.heap.size W wr) (fun i _ => l0.length - (intOf i).toNat)
  case atStart => exact ⟨0, Nat.zero_le _, rfl, Below.refl _ _⟩
  case round =>
    obtain ⟨k, hk, rfl, hbw⟩ := hrel
    have HBW := Lib.hid hbw
    clear hbw
    generalize wr = W1 at *
    by_cases hlt : k < l0.length
    · have HK := Lib.hid hlt
      have hki : (k : Int) < (l0.length : Int) := by omega
      have hk2 : IntKind.i64.wrap ((k : Int) + 1) = (k : Int) + 1 := IntWalk.i64_in _ (by omega)
      obtain ⟨b1, o1, pa, pc, ha, hn1, hl1, hr1⟩ := nrow_at HL.out k _ (nodAt_is hlt)
      subst ha
      have HAL := Lib.hid (someB_all (HALL.out k hlt))
      have HSN := Lib.hid (HS.out _ (nodAt_mem hlt))
      obtain ⟨n, hn⟩ : ∃ n, nodAt l0 k = n := ⟨_, rfl⟩
      rw [hn] at HAL HSN hn1
      have HNA := Lib.hid hn1
      have HLA := Lib.hid hl1
      have HS0B := Lib.hid (show someB F n 0 = false from rfl)
      have HSUC := Lib.hid (fun j => someB_succ F n j)
      clear hlt hk hn1 hl1 hr1 hn
      generalize someB F n = G at *
      go_wp2_with fail
      go_loopw [7, 8] (fun s j wr => ∃ i : Nat, i ≤ F.length ∧ j = .int .i64 i ∧ s = .bool (G i) ∧ Below W1.heap.size W1 wr) (fun _ j _ => F.length - (intOf j).toNat)
      case atStart => exact ⟨0, Nat.zero_le _, rfl, by rw [HS0B.out], Below.refl _ _⟩
      case round =>
        obtain ⟨j, hj, rfl, rfl, hbq⟩ := hrel
        have HBQ := Lib.hid hbq
        clear hbq
        generalize wr = W2 at *
        by_cases hlt : j < F.length
        · have HJ := Lib.hid hlt
          have hji : (j : Int) < (F.length : Int) := by omega
          have hj2 : IntKind.i64.wrap ((j : Int) + 1) = (j : Int) + 1 := IntWalk.i64_in _ (by omega)
          obtain ⟨b2, o2, qa, qc, ha, hn2, hl2, hr2⟩ := nrow_at HU.out j _ (nodAt_is hlt)
          subst ha
          have HSF := Lib.hid (HFS.out _ (nodAt_mem hlt))
          have hsu := HSUC.out j
          obtain ⟨f, hf⟩ : ∃ f, nodAt F j = f := ⟨_, rfl⟩
          rw [hf] at HSF hn2 hsu
          obtain ⟨t, ht⟩ : ∃ t, decide (Than f n) = t := ⟨_, rfl⟩
          obtain ⟨g, hg⟩ : ∃ g, G j = g := ⟨_, rfl⟩
          rw [ht, hg] at hsu
          rw [hg]
          have HT := Lib.hid ht
          have HSU := Lib.hid hsu
          have HWQ := Lib.hid (HBW.out.trans (HBQ.out.mono HBW.out.size))
          have HN2 := Lib.hid (hn2.below hl2 (HWQ.out.trans ((Below.refl _ W2).drew.mono HWQ.out.size)))
          have HN1 := Lib.hid (HNA.out.below HLA.out (HWQ.out.trans ((Below.refl _ W2).drew.mono HWQ.out.size)))
          have HB2 := Lib.hid (Nat.lt_of_lt_of_le hl2 (HWQ.out.trans ((Below.refl _ W2).drew.mono HWQ.out.size)).size)
          have HB1 := Lib.hid (Nat.lt_of_lt_of_le HLA.out (HWQ.out.trans ((Below.refl _ W2).drew.mono HWQ.out.size)).size)
          clear hlt hj hn2 hl2 hr2 hf ht hg hsu
          go_upto_region 13 with fail
          cases g with
          | true =>
            have HS0 := Lib.hid (show Holds (cellsRN b2 (o2 + j * 10) f.s f.cost (.slice qa f.path.length qc) ++ cellsRN b1 (o1 + k * 10) n.s n.cost (.slice pa n.path.length pc)) W2.drew from Holds.app.2 ⟨holds_RN HN2.out, holds_RN HN1.out⟩)
            have hlt := Lib.hid (show Lows W2.drew.heap.size (cellsRN b2 (o2 + j * 10) f.s f.cost (.slice qa f.path.length qc) ++ cellsRN b1 (o1 + k * 10) n.s n.cost (.slice pa n.path.length pc)) from Lows.app (lows_RN HB2.out) (lows_RN HB1.out))
            refine wp_region_held_drew (S := Holds (cellsRN b2 (o2 + j * 10) f.s f.cost (.slice qa f.path.length qc) ++ cellsRN b1 (o1 + k * 10) n.s n.cost (.slice pa n.path.length pc))) (by kernel_rfl) HS0.out (fun hSn => ?_)
            have HQD := Lib.hid (show Below W2.heap.size W2 W2.drew from (Below.refl _ _).drew)
            generalize W2.drew = V at *
            have Bc := Lib.hid (Below.refl V.heap.size V)
            simp only [cellsRN, List.cons_append, List.nil_append] at HS0 hlt hSn ⊢
            refine tks [0, 1] 2 rfl (by kernel_rfl) (fun _ _ _ _ h => h) (by assumption) (fun KT hKT => ?_)
            iterate 2 (refine tkT (by (simp only [gA, gB, gC]; rfl)) (by rfl) (by (intro w hSw; (simp only [Holds] at hSw); go_simp <;> with_reducible rfl)) ?_; simp only [Act.put, pA, pB, pC])
            refine hKT _ ?_
            clear KT hKT
            refine tks [2, 3, 4, 5, 6, 7, 8, 9, 10] 9 rfl (by kernel_rfl) (fun _ _ _ _ h => h) (by assumption) (fun KT hKT => ?_)
            iterate 9 (refine tkS (by (simp only [gA, gB, gC]; rfl)) (by rfl) ?_; simp only [Act.put, pA, pB, pC])
            refine hKT _ ?_
            clear KT hKT
            refine tks [11, 12] 2 rfl (by kernel_rfl) (fun _ _ _ _ h => h) (by assumption) (fun KT hKT => ?_)
            iterate 2 (refine tkT (by (simp only [gA, gB, gC]; rfl)) (by rfl) (by (intro w hSw; (simp only [Holds] at hSw); go_simp <;> with_reducible rfl)) ?_; simp only [Act.put, pA, pB, pC])
            refine hKT _ ?_
            clear KT hKT
            refine wpAnyH_done (by kernel_rfl) ?_ _
            go_wp2_with fail
            go_roundw
            case rel => exact ⟨j + 1, by have := HJ.out; omega, by go_num, by rw [HSU.out]; rfl, HBQ.out.trans ((HQD.out.trans (Bc.out.mono HQD.out.size)).mono HBQ.out.size)⟩
            case measure => have := HJ.out; simp [intOf]; omega
          | false =>
            have HS0 := Lib.hid (show Holds (cellsRN b2 (o2 + j * 10) f.s f.cost (.slice qa f.path.length qc) ++ cellsRN b1 (o1 + k * 10) n.s n.cost (.slice pa n.path.length pc)) W2.drew from Holds.app.2 ⟨holds_RN HN2.out, holds_RN HN1.out⟩)
            have hlt := Lib.hid (show Lows W2.drew.heap.size (cellsRN b2 (o2 + j * 10) f.s f.cost (.slice qa f.path.length qc) ++ cellsRN b1 (o1 + k * 10) n.s n.cost (.slice pa n.path.length pc)) from Lows.app (lows_RN HB2.out) (lows_RN HB1.out))
            refine wp_region_held_drew (S := Holds (cellsRN b2 (o2 + j * 10) f.s f.cost (.slice qa f.path.length qc) ++ cellsRN b1 (o1 + k * 10) n.s n.cost (.slice pa n.path.length pc))) (by kernel_rfl) HS0.out (fun hSn => ?_)
            have HQD := Lib.hid (show Below W2.heap.size W2 W2.drew from (Below.refl _ _).drew)
            generalize W2.drew = V at *
            have Bc := Lib.hid (Below.refl V.heap.size V)
            simp only [cellsRN, List.cons_append, List.nil_append] at HS0 hlt hSn ⊢
            refine tks [0, 1, 2, 3, 4, 5, 6, 7, 8, 9] 10 rfl (by kernel_rfl) (fun _ _ _ _ h => h) (by assumption) (fun KT hKT => ?_)
            iterate 10 (refine tkT (by (simp only [gA, gB, gC]; rfl)) (by rfl) (by (intro w hSw; (simp only [Holds] at hSw); go_simp <;> with_reducible rfl)) ?_; simp only [Act.put, pA, pB, pC])
            refine hKT _ ?_
            clear KT hKT
            refine wpAnyH_ready (rs := [10]) (by kernel_rfl) (by simp) ?_
            refine AllReadyH.cons (o := ?oz1) ?iz1 (fun K hK => ?kz1) AllReadyH.nil
            case iz1 => (simp only [List.getElem?_toArray, List.getElem?_cons_zero, List.getElem?_cons_succ]; rfl)
            go_simp
            change Calls _ _ #[nodeV f.s f.cost _, nodeV n.s n.cost _] _ _
            refine (gthan_any (a := f) (b := n) _ HSF.out HSN.out).mono ?_
            rw [HT.out]
            rintro e w' ⟨rfl, hb⟩
            refine held_more hK HS0.out hlt (Bc.out.trans (hb.mono Bc.out.size)) (fun Bc hSn => ?_)
            clear hb hK
            refine tks [11, 12] 2 rfl (by kernel_rfl) (fun _ _ _ _ h => h) (by assumption) (fun KT hKT => ?_)
            iterate 2 (refine tkT (by (simp only [gA, gB, gC]; rfl)) (by rfl) (by (intro w hSw; (simp only [Holds] at hSw); go_simp <;> with_reducible rfl)) ?_; simp only [Act.put, pA, pB, pC])
            refine hKT _ ?_
            clear KT hKT
            refine wpAnyH_done (by kernel_rfl) ?_ _
            go_wp2_with fail
            go_roundw
            case rel => exact ⟨j + 1, by have := HJ.out; omega, by go_num, by rw [HSU.out]; rfl, HBQ.out.trans ((HQD.out.trans (Bc.out.mono HQD.out.size)).mono HBQ.out.size)⟩
            case measure => have := HJ.out; simp [intOf]; omega
        · obtain rfl : j = F.length := by omega
          rw [HAL.out]
          clear hlt hj
          go_wp2_with fail
          go_roundw
          case rel => exact ⟨k + 1, by have := HK.out; omega, by go_num, HBW.out.trans (HBQ.out.mono HBW.out.size)⟩
          case measure => have := HK.out; simp [intOf]; omega
    · obtain rfl : k = l0.length := by omega
      clear hlt hk
      go_wp2_with fail
      go_loopw [9] (fun i wr => ∃ k : Nat, k ≤ F.length ∧ i = .int .i64 k ∧ Below W.heap.size W wr) (fun i _ => F.length - (intOf i).toNat)
      case atStart => exact ⟨0, Nat.zero_le _, rfl, HBW.out⟩
      case round =>
        obtain ⟨k, hk, rfl, hbw⟩ := hrel
        clear HBW
        have HBW := Lib.hid hbw
        clear hbw
        generalize wr = W2 at *
        by_cases hlt : k < F.length
        · have HK := Lib.hid hlt
          have hki : (k : Int) < (F.length : Int) := by omega
          have hk2 : IntKind.i64.wrap ((k : Int) + 1) = (k : Int) + 1 := IntWalk.i64_in _ (by omega)
          obtain ⟨b1, o1, pa, pc, ha, hn1, hl1, hr1⟩ := nrow_at HU.out k _ (nodAt_is hlt)
          subst ha
          have HSN := Lib.hid (HFS.out _ (nodAt_mem hlt))
          have HAK := Lib.hid (fun (i : Nat) (hi : i < F.length) (hne : i ≠ k) => HAP.out i k hi hlt hne)
          obtain ⟨n, hn⟩ : ∃ n, nodAt F k = n := ⟨_, rfl⟩
          rw [hn] at HSN hn1 HAK
          have HNA := Lib.hid hn1
          have HLA := Lib.hid hl1
          clear hlt hk hn1 hl1 hr1 hn
          go_wp2_with fail
          go_loopw [10] (fun j wr => ∃ i : Nat, i ≤ F.length ∧ j = .int .i64 i ∧ Below W2.heap.size W2 wr) (fun j _ => F.length - (intOf j).toNat)
          case atStart => exact ⟨0, Nat.zero_le _, rfl, Below.refl _ _⟩
          case round =>
            obtain ⟨j, hj, rfl, hbq⟩ := hrel
            have HBQ := Lib.hid hbq
            clear hbq
            generalize wr = W3 at *
            by_cases hlt : j < F.length
            · have HJ := Lib.hid hlt
              have hji : (j : Int) < (F.length : Int) := by omega
              have hj2 : IntKind.i64.wrap ((j : Int) + 1) = (j : Int) + 1 := IntWalk.i64_in _ (by omega)
              obtain ⟨qa, qc, hn2, hl2, hr2⟩ := nrow_here HU.out j _ (nodAt_is hlt)
              have HSF := Lib.hid (HFS.out _ (nodAt_mem hlt))
              have HNT := Lib.hid (fun (hne : j ≠ k) => decide_eq_false (HAK.out j hlt hne))
              obtain ⟨f, hf⟩ : ∃ f, nodAt F j = f := ⟨_, rfl⟩
              rw [hf] at HSF hn2 HNT
              have HWQ := Lib.hid (HBW.out.trans (HBQ.out.mono HBW.out.size))
              have HN2 := Lib.hid (hn2.below hl2 (HWQ.out.trans ((Below.refl _ W3).drew.mono HWQ.out.size)))
              have HN1 := Lib.hid (HNA.out.below HLA.out (HWQ.out.trans ((Below.refl _ W3).drew.mono HWQ.out.size)))
              have HB1 := Lib.hid (Nat.lt_of_lt_of_le HLA.out (HWQ.out.trans ((Below.refl _ W3).drew.mono HWQ.out.size)).size)
              clear hlt hj hn2 hl2 hr2 hf
              go_upto_region 22 with fail
              by_cases he : j = k
              · have bn : ((j : Int) != (k : Int)) = false := by simp; omega
                clear he
                have HS0 := Lib.hid (show Holds (cellsRN b1 (o1 + j * 10) f.s f.cost (.slice qa f.path.length qc) ++ cellsRN b1 (o1 + k * 10) n.s n.cost (.slice pa n.path.length pc)) W3.drew from Holds.app.2 ⟨holds_RN HN2.out, holds_RN HN1.out⟩)
                have hlt := Lib.hid (show Lows W3.drew.heap.size (cellsRN b1 (o1 + j * 10) f.s f.cost (.slice qa f.path.length qc) ++ cellsRN b1 (o1 + k * 10) n.s n.cost (.slice pa n.path.length pc)) from Lows.app (lows_RN HB1.out) (lows_RN HB1.out))
                refine wp_region_held_drew (S := Holds (cellsRN b1 (o1 + j * 10) f.s f.cost (.slice qa f.path.length qc) ++ cellsRN b1 (o1 + k * 10) n.s n.cost (.slice pa n.path.length pc))) (by kernel_rfl) HS0.out (fun hSn => ?_)
                have HQD := Lib.hid (show Below W3.heap.size W3 W3.drew from (Below.refl _ _).drew)
                generalize W3.drew = V at *
                have Bc := Lib.hid (Below.refl V.heap.size V)
                simp only [cellsRN, List.cons_append, List.nil_append] at HS0 hlt hSn ⊢
                refine tks [0, 1, 2, 3] 4 rfl (by kernel_rfl) (fun _ _ _ _ h => h) (by assumption) (fun KT hKT => ?_)
                iterate 4 (refine tkT (by (simp only [gA, gB, gC]; rfl)) (by rfl) (by (intro w hSw; (simp only [Holds] at hSw); go_simp <;> with_reducible rfl)) ?_; simp only [Act.put, pA, pB, pC])
                refine hKT _ ?_
                clear KT hKT
                refine tks [4, 5, 6, 7, 8, 9, 10, 11, 12] 9 rfl (by kernel_rfl) (fun _ _ _ _ h => h) (by assumption) (fun KT hKT => ?_)
                iterate 9 (refine tkS (by (simp only [gA, gB, gC]; rfl)) (by rfl) ?_; simp only [Act.put, pA, pB, pC])
                refine hKT _ ?_
                clear KT hKT
                refine tks [13] 1 rfl (by kernel_rfl) (fun _ _ _ _ h => h) (by assumption) (fun KT hKT => ?_)
                refine tkT (by (simp only [gA, gB, gC]; rfl)) (by rfl) (by (intro w hSw; (simp only [Holds] at hSw); go_simp <;> with_reducible rfl)) ?_
                simp only [Act.put, pA, pB, pC]
                refine hKT _ ?_
                clear KT hKT
                refine wpAnyH_done (by kernel_rfl) ?_ _
                go_wp2_with fail
                go_roundw
                case rel => exact ⟨j + 1, by have := HJ.out; omega, by go_num, HBQ.out.trans ((HQD.out.trans (Bc.out.mono HQD.out.size)).mono HBQ.out.size)⟩
                case measure => have := HJ.out; simp [intOf]; omega
              · have bn : ((j : Int) != (k : Int)) = true := by simp; omega
                have HT := Lib.hid (HNT.out he)
                clear he
                have HS0 := Lib.hid (show Holds (cellsRN b1 (o1 + j * 10) f.s f.cost (.slice qa f.path.length qc) ++ cellsRN b1 (o1 + k * 10) n.s n.cost (.slice pa n.path.length pc)) W3.drew from Holds.app.2 ⟨holds_RN HN2.out, holds_RN HN1.out⟩)
                have hlt := Lib.hid (show Lows W3.drew.heap.size (cellsRN b1 (o1 + j * 10) f.s f.cost (.slice qa f.path.length qc) ++ cellsRN b1 (o1 + k * 10) n.s n.cost (.slice pa n.path.length pc)) from Lows.app (lows_RN HB1.out) (lows_RN HB1.out))
                refine wp_region_held_drew (S := Holds (cellsRN b1 (o1 + j * 10) f.s f.cost (.slice qa f.path.length qc) ++ cellsRN b1 (o1 + k * 10) n.s n.cost (.slice pa n.path.length pc))) (by kernel_rfl) HS0.out (fun hSn => ?_)
                have HQD := Lib.hid (show Below W3.heap.size W3 W3.drew from (Below.refl _ _).drew)
                generalize W3.drew = V at *
                have Bc := Lib.hid (Below.refl V.heap.size V)
                simp only [cellsRN, List.cons_append, List.nil_append] at HS0 hlt hSn ⊢
                refine tks [0, 1, 2, 3, 4, 5, 6, 7, 8, 9, 10, 11] 12 rfl (by kernel_rfl) (fun _ _ _ _ h => h) (by assumption) (fun KT hKT => ?_)
                iterate 12 (refine tkT (by (simp only [gA, gB, gC]; rfl)) (by rfl) (by (intro w hSw; (simp only [Holds] at hSw); go_simp <;> with_reducible rfl)) ?_; simp only [Act.put, pA, pB, pC])
                refine hKT _ ?_
                clear KT hKT
                refine wpAnyH_ready (rs := [12]) (by kernel_rfl) (by simp) ?_
                refine AllReadyH.cons (o := ?oz2) ?iz2 (fun K hK => ?kz2) AllReadyH.nil
                case iz2 => (simp only [List.getElem?_toArray, List.getElem?_cons_zero, List.getElem?_cons_succ]; rfl)
                go_simp
                change Calls _ _ #[nodeV f.s f.cost _, nodeV n.s n.cost _] _ _
                refine (gthan_any (a := f) (b := n) _ HSF.out HSN.out).mono ?_
                rw [HT.out]
                rintro e w' ⟨rfl, hb⟩
                refine held_more hK HS0.out hlt (Bc.out.trans (hb.mono Bc.out.size)) (fun Bc hSn => ?_)
                clear hb hK
                refine tks [13] 1 rfl (by kernel_rfl) (fun _ _ _ _ h => h) (by assumption) (fun KT hKT => ?_)
                refine tkT (by (simp only [gA, gB, gC]; rfl)) (by rfl) (by (intro w hSw; (simp only [Holds] at hSw); go_simp <;> with_reducible rfl)) ?_
                simp only [Act.put, pA, pB, pC]
                refine hKT _ ?_
                clear KT hKT
                refine wpAnyH_done (by kernel_rfl) ?_ _
                go_wp2_with fail
                go_roundw
                case rel => exact ⟨j + 1, by have := HJ.out; omega, by go_num, HBQ.out.trans ((HQD.out.trans (Bc.out.mono HQD.out.size)).mono HBQ.out.size)⟩
                case measure => have := HJ.out; simp [intOf]; omega
            · obtain rfl : j = F.length := by omega
              clear hlt hj
              go_wp2_with fail
              go_roundw
              case rel => exact ⟨k + 1, by have := HK.out; omega, by go_num, HBW.out.trans (HBQ.out.mono HBW.out.size)⟩
              case measure => have := HK.out; simp [intOf]; omega
        · obtain rfl : k = F.length := by omega
          clear hlt hk
          go_wp2
          go_ret
          exact ⟨by first | rfl | simp [HFL.out], HB.out.trans (HBW.out.mono HB.out.size)⟩

set_option maxRecDepth 100000 in
theorem lifted (os : Os) (started : os.Started) (H : Type) (enc : TypeId × Value → H) :
    ReturnsInHanded {} Try.checked os 4 .any (Rows.betterFrontSpec.pre6 enc Try.prog Try.f4 Rows.betterFrontRow.domain false) (Rows.betterFrontSpec.post enc Try.prog Try.f4 false true false false) := by
  refine returnsInHanded_of_change (C := Try.checked) own started (by kernel_rfl) Try.func4
    (ChangeSpec.witness6 (enc := enc) (C := Try.checked) false ⟨#[], #[.slice none 0 0], []⟩ 8 (by kernel_rfl) (by kernel_rfl) (by kernel_rfl) (by kernel_rfl)) ?_
  intro W base args ds gs before hval0 hW hcnd _
  have hval : ∀ (j : Nat) t v, Try.f4.params[j]? = some t → args[j]? = some v → Value.okWide Try.prog W .any base t v := hval0
  have hW' := hW
  obtain ⟨p, q, hA0, hV, rfl, hfz, hnd⟩ := hW
  have hA : DataW.TrodAll enc Try.prog W 0 (fun _ => true) true Try.f4.params.toList args.toList ds p := hA0
  rw [Try.params4] at hA hval
  obtain ⟨v0, vs0, d0, ds0, p0, q0, hargs, rfl, rfl, h0, r0⟩ := trodAll_cons hA
  obtain ⟨rfl, rfl, rfl⟩ := trodAll_nil r0
  obtain rfl : args = #[v0] := by cases args; simp_all
  obtain ⟨rfl, rfl⟩ := trodVars_none hV
  have k0 := h0
  have lt0 : ∀ x ∈ p0, x.block < W.heap.size := by obtain ⟨m, hm⟩ := k0; exact DataW.trod_lt m _ _ _ hm
  obtain ⟨a0, len0, cap0, rfl⟩ := okWide_slice Try.underlying28 (hval 0 28 v0 rfl rfl)
  obtain ⟨l0, e0, f0⟩ := open_nodes h0
  clear hA0 hval0
  refine (walk _ l0 W e0 f0).mono fun e W' ⟨he, bel⟩ => ?_
  subst he
  exact ⟨_, rfl, _, _, _, [], _, [], hW', trodAll_mk1 (shut_bool Try.underlying4 _), (trodAll_cons_mk (Below.trod laidOut (by kernel_rfl) (of_decide_eq_true (by kernel_rfl)) k0 bel lt0) trodAll_mk0), rfl, bel.frame _, fun h => by cases h⟩

theorem over : Rows.betterFrontRow.holds Try.pinned (OpenSpec.ofChange Rows.betterFrontSpec) :=
  OpenClaim.holds_of_wide 4 Try.f4 rfl rfl rfl rfl rfl rfl rfl ⟨rfl, rfl, rfl, rfl, rfl⟩ rfl rfl rfl rfl rfl (by kernel_rfl) Try.func4 (by kernel_rfl)
    (of_decide_eq_true (by kernel_rfl)) (by unfold Func.isWrapper; first | (rw [if_pos (by decide +kernel)]; kernel_rfl) | (rw [if_neg (by decide +kernel)]; exact ⟨rfl, rfl⟩))
    (fun os started H enc _ => lifted os started H enc)

theorem proved : Rows.BetterFrontSaid := over
#print axioms proved
end Go.Proofs.Ytofapalakpkkpaa.betterFront
