/- Nodes once of each state: the document's answer. -/
import Derived.Test.YtkljmnfekdoocaaGreatGThan
import Derived.Test.YtkljmnfekdoocaaGreatXN
import Derived.Test.YtkljmnfekdoocaaGreatXB
import Derived.Test.YtkljmnfekdoocaaGreatXR3
namespace Go.Proofs.YtkljmnfekdoocaaGreat
open Go.ChangeShapes Go.WideShapes Go.ChangeAt Go.RowKit

/-- The last place ahead of m at which this state stands; less than 0: none. -/
def atN (out : List Nod) (s : Sta) : Nat → Int
  | 0 => -1
  | m + 1 => if (nodAt out m).s = s then (m : Int) else atN out s m
theorem atN_is {out : List Nod} {s : Sta} : ∀ m, (atN out s m = -1 ∧ ∀ i, i < m → (nodAt out i).s ≠ s) ∨ (∃ j : Nat, atN out s m = j ∧ j < m ∧ (nodAt out j).s = s)
  | 0 => .inl ⟨rfl, fun i h => absurd h (Nat.not_lt_zero _)⟩
  | m + 1 => by
    rw [atN]
    by_cases h : (nodAt out m).s = s
    · rw [if_pos h]; exact .inr ⟨m, rfl, by omega, h⟩
    · rw [if_neg h]
      rcases atN_is (out := out) (s := s) m with ⟨h1, h2⟩ | ⟨j, h1, h2, h3⟩
      · exact .inl ⟨h1, fun i hi => by
          by_cases e : i = m
          · subst e; exact h
          · exact h2 i (by omega)⟩
      · exact .inr ⟨j, h1, by omega, h3⟩
theorem put_not {x : Nod} : ∀ {out : List Nod}, (∀ i, i < out.length → (nodAt out i).s ≠ x.s) → putOnce x out = out ++ [x]
  | [], _ => rfl
  | y :: out, h => by
    rw [putOnce, if_neg (show ¬ y.s = x.s from h 0 (by simp)), put_not (fun i hi => h (i + 1) (by simp; omega))]; rfl
theorem put_at {x : Nod} : ∀ {out : List Nod} (j : Nat), j < out.length → (nodAt out j).s = x.s → out.Pairwise (fun a b => a.s ≠ b.s) → putOnce x out = if x.cost < (nodAt out j).cost then out.set j x else out
  | [], j, h, _, _ => by simp at h
  | y :: out, 0, _, hs, _ => by
    have hs' : y.s = x.s := hs
    rw [putOnce, if_pos hs']
    show (if x.cost < y.cost then x else y) :: out = if x.cost < y.cost then x :: out else y :: out
    split <;> rfl
  | y :: out, j + 1, h, hs, hp => by
    have hj : j < out.length := by simpa using h
    have hs' : (nodAt out j).s = x.s := hs
    have hne : y.s ≠ x.s := by
      rw [← hs']
      exact (List.pairwise_cons.1 hp).1 _ (nodAt_mem hj)
    rw [putOnce, if_neg hne, put_at j hj hs' (List.pairwise_cons.1 hp).2]
    show y :: (if x.cost < (nodAt out j).cost then out.set j x else out) = if x.cost < (nodAt out j).cost then y :: out.set j x else y :: out
    split <;> rfl
theorem once_take {l : List Nod} {k : Nat} (hk : k < l.length) : onceL (l.take (k + 1)) = putOnce (nodAt l k) (onceL (l.take k)) := by
  rw [List.take_succ_eq_append_getElem hk, onceL_snoc]
  unfold nodAt
  rw [List.getD_eq_getElem?_getD, List.getElem?_eq_getElem hk]; rfl
set_option maxRecDepth 1000000 in
set_option maxHeartbeats 4000000 in
theorem donce_any {w0 w : World} {v : Value} {l : List Nod} (h : NRowB w0 w v l) (hb0 : Below w0.heap.size w0 w) (hlen : l.length ≤ 1000000) :
    Calls Tryz.prog 14 #[v] w fun e w' => ∃ u, e = .returned u ∧ OwnN w0 w.heap.size w' u (onceL l) ∧ Below w.heap.size w w' := by
  have H := Lib.hid h
  have HW0 := Lib.hid hb0
  obtain ⟨a, cap, rfl, hm, _⟩ := h.form
  have HLE := Lib.hid hlen
  have hlm : l.length ≤ 9223372036854775807 := by omega
  have kg := guardSta
  clear h hm hlen hb0
  go_enter Tryz.func14, Tryz.ntmps14
  go_wp2_with fail
  go_loopw [3, 4] (fun u i wr => ∃ k : Nat, k ≤ l.length ∧ i = .int .i64 k ∧ OwnN w0 w.heap.size wr u (onceL (l.take k)) ∧ Below w.heap.size w wr) (fun _ i _ => l.length - (intOf i).toNat)
  case atStart => exact ⟨0, Nat.zero_le _, rfl, ownN_nil _ _ _, Below.refl _ _⟩
  case round =>
    obtain ⟨k, hk, rfl, hon, hbw⟩ := hrel
    have HON := Lib.hid hon
    have HBW := Lib.hid hbw
    clear hon hbw
    generalize wr = W1 at *
    by_cases hlt : k < l.length
    rotate_left
    · obtain rfl : k = l.length := by omega
      rw [List.take_length] at HON
      clear hlt hk
      go_wp2
      go_ret
      exact ⟨_, rfl, HON.out, HBW.out⟩
    have HK := Lib.hid hlt
    obtain ⟨b1, o1, pa, pc, ha, hn1, hl1, hr1⟩ := nrowB_at H.out k _ (nodAt_is hlt)
    subst ha
    have HN1 := Lib.hid hn1
    have HB1 := Lib.hid hl1
    have HR1 := Lib.hid hr1
    have HOT := Lib.hid (once_take hlt)
    have HAP := Lib.hid (once_apart (l.take k))
    have HOL := Lib.hid (show (onceL (l.take k)).length ≤ k from Nat.le_trans (once_len _) (by rw [List.length_take]; omega))
    have hki : (k : Int) < (l.length : Int) := by omega
    have hk2 : IntKind.i64.wrap ((k : Int) + 1) = (k : Int) + 1 := IntWalk.i64_in _ (by omega)
    obtain ⟨O, hO⟩ : ∃ O, onceL (l.take k) = O := ⟨_, rfl⟩
    rw [hO] at HON HOT HAP HOL
    obtain ⟨n, hn⟩ : ∃ n, nodAt l k = n := ⟨_, rfl⟩
    rw [hn] at HN1 HR1 HOT
    clear hn1 hl1 hr1 hk hlt hO hn
    obtain ⟨ua, uc, rfl⟩ := HON.out.shape
    have hol : O.length ≤ 9223372036854775807 := by have := HOL.out; have := HK.out; omega
    go_wp2_with fail
    go_loopw [5, 6] (fun at_ j wq => ∃ m : Nat, m ≤ O.length ∧ j = .int .i64 m ∧ at_ = .int .i64 (atN O n.s m) ∧ Below W1.heap.size W1 wq) (fun _ j _ => O.length - (intOf j).toNat)
    case atStart => exact ⟨0, Nat.zero_le _, rfl, rfl, Below.refl _ _⟩
    case round =>
      obtain ⟨m, hm, rfl, rfl, hbq⟩ := hrel
      have HQ := Lib.hid hbq
      clear hbq
      obtain ⟨WC, hWC⟩ : ∃ W, wr = W := ⟨_, rfl⟩
      rw [hWC] at HQ ⊢
      clear hWC
      have HBQ := Lib.hid (HBW.out.trans (HQ.out.mono HBW.out.size))
      have HNQ := Lib.hid (HN1.out.below HB1.out HBQ.out)
      have HBL := Lib.hid (Nat.lt_of_lt_of_le HB1.out HBQ.out.size)
      by_cases hlt : m < O.length
      · have HM := Lib.hid hlt
        obtain ⟨b2, o2, qa, qc, ha, hn2, hl2, hr2⟩ := nrowB_at (HON.out.below HQ.out).rowB m _ (nodAt_is hlt)
        subst ha
        have HN2 := Lib.hid hn2
        have HB2 := Lib.hid hl2
        have hmi : (m : Int) < (O.length : Int) := by omega
        have hm2 : IntKind.i64.wrap ((m : Int) + 1) = (m : Int) + 1 := IntWalk.i64_in _ (by omega)
        have HAT := Lib.hid (show atN O n.s (m + 1) = if (nodAt O m).s = n.s then (m : Int) else atN O n.s m from rfl)
        obtain ⟨y, hy⟩ : ∃ y, nodAt O m = y := ⟨_, rfl⟩
        rw [hy] at HN2 HAT
        have keq := fun w => equalSta y.s n.s w
        obtain ⟨p, hp⟩ : ∃ p, atN O n.s m = p := ⟨_, rfl⟩
        rw [hp] at HAT ⊢
        clear hn2 hl2 hr2 hy hp hm hlt
        go_upto_region 9 with fail
        go_cut [29] from 19 to 30 (fun g wx => g = .bool (decide (y.s = n.s)) ∧ Below W1.heap.size W1 wx)
        case first =>
          have HS0 := Lib.hid (show Holds (cellsRN b2 (o2 + m * 10) y.s y.cost (.slice qa y.path.length qc) ++ cellsRN b1 (o1 + k * 10) n.s n.cost (.slice pa n.path.length pc)) WC.drew from Holds.app.2 ⟨(holds_RN HN2.out), (holds_RN HNQ.out)⟩)
          have hlt := Lib.hid (show Lows WC.drew.heap.size (cellsRN b2 (o2 + m * 10) y.s y.cost (.slice qa y.path.length qc) ++ cellsRN b1 (o1 + k * 10) n.s n.cost (.slice pa n.path.length pc)) from Lows.app (lows_RN HB2.out) (lows_RN HBL.out))
          refine wp_region_held_drew (S := Holds (cellsRN b2 (o2 + m * 10) y.s y.cost (.slice qa y.path.length qc) ++ cellsRN b1 (o1 + k * 10) n.s n.cost (.slice pa n.path.length pc))) (by kernel_rfl) HS0.out (fun hSn => ?_)
          have HQD := Lib.hid HQ.out.drew
          generalize WC.drew = V at *
          have Bc := Lib.hid (Below.refl V.heap.size V)
          simp only [cellsRN, List.cons_append, List.nil_append] at HS0 hlt hSn ⊢
          refine tks [0, 1, 2, 3, 4, 5, 6, 7, 8, 9, 10] 11 rfl (by kernel_rfl) (fun _ _ _ _ h => h) (by assumption) (fun KT hKT => ?_)
          iterate 11 (refine tkT (by (simp only [gA, gB, gC]; rfl)) (by rfl) (by (intro w hSw; (simp only [Holds] at hSw); go_simp <;> with_reducible rfl)) ?_; simp only [Act.put, pA, pB, pC])
          refine hKT _ ?_
          clear KT hKT
          refine wpAnyH_done (by kernel_rfl) ?_ _
          go_wp2_with fail
          go_meet
          exact ⟨rfl, HQD.out.trans (Bc.out.mono HQD.out.size)⟩
        case rest =>
        obtain ⟨rfl, hbx⟩ := hcut
        have HX := Lib.hid hbx
        clear hbx HQ
        generalize wc = W7 at *
        by_cases hs : y.s = n.s
        · rw [decide_eq_true hs]
          have HF := Lib.hid (HAT.out.trans (if_pos hs))
          clear hs keq
          go_wp2_with fail
          go_roundw
          case rel => exact ⟨m + 1, by have := HM.out; omega, by go_num, by rw [HF.out], HX.out⟩
          case measure => have := HM.out; simp [intOf]; omega
        · rw [decide_eq_false hs]
          have HF := Lib.hid (HAT.out.trans (if_neg hs))
          clear hs keq
          go_wp2_with fail
          go_roundw
          case rel => exact ⟨m + 1, by have := HM.out; omega, by go_num, by rw [HF.out], HX.out⟩
          case measure => have := HM.out; simp [intOf]; omega
      · obtain rfl : m = O.length := by omega
        clear hm hlt
        rcases atN_is (out := O) (s := n.s) O.length with ⟨h1, h2⟩ | ⟨j, h1, h2, h3⟩
        · rw [h1]
          have HF := Lib.hid (show onceL (l.take (k + 1)) = O ++ [n] by rw [HOT.out]; exact put_not h2)
          clear h1 h2
          have HOQ := Lib.hid (HON.out.below HQ.out)
          obtain ⟨c0, c1, c2, c3, c4, c5, c6, c7, c8, c9⟩ := HNQ.out
          clear HON HQ HOT
          go_wp2_with (at_builtin; refine app_nodes Tryz.underlying25 rfl _ _ rfl w.heap.size _ O rfl (HOQ.out.below ((Below.refl _ _).alloc (Nat.le_refl _) _)) _ rfl [⟨n.s, n.cost, pa, n.path.length, pc⟩] [n] (nrow_one (heap_alloc_new _ _)) ⟨⟨rfl, rfl, HR1.out.below (HBQ.out.alloc HBQ.out.size _)⟩, trivial⟩ (by have := HOL.out; have := HK.out; have := HLE.out; simp only [List.length_cons, List.length_nil]; omega) (HBQ.out.alloc HBQ.out.size _).size HW0.out.size (HW0.out.trans ((HBQ.out.alloc HBQ.out.size _).mono HW0.out.size)) ?_; intro v1 w1 o1 b1' b2' g1)
          go_roundw
          case rel => exact ⟨k + 1, by have := HK.out; omega, by go_num, by rw [HF.out]; exact o1, (HBQ.out.alloc HBQ.out.size _).trans b2'⟩
          case measure => have := HK.out; simp [intOf]; omega
        · rw [h1]
          have HJ := Lib.hid h2
          have HF := Lib.hid (show onceL (l.take (k + 1)) = if n.cost < (nodAt O j).cost then O.set j n else O by rw [HOT.out]; exact put_at j h2 h3 HAP.out)
          clear h1 h2 h3
          obtain ⟨g, gc, hu, hgc, hgm, hgB, hgl⟩ := OwnN.block (HON.out.below HQ.out) (by have := HJ.out; omega)
          simp only [Value.slice.injEq, true_and] at hu
          obtain ⟨rfl, rfl⟩ := hu
          obtain ⟨qa, qc, hn2, hl2, hr2⟩ := nrowB_here (HON.out.below HQ.out).rowB j _ (nodAt_is HJ.out)
          have HN2 := Lib.hid hn2
          have HB2 := Lib.hid hl2
          have hji : (j : Int) < (O.length : Int) := by have := HJ.out; omega
          have hj0 : (0 : Int) ≤ (j : Int) := by omega
          have hjn : decide ((j : Int) < 0) = false := decide_eq_false (by omega)
          obtain ⟨y, hy⟩ : ∃ y, nodAt O j = y := ⟨_, rfl⟩
          rw [hy, Nat.zero_add] at HN2
          rw [hy] at HF
          clear hn2 hl2 hr2 hy
          go_upto_region 13 with fail
          go_cut [50] from 40 to 57 (fun g wx => g = .bool (decide (n.cost < y.cost)) ∧ Below W1.heap.size W1 wx)
          case first =>
            have HS0 := Lib.hid (show Holds (cellsRN b1 (o1 + k * 10) n.s n.cost (.slice pa n.path.length pc) ++ cellsRN g (j * 10) y.s y.cost (.slice qa y.path.length qc)) WC.drew from Holds.app.2 ⟨(holds_RN HNQ.out), (holds_RN HN2.out)⟩)
            have hlt := Lib.hid (show Lows WC.drew.heap.size (cellsRN b1 (o1 + k * 10) n.s n.cost (.slice pa n.path.length pc) ++ cellsRN g (j * 10) y.s y.cost (.slice qa y.path.length qc)) from Lows.app (lows_RN HBL.out) (lows_RN HB2.out))
            refine wp_region_held_drew (S := Holds (cellsRN b1 (o1 + k * 10) n.s n.cost (.slice pa n.path.length pc) ++ cellsRN g (j * 10) y.s y.cost (.slice qa y.path.length qc))) (by kernel_rfl) HS0.out (fun hSn => ?_)
            have HQD := Lib.hid HQ.out.drew
            generalize WC.drew = V at *
            have Bc := Lib.hid (Below.refl V.heap.size V)
            simp only [cellsRN, List.cons_append, List.nil_append] at HS0 hlt hSn ⊢
            refine tks [0, 1, 2, 3, 4, 5, 6, 7, 8, 9, 10] 11 rfl (by kernel_rfl) (fun _ _ _ _ h => h) (by assumption) (fun KT hKT => ?_)
            iterate 11 (refine tkT (by (simp only [gA, gB, gC]; rfl)) (by rfl) (by (intro w hSw; (simp only [Holds] at hSw); go_simp <;> with_reducible rfl)) ?_; simp only [Act.put, pA, pB, pC])
            refine hKT _ ?_
            clear KT hKT
            refine wpAnyH_done (by kernel_rfl) ?_ _
            go_wp2_with fail
            go_meet
            exact ⟨rfl, HQD.out.trans (Bc.out.mono HQD.out.size)⟩
          case rest =>
          obtain ⟨rfl, hbx⟩ := hcut
          have HX := Lib.hid hbx
          clear hbx HQ
          generalize wc = W7 at *
          have HBX := Lib.hid (HBW.out.trans (HX.out.mono HBW.out.size))
          by_cases hc : n.cost < y.cost
          · rw [decide_eq_true hc]
            have HF2 := Lib.hid (HF.out.trans (if_pos hc))
            clear hc
            obtain ⟨c0, c1, c2, c3, c4, c5, c6, c7, c8, c9⟩ := HN1.out.below HB1.out HBX.out
            have HST := Lib.hid (OwnN.stored (HON.out.below HX.out) j ⟨n.s, n.cost, pa, n.path.length, pc⟩ n ⟨rfl, rfl, HR1.out.below HBX.out⟩ HJ.out)
            go_wp2_with (refine wpList_store_mid (by rfl) 33 (.tmp 57) (.tmp 56) (by rfl) g (j * 10) _ (by rfl) (by rfl) (by exact HST.out.2.2.1) (by kernel_rfl) (by kernel_rfl) ?_)
            have HBZ := Lib.hid (HBX.out.grown HST.out.2.1 (Nat.le_trans HBX.out.size (Nat.le_refl _)) (fun b e => by cases e; exact HST.out.2.2.2.1))
            go_roundw
            case rel => exact ⟨k + 1, by have := HK.out; omega, by go_num, by rw [HF2.out]; exact HST.out.1, HBZ.out⟩
            case measure => have := HK.out; simp [intOf]; omega
          · rw [decide_eq_false hc]
            have HF2 := Lib.hid (HF.out.trans (if_neg hc))
            clear hc
            go_wp2_with fail
            go_roundw
            case rel => exact ⟨k + 1, by have := HK.out; omega, by go_num, by rw [HF2.out]; exact HON.out.below HX.out, HBX.out⟩
            case measure => have := HK.out; simp [intOf]; omega
end Go.Proofs.YtkljmnfekdoocaaGreat
