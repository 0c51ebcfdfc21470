/- Nodes once of each state: the document's answer. -/
import Derived.Test.YtgplajofemencaaGreatYJ
import Derived.Test.YtgplajofemencaaGreatXN
import Derived.Test.YtgplajofemencaaGreatXB
import Derived.Test.YtgplajofemencaaGreatYG
import Derived.Test.YtgplajofemencaaGreatYI
import Derived.Test.YtgplajofemencaaGreatXSDoc
namespace Go.Proofs.YtgplajofemencaaGreat
open Go.ChangeShapes Go.WideShapes Go.ChangeAt Go.RowKit

/-- The last place ahead of m at which this state stands; less than 0: none. -/
def atN (out : List Nod) (s : Sta) : Nat → Int
  | 0 => -1
  | m + 1 => if (nodAt out m).s = s then (m : Int) else atN out s m
theorem atN_is {out : List Nod} {s : Sta} : ∀ m, (atN out s m = -1 ∧ ∀ i, i < m → (nodAt out i).s ≠ s) ∨ (∃ j : Nat, atN out s m = j ∧ j < m ∧ (nodAt out j).s = s)
  | 0 => .inl ⟨rfl, fun i h => absurd h (Nat.not_lt_zero _)⟩
  | m + 1 => by
    rw [atN]
    by_cases h : (nodAt out m).s = s
    · rw [if_pos h]; exact .inr ⟨m, rfl, by omega, h⟩
    · rw [if_neg h]
      rcases atN_is (out := out) (s := s) m with ⟨h1, h2⟩ | ⟨j, h1, h2, h3⟩
      · exact .inl ⟨h1, fun i hi => by
          by_cases e : i = m
          · subst e; exact h
          · exact h2 i (by omega)⟩
      · exact .inr ⟨j, h1, by omega, h3⟩
theorem put_not {x : Nod} : ∀ {out : List Nod}, (∀ i, i < out.length → (nodAt out i).s ≠ x.s) → putOnce x out = out ++ [x]
  | [], _ => rfl
  | y :: out, h => by
    rw [putOnce, if_neg (show ¬ y.s = x.s from h 0 (by simp)), put_not (fun i hi => h (i + 1) (by simp; omega))]; rfl
theorem put_at {x : Nod} : ∀ {out : List Nod} (j : Nat), j < out.length → (nodAt out j).s = x.s → out.Pairwise (fun a b => a.s ≠ b.s) → putOnce x out = if x.cost < (nodAt out j).cost then out.set j x else out
  | [], j, h, _, _ => by simp at h
  | y :: out, 0, _, hs, _ => by
    have hs' : y.s = x.s := hs
    rw [putOnce, if_pos hs']
    show (if x.cost < y.cost then x else y) :: out = if x.cost < y.cost then x :: out else y :: out
    split <;> rfl
  | y :: out, j + 1, h, hs, hp => by
    have hj : j < out.length := by simpa using h
    have hs' : (nodAt out j).s = x.s := hs
    have hne : y.s ≠ x.s := by
      rw [← hs']
      exact (List.pairwise_cons.1 hp).1 _ (nodAt_mem hj)
    rw [putOnce, if_neg hne, put_at j hj hs' (List.pairwise_cons.1 hp).2]
    show y :: (if x.cost < (nodAt out j).cost then out.set j x else out) = if x.cost < (nodAt out j).cost then y :: out.set j x else y :: out
    split <;> rfl
theorem once_take {l : List Nod} {k : Nat} (hk : k < l.length) : onceL (l.take (k + 1)) = putOnce (nodAt l k) (onceL (l.take k)) := by
  rw [List.take_succ_eq_append_getElem hk, onceL_snoc]
  unfold nodAt
  rw [List.getD_eq_getElem?_getD, List.getElem?_eq_getElem hk]; rfl
set_option maxRecDepth 1000000 in
set_option maxHeartbeats 4000000 in
theorem donce_any {w0 w : World} {v : Value} {l : List Nod} (h : NRowB w0 w v l) (hb0 : Below w0.heap.size w0 w) (hlen : l.length ≤ 1000000) :
    Calls Tryz.prog 52 #[v] w fun e w' => ∃ u, e = .returned u ∧ OwnN w0 w.heap.size w' u (onceL l) ∧ Below w.heap.size w w' := by
  have H := Lib.hid h
  have HW0 := Lib.hid hb0
  obtain ⟨a, cap, rfl, hm, _⟩ := h.form
  have HLE := Lib.hid hlen
  have hlm : l.length ≤ 9223372036854775807 := by omega
  have kg := guardSta
  clear h hm hlen hb0
  go_enter Tryz.func52, Tryz.ntmps52
  go_wp2_with fail
  go_loopw [3, 4] (fun u i wr => ∃ k : Nat, k ≤ l.length ∧ i = .int .i64 k ∧ OwnN w0 w.heap.size wr u (onceL (l.take k)) ∧ Below w.heap.size w wr) (fun _ i _ => l.length - (intOf i).toNat)
  case atStart => exact ⟨0, Nat.zero_le _, rfl, ownN_nil _ _ _, Below.refl _ _⟩
  case round =>
    obtain ⟨k, hk, rfl, hon, hbw⟩ := hrel
    have HON := Lib.hid hon
    have HBW := Lib.hid hbw
    clear hon hbw
    generalize wr = W1 at *
    by_cases hlt : k < l.length
    rotate_left
    · obtain rfl : k = l.length := by omega
      rw [List.take_length] at HON
      clear hlt hk
      go_wp2
      go_ret
      exact ⟨_, rfl, HON.out, HBW.out⟩
    have HK := Lib.hid hlt
    obtain ⟨b1, o1, pa, pc, ha, hn1, hl1, hr1⟩ := nrowB_at H.out k _ (nodAt_is hlt)
    subst ha
    have HN1 := Lib.hid hn1
    have HB1 := Lib.hid hl1
    have HR1 := Lib.hid hr1
    have HOT := Lib.hid (once_take hlt)
    have HAP := Lib.hid (once_apart (l.take k))
    have HOL := Lib.hid (show (onceL (l.take k)).length ≤ k from Nat.le_trans (once_len _) (by rw [List.length_take]; omega))
    have hki : (k : Int) < (l.length : Int) := by omega
    have hk2 : IntKind.i64.wrap ((k : Int) + 1) = (k : Int) + 1 := IntWalk.i64_in _ (by omega)
    obtain ⟨O, hO⟩ : ∃ O, onceL (l.take k) = O := ⟨_, rfl⟩
    rw [hO] at HON HOT HAP HOL
    obtain ⟨n, hn⟩ : ∃ n, nodAt l k = n := ⟨_, rfl⟩
    rw [hn] at HN1 HR1 HOT
    clear hn1 hl1 hr1 hk hlt hO hn
    obtain ⟨ua, uc, rfl⟩ := HON.out.shape
    have hol : O.length ≤ 9223372036854775807 := by have := HOL.out; have := HK.out; omega
    go_wp2_with fail
    go_loopw [5, 6] (fun at_ j wq => ∃ m : Nat, m ≤ O.length ∧ j = .int .i64 m ∧ at_ = .int .i64 (atN O n.s m) ∧ Below W1.heap.size W1 wq) (fun _ j _ => O.length - (intOf j).toNat)
    case atStart => exact ⟨0, Nat.zero_le _, rfl, rfl, Below.refl _ _⟩
    case round =>
      obtain ⟨m, hm, rfl, rfl, hbq⟩ := hrel
      have HQ := Lib.hid hbq
      clear hbq
      obtain ⟨WC, hWC⟩ : ∃ W, wr = W := ⟨_, rfl⟩
      rw [hWC] at HQ ⊢
      clear hWC
      have HBQ := Lib.hid (HBW.out.trans (HQ.out.mono HBW.out.size))
      have HNQ := Lib.hid (HN1.out.below HB1.out HBQ.out)
      have HBL := Lib.hid (Nat.lt_of_lt_of_le HB1.out HBQ.out.size)
      by_cases hlt : m < O.length
      · have HM := Lib.hid hlt
        obtain ⟨b2, o2, qa, qc, ha, hn2, hl2, hr2⟩ := nrowB_at (HON.out.below HQ.out).rowB m _ (nodAt_is hlt)
        subst ha
        have HN2 := Lib.hid hn2
        have HB2 := Lib.hid hl2
        have hmi : (m : Int) < (O.length : Int) := by omega
        have hm2 : IntKind.i64.wrap ((m : Int) + 1) = (m : Int) + 1 := IntWalk.i64_in _ (by omega)
        have HAT := Lib.hid (show atN O n.s (m + 1) = if (nodAt O m).s = n.s then (m : Int) else atN O n.s m from rfl)
        obtain ⟨y, hy⟩ : ∃ y, nodAt O m = y := ⟨_, rfl⟩
        rw [hy] at HN2 HAT
        have keq := fun w => equalSta y.s n.s w
        obtain ⟨p, hp⟩ : ∃ p, atN O n.s m = p := ⟨_, rfl⟩
        rw [hp] at HAT ⊢
        clear hn2 hl2 hr2 hy hp hm hlt
        go_upto_region 9 with fail
        go_cut [29] from 19 to 30 (fun g wx => g = .bool (decide (y.s = n.s)) ∧ Below W1.heap.size W1 wx)
        case first =>
          have HS0 := Lib.hid (show Holds (cellsRN b2 (o2 + m * 10) y.s y.cost (.slice qa y.path.length qc) ++ cellsRN b1 (o1 + k * 10) n.s n.cost (.slice pa n.path.length pc)) WC.drew from Holds.app.2 ⟨(holds_RN HN2.out), (holds_RN HNQ.out)⟩)
          have hlt := Lib.hid (show Lows WC.drew.heap.size (cellsRN b2 (o2 + m * 10) y.s y.cost (.slice qa y.path.length qc) ++ cellsRN b1 (o1 + k * 10) n.s n.cost (.slice pa n.path.length pc)) from Lows.app (lows_RN HB2.out) (lows_RN HBL.out))
          refine wp_region_held_drew (S := Holds (cellsRN b2 (o2 + m * 10) y.s y.cost (.slice qa y.path.length qc) ++ cellsRN b1 (o1 + k * 10) n.s n.cost (.slice pa n.path.length pc))) (by kernel_rfl) HS0.out (fun hSn => ?_)
          have HQD := Lib.hid HQ.out.drew
          generalize WC.drew = V at *
          have Bc := Lib.hid (Below.refl V.heap.size V)
          simp only [cellsRN, List.cons_append, List.nil_append] at HS0 hlt hSn ⊢
          refine tks [0, 1, 2, 3, 4, 5, 6, 7, 8, 9, 10] 11 rfl (by kernel_rfl) (fun _ _ _ _ h => h) (by assumption) (fun KT hKT => ?_)
          iterate 11 (refine tkT (by (simp only [gA, gB, gC]; rfl)) (by rfl) (by (intro w hSw; (simp only [Holds] at hSw); go_simp <;> with_reducible rfl)) ?_; simp only [Act.put, pA, pB, pC])
          refine hKT _ ?_
          clear KT hKT
          refine wpAnyH_done (by kernel_rfl) ?_ _
          go_wp2_with fail
          go_meet
          exact ⟨rfl, HQD.out.trans (Bc.out.mono HQD.out.size)⟩
        case rest =>
        obtain ⟨rfl, hbx⟩ := hcut
        have HX := Lib.hid hbx
        clear hbx HQ
        generalize wc = W7 at *
        by_cases hs : y.s = n.s
        · rw [decide_eq_true hs]
          have HF := Lib.hid (HAT.out.trans (if_pos hs))
          clear hs keq
          go_wp2_with fail
          go_roundw
          case rel => exact ⟨m + 1, by have := HM.out; omega, by go_num, by rw [HF.out], HX.out⟩
          case measure => have := HM.out; simp [intOf]; omega
        · rw [decide_eq_false hs]
          have HF := Lib.hid (HAT.out.trans (if_neg hs))
          clear hs keq
          go_wp2_with fail
          go_roundw
          case rel => exact ⟨m + 1, by have := HM.out; omega, by go_num, by rw [HF.out], HX.out⟩
          case measure => have := HM.out; simp [intOf]; omega
      · obtain rfl : m = O.length := by omega
        clear hm hlt
        rcases atN_is (out := O) (s := n.s) O.length with ⟨h1, h2⟩ | ⟨j, h1, h2, h3⟩
        · rw [h1]
          have HF := Lib.hid (show onceL (l.take (k + 1)) = O ++ [n] by rw [HOT.out]; exact put_not h2)
          clear h1 h2
          have HOQ := Lib.hid (HON.out.below HQ.out)
          obtain ⟨c0, c1, c2, c3, c4, c5, c6, c7, c8, c9⟩ := HNQ.out
          clear HON HQ HOT
          go_wp2_with (at_builtin; refine app_nodes Tryz.underlying35 rfl _ _ rfl w.heap.size _ O rfl (HOQ.out.below ((Below.refl _ _).alloc (Nat.le_refl _) _)) _ rfl [⟨n.s, n.cost, pa, n.path.length, pc⟩] [n] (nrow_one (heap_alloc_new _ _)) ⟨⟨rfl, rfl, HR1.out.below (HBQ.out.alloc HBQ.out.size _)⟩, trivial⟩ (by have := HOL.out; have := HK.out; have := HLE.out; simp only [List.length_cons, List.length_nil]; omega) (HBQ.out.alloc HBQ.out.size _).size HW0.out.size (HW0.out.trans ((HBQ.out.alloc HBQ.out.size _).mono HW0.out.size)) ?_; intro v1 w1 o1 b1' b2' g1)
          go_roundw
          case rel => exact ⟨k + 1, by have := HK.out; omega, by go_num, by rw [HF.out]; exact o1, (HBQ.out.alloc HBQ.out.size _).trans b2'⟩
          case measure => have := HK.out; simp [intOf]; omega
        · rw [h1]
          have HJ := Lib.hid h2
          have HF := Lib.hid (show onceL (l.take (k + 1)) = if n.cost < (nodAt O j).cost then O.set j n else O by rw [HOT.out]; exact put_at j h2 h3 HAP.out)
          clear h1 h2 h3
          obtain ⟨g, gc, hu, hgc, hgm, hgB, hgl⟩ := OwnN.block (HON.out.below HQ.out) (by have := HJ.out; omega)
          simp only [Value.slice.injEq, true_and] at hu
          obtain ⟨rfl, rfl⟩ := hu
          obtain ⟨qa, qc, hn2, hl2, hr2⟩ := nrowB_here (HON.out.below HQ.out).rowB j _ (nodAt_is HJ.out)
          have HN2 := Lib.hid hn2
          have HB2 := Lib.hid hl2
          have hji : (j : Int) < (O.length : Int) := by have := HJ.out; omega
          have hj0 : (0 : Int) ≤ (j : Int) := by omega
          have hjn : decide ((j : Int) < 0) = false := decide_eq_false (by omega)
          obtain ⟨y, hy⟩ : ∃ y, nodAt O j = y := ⟨_, rfl⟩
          rw [hy, Nat.zero_add] at HN2
          rw [hy] at HF
          clear hn2 hl2 hr2 hy
          go_upto_region 13 with fail
          go_cut [50] from 40 to 57 (fun g wx => g = .bool (decide (n.cost < y.cost)) ∧ Below W1.heap.size W1 wx)
          case first =>
            have HS0 := Lib.hid (show Holds (cellsRN b1 (o1 + k * 10) n.s n.cost (.slice pa n.path.length pc) ++ cellsRN g (j * 10) y.s y.cost (.slice qa y.path.length qc)) WC.drew from Holds.app.2 ⟨(holds_RN HNQ.out), (holds_RN HN2.out)⟩)
            have hlt := Lib.hid (show Lows WC.drew.heap.size (cellsRN b1 (o1 + k * 10) n.s n.cost (.slice pa n.path.length pc) ++ cellsRN g (j * 10) y.s y.cost (.slice qa y.path.length qc)) from Lows.app (lows_RN HBL.out) (lows_RN HB2.out))
            refine wp_region_held_drew (S := Holds (cellsRN b1 (o1 + k * 10) n.s n.cost (.slice pa n.path.length pc) ++ cellsRN g (j * 10) y.s y.cost (.slice qa y.path.length qc))) (by kernel_rfl) HS0.out (fun hSn => ?_)
            have HQD := Lib.hid HQ.out.drew
            generalize WC.drew = V at *
            have Bc := Lib.hid (Below.refl V.heap.size V)
            simp only [cellsRN, List.cons_append, List.nil_append] at HS0 hlt hSn ⊢
            refine tks [0, 1, 2, 3, 4, 5, 6, 7, 8, 9, 10] 11 rfl (by kernel_rfl) (fun _ _ _ _ h => h) (by assumption) (fun KT hKT => ?_)
            iterate 11 (refine tkT (by (simp only [gA, gB, gC]; rfl)) (by rfl) (by (intro w hSw; (simp only [Holds] at hSw); go_simp <;> with_reducible rfl)) ?_; simp only [Act.put, pA, pB, pC])
            refine hKT _ ?_
            clear KT hKT
            refine wpAnyH_done (by kernel_rfl) ?_ _
            go_wp2_with fail
            go_meet
            exact ⟨rfl, HQD.out.trans (Bc.out.mono HQD.out.size)⟩
          case rest =>
          obtain ⟨rfl, hbx⟩ := hcut
          have HX := Lib.hid hbx
          clear hbx HQ
          generalize wc = W7 at *
          have HBX := Lib.hid (HBW.out.trans (HX.out.mono HBW.out.size))
          by_cases hc : n.cost < y.cost
          · rw [decide_eq_true hc]
            have HF2 := Lib.hid (HF.out.trans (if_pos hc))
            clear hc
            obtain ⟨c0, c1, c2, c3, c4, c5, c6, c7, c8, c9⟩ := HN1.out.below HB1.out HBX.out
            have HST := Lib.hid (OwnN.stored (HON.out.below HX.out) j ⟨n.s, n.cost, pa, n.path.length, pc⟩ n ⟨rfl, rfl, HR1.out.below HBX.out⟩ HJ.out)
            go_wp2_with (refine wpList_store_mid (by rfl) 30 (.tmp 57) (.tmp 56) (by rfl) g (j * 10) _ (by rfl) (by rfl) (by exact HST.out.2.2.1) (by kernel_rfl) (by kernel_rfl) ?_)
            have HBZ := Lib.hid (HBX.out.grown HST.out.2.1 (Nat.le_trans HBX.out.size (Nat.le_refl _)) (fun b e => by cases e; exact HST.out.2.2.2.1))
            go_roundw
            case rel => exact ⟨k + 1, by have := HK.out; omega, by go_num, by rw [HF2.out]; exact HST.out.1, HBZ.out⟩
            case measure => have := HK.out; simp [intOf]; omega
          · rw [decide_eq_false hc]
            have HF2 := Lib.hid (HF.out.trans (if_neg hc))
            clear hc
            go_wp2_with fail
            go_roundw
            case rel => exact ⟨k + 1, by have := HK.out; omega, by go_num, by rw [HF2.out]; exact HON.out.below HX.out, HBX.out⟩
            case measure => have := HK.out; simp [intOf]; omega
end Go.Proofs.YtgplajofemencaaGreat
/- Nodes by what they cost at least: the document's answer. -/
namespace Go.Proofs.YtgplajofemencaaGreat
open Go.ChangeShapes Go.WideShapes Go.ChangeAt Go.RowKit

/-- Where one is put in, told from the back. -/
theorem ins_at {f : Nod → Int} {O : List Nod} (ho : OrdG f O) {x : Nod} {q : Nat} (hq : q ≤ O.length) (h1 : ∀ i, q ≤ i → i < O.length → f x < f (nodAt O i)) (h2 : q = 0 ∨ ¬ f x < f (nodAt O (q - 1))) : insG f x O = O.take q ++ [x] ++ O.drop q := by
  obtain ⟨a, b, rfl, he, ha, hb⟩ := insG_split (f := f) x ho
  have hab : (a ++ b).length = a.length + b.length := List.length_append
  have e : q = a.length := by
    rcases Nat.lt_trichotomy q a.length with h | h | h
    · have h3 := h1 q (Nat.le_refl _) (by omega)
      rw [nodAt_left h] at h3
      have := ha _ (nodAt_mem h)
      omega
    · exact h
    · rcases h2 with h2 | h2
      · omega
      · exfalso
        obtain ⟨i, hi⟩ : ∃ i, q - 1 = a.length + i := ⟨q - 1 - a.length, by omega⟩
        rw [hi, nodAt_right] at h2
        exact h2 (hb _ (nodAt_mem (by omega)))
  subst e
  rw [he, List.take_left, List.drop_left, List.append_assoc]; rfl
theorem sort_take {f : Nod → Int} {l : List Nod} {k : Nat} (hk : k < l.length) : sortG f (l.take (k + 1)) = insG f (nodAt l k) (sortG f (l.take k)) := by
  rw [List.take_succ_eq_append_getElem hk, sortG_snoc]
  unfold nodAt
  rw [List.getD_eq_getElem?_getD, List.getElem?_eq_getElem hk]; rfl
set_option maxRecDepth 1000000 in
set_option maxHeartbeats 4000000 in
theorem dnsorted_any {w0 w : World} {v u : Value} {I : Ins} {l : List Nod} (hi : SRow w v I.l) (h : NRowB w0 w u l) (hb0 : Below w0.heap.size w0 w) (hs : ∀ n ∈ l, SetsOk n.s) (hlen : l.length ≤ 1000000) :
    Calls Tryz.prog 24 #[insV I v, u] w fun e w' => ∃ z, e = .returned z ∧ OwnN w0 w.heap.size w' z (sortedL I l) ∧ Below w.heap.size w w' := by
  have HR := Lib.hid hi
  have H := Lib.hid h
  have HW0 := Lib.hid hb0
  have HS := Lib.hid hs
  have HLE := Lib.hid hlen
  obtain ⟨ad, cap, rfl, _⟩ := hi.form
  obtain ⟨la, lc, rfl, hm, _⟩ := h.form
  have hlm : l.length ≤ 9223372036854775807 := by omega
  clear hi h hs hm hlen hb0
  unfold insV
  go_enter Tryz.func24, Tryz.ntmps24
  go_upto_region 1 with fail
  have HY0 := Lib.hid (ybox_new w I (.slice ad I.l.length cap))
  have HB0 := Lib.hid ((Below.refl w.heap.size w).alloc (Nat.le_refl _) (boxI I (.slice ad I.l.length cap)))
  change Code.wp _ _ _ _ (w.alloc (boxI I (.slice ad I.l.length cap)))
  generalize w.alloc (boxI I (.slice ad I.l.length cap)) = W at *
  go_wp2_with fail
  go_loopw [5, 6] (fun u i wr => ∃ k : Nat, k ≤ l.length ∧ i = .int .i64 k ∧ OwnN w0 w.heap.size wr u (sortG (ofB I) (l.take k)) ∧ YBox wr w.heap.size I (.slice ad I.l.length cap) ∧ Below w.heap.size w wr) (fun _ i _ => l.length - (intOf i).toNat)
  case atStart => exact ⟨0, Nat.zero_le _, rfl, ownN_nil _ _ _, HY0.out, HB0.out⟩
  case round =>
    obtain ⟨k, hk, rfl, hon, hy, hbw⟩ := hrel
    clear HY0 HB0
    have HON := Lib.hid hon
    have HY := Lib.hid hy
    have HBW := Lib.hid hbw
    clear hon hy hbw
    generalize wr = W1 at *
    by_cases hlt : k < l.length
    rotate_left
    · obtain rfl : k = l.length := by omega
      rw [List.take_length] at HON
      clear hlt hk
      go_wp2
      go_ret
      exact ⟨_, rfl, HON.out, HBW.out⟩
    have HK := Lib.hid hlt
    obtain ⟨b1, o1, pa, pc, ha, hn1, hl1, hr1⟩ := nrowB_at H.out k _ (nodAt_is hlt)
    subst ha
    have HN1 := Lib.hid hn1
    have HB1 := Lib.hid hl1
    have HR1 := Lib.hid hr1
    have HR1W := Lib.hid ((hr1.row HW0.out).below HBW.out)
    have HN1W := Lib.hid (hn1.below hl1 HBW.out)
    have HB1W := Lib.hid (Nat.lt_of_lt_of_le hl1 HBW.out.size)
    have HS1 := Lib.hid (HS.out _ (nodAt_mem hlt))
    have HST := Lib.hid (sort_take (f := ofB I) hlt)
    have HOR := Lib.hid (sortG_ord (ofB I) (l.take k))
    have HOL := Lib.hid (show (sortG (ofB I) (l.take k)).length = k by rw [(sortG_perm (ofB I) _).length_eq, List.length_take]; omega)
    have HOS := Lib.hid (fun n (hn : n ∈ sortG (ofB I) (l.take k)) => HS.out n (List.mem_of_mem_take ((sortG_perm (ofB I) _).mem_iff.1 hn)))
    have hki : (k : Int) < (l.length : Int) := by omega
    have hk2 : IntKind.i64.wrap ((k : Int) + 1) = (k : Int) + 1 := IntWalk.i64_in _ (by omega)
    obtain ⟨O, hO⟩ : ∃ O, sortG (ofB I) (l.take k) = O := ⟨_, rfl⟩
    rw [hO] at HON HST HOR HOL HOS
    obtain ⟨n, hn⟩ : ∃ n, nodAt l k = n := ⟨_, rfl⟩
    rw [hn] at HN1 HR1 HR1W HN1W HS1 HST
    obtain ⟨nv, hnv⟩ : ∃ nv, ofB I n = nv := ⟨_, rfl⟩
    have HNV := Lib.hid hnv
    clear hn1 hl1 hr1 hk hlt hO hn hnv
    obtain ⟨ua, uc, rfl⟩ := HON.out.shape
    have hol : O.length ≤ 9223372036854775807 := by have := HOL.out; have := HK.out; omega
    go_upto_region 5 with fail
    go_cut [7] from 16 to 55 (fun p wx => p = .int .i64 nv ∧ Below W1.heap.size W1 wx)
    case first =>
      have HQ := Lib.hid (Below.refl W1.heap.size W1)
      have HS0 := Lib.hid (show Holds (cellsI w.heap.size I (.slice ad I.l.length cap) ++ cellsRN b1 (o1 + k * 10) n.s n.cost (.slice pa n.path.length pc)) W1.drew from Holds.app.2 ⟨⟨HY.out.cells.1, HY.out.cells.2.1, HY.out.cells.2.2.1, HY.out.cells.2.2.2, trivial⟩, (holds_RN HN1W.out)⟩)
      have hlt := Lib.hid (show Lows W1.drew.heap.size (cellsI w.heap.size I (.slice ad I.l.length cap) ++ cellsRN b1 (o1 + k * 10) n.s n.cost (.slice pa n.path.length pc)) from Lows.app (show Lows _ (cellsI w.heap.size I (.slice ad I.l.length cap)) from ⟨HY.out.lt, HY.out.lt, HY.out.lt, HY.out.lt, trivial⟩) (lows_RN HB1W.out))
      refine wp_region_held_drew (S := Holds (cellsI w.heap.size I (.slice ad I.l.length cap) ++ cellsRN b1 (o1 + k * 10) n.s n.cost (.slice pa n.path.length pc))) (by kernel_rfl) HS0.out (fun hSn => ?_)
      have HQD := Lib.hid HQ.out.drew
      generalize W1.drew = V at *
      have Bc := Lib.hid (Below.refl V.heap.size V)
      simp only [cellsI, cellsRN, List.cons_append, List.nil_append] at HS0 hlt hSn ⊢
      refine tks [0, 1, 2, 3, 4] 5 rfl (by kernel_rfl) (fun _ _ _ _ h => h) (by assumption) (fun KT hKT => ?_)
      iterate 5 (refine tkT (by (simp only [gA, gB, gC]; rfl)) (by rfl) (by (intro w hSw; (simp only [Holds] at hSw); go_simp <;> with_reducible rfl)) ?_; simp only [Act.put, pA, pB, pC])
      refine hKT _ ?_
      clear KT hKT
      refine wpAnyH_ready (rs := [5]) (by kernel_rfl) (by simp) ?_
      refine AllReadyH.cons (o := ?oz213) ?iz213 (fun K hK => ?kz213) AllReadyH.nil
      case iz213 => (simp only [List.getElem?_toArray, List.getElem?_cons_zero, List.getElem?_cons_succ]; rfl)
      go_simp
      change Calls _ _ #[insV I (.slice ad I.l.length cap), nodeV n.s n.cost (.slice pa n.path.length pc)] _ _
      have BCUR := Lib.hid (HQD.out.trans (Bc.out.mono HQD.out.size))
      refine (dbof_any (I := I) (HR.out.below (HBW.out.trans (BCUR.out.mono HBW.out.size))) HS1.out (HR1W.out.below BCUR.out)).mono ?_
      clear BCUR
      rw [show sumOf [n.cost, boundS I n.s] = ofB I n from rfl, HNV.out]
      rintro e w' ⟨rfl, hb⟩
      refine held_more hK HS0.out hlt (Bc.out.trans (hb.mono Bc.out.size)) (fun Bc hSn => ?_)
      clear hb hK
      refine tks [6] 1 rfl (by kernel_rfl) (fun _ _ _ _ h => h) (by assumption) (fun KT hKT => ?_)
      refine tkT (by (simp only [gA, gB, gC]; rfl)) (by rfl) (by (intro w hSw; (simp only [Holds] at hSw); go_simp <;> with_reducible rfl)) ?_
      simp only [Act.put, pA, pB, pC]
      refine hKT _ ?_
      clear KT hKT
      refine wpAnyH_done (by kernel_rfl) ?_ _
      go_wp2_with fail
      go_meet
      exact ⟨rfl, HQD.out.trans (Bc.out.mono HQD.out.size)⟩
    case rest =>
    obtain ⟨rfl, hbx⟩ := hcut
    have HX := Lib.hid hbx
    clear hbx
    generalize wc = W6 at *
    go_wp2_with fail
    go_loopw [8] (fun a wq => ∃ q : Nat, q ≤ O.length ∧ a = .int .i64 q ∧ (∀ i, q ≤ i → i < O.length → nv < ofB I (nodAt O i)) ∧ Below W1.heap.size W1 wq) (fun a _ => (intOf a).toNat)
    case atStart => exact ⟨O.length, Nat.le_refl _, rfl, fun i h1 h2 => absurd h2 (by omega), HX.out⟩
    case round =>
      obtain ⟨q, hq, rfl, hall, hbq⟩ := hrel
      have HQ := Lib.hid hbq
      have HALL := Lib.hid hall
      have HQL := Lib.hid hq
      clear hbq hall HX
      obtain ⟨WC, hWC⟩ : ∃ W, wr = W := ⟨_, rfl⟩
      rw [hWC] at HQ ⊢
      clear hWC
      have HBQ := Lib.hid (HBW.out.trans (HQ.out.mono HBW.out.size))
      have HYQ := Lib.hid (HY.out.later HQ.out)
      have hq2 : IntKind.i64.wrap ((q : Int) - 1) = (q : Int) - 1 := IntWalk.i64_in _ (by have := HOL.out; have := HK.out; omega)
      go_upto_region 7 with fail
      go_cut [36] from 24 to 38 (fun g wx => g = .bool (decide (0 < q ∧ nv < ofB I (nodAt O (q - 1)))) ∧ Below W1.heap.size W1 wx)
      case first =>
        by_cases h0 : q = 0
        · have d1 : decide ((0 : Int) < (q : Int)) = false := decide_eq_false (by omega)
          have d2 : decide (0 < q) = false := decide_eq_false (by omega)
          have d3 : ¬ 0 < q := by omega
          have HF := Lib.hid (show decide (0 < q ∧ nv < ofB I (nodAt O (q - 1))) = false from decide_eq_false (fun h => by omega))
          clear h0
          have HS0 := Lib.hid (show Holds ((cellsI w.heap.size I (.slice ad I.l.length cap))) WC.drew from ⟨HYQ.out.cells.1, HYQ.out.cells.2.1, HYQ.out.cells.2.2.1, HYQ.out.cells.2.2.2, trivial⟩)
          have hlt := Lib.hid (show Lows WC.drew.heap.size ((cellsI w.heap.size I (.slice ad I.l.length cap))) from ⟨HYQ.out.lt, HYQ.out.lt, HYQ.out.lt, HYQ.out.lt, trivial⟩)
          refine wp_region_held_drew (S := Holds ((cellsI w.heap.size I (.slice ad I.l.length cap)))) (by kernel_rfl) HS0.out (fun hSn => ?_)
          have HQD := Lib.hid HQ.out.drew
          generalize WC.drew = V at *
          have Bc := Lib.hid (Below.refl V.heap.size V)
          simp only [cellsI] at HS0 hlt hSn ⊢
          refine tks [0, 1, 2] 3 rfl (by kernel_rfl) (fun _ _ _ _ h => h) (by assumption) (fun KT hKT => ?_)
          iterate 3 (refine tkT (by (simp only [gA, gB, gC]; rfl)) (by rfl) (by (intro w hSw; (simp only [Holds] at hSw); go_simp <;> with_reducible rfl)) ?_; simp only [Act.put, pA, pB, pC])
          refine hKT _ ?_
          clear KT hKT
          refine tks [3, 4, 5, 6, 7, 8, 9, 10, 11] 9 rfl (by kernel_rfl) (fun _ _ _ _ h => h) (by assumption) (fun KT hKT => ?_)
          iterate 9 (refine tkS (by (simp only [gA, gB, gC]; rfl)) (by rfl) ?_; simp only [Act.put, pA, pB, pC])
          refine hKT _ ?_
          clear KT hKT
          refine tks [12] 1 rfl (by kernel_rfl) (fun _ _ _ _ h => h) (by assumption) (fun KT hKT => ?_)
          refine tkT (by (simp only [gA, gB, gC]; rfl)) (by rfl) (by (intro w hSw; (simp only [Holds] at hSw); go_simp <;> with_reducible rfl)) ?_
          simp only [Act.put, pA, pB, pC]
          refine hKT _ ?_
          clear KT hKT
          refine wpAnyH_done (by kernel_rfl) ?_ _
          go_wp2_with fail
          go_meet
          exact ⟨by rw [HF.out], HQD.out.trans (Bc.out.mono HQD.out.size)⟩
        · have d1 : decide ((0 : Int) < (q : Int)) = true := decide_eq_true (by omega)
          have d2 : decide (0 < q) = true := decide_eq_true (by omega)
          have d3 : 0 < q := by omega
          have HP := Lib.hid (show q - 1 < O.length by have := HQL.out; omega)
          obtain ⟨b2, o2, qa, qc, ha, hn2, hl2, hr2⟩ := nrowB_at (HON.out.below HQ.out).rowB (q - 1) _ (nodAt_is HP.out)
          subst ha
          have HN2 := Lib.hid hn2
          have HB2 := Lib.hid hl2
          have HR2 := Lib.hid (hr2.row (HW0.out.trans (HBQ.out.mono HW0.out.size)))
          have HS2 := Lib.hid (HOS.out _ (nodAt_mem HP.out))
          have i1 : (q : Int) - 1 < (O.length : Int) := by have := HQL.out; omega
          have i2 : (0 : Int) ≤ (q : Int) - 1 := by omega
          have i4 : (1 : Int) ≤ (q : Int) := by omega
          have i5 : 1 ≤ q := by omega
          have i3 : ((q : Int) - 1).toNat = q - 1 := by omega
          obtain ⟨y, hy⟩ : ∃ y, nodAt O (q - 1) = y := ⟨_, rfl⟩
          rw [hy] at HN2 HR2 HS2
          obtain ⟨yv, hyv⟩ : ∃ yv, ofB I y = yv := ⟨_, rfl⟩
          have HYV := Lib.hid hyv
          have HF := Lib.hid (show decide (0 < q ∧ nv < ofB I (nodAt O (q - 1))) = decide (nv < yv) by
            rw [hy, hyv, Bool.eq_iff_iff]; simp [d3])
          clear hn2 hl2 hr2 hy hyv h0
          have HS0 := Lib.hid (show Holds (cellsI w.heap.size I (.slice ad I.l.length cap) ++ cellsRN b2 (o2 + (q - 1) * 10) y.s y.cost (.slice qa y.path.length qc)) WC.drew from Holds.app.2 ⟨⟨HYQ.out.cells.1, HYQ.out.cells.2.1, HYQ.out.cells.2.2.1, HYQ.out.cells.2.2.2, trivial⟩, (holds_RN HN2.out)⟩)
          have hlt := Lib.hid (show Lows WC.drew.heap.size (cellsI w.heap.size I (.slice ad I.l.length cap) ++ cellsRN b2 (o2 + (q - 1) * 10) y.s y.cost (.slice qa y.path.length qc)) from Lows.app (show Lows _ (cellsI w.heap.size I (.slice ad I.l.length cap)) from ⟨HYQ.out.lt, HYQ.out.lt, HYQ.out.lt, HYQ.out.lt, trivial⟩) (lows_RN HB2.out))
          refine wp_region_held_drew (S := Holds (cellsI w.heap.size I (.slice ad I.l.length cap) ++ cellsRN b2 (o2 + (q - 1) * 10) y.s y.cost (.slice qa y.path.length qc))) (by kernel_rfl) HS0.out (fun hSn => ?_)
          have HQD := Lib.hid HQ.out.drew
          have HR2V := Lib.hid (HR2.out.below (Below.refl _ _).drew)
          generalize WC.drew = V at *
          have Bc := Lib.hid (Below.refl V.heap.size V)
          simp only [cellsI, cellsRN, List.cons_append, List.nil_append] at HS0 hlt hSn ⊢
          refine tks [0, 1, 2, 3, 4, 5, 6, 7, 8, 10] 10 rfl (by kernel_rfl) (fun _ _ _ _ h => h) (by assumption) (fun KT hKT => ?_)
          iterate 10 (refine tkT (by (simp only [gA, gB, gC]; rfl)) (by rfl) (by (intro w hSw; (simp only [Holds] at hSw); go_simp <;> with_reducible rfl)) ?_; simp only [Act.put, pA, pB, pC])
          refine hKT _ ?_
          clear KT hKT
          refine wpAnyH_ready (rs := [9]) (by kernel_rfl) (by simp) ?_
          refine AllReadyH.cons (o := ?oz214) ?iz214 (fun K hK => ?kz214) AllReadyH.nil
          case iz214 => (simp only [List.getElem?_toArray, List.getElem?_cons_zero, List.getElem?_cons_succ]; rfl)
          go_simp
          change Calls _ _ #[insV I (.slice ad I.l.length cap), nodeV y.s y.cost (.slice qa y.path.length qc)] _ _
          have BCUR := Lib.hid (HQD.out.trans (Bc.out.mono HQD.out.size))
          refine (dbof_any (I := I) (HR.out.below (HBW.out.trans (BCUR.out.mono HBW.out.size))) HS2.out (HR2V.out.below Bc.out)).mono ?_
          clear BCUR
          rw [show sumOf [y.cost, boundS I y.s] = ofB I y from rfl, HYV.out]
          rintro e w' ⟨rfl, hb⟩
          refine held_more hK HS0.out hlt (Bc.out.trans (hb.mono Bc.out.size)) (fun Bc hSn => ?_)
          clear hb hK
          refine tks [11, 12] 2 rfl (by kernel_rfl) (fun _ _ _ _ h => h) (by assumption) (fun KT hKT => ?_)
          iterate 2 (refine tkT (by (simp only [gA, gB, gC]; rfl)) (by rfl) (by (intro w hSw; (simp only [Holds] at hSw); go_simp <;> with_reducible rfl)) ?_; simp only [Act.put, pA, pB, pC])
          refine hKT _ ?_
          clear KT hKT
          refine wpAnyH_done (by kernel_rfl) ?_ _
          go_wp2_with fail
          go_meet
          exact ⟨by rw [HF.out], HQD.out.trans (Bc.out.mono HQD.out.size)⟩
      case rest =>
      obtain ⟨rfl, hbx⟩ := hcut
      have HX := Lib.hid hbx
      clear hbx HQ HBQ HYQ
      generalize wc = WC at *
      by_cases hc : 0 < q ∧ nv < ofB I (nodAt O (q - 1))
      · rw [decide_eq_true hc]
        have HC := Lib.hid hc
        clear hc
        go_wp2_with fail
        go_roundw
        case rel => exact ⟨q - 1, by have := HQL.out; omega, by have := HC.out.1; congr 1; omega, fun i h1 h2 => by
          by_cases e : i = q - 1
          · rw [e]; exact HC.out.2
          · exact HALL.out i (by omega) h2, HX.out⟩
        case measure => have := HC.out.1; simp [intOf]; omega
      · rw [decide_eq_false hc]
        have HINS := Lib.hid (show sortG (ofB I) (l.take (k + 1)) = O.take q ++ [n] ++ O.drop q by
          rw [HST.out]
          refine ins_at HOR.out HQL.out (by rw [HNV.out]; exact HALL.out) ?_
          rw [HNV.out]
          by_cases h0 : q = 0
          · exact .inl h0
          · exact .inr (fun h => hc ⟨by omega, h⟩))
        clear hc
        have HBX := Lib.hid (HBW.out.trans (HX.out.mono HBW.out.size))
        obtain ⟨raw, r1, r2⟩ := HON.out.below HX.out
        have HG := Lib.hid (OwnG.row encNod r1)
        have HI := Lib.hid r2
        have HRL := Lib.hid r2.len
        have HQR := Lib.hid (show q ≤ raw.length by rw [r2.len]; exact HQL.out)
        have hq3 : (q : Int) ≤ (O.length : Int) := by have := HQL.out; omega
        have HRD := Lib.hid (show uc ≠ q → GRow nvL 10 WC (.slice (ua.map (fun a => a.add (q * 10))) (raw.length - q) (uc - q)) (raw.drop q) from fun hne => by
          have hg0 := HG.out
          rw [← HRL.out] at hg0
          refine hg0.rest q HQR.out _ (fun b off e => ?_) (fun e => ?_)
          · rw [if_neg hne, e]
            show some (Addr.add _ _) = _
            rw [Addr.add_mid]
          · obtain ⟨_, a', c', hv, _, hc2, _⟩ := HG.out
            simp only [Value.slice.injEq] at hv
            obtain ⟨rfl, _, rfl⟩ := hv
            cases ua with
            | none => rw [hc2.2 rfl]; exact Nat.zero_le _
            | some x => cases e)
        have HRS := Lib.hid (show uc = q → GRow nvL 10 WC (.slice ua (raw.length - q) (uc - q)) (raw.drop q) from fun he => by
          have hg0 := HG.out
          rw [← HRL.out] at hg0
          refine hg0.rest q HQR.out _ (fun b off e => ?_) (fun _ => by omega)
          rw [if_pos he, e])
        have hqu : (q : Int) ≤ (uc : Int) := by
          obtain ⟨_, a', c', hv, hc, _⟩ := HG.out
          simp only [Value.slice.injEq] at hv
          obtain ⟨rfl, _, rfl⟩ := hv
          have := HQR.out
          omega
        have hqu2 : q ≤ uc := by omega
        have hq4 : q ≤ O.length := by omega
        have hq0 : (0 : Int) ≤ (q : Int) := by omega
        rw [HRL.out] at HRD HRS
        clear r1 r2 HST
        go_upto_region 9 with fail
        go_upto_region 10 with (at_builtin; refine app_nodes Tryz.underlying35 rfl _ _ rfl WC.heap.size (.slice none 0 0) [] rfl (ownN_nil w0 _ _) _ rfl (raw.take q) (O.take q) (HG.out.cut q HQR.out) (HI.out.take q) (by have := HOL.out; have := HK.out; have := HLE.out; have := HQL.out; simp only [List.length_nil, List.length_take]; omega) (Nat.le_refl _) (Nat.le_trans HW0.out.size HBX.out.size) (HW0.out.trans (HBX.out.mono HW0.out.size)) ?_; intro v1 w1 o1 b1' b2' g1)
        have HO1 := Lib.hid o1
        have HBA := Lib.hid (show Below w.heap.size w w1 from HBX.out.trans (b2'.mono HBX.out.size))
        have HBC := Lib.hid b2'
        clear o1 b1' b2' g1
        obtain ⟨c0, c1, c2, c3, c4, c5, c6, c7, c8, c9⟩ := HN1.out.below HB1.out HBA.out
        go_upto_region 11 with (at_builtin; refine app_nodes Tryz.underlying35 rfl _ _ rfl WC.heap.size _ (O.take q) rfl (HO1.out.below ((Below.refl _ _).alloc (Nat.le_refl _) _)) _ rfl [⟨n.s, n.cost, pa, n.path.length, pc⟩] [n] (nrow_one (heap_alloc_new _ _)) ⟨⟨rfl, rfl, HR1.out.below (HBA.out.alloc HBA.out.size _)⟩, trivial⟩ (by have := HOL.out; have := HK.out; have := HLE.out; have := HQL.out; simp only [List.length_take, List.length_cons, List.length_nil]; omega) (Nat.le_trans HBC.out.size (World.grownBy_alloc _ _ none).size) (Nat.le_trans HW0.out.size HBX.out.size) (HW0.out.trans ((HBA.out.alloc HBA.out.size _).mono HW0.out.size)) ?_; intro v2 w2 o2 b1' b2' g2)
        have HO2 := Lib.hid o2
        have HBC2 := Lib.hid (show Below WC.heap.size WC w2 from (HBC.out.alloc HBC.out.size _).trans b2')
        have HBA2 := Lib.hid (show Below w.heap.size w w2 from HBX.out.trans (HBC2.out.mono HBX.out.size))
        clear o2 b1' b2' g2 c0 c1 c2 c3 c4 c5 c6 c7 c8 c9 HO1 HBA HBC
        go_cut [9] from 50 to 55 (fun nx wx => OwnN w0 WC.heap.size wx nx (O.take q ++ [n] ++ O.drop q) ∧ Below w.heap.size w wx ∧ Below WC.heap.size WC wx)
        case first =>
          have HI2 := Lib.hid ((HI.out.mono (fun v l h => h.below HBC2.out)).drop q)
          by_cases hu : uc = q
          · have HG2 := Lib.hid (GRow.below encNod (HRS.out hu) HBC2.out)
            have hu2 := hu.symm
            clear hu
            subst hu2
            rw [Nat.sub_self] at HG2
            go_wp2_with (at_builtin; refine app_nodes Tryz.underlying35 rfl _ _ rfl WC.heap.size _ (O.take q ++ [n]) rfl HO2.out _ rfl (raw.drop q) (O.drop q) HG2.out HI2.out (by have := HOL.out; have := HK.out; have := HLE.out; have := HQL.out; simp only [List.length_append, List.length_take, List.length_cons, List.length_nil, List.length_drop]; omega) HBC2.out.size (Nat.le_trans HW0.out.size HBX.out.size) (HW0.out.trans (HBA2.out.mono HW0.out.size)) ?_; intro v3 w3 o3 b1' b2' g3)
            go_meet
            exact ⟨o3, HBX.out.trans ((HBC2.out.trans b2').mono HBX.out.size), HBC2.out.trans b2'⟩
          · have b1 := decide_eq_false hu
            have HG2 := Lib.hid (GRow.below encNod (HRD.out hu) HBC2.out)
            go_wp2_with (at_builtin; refine app_nodes Tryz.underlying35 rfl _ _ rfl WC.heap.size _ (O.take q ++ [n]) rfl HO2.out _ rfl (raw.drop q) (O.drop q) HG2.out HI2.out (by have := HOL.out; have := HK.out; have := HLE.out; have := HQL.out; simp only [List.length_append, List.length_take, List.length_cons, List.length_nil, List.length_drop]; omega) HBC2.out.size (Nat.le_trans HW0.out.size HBX.out.size) (HW0.out.trans (HBA2.out.mono HW0.out.size)) ?_; intro v3 w3 o3 b1' b2' g3)
            go_meet
            exact ⟨o3, HBX.out.trans ((HBC2.out.trans b2').mono HBX.out.size), HBC2.out.trans b2'⟩
        case rest =>
        obtain ⟨f1, f2, f3⟩ := hcut
        have HO3 := Lib.hid (f1.less HBX.out.size)
        have HB3 := Lib.hid f2
        have HY3 := Lib.hid ((HY.out.later HX.out).later f3)
        clear f1 f2 f3 HX HON HBX HO2
        go_wp2_with fail
        go_roundw
        case rel => exact ⟨k + 1, by have := HK.out; omega, by go_num, by rw [HINS.out]; exact HO3.out, HY3.out, HB3.out⟩
        case measure => have := HK.out; simp [intOf]; omega
end Go.Proofs.YtgplajofemencaaGreat
/- All moves of some nodes: the document's answer. -/
namespace Go.Proofs.YtgplajofemencaaGreat
open Go.ChangeShapes Go.WideShapes Go.ChangeAt Go.RowKit

theorem row_oneI (w : World) (a : Int) : Row (w.alloc (.cells #[.int .i64 a] 3)) (.slice (some ⟨w.heap.size, 0, none⟩) 1 1) (ints [a]) := by
  refine ⟨by simp [ints, maxLen], _, _, rfl, by simp [ints], ⟨by simp [maxLen], by simp⟩, .inr ⟨_, _, rfl, fun i hi => ?_⟩⟩
  rw [cell_of_row _ _ _ _ _ _ (heap_alloc_new w _), Nat.zero_add]
  simp [ints]
theorem OwnI.lt {w : World} {B : Nat} {v : Value} {l : List Int} (h : OwnI w B v l) (g : Nat) (hg : v.ownBlock = some g) : B ≤ g ∧ g < w.heap.size := World.ownsRow.lt (show w.ownsRow B 3 1 v l.length (ints l) from h) g hg
theorem moves_len (I : Ins) (s : Sta) : (movesS I s).length ≤ 33 := by
  by_cases h : movesS I s = []
  · rw [h]; simp
  · obtain ⟨j, hj⟩ := List.exists_mem_of_ne_nil _ h
    have hm := (mem_moves.1 hj).1.1
    have h1 := (fine_of hm).p1
    unfold movesS movesN
    refine Nat.le_trans (List.length_filter_le _ _) ?_
    rw [List.length_map, List.length_range]
    omega
theorem take_at {l : List Nod} {k : Nat} (hk : k < l.length) : l.take (k + 1) = l.take k ++ [nodAt l k] := by
  rw [List.take_succ_eq_append_getElem hk]
  unfold nodAt
  rw [List.getD_eq_getElem?_getD, List.getElem?_eq_getElem hk]; rfl
/-- Those of a node's children that may cost less than up, of its first i moves. -/
def kidsI (I : Ins) (up : Int) (n : Nod) (i : Nat) : List Nod := (((movesS I n.s).take i).map (childN I n)).filter (fun c => decide (ofB I c < up))
theorem kidsI_next {I : Ins} {up : Int} {n : Nod} {i : Nat} (hi : i < (movesS I n.s).length) : kidsI I up n (i + 1) = if ofB I (childN I n ((movesS I n.s).getD i 0)) < up then kidsI I up n i ++ [childN I n ((movesS I n.s).getD i 0)] else kidsI I up n i := by
  unfold kidsI
  rw [List.take_succ_eq_append_getElem hi, List.map_append, List.filter_append, List.getD_eq_getElem?_getD, List.getElem?_eq_getElem hi]
  simp only [Option.getD_some]
  by_cases h : ofB I (childN I n ((movesS I n.s)[i])) < up
  · rw [if_pos h]; simp [h]
  · rw [if_neg h]; simp [h]
theorem kids_next {I : Ins} {up : Int} {l : List Nod} {k : Nat} (hk : k < l.length) : kidsL I up (l.take (k + 1)) = kidsL I up (l.take k) ++ kidsI I up (nodAt l k) (movesS I (nodAt l k).s).length := by
  unfold kidsL kidsI
  rw [take_at hk, List.flatMap_append, List.filter_append, List.take_length]
  simp [kidsN]
theorem kidsI_len (I : Ins) (up : Int) (n : Nod) (i : Nat) : (kidsI I up n i).length ≤ 33 := by
  unfold kidsI
  refine Nat.le_trans (List.length_filter_le _ _) ?_
  rw [List.length_map, List.length_take]
  have := moves_len I n.s
  omega
theorem kids_len (I : Ins) (up : Int) (l : List Nod) : ∀ k, k ≤ l.length → (kidsL I up (l.take k)).length ≤ 33 * k
  | 0, _ => by simp [kidsL]
  | k + 1, h => by
    rw [kids_next (by omega), List.length_append]
    have := kids_len I up l k (by omega)
    have := kidsI_len I up (nodAt l k) (movesS I (nodAt l k).s).length
    omega
theorem best_next {I : Ins} {l : List Nod} {k : Nat} (hk : k < l.length) : bestL I (l.take (k + 1)) = bestStep I (bestL I (l.take k)) (nodAt l k) := by
  rw [take_at hk, bestL_snoc]
/-- The best one, or noughts. -/
def bestV (o : Option Nod) : Nod := o.getD nod0
theorem best_step {I : Ins} (o : Option Nod) (n : Nod) : bestStep I o n = if (decide (EndS I n.s) && (!o.isSome || decide ((endN I n).cost < (bestV o).cost))) = true then some (endN I n) else o := by
  unfold bestStep
  by_cases he : EndS I n.s
  · rw [if_pos he, decide_eq_true he]
    cases o with
    | none => rfl
    | some b =>
      show (if (endN I n).cost < b.cost then some (endN I n) else some b) = _
      by_cases hc : (endN I n).cost < b.cost
      · rw [if_pos hc, if_pos]
        show (true && (!true || decide ((endN I n).cost < b.cost))) = true
        rw [decide_eq_true hc]; rfl
      · rw [if_neg hc, if_neg]
        show ¬ (true && (!true || decide ((endN I n).cost < b.cost))) = true
        rw [decide_eq_false hc]; decide
  · rw [if_neg he, decide_eq_false he, if_neg (by simp)]
theorem boxes_inn (w : World) (I : Ins) (v : Value) : YBox (((w.alloc (boxI I v)).alloc (boxN noughtS 0 (.slice none 0 0))).alloc (boxN noughtS 0 (.slice none 0 0))) w.heap.size I v ∧ NodB (((w.alloc (boxI I v)).alloc (boxN noughtS 0 (.slice none 0 0))).alloc (boxN noughtS 0 (.slice none 0 0))) (w.heap.size + 1) noughtS 0 (.slice none 0 0) ∧
    NodB (((w.alloc (boxI I v)).alloc (boxN noughtS 0 (.slice none 0 0))).alloc (boxN noughtS 0 (.slice none 0 0))) (w.heap.size + 2) noughtS 0 (.slice none 0 0) ∧ Below w.heap.size w (((w.alloc (boxI I v)).alloc (boxN noughtS 0 (.slice none 0 0))).alloc (boxN noughtS 0 (.slice none 0 0))) := by
  obtain ⟨h1, h2, h3⟩ := boxes_in w I v noughtS 0 (.slice none 0 0)
  have e1 : ((w.alloc (boxI I v)).alloc (boxN noughtS 0 (.slice none 0 0))).heap.size = w.heap.size + 2 := by simp
  have a3 := nod_new ((w.alloc (boxI I v)).alloc (boxN noughtS 0 (.slice none 0 0))) noughtS 0 (.slice none 0 0)
  rw [e1] at a3
  exact ⟨h1.later ((Below.refl _ _).alloc (Nat.le_refl _) _), h2.later ((Below.refl _ _).alloc (Nat.le_refl _) _), a3, h3.alloc (by rw [e1]; omega) _⟩
set_option maxRecDepth 1000000 in
set_option maxHeartbeats 4000000 in
theorem dexpand_any {w0 w : World} {v u : Value} {I : Ins} {l : List Nod} {up : Int} (hi : SRow w v I.l) (h : NRowB w0 w u l) (hb0 : Below w0.heap.size w0 w) (hs : ∀ n ∈ l, SetsOk n.s) (hlen : l.length ≤ 30000) (hpath : ∀ n ∈ l, n.path.length ≤ 1000000) :
    Calls Tryz.prog 23 #[insV I v, u, .int .i64 up] w fun e w' => ∃ z pb pn pc, e = .returned (.tuple #[z, nodeV (bestV (bestL I l)).s (bestV (bestL I l)).cost (.slice pb pn pc), .bool (bestL I l).isSome]) ∧
      OwnN w0 w.heap.size w' z (expandL I up l) ∧ PathB w0 w' (.slice pb pn pc) (bestV (bestL I l)).path ∧ Below w.heap.size w w' := by
  have HR := Lib.hid hi
  have H := Lib.hid h
  have HW0 := Lib.hid hb0
  have HS := Lib.hid hs
  have HP := Lib.hid hpath
  have HLE := Lib.hid hlen
  obtain ⟨ad, cap, rfl, _⟩ := hi.form
  obtain ⟨la, lc, rfl, hm, _⟩ := h.form
  have hlm : l.length ≤ 9223372036854775807 := by omega
  clear hi h hs hm hlen hb0 hpath
  unfold insV
  go_enter Tryz.func23, Tryz.ntmps23
  go_upto_region 3 with fail
  obtain ⟨k1, k2, k3, k4⟩ := boxes_inn w I (.slice ad I.l.length cap)
  have HY0 := Lib.hid k1
  have HA0 := Lib.hid k2
  have HC0 := Lib.hid k3
  have HB0 := Lib.hid k4
  clear k1 k2 k3 k4
  change Code.wp _ _ _ _ (((w.alloc (boxI I (.slice ad I.l.length cap))).alloc (boxN noughtS 0 (.slice none 0 0))).alloc (boxN noughtS 0 (.slice none 0 0)))
  generalize ((w.alloc (boxI I (.slice ad I.l.length cap))).alloc (boxN noughtS 0 (.slice none 0 0))).alloc (boxN noughtS 0 (.slice none 0 0)) = W at *
  go_wp2_with fail
  go_loopw [9, 11, 12] (fun al sm i wr => ∃ (k : Nat) (av : Value) (pb : Option Addr) (pn pc : Nat), k ≤ l.length ∧ i = .int .i64 k ∧ sm = .bool (bestL I (l.take k)).isSome ∧ av = al ∧ OwnN w0 (w.heap.size + 3) wr av (kidsL I up (l.take k)) ∧ YBox wr w.heap.size I (.slice ad I.l.length cap) ∧ NodB wr (w.heap.size + 1) noughtS 0 (.slice none 0 0) ∧
    NodB wr (w.heap.size + 2) (bestV (bestL I (l.take k))).s (bestV (bestL I (l.take k))).cost (.slice pb pn pc) ∧ PathB w0 wr (.slice pb pn pc) (bestV (bestL I (l.take k))).path ∧ Below w.heap.size w wr) (fun _ _ i _ => l.length - (intOf i).toNat)
  case atStart => exact ⟨0, _, none, 0, 0, Nat.zero_le _, rfl, rfl, rfl, ownN_nil _ _ _, HY0.out, HA0.out, HC0.out, .inl (row_nil _), HB0.out⟩
  case round =>
    obtain ⟨k, al, pb, pn, pc, hk, rfl, rfl, rfl, hon, hy, ha, hc, hpb, hbw⟩ := hrel
    clear HY0 HA0 HC0 HB0
    have HON := Lib.hid hon
    have HY := Lib.hid hy
    have HA := Lib.hid ha
    have HC := Lib.hid hc
    have HPB := Lib.hid hpb
    have HBW := Lib.hid hbw
    clear hon hy ha hc hpb hbw
    generalize wr = W1 at *
    by_cases hlt : k < l.length
    rotate_left
    · obtain rfl : k = l.length := by omega
      rw [List.take_length] at *
      have HKL := Lib.hid (show (kidsL I up l).length ≤ 1000000 by
        have := kids_len I up l l.length (Nat.le_refl _)
        rw [List.take_length] at this
        have := HLE.out
        omega)
      obtain ⟨bo, hbo⟩ : ∃ bo, bestL I l = bo := ⟨_, rfl⟩
      have HBO := Lib.hid hbo
      rw [hbo] at HC HPB ⊢
      clear hlt hk hbo
      obtain ⟨bs, hbs⟩ : ∃ b, bestV bo = b := ⟨_, rfl⟩
      have HBS := Lib.hid hbs
      rw [hbs] at HC HPB
      clear hbs
      go_upto_region 23 with fail
      have HYn := Lib.hid (HY.out.later (Below.refl _ W1).drew)
      have HAn := Lib.hid (HA.out.later (Below.refl _ W1).drew)
      have HCn := Lib.hid (HC.out.later (Below.refl _ W1).drew)
      have HONn := Lib.hid (HON.out.below (Below.refl _ W1).drew)
      have HPBn := Lib.hid (HPB.out.below (Below.refl _ W1).drew)
      have HBWn := Lib.hid HBW.out.drew
      clear HY HA HC HON HPB HBW
      have HY := HYn
      have HA := HAn
      have HC := HCn
      have HON := HONn
      have HPB := HPBn
      have HBW := HBWn
      clear HYn HAn HCn HONn HPBn HBWn
      have HS0 := Lib.hid (show Holds (cellsN (w.heap.size + 2) bs.s bs.cost (.slice pb pn pc)) W1.drew from HC.out.holds)
      refine wp_region_held_drew (S := Holds (cellsN (w.heap.size + 2) bs.s bs.cost (.slice pb pn pc))) (by kernel_rfl) HS0.out (fun hSn => ?_)
      generalize W1.drew = V at *
      have hlt := Lib.hid (show Lows V.heap.size (cellsN (w.heap.size + 2) bs.s bs.cost (.slice pb pn pc)) from (lows_N HC.out.lt))
      have Bc := Lib.hid (Below.refl V.heap.size V)
      simp only [cellsN] at HS0 hlt hSn ⊢
      refine tks [0, 2, 3] 3 rfl (by kernel_rfl) (fun _ _ _ _ h => h) (by assumption) (fun KT hKT => ?_)
      iterate 3 (refine tkT (by (simp only [gA, gB, gC]; rfl)) (by rfl) (by (intro w hSw; (simp only [Holds] at hSw); go_simp <;> with_reducible rfl)) ?_; simp only [Act.put, pA, pB, pC])
      refine hKT _ ?_
      clear KT hKT
      refine wpAnyH_ready (rs := [1]) (by kernel_rfl) (by simp) ?_
      refine AllReadyH.cons (o := ?oz215) ?iz215 (fun K hK => ?kz215) AllReadyH.nil
      case iz215 => (simp only [List.getElem?_toArray, List.getElem?_cons_zero, List.getElem?_cons_succ]; rfl)
      go_simp
      refine (donce_any (w0 := w0) (HON.out.below Bc.out).rowB (HW0.out.trans ((HBW.out.trans (Bc.out.mono HBW.out.size)).mono HW0.out.size)) HKL.out).mono ?_
      rintro e w2 ⟨z, rfl, hz, hb⟩
      have HBV := Lib.hid (HBW.out.trans (Bc.out.mono HBW.out.size))
      obtain ⟨za, zc, rfl⟩ := hz.shape
      have HZB := Lib.hid (show w.heap.size + 2 < _ from Nat.lt_of_lt_of_le HC.out.lt Bc.out.size)
      have HZ := Lib.hid hz
      have HA2 := Lib.hid ((HA.out.later Bc.out).later hb)
      have HPB2 := Lib.hid ((HPB.out.below Bc.out).below hb)
      have HC2 := Lib.hid ((HC.out.later Bc.out).later hb)
      have HBV2 := Lib.hid (HBV.out.trans (hb.mono HBV.out.size))
      have HBZ := Lib.hid hb
      refine held_more hK HS0.out hlt (Bc.out.trans (hb.mono Bc.out.size)) (fun Bc hSn => ?_)
      clear hb hK hz
      refine tks [4] 1 rfl (by kernel_rfl) (fun _ _ _ _ h => h) (by assumption) (fun KT hKT => ?_)
      refine tkT (by (simp only [gA, gB, gC]; rfl)) (by rfl) (by (intro w hSw; (simp only [Holds] at hSw); go_simp <;> with_reducible rfl)) ?_
      simp only [Act.put, pA, pB, pC]
      refine hKT _ ?_
      clear KT hKT
      refine wpAnyH_ready (rs := [5]) (by kernel_rfl) (by simp) ?_
      refine (AllReadyH.cons (o := ?oz216) ?iz216 (fun K hK => ?kz216) AllReadyH.nil)
      case iz216 => (simp only [List.getElem?_toArray, List.getElem?_cons_zero, List.getElem?_cons_succ]; rfl)
      simp only [Act.put]
      rw [if_pos (by rfl)]
      refine wp_store_node (.tmp 7) (.tmp 115) (by rfl) (w.heap.size + 1) _ _ _ ⟨bs.s, bs.cost, pb, pn, pc⟩ (by rfl) (by rfl) HA2.out ?_
      intro wE hE hbE hoE hgE
      have HE := Lib.hid hE
      have HZE := Lib.hid (HZ.out.beside (by have := HZB.out; omega) hgE HA2.out)
      have HPE := Lib.hid (HPB2.out.kept hgE HA2.out)
      have HBE := Lib.hid (HBV2.out.trans (hbE _ (Nat.le_succ _)))
      have HCE := Lib.hid (HC2.out.same (hoE _ (by omega)))
      refine hK.out _ _ HCE.out.holds (fun hSn => ?_)
      clear hK hE hbE hoE hgE
      refine tks [6] 1 rfl (by kernel_rfl) (fun _ _ _ _ h => h) (by assumption) (fun KT hKT => ?_)
      refine tkT (by (simp only [gA, gB, gC]; rfl)) (by rfl) (by (intro w hSw; (simp only [Holds] at hSw); go_simp <;> with_reducible rfl)) ?_
      simp only [Act.put, pA, pB, pC]
      refine hKT _ ?_
      clear KT hKT
      refine wpAnyH_done (by kernel_rfl) ?_ _
      have z0 := HE.out.c0
      have z1 := HE.out.c1
      have z2 := HE.out.c2
      have z3 := HE.out.c3
      have z4 := HE.out.c4
      have z5 := HE.out.c5
      have z6 := HE.out.c6
      have z7 := HE.out.c7
      have z8 := HE.out.c8
      have z9 := HE.out.c9
      go_wp2
      exact bodyPost_ret (v := .tuple #[.slice za (onceL (kidsL I up l)).length zc, nodeV bs.s bs.cost (.slice pb pn pc), .bool bo.isSome]) (by simp [results, Tryz.results23, go_sem, z0, z1, z2, z3, z4, z5, z6, z7, z8, z9, nodeV, RawN.u]) rfl ⟨_, pb, pn, pc, by rw [HBO.out, HBS.out], HZE.out.less (Nat.le_trans (by omega) (Nat.le_of_lt HZB.out)), by rw [HBO.out, HBS.out]; exact HPE.out, HBE.out⟩
    have HK := Lib.hid hlt
    obtain ⟨b1, o1, xa, xc, hla, hn1, hl1, hr1⟩ := nrowB_at H.out k _ (nodAt_is hlt)
    subst hla
    have HN1 := Lib.hid (hn1.below hl1 HBW.out)
    have HX := Lib.hid (hr1.below HBW.out)
    have HS1 := Lib.hid (HS.out _ (nodAt_mem hlt))
    have HP1 := Lib.hid (HP.out _ (nodAt_mem hlt))
    have HKX := Lib.hid (kids_next (I := I) (up := up) hlt)
    have HKL := Lib.hid (kids_len I up l k (by omega))
    have HBX := Lib.hid (best_next (I := I) hlt)
    have hki : (k : Int) < (l.length : Int) := by omega
    have hk2 : IntKind.i64.wrap ((k : Int) + 1) = (k : Int) + 1 := IntWalk.i64_in _ (by omega)
    obtain ⟨n, hn⟩ : ∃ n, nodAt l k = n := ⟨_, rfl⟩
    rw [hn] at HN1 HX HS1 HP1 HKX HBX
    obtain ⟨A, hA⟩ : ∃ A, kidsL I up (l.take k) = A := ⟨_, rfl⟩
    rw [hA] at HON HKX HKL
    obtain ⟨o, ho⟩ : ∃ o, bestL I (l.take k) = o := ⟨_, rfl⟩
    rw [ho] at HC HPB HBX ⊢
    have HBT := Lib.hid (best_step (I := I) o n)
    clear hn1 hl1 hr1 hk hlt hn hA ho
    obtain ⟨sm, hsm⟩ : ∃ sm, o.isSome = sm := ⟨_, rfl⟩
    rw [hsm]
    have HSM := Lib.hid hsm
    clear hsm
    obtain ⟨c0, c1, c2, c3, c4, c5, c6, c7, c8, c9⟩ := HN1.out
    go_upto_region 8 with fail
    clear c0 c1 c2 c3 c4 c5 c6 c7 c8 c9 HN1
    have HD := Lib.hid (nod_new W1 n.s n.cost (.slice xa n.path.length xc))
    have HONo := HON
    have HCDo := Lib.hid (show w.heap.size + 2 < W1.heap.size from HC.out.lt)
    have hal : Below W1.heap.size W1 (W1.alloc (boxN n.s n.cost (.slice xa n.path.length xc))) := (Below.refl _ W1).alloc (Nat.le_refl _) _
    have HYn := Lib.hid (HY.out.later hal)
    have HAn := Lib.hid (HA.out.later hal)
    have HCn := Lib.hid (HC.out.later hal)
    have HONn := Lib.hid (HON.out.below hal)
    have HXn := Lib.hid (HX.out.below hal)
    have HPBn := Lib.hid (HPB.out.below hal)
    clear HY HA HC HON HX HPB
    have HY := HYn
    have HA := HAn
    have HC := HCn
    have HON := HONn
    have HX := HXn
    have HPB := HPBn
    clear HYn HAn HCn HONn HXn HPBn
    have HBWn := Lib.hid (HBW.out.alloc HBW.out.size (boxN n.s n.cost (.slice xa n.path.length xc)))
    clear HBW hal
    have HBW := HBWn
    clear HBWn
    have HAP := Lib.hid (show ∀ g, al.ownBlock = some g → g ≠ W1.heap.size from fun g hg e => by
      have h := HONo.out.lt g hg
      omega)
    change Code.wp _ _ _ _ (W1.alloc (boxN n.s n.cost (.slice xa n.path.length xc)))
    generalize W1.alloc (boxN n.s n.cost (.slice xa n.path.length xc)) = W2 at *
    clear HONo
    generalize W1.heap.size = bd at *
    have HCD := HCDo
    clear HCDo
    obtain ⟨y0, y1, y2, y3⟩ := HY.out.cells
    have x0 := HD.out.c0
    have x1 := HD.out.c1
    have x2 := HD.out.c2
    have x3 := HD.out.c3
    have x4 := HD.out.c4
    have x5 := HD.out.c5
    have x6 := HD.out.c6
    have x7 := HD.out.c7
    have x8 := HD.out.c8
    have x9 := HD.out.c9
    go_wp2_with fail
    clear y0 y1 y2 y3
    clear x0 x1 x2 x3 x4 x5 x6 x7 x8 x9
    change Calls _ _ #[insV I (.slice ad I.l.length cap), staV n.s] _ _
    refine (dend_any (HR.out.below HBW.out) HS1.out).mono ?_
    rintro e w3 ⟨rfl, hb⟩
    have HYn := Lib.hid (HY.out.later hb)
    have HAn := Lib.hid (HA.out.later hb)
    have HCn := Lib.hid (HC.out.later hb)
    have HDn := Lib.hid (HD.out.later hb)
    have HONn := Lib.hid (HON.out.below hb)
    have HXn := Lib.hid (HX.out.below hb)
    have HPBn := Lib.hid (HPB.out.below hb)
    clear HY HA HC HD HON HX HPB
    have HY := HYn
    have HA := HAn
    have HC := HCn
    have HD := HDn
    have HON := HONn
    have HX := HXn
    have HPB := HPBn
    clear HYn HAn HCn HDn HONn HXn HPBn
    have HBWn := Lib.hid (HBW.out.trans (hb.mono HBW.out.size))
    clear HBW hb
    have HBW := HBWn
    clear HBWn
    obtain ⟨ec, hec⟩ : ∃ ec, endC I n.s = ec := ⟨_, rfl⟩
    obtain ⟨ee, hee⟩ : ∃ ee, decide (EndS I n.s) = ee := ⟨_, rfl⟩
    rw [hec, hee]
    have HEN := Lib.hid (show (endN I n).cost = sumOf [n.cost, ec] by rw [← hec]; rfl)
    have HEI := Lib.hid (show endN I n = ⟨n.s, (endN I n).cost, n.path⟩ from rfl)
    rw [hee] at HBT
    clear hec hee
    have x8 := HD.out.c8
    go_wp2_with fail
    clear x8
    refine (rsum_any (row_two _ n.cost ec)).mono ?_
    rintro e w' ⟨rfl, rfl⟩
    rw [← HEN.out]
    have hal : Below w3.heap.size w3 (w3.alloc (.cells #[.int .i64 n.cost, .int .i64 ec] 3)) := (Below.refl _ w3).alloc (Nat.le_refl _) _
    have HYn := Lib.hid (HY.out.later hal)
    have HAn := Lib.hid (HA.out.later hal)
    have HCn := Lib.hid (HC.out.later hal)
    have HDn := Lib.hid (HD.out.later hal)
    have HONn := Lib.hid (HON.out.below hal)
    have HXn := Lib.hid (HX.out.below hal)
    have HPBn := Lib.hid (HPB.out.below hal)
    clear HY HA HC HD HON HX HPB
    have HY := HYn
    have HA := HAn
    have HC := HCn
    have HD := HDn
    have HON := HONn
    have HX := HXn
    have HPB := HPBn
    clear HYn HAn HCn HDn HONn HXn HPBn
    have HBWn := Lib.hid (HBW.out.trans (hal.mono HBW.out.size))
    clear HBW hal
    have HBW := HBWn
    clear HBWn
    generalize w3.alloc (.cells #[.int .i64 n.cost, .int .i64 ec] 3) = W4 at *
    obtain ⟨es, hes⟩ : ∃ es, (endN I n).cost = es := ⟨_, rfl⟩
    rw [hes] at HBT HEI ⊢
    clear hes HEN
    obtain ⟨bo, hbo⟩ : ∃ b, bestV o = b := ⟨_, rfl⟩
    rw [hbo] at HC HPB HBT
    have HBO := Lib.hid hbo
    clear hbo
    rw [HSM.out] at HBT
    obtain ⟨t, ht⟩ : ∃ t, (ee && (!sm || decide (es < bo.cost))) = t := ⟨_, rfl⟩
    rw [ht] at HBT
    have HT := Lib.hid ht
    clear ht
    go_upto_region 10 with fail
    go_cut [57] from 47 to 112 (fun g wx => g = .bool t ∧ wx = W4)
    case first =>
      have x8 := HC.out.c8
      cases ee with
      | false =>
        go_wp2_with fail
        go_meet
        exact ⟨by rw [← HT.out]; rfl, rfl⟩
      | true =>
        cases sm with
        | false =>
          go_wp2_with fail
          go_meet
          exact ⟨by rw [← HT.out]; rfl, rfl⟩
        | true =>
          by_cases hc : es < bo.cost
          · have d1 := decide_eq_true hc
            have HT2 := Lib.hid (show t = true by rw [← HT.out, d1]; rfl)
            clear hc
            go_wp2_with fail
            go_meet
            exact ⟨by rw [HT2.out], rfl⟩
          · have d1 := decide_eq_false hc
            have HT2 := Lib.hid (show t = false by rw [← HT.out, d1]; rfl)
            clear hc
            go_wp2_with fail
            go_meet
            exact ⟨by rw [HT2.out], rfl⟩
    case rest =>
    obtain ⟨rfl, rfl⟩ := hcut
    generalize wc = W4 at *
    obtain ⟨o', ho'⟩ : ∃ o', bestStep I o n = o' := ⟨_, rfl⟩
    rw [ho'] at HBX HBT
    clear ho'
    go_upto_if 57 with fail
    go_cut [11] from 58 to 112 (fun sm wx => ∃ qb qn qc, sm = .bool o'.isSome ∧ NodB wx (w.heap.size + 2) (bestV o').s (bestV o').cost (.slice qb qn qc) ∧ PathB w0 wx (.slice qb qn qc) (bestV o').path ∧ YBox wx w.heap.size I (.slice ad I.l.length cap) ∧ NodB wx (w.heap.size + 1) noughtS 0 (.slice none 0 0) ∧ NodB wx bd n.s n.cost (.slice xa n.path.length xc) ∧ OwnN w0 (w.heap.size + 3) wx al A ∧ PathB w0 wx (.slice xa n.path.length xc) n.path ∧ Below w.heap.size w wx ∧ Below (w.heap.size + 2) W4 wx)
    case first =>
      cases t with
      | false =>
        have HO2 := Lib.hid (HBT.out.trans (if_neg (by decide)))
        go_wp2_with fail
        go_meet
        exact ⟨pb, pn, pc, by rw [HO2.out, HSM.out], by rw [HO2.out, HBO.out]; exact HC.out, by rw [HO2.out, HBO.out]; exact HPB.out, HY.out, HA.out, HD.out, HON.out, HX.out, HBW.out, Below.refl _ _⟩
      | true =>
        have HO2 := Lib.hid (HBT.out.trans (if_pos rfl))
        have HBD := Lib.hid (show w.heap.size + 2 < bd from HCD.out)
        have x0 := HD.out.c0
        have x1 := HD.out.c1
        have x2 := HD.out.c2
        have x3 := HD.out.c3
        have x4 := HD.out.c4
        have x5 := HD.out.c5
        have x6 := HD.out.c6
        have x7 := HD.out.c7
        have x8 := HD.out.c8
        have x9 := HD.out.c9
        go_wp2_with (refine wpList_store_node (by rfl) (.tmp 10) (.tmp 63) (by rfl) (w.heap.size + 2) _ _ _ ⟨n.s, es, xa, n.path.length, xc⟩ (by rfl) (by rfl) HC.out ?_; intro wE hE hbE hoE hgE)
        go_meet
        exact ⟨xa, n.path.length, xc, by rw [HO2.out]; rfl, by rw [HO2.out, HEI.out]; exact hE, by rw [HO2.out, HEI.out]; exact HX.out.kept hgE HC.out, HY.out.same (hoE _ (by omega)), HA.out.same (hoE _ (by omega)), HD.out.same (hoE _ (by have := HBD.out; omega)), HON.out.beside (by omega) hgE HC.out, HX.out.kept hgE HC.out, HBW.out.trans (hbE _ (by omega)), hbE _ (by omega)⟩
    case rest =>
    obtain ⟨qb, qn, qc, rfl, f1, f2, f3, f4, f5, f6, f7, f8, f9⟩ := hcut
    clear HC HPB HY HA HD HON HX HBW
    have HC := Lib.hid f1
    have HPB := Lib.hid f2
    have HY := Lib.hid f3
    have HA := Lib.hid f4
    have HD := Lib.hid f5
    have HON := Lib.hid f6
    have HX := Lib.hid f7
    have HBW := Lib.hid f8
    clear f1 f2 f3 f4 f5 f6 f7 f8 f9
    generalize wc = W5 at *
    obtain ⟨b', hb'⟩ : ∃ b', bestV o' = b' := ⟨_, rfl⟩
    rw [hb'] at HC HPB
    have HBO2 := Lib.hid hb'
    clear hb'
    obtain ⟨y0, y1, y2, y3⟩ := HY.out.cells
    have x0 := HD.out.c0
    have x1 := HD.out.c1
    have x2 := HD.out.c2
    have x3 := HD.out.c3
    have x4 := HD.out.c4
    have x5 := HD.out.c5
    have x6 := HD.out.c6
    have x7 := HD.out.c7
    have x8 := HD.out.c8
    have x9 := HD.out.c9
    go_wp2_with fail
    clear y0 y1 y2 y3
    clear x0 x1 x2 x3 x4 x5 x6 x7 x8 x9
    change Calls _ _ #[insV I (.slice ad I.l.length cap), staV n.s] _ _
    refine (dmoves_any (HR.out.below HBW.out) HS1.out).mono ?_
    rintro e w6 ⟨mu, rfl, hmu, hb⟩
    obtain ⟨ma, mc, rfl⟩ := hmu.shape
    have HMV := Lib.hid (PathB.own hmu (Nat.le_trans HW0.out.size HBW.out.size))
    have HYn := Lib.hid (HY.out.later hb)
    have HAn := Lib.hid (HA.out.later hb)
    have HCn := Lib.hid (HC.out.later hb)
    have HDn := Lib.hid (HD.out.later hb)
    have HONn := Lib.hid (HON.out.below hb)
    have HXn := Lib.hid (HX.out.below hb)
    have HPBn := Lib.hid (HPB.out.below hb)
    clear HY HA HC HD HON HX HPB
    have HY := HYn
    have HA := HAn
    have HC := HCn
    have HD := HDn
    have HON := HONn
    have HX := HXn
    have HPB := HPBn
    clear HYn HAn HCn HDn HONn HXn HPBn
    have HBWn := Lib.hid (HBW.out.trans (hb.mono HBW.out.size))
    clear HBW hb hmu
    have HBW := HBWn
    clear HBWn
    have HCJ := Lib.hid (fun j (hj : j ∈ movesS I n.s) => mem_moves.1 hj)
    have HKI := Lib.hid (fun i (hi : i < (movesS I n.s).length) => kidsI_next (I := I) (up := up) hi)
    have HML := Lib.hid (moves_len I n.s)
    have HK0 := Lib.hid (show kidsI I up n 0 = [] from rfl)
    have HKJ := Lib.hid (kidsI_len I up n)
    obtain ⟨MS, hMS⟩ : ∃ MS, movesS I n.s = MS := ⟨_, rfl⟩
    rw [hMS] at HMV HCJ HKI HML HKX ⊢
    clear hMS
    have hml : MS.length ≤ 9223372036854775807 := by have := HML.out; omega
    generalize kidsI I up n = KI at *
    go_wp2_with fail
    go_loopw [9, 18] (fun al j wq => ∃ (i : Nat) (av : Value), i ≤ MS.length ∧ j = .int .i64 i ∧ av = al ∧ OwnN w0 (w.heap.size + 3) wq av (A ++ KI i) ∧ (∀ g, av.ownBlock = some g → g ≠ bd) ∧ YBox wq w.heap.size I (.slice ad I.l.length cap) ∧ NodB wq (w.heap.size + 1) noughtS 0 (.slice none 0 0) ∧ NodB wq (w.heap.size + 2) b'.s b'.cost (.slice qb qn qc) ∧ PathB w0 wq (.slice qb qn qc) b'.path ∧ NodB wq bd n.s n.cost (.slice xa n.path.length xc) ∧ PathB w0 wq (.slice xa n.path.length xc) n.path ∧ PathB w0 wq (.slice ma MS.length mc) MS ∧ Below w.heap.size w wq) (fun _ j _ => MS.length - (intOf j).toNat)
    case atStart => exact ⟨0, _, Nat.zero_le _, rfl, rfl, by rw [HK0.out, List.append_nil]; exact HON.out, HAP.out, HY.out, HA.out, HC.out, HPB.out, HD.out, HX.out, HMV.out, HBW.out⟩
    case round =>
      obtain ⟨i, al, hi, rfl, rfl, hon, hap, hy, ha, hc, hpb, hd, hx, hmv, hbw⟩ := hrel
      clear HON HAP HY HA HC HPB HD HX HMV HBW
      have HON := Lib.hid hon
      have HAP := Lib.hid hap
      have HY := Lib.hid hy
      have HA := Lib.hid ha
      have HC := Lib.hid hc
      have HPB := Lib.hid hpb
      have HD := Lib.hid hd
      have HX := Lib.hid hx
      have HMV := Lib.hid hmv
      have HBW := Lib.hid hbw
      clear hon hap hy ha hc hpb hd hx hmv hbw
      generalize wr = WQ at *
      by_cases hlt : i < MS.length
      rotate_left
      · obtain rfl : i = MS.length := by omega
        clear hlt hi
        go_wp2_with fail
        go_roundw
        case rel => exact ⟨k + 1, _, qb, qn, qc, by have := HK.out; omega, by go_num, by rw [HBX.out], rfl, by rw [HKX.out]; exact HON.out, HY.out, HA.out, by rw [HBX.out, HBO2.out]; exact HC.out, by rw [HBX.out, HBO2.out]; exact HPB.out, HBW.out⟩
        case measure => have := HK.out; simp [intOf]; omega
      have HI := Lib.hid hlt
      have hcj := HCJ.out (MS.getD i 0) (by rw [List.getD_eq_getElem?_getD, List.getElem?_eq_getElem hlt]; exact List.getElem_mem hlt)
      have hkx := HKI.out i hlt
      obtain ⟨b3, o3, c3, he3, hc3, -, hb3⟩ := row_at (p := i) (HMV.out.row (HW0.out.trans (HBW.out.mono HW0.out.size))) (by rw [ints_len]; exact hlt)
      rw [ints_at _ i hlt] at hc3
      simp only [ints_len, Value.slice.injEq, true_and] at he3
      obtain ⟨rfl, rfl⟩ := he3
      generalize MS.getD i 0 = j at *
      have hmy := move_yes hcj
      have hsx : SetsOk (moveS I n.s j) := by
        rw [hmy.1]
        exact of_fits (fits_next (I := I) (fits_of HS1.out) j)
      have hch : childN I n j = ⟨moveS I n.s j, sumOf [n.cost, moveC I n.s j], n.path ++ [j]⟩ := by
        unfold childN; rw [hmy.1, hmy.2.1]
      obtain ⟨ts, hts⟩ : ∃ x, moveS I n.s j = x := ⟨_, rfl⟩
      obtain ⟨dc, hdc⟩ : ∃ x, moveC I n.s j = x := ⟨_, rfl⟩
      rw [hts] at hsx
      rw [hts, hdc] at hch
      have HXA := Lib.hid hts
      have HCA := Lib.hid hdc
      have HPA := Lib.hid (decide_eq_true hcj)
      have HTS := Lib.hid hsx
      have HKX2 := Lib.hid hkx
      have HCH := Lib.hid hch
      have HC3 := Lib.hid (show ∀ w', Below WQ.heap.size WQ w' → w'.cell? ⟨b3, o3 + i, none⟩ = some (.int .i64 j) from fun w' hb' => (hb'.cell (p := ⟨b3, o3 + i, none⟩) hb3).trans hc3)
      have HB3 := Lib.hid hb3
      have hji : (i : Int) < (MS.length : Int) := by omega
      have hji2 : IntKind.i64.wrap ((i : Int) + 1) = (i : Int) + 1 := IntWalk.i64_in _ (by omega)
      clear hi hlt hcj hkx hmy hsx hch hts hdc hc3 hb3
      go_upto_region 17 with fail
      go_cut [19, 20, 21] from 74 to 112 (fun p c e wx => ∃ bm, p = .pointer (some ⟨bm, 0, none⟩) ∧ c = .int .i64 dc ∧ e = .bool true ∧ StB wx bm ts ∧ Below WQ.heap.size WQ wx)
      case first =>
        have HBRd := Lib.hid (Below.refl WQ.heap.size WQ).drew
        have HB := HBW
        clear HBW
        have HYn := Lib.hid (HY.out.later (Below.refl _ WQ).drew)
        have HDn := Lib.hid (HD.out.later (Below.refl _ WQ).drew)
        have HBn := Lib.hid HB.out.drew
        clear HY HD HB
        have HY := HYn
        have HD := HDn
        have HB := HBn
        clear HYn HDn HBn
        have HS0 := Lib.hid (show Holds (cellsI w.heap.size I (.slice ad I.l.length cap) ++ (cellsN bd n.s n.cost (.slice xa n.path.length xc) ++ [((⟨b3, o3 + i, none⟩ : Addr), (.int .i64 j : Value))])) WQ.drew from (Holds.app.2 ⟨⟨HY.out.cells.1, HY.out.cells.2.1, HY.out.cells.2.2.1, HY.out.cells.2.2.2, trivial⟩, (Holds.app.2 ⟨HD.out.holds, ⟨HC3.out _ HBRd.out, trivial⟩⟩)⟩))
        refine wp_region_held_drew (S := Holds (cellsI w.heap.size I (.slice ad I.l.length cap) ++ (cellsN bd n.s n.cost (.slice xa n.path.length xc) ++ [((⟨b3, o3 + i, none⟩ : Addr), (.int .i64 j : Value))]))) (by kernel_rfl) HS0.out (fun hSn => ?_)
        generalize WQ.drew = V at *
        have hlt := Lib.hid (show Lows V.heap.size (cellsI w.heap.size I (.slice ad I.l.length cap) ++ (cellsN bd n.s n.cost (.slice xa n.path.length xc) ++ [((⟨b3, o3 + i, none⟩ : Addr), (.int .i64 j : Value))])) from (Lows.app (show Lows _ (cellsI w.heap.size I (.slice ad I.l.length cap)) from ⟨HY.out.lt, HY.out.lt, HY.out.lt, HY.out.lt, trivial⟩) (Lows.app (lows_N HD.out.lt) ⟨Nat.lt_of_lt_of_le HB3.out HBRd.out.size, trivial⟩)))
        have Bc := Lib.hid (Below.refl V.heap.size V)
        simp only [cellsI, cellsN, List.cons_append, List.nil_append] at HS0 hlt hSn ⊢
        refine tks [0, 1, 2, 3, 4, 5, 6] 7 rfl (by kernel_rfl) (fun _ _ _ _ h => h) (by assumption) (fun KT hKT => ?_)
        iterate 7 (refine tkT (by (simp only [gA, gB, gC]; rfl)) (by rfl) (by (intro w hSw; (simp only [Holds] at hSw); go_simp <;> with_reducible rfl)) ?_; simp only [Act.put, pA, pB, pC])
        refine hKT _ ?_
        clear KT hKT
        refine wpAnyH_ready (rs := [7, 12]) (by kernel_rfl) (by simp) ?_
        refine (AllReadyH.cons (o := ?oz217) ?iz217 (fun K hK => ?kz217) (AllReadyH.cons (o := ?oz218) ?iz218 (fun K hK => ?kz218) AllReadyH.nil))
        case iz217 => (simp only [List.getElem?_toArray, List.getElem?_cons_zero, List.getElem?_cons_succ]; rfl)
        case iz218 => (simp only [List.getElem?_toArray, List.getElem?_cons_zero, List.getElem?_cons_succ]; rfl)
        · skip
          go_simp
          change Calls _ _ #[insV I (.slice ad I.l.length cap), staV n.s, .int .i64 j] _ _
          have BCUR := Lib.hid (HB.out.trans (Bc.out.mono HB.out.size))
          refine (dmove_any (HR.out.below BCUR.out) HS1.out).mono ?_
          clear BCUR
          rintro e w7 ⟨rfl, hb⟩
          rw [HXA.out, HCA.out, HPA.out]
          rw [show staV ts = .agg #[.int .i64 ts.pos, .int .i64 ts.car, .int .i64 ts.time, .int .i64 ts.load, .int .i64 ts.first, .int .u64 ts.must, .int .u64 ts.may, .int .u64 ts.on] from rfl]
          refine held_more hK HS0.out hlt (Bc.out.trans (hb.mono Bc.out.size)) (fun Bc hSn => ?_)
          clear hb hK
          refine tks [8, 9, 10, 11] 4 rfl (by kernel_rfl) (fun _ _ _ _ h => h) (by assumption) (fun KT hKT => ?_)
          iterate 4 (refine tkT (by (simp only [gA, gB, gC]; rfl)) (by rfl) (by (intro w hSw; (simp only [Holds] at hSw); go_simp <;> with_reducible rfl)) ?_; simp only [Act.put, pA, pB, pC])
          refine hKT _ ?_
          clear KT hKT
          have HSZ := Lib.hid Bc.out.size
          refine wpAnyH_ready (rs := [12]) (by kernel_rfl) (by simp) ?_
          refine AllReadyH.cons (o := ?oz219) ?iz219 (fun K hK => ?kz219) AllReadyH.nil
          case iz219 => (simp only [List.getElem?_toArray, List.getElem?_cons_zero, List.getElem?_cons_succ]; rfl)
          go_simp
          refine held_more hK HS0.out hlt (Bc.out.alloc Bc.out.size _) (fun Bc hSn => ?_)
          have HN := Lib.hid (st_new w7 noughtS)
          change wpAnyH _ _ _ _ _ _ _ _ (w7.alloc (boxSt noughtS))
          have Bc2 := Lib.hid (show Below V.heap.size V (w7.alloc (boxSt noughtS)) from Bc.out)
          clear Bc
          have Bc := Bc2
          clear Bc2
          generalize w7.alloc (boxSt noughtS) = Xn at *
          obtain ⟨bm, hbm⟩ : ∃ bm, bm = w7.heap.size := ⟨_, rfl⟩
          have HLE := Lib.hid (show V.heap.size ≤ bm by rw [hbm]; exact HSZ.out)
          rw [← hbm] at HN ⊢
          clear hbm HSZ
          refine wpAnyH_ready (rs := [13]) (by kernel_rfl) (by simp) ?_
          refine (AllReadyH.cons (o := ?oz220) ?iz220 (fun K hK => ?kz220) AllReadyH.nil)
          case iz220 => (simp only [List.getElem?_toArray, List.getElem?_cons_zero, List.getElem?_cons_succ]; rfl)
          simp only [Act.put]
          rw [if_pos (by rfl)]
          refine wp_store_state (.tmp 19) (.tmp 83) (by rfl) bm _ ts (by rfl) (by rfl) HN.out ?_
          intro wE hE hbE
          refine held_more hK HS0.out hlt (Bc.out.trans (hbE _ HLE.out)) (fun Bc hSn => ?_)
          clear hK
          refine tks [14, 15] 2 rfl (by kernel_rfl) (fun _ _ _ _ h => h) (by assumption) (fun KT hKT => ?_)
          iterate 2 (refine tkT (by (simp only [gA, gB, gC]; rfl)) (by rfl) (by (intro w hSw; (simp only [Holds] at hSw); go_simp <;> with_reducible rfl)) ?_; simp only [Act.put, pA, pB, pC])
          refine hKT _ ?_
          clear KT hKT
          refine wpAnyH_done (by kernel_rfl) ?_ _
          go_wp2_with fail
          go_meet
          exact ⟨bm, rfl, rfl, rfl, hE, HBRd.out.trans (Bc.out.mono HBRd.out.size)⟩
        · skip
          have HSZ := Lib.hid Bc.out.size
          go_simp
          refine held_more hK HS0.out hlt (Bc.out.alloc Bc.out.size _) (fun Bc hSn => ?_)
          clear hK
          have HN := Lib.hid (st_new V noughtS)
          change wpAnyH _ _ _ _ _ _ _ _ (V.alloc (boxSt noughtS))
          have Bc2 := Lib.hid (show Below V.heap.size V (V.alloc (boxSt noughtS)) from Bc.out)
          clear Bc
          have Bc := Bc2
          clear Bc2
          generalize V.alloc (boxSt noughtS) = Xn at *
          obtain ⟨bm, hbm⟩ : ∃ bm, bm = V.heap.size := ⟨_, rfl⟩
          have HLE := Lib.hid (show V.heap.size ≤ bm by rw [hbm]; exact HSZ.out)
          rw [← hbm] at HN ⊢
          clear hbm HSZ
          refine wpAnyH_ready (rs := [7]) (by kernel_rfl) (by simp) ?_
          refine AllReadyH.cons (o := ?oz221) ?iz221 (fun K hK => ?kz221) AllReadyH.nil
          case iz221 => (simp only [List.getElem?_toArray, List.getElem?_cons_zero, List.getElem?_cons_succ]; rfl)
          go_simp
          change Calls _ _ #[insV I (.slice ad I.l.length cap), staV n.s, .int .i64 j] _ _
          have BCUR := Lib.hid (HB.out.trans (Bc.out.mono HB.out.size))
          refine (dmove_any (HR.out.below BCUR.out) HS1.out).mono ?_
          clear BCUR
          rintro e w7 ⟨rfl, hb⟩
          have HNn := Lib.hid (HN.out.later hb)
          clear HN
          have HN := HNn
          clear HNn
          rw [HXA.out, HCA.out, HPA.out]
          rw [show staV ts = .agg #[.int .i64 ts.pos, .int .i64 ts.car, .int .i64 ts.time, .int .i64 ts.load, .int .i64 ts.first, .int .u64 ts.must, .int .u64 ts.may, .int .u64 ts.on] from rfl]
          refine held_more hK HS0.out hlt (Bc.out.trans (hb.mono Bc.out.size)) (fun Bc hSn => ?_)
          clear hb hK
          refine tks [8, 9, 10, 11] 4 rfl (by kernel_rfl) (fun _ _ _ _ h => h) (by assumption) (fun KT hKT => ?_)
          iterate 4 (refine tkT (by (simp only [gA, gB, gC]; rfl)) (by rfl) (by (intro w hSw; (simp only [Holds] at hSw); go_simp <;> with_reducible rfl)) ?_; simp only [Act.put, pA, pB, pC])
          refine hKT _ ?_
          clear KT hKT
          refine wpAnyH_ready (rs := [13]) (by kernel_rfl) (by simp) ?_
          refine (AllReadyH.cons (o := ?oz222) ?iz222 (fun K hK => ?kz222) AllReadyH.nil)
          case iz222 => (simp only [List.getElem?_toArray, List.getElem?_cons_zero, List.getElem?_cons_succ]; rfl)
          simp only [Act.put]
          rw [if_pos (by rfl)]
          refine wp_store_state (.tmp 19) (.tmp 83) (by rfl) bm _ ts (by rfl) (by rfl) HN.out ?_
          intro wE hE hbE
          refine held_more hK HS0.out hlt (Bc.out.trans (hbE _ HLE.out)) (fun Bc hSn => ?_)
          clear hK
          refine tks [14, 15] 2 rfl (by kernel_rfl) (fun _ _ _ _ h => h) (by assumption) (fun KT hKT => ?_)
          iterate 2 (refine tkT (by (simp only [gA, gB, gC]; rfl)) (by rfl) (by (intro w hSw; (simp only [Holds] at hSw); go_simp <;> with_reducible rfl)) ?_; simp only [Act.put, pA, pB, pC])
          refine hKT _ ?_
          clear KT hKT
          refine wpAnyH_done (by kernel_rfl) ?_ _
          go_wp2_with fail
          go_meet
          exact ⟨bm, rfl, rfl, rfl, hE, HBRd.out.trans (Bc.out.mono HBRd.out.size)⟩
      case rest =>
      obtain ⟨bm, rfl, rfl, rfl, f1, f2⟩ := hcut
      have HT := Lib.hid f1
      have HC7 := Lib.hid (fun w' (hb' : Below wc.heap.size wc w') => HC3.out w' (f2.trans (hb'.mono f2.size)))
      have HYn := Lib.hid (HY.out.later f2)
      have HAn := Lib.hid (HA.out.later f2)
      have HCn := Lib.hid (HC.out.later f2)
      have HDn := Lib.hid (HD.out.later f2)
      have HONn := Lib.hid (HON.out.below f2)
      have HXn := Lib.hid (HX.out.below f2)
      have HPBn := Lib.hid (HPB.out.below f2)
      have HMVn := Lib.hid (HMV.out.below f2)
      clear HY HA HC HD HON HX HPB HMV
      have HY := HYn
      have HA := HAn
      have HC := HCn
      have HD := HDn
      have HON := HONn
      have HX := HXn
      have HPB := HPBn
      have HMV := HMVn
      clear HYn HAn HCn HDn HONn HXn HPBn HMVn
      have HBWn := Lib.hid (HBW.out.trans (f2.mono HBW.out.size))
      clear HBW
      have HBW := HBWn
      clear HBWn
      clear f1 f2 HC3
      generalize wc = W7 at *
      have HRX := Lib.hid (HX.out.row (HW0.out.trans (HBW.out.mono HW0.out.size)))
      have x9 := HD.out.c9
      go_upto_region 19 with (at_builtin; refine app_ints rfl _ _ rfl W7.heap.size (.slice none 0 0) [] rfl (ownI_nil _ _) _ n.path rfl HRX.out (by have := HP1.out; simp only [List.length_nil]; omega) (Nat.le_refl _) ?_; intro pv1 w8 p1 g1 a1)
      clear x9
      rw [List.nil_append] at p1
      have HQ1 := Lib.hid p1
      have HB8 := Lib.hid (show Below W7.heap.size W7 w8 from (Below.refl _ W7).grown g1 (Nat.le_refl _) (fun k e => by simp [Value.ownBlock] at e))
      have hcm := HC7.out _ HB8.out
      clear p1 g1 a1
      go_upto_region 20 with (at_builtin; refine app_ints rfl _ _ rfl W7.heap.size pv1 n.path rfl (HQ1.out.alloc _) _ [j] rfl (row_oneI w8 j) (by have := HP1.out; simp only [List.length_cons, List.length_nil]; omega) (HB8.out.alloc HB8.out.size _).size ?_; intro pv2 w9 p2 g2 a2)
      clear hcm
      have HB9 := Lib.hid (show Below W7.heap.size W7 w9 from (HB8.out.alloc HB8.out.size (.cells #[.int .i64 j] 3)).trans ((Below.refl _ _).grown g2 (HB8.out.alloc HB8.out.size _).size (fun g e => (OwnI.lt HQ1.out g e).1)))
      obtain ⟨ra, rc, hpv⟩ := p2.shape
      obtain ⟨pl, hpl⟩ : ∃ pl, (n.path ++ [j]).length = pl := ⟨_, rfl⟩
      rw [hpl] at hpv
      subst hpv
      clear hpl
      have HPC := Lib.hid (PathB.own (w0 := w0) p2 (Nat.le_trans HW0.out.size HBW.out.size))
      have HYn := Lib.hid (HY.out.later HB9.out)
      have HAn := Lib.hid (HA.out.later HB9.out)
      have HCn := Lib.hid (HC.out.later HB9.out)
      have HDn := Lib.hid (HD.out.later HB9.out)
      have HONn := Lib.hid (HON.out.below HB9.out)
      have HXn := Lib.hid (HX.out.below HB9.out)
      have HPBn := Lib.hid (HPB.out.below HB9.out)
      have HMVn := Lib.hid (HMV.out.below HB9.out)
      have HTn := Lib.hid (HT.out.later HB9.out)
      clear HY HA HC HD HON HX HPB HMV HT
      have HY := HYn
      have HA := HAn
      have HC := HCn
      have HD := HDn
      have HON := HONn
      have HX := HXn
      have HPB := HPBn
      have HMV := HMVn
      have HT := HTn
      clear HYn HAn HCn HDn HONn HXn HPBn HMVn HTn
      have HBWn := Lib.hid (HBW.out.trans (HB9.out.mono HBW.out.size))
      clear HBW
      have HBW := HBWn
      clear HBWn
      clear p2 g2 a2 HQ1 HB8 HRX HC7
      go_upto_region 20 with fail
      obtain ⟨es2, hes2⟩ : ∃ x, sumOf [n.cost, dc] = x := ⟨_, rfl⟩
      have HES := Lib.hid hes2
      rw [hes2] at HCH
      clear hes2
      have HB9r := Lib.hid (Below.refl w9.heap.size w9)
      go_cut [23] from 96 to 112 (fun p wx => ∃ bc, p = .pointer (some ⟨bc, 0, none⟩) ∧ NodB wx bc ts es2 (.slice ra pl rc) ∧ Below w9.heap.size w9 wx)
      case first =>
        have HBRd := Lib.hid HB9r.out.drew
        have HTn := Lib.hid (HT.out.later (Below.refl _ w9).drew)
        have HDn := Lib.hid (HD.out.later (Below.refl _ w9).drew)
        have HB9rn := Lib.hid HB9r.out.drew
        clear HT HD HB9r
        have HT := HTn
        have HD := HDn
        have HB9r := HB9rn
        clear HTn HDn HB9rn
        have HS0 := Lib.hid (show Holds (cellsSt bm ts ++ cellsN bd n.s n.cost (.slice xa n.path.length xc)) w9.drew from (Holds.app.2 ⟨HT.out.holds, HD.out.holds⟩))
        refine wp_region_held_drew (S := Holds (cellsSt bm ts ++ cellsN bd n.s n.cost (.slice xa n.path.length xc))) (by kernel_rfl) HS0.out (fun hSn => ?_)
        generalize w9.drew = V at *
        have hlt := Lib.hid (show Lows V.heap.size (cellsSt bm ts ++ cellsN bd n.s n.cost (.slice xa n.path.length xc)) from (Lows.app (lows_St HT.out.lt) (lows_N HD.out.lt)))
        have Bc := Lib.hid (Below.refl V.heap.size V)
        simp only [cellsSt, cellsN, List.cons_append, List.nil_append] at HS0 hlt hSn ⊢
        refine tks [0, 1, 2, 3, 6] 5 rfl (by kernel_rfl) (fun _ _ _ _ h => h) (by assumption) (fun KT hKT => ?_)
        iterate 5 (refine tkT (by (simp only [gA, gB, gC]; rfl)) (by rfl) (by (intro w hSw; (simp only [Holds] at hSw); go_simp <;> with_reducible rfl)) ?_; simp only [Act.put, pA, pB, pC])
        refine hKT _ ?_
        clear KT hKT
        refine wpAnyH_ready (rs := [4, 8]) (by kernel_rfl) (by simp) ?_
        refine (AllReadyH.cons (o := ?oz223) ?iz223 (fun K hK => ?kz223) (AllReadyH.cons (o := ?oz224) ?iz224 (fun K hK => ?kz224) AllReadyH.nil))
        case iz223 => (simp only [List.getElem?_toArray, List.getElem?_cons_zero, List.getElem?_cons_succ]; rfl)
        case iz224 => (simp only [List.getElem?_toArray, List.getElem?_cons_zero, List.getElem?_cons_succ]; rfl)
        · skip
          go_simp
          refine held_more hK HS0.out hlt (Bc.out.alloc Bc.out.size _) (fun Bc hSn => ?_)
          clear hK
          have HRW := Lib.hid (row_two V n.cost dc)
          change wpAnyH _ _ _ _ _ _ _ _ (V.alloc (.cells #[.int .i64 n.cost, .int .i64 dc] 3))
          have Bc2 := Lib.hid (show Below V.heap.size V (V.alloc (.cells #[.int .i64 n.cost, .int .i64 dc] 3)) from Bc.out)
          clear Bc
          have Bc := Bc2
          clear Bc2
          generalize V.alloc (.cells #[.int .i64 n.cost, .int .i64 dc] 3) = Va at *
          refine wpAnyH_ready (rs := [5, 8]) (by kernel_rfl) (by simp) ?_
          refine (AllReadyH.cons (o := ?oz225) ?iz225 (fun K hK => ?kz225) (AllReadyH.cons (o := ?oz226) ?iz226 (fun K hK => ?kz226) AllReadyH.nil))
          case iz225 => (simp only [List.getElem?_toArray, List.getElem?_cons_zero, List.getElem?_cons_succ]; rfl)
          case iz226 => (simp only [List.getElem?_toArray, List.getElem?_cons_zero, List.getElem?_cons_succ]; rfl)
          · skip
            go_simp
            refine (rsum_any HRW.out).mono ?_
            rw [HES.out]
            rintro e w' ⟨rfl, rfl⟩
            refine held_more hK HS0.out hlt Bc.out (fun Bc hSn => ?_)
            clear hK
            refine tks [7] 1 rfl (by kernel_rfl) (fun _ _ _ _ h => h) (by assumption) (fun KT hKT => ?_)
            refine tkT (by (simp only [gA, gB, gC]; rfl)) (by rfl) (by (intro w hSw; (simp only [Holds] at hSw); go_simp <;> with_reducible rfl)) ?_
            simp only [Act.put, pA, pB, pC]
            refine hKT _ ?_
            clear KT hKT
            have HSZ := Lib.hid Bc.out.size
            refine wpAnyH_ready (rs := [8]) (by kernel_rfl) (by simp) ?_
            refine AllReadyH.cons (o := ?oz227) ?iz227 (fun K hK => ?kz227) AllReadyH.nil
            case iz227 => (simp only [List.getElem?_toArray, List.getElem?_cons_zero, List.getElem?_cons_succ]; rfl)
            go_simp
            refine held_more hK HS0.out hlt (Bc.out.alloc Bc.out.size _) (fun Bc hSn => ?_)
            have HN := Lib.hid (nod_new Va noughtS 0 (.slice none 0 0))
            change wpAnyH _ _ _ _ _ _ _ _ (Va.alloc (boxN noughtS 0 (.slice none 0 0)))
            have Bc2 := Lib.hid (show Below V.heap.size V (Va.alloc (boxN noughtS 0 (.slice none 0 0))) from Bc.out)
            clear Bc
            have Bc := Bc2
            clear Bc2
            generalize Va.alloc (boxN noughtS 0 (.slice none 0 0)) = Xn at *
            obtain ⟨bc, hbc⟩ : ∃ bc, bc = Va.heap.size := ⟨_, rfl⟩
            have HLE2 := Lib.hid (show V.heap.size ≤ bc by rw [hbc]; exact HSZ.out)
            rw [← hbc] at HN ⊢
            clear hbc HSZ
            refine wpAnyH_ready (rs := [9]) (by kernel_rfl) (by simp) ?_
            refine (AllReadyH.cons (o := ?oz228) ?iz228 (fun K hK => ?kz228) AllReadyH.nil)
            case iz228 => (simp only [List.getElem?_toArray, List.getElem?_cons_zero, List.getElem?_cons_succ]; rfl)
            simp only [Act.put]
            rw [if_pos (by rfl)]
            refine wp_store_node (.tmp 23) (.tmp 103) (by rfl) bc _ _ _ ⟨ts, es2, ra, pl, rc⟩ (by rfl) (by rfl) HN.out ?_
            intro wE hE hbE hoE hgE
            refine held_more hK HS0.out hlt (Bc.out.trans (hbE _ HLE2.out)) (fun Bc hSn => ?_)
            clear hK
            refine wpAnyH_done (by kernel_rfl) ?_ _
            go_wp2_with fail
            go_meet
            exact ⟨bc, rfl, hE, HBRd.out.trans (Bc.out.mono HBRd.out.size)⟩
          · skip
            have HSZ := Lib.hid Bc.out.size
            go_simp
            refine held_more hK HS0.out hlt (Bc.out.alloc Bc.out.size _) (fun Bc hSn => ?_)
            clear hK
            have HRWn := Lib.hid (HRW.out.below ((Below.refl _ Va).alloc (Nat.le_refl _) (boxN noughtS 0 (.slice none 0 0))))
            clear HRW
            have HRW := HRWn
            clear HRWn
            have HN := Lib.hid (nod_new Va noughtS 0 (.slice none 0 0))
            change wpAnyH _ _ _ _ _ _ _ _ (Va.alloc (boxN noughtS 0 (.slice none 0 0)))
            have Bc2 := Lib.hid (show Below V.heap.size V (Va.alloc (boxN noughtS 0 (.slice none 0 0))) from Bc.out)
            clear Bc
            have Bc := Bc2
            clear Bc2
            generalize Va.alloc (boxN noughtS 0 (.slice none 0 0)) = Xn at *
            obtain ⟨bc, hbc⟩ : ∃ bc, bc = Va.heap.size := ⟨_, rfl⟩
            have HLE2 := Lib.hid (show V.heap.size ≤ bc by rw [hbc]; exact HSZ.out)
            rw [← hbc] at HN ⊢
            clear hbc HSZ
            refine wpAnyH_ready (rs := [5]) (by kernel_rfl) (by simp) ?_
            refine AllReadyH.cons (o := ?oz229) ?iz229 (fun K hK => ?kz229) AllReadyH.nil
            case iz229 => (simp only [List.getElem?_toArray, List.getElem?_cons_zero, List.getElem?_cons_succ]; rfl)
            go_simp
            refine (rsum_any HRW.out).mono ?_
            rw [HES.out]
            rintro e w' ⟨rfl, rfl⟩
            refine held_more hK HS0.out hlt Bc.out (fun Bc hSn => ?_)
            clear hK
            refine tks [7] 1 rfl (by kernel_rfl) (fun _ _ _ _ h => h) (by assumption) (fun KT hKT => ?_)
            refine tkT (by (simp only [gA, gB, gC]; rfl)) (by rfl) (by (intro w hSw; (simp only [Holds] at hSw); go_simp <;> with_reducible rfl)) ?_
            simp only [Act.put, pA, pB, pC]
            refine hKT _ ?_
            clear KT hKT
            refine wpAnyH_ready (rs := [9]) (by kernel_rfl) (by simp) ?_
            refine (AllReadyH.cons (o := ?oz230) ?iz230 (fun K hK => ?kz230) AllReadyH.nil)
            case iz230 => (simp only [List.getElem?_toArray, List.getElem?_cons_zero, List.getElem?_cons_succ]; rfl)
            simp only [Act.put]
            rw [if_pos (by rfl)]
            refine wp_store_node (.tmp 23) (.tmp 103) (by rfl) bc _ _ _ ⟨ts, es2, ra, pl, rc⟩ (by rfl) (by rfl) HN.out ?_
            intro wE hE hbE hoE hgE
            refine held_more hK HS0.out hlt (Bc.out.trans (hbE _ HLE2.out)) (fun Bc hSn => ?_)
            clear hK
            refine wpAnyH_done (by kernel_rfl) ?_ _
            go_wp2_with fail
            go_meet
            exact ⟨bc, rfl, hE, HBRd.out.trans (Bc.out.mono HBRd.out.size)⟩
        · skip
          have HSZ := Lib.hid Bc.out.size
          go_simp
          refine held_more hK HS0.out hlt (Bc.out.alloc Bc.out.size _) (fun Bc hSn => ?_)
          clear hK
          have HN := Lib.hid (nod_new V noughtS 0 (.slice none 0 0))
          change wpAnyH _ _ _ _ _ _ _ _ (V.alloc (boxN noughtS 0 (.slice none 0 0)))
          have Bc2 := Lib.hid (show Below V.heap.size V (V.alloc (boxN noughtS 0 (.slice none 0 0))) from Bc.out)
          clear Bc
          have Bc := Bc2
          clear Bc2
          generalize V.alloc (boxN noughtS 0 (.slice none 0 0)) = Xn at *
          obtain ⟨bc, hbc⟩ : ∃ bc, bc = V.heap.size := ⟨_, rfl⟩
          have HLE2 := Lib.hid (show V.heap.size ≤ bc by rw [hbc]; exact HSZ.out)
          rw [← hbc] at HN ⊢
          clear hbc HSZ
          refine wpAnyH_ready (rs := [4]) (by kernel_rfl) (by simp) ?_
          refine AllReadyH.cons (o := ?oz231) ?iz231 (fun K hK => ?kz231) AllReadyH.nil
          case iz231 => (simp only [List.getElem?_toArray, List.getElem?_cons_zero, List.getElem?_cons_succ]; rfl)
          go_simp
          refine held_more hK HS0.out hlt (Bc.out.alloc Bc.out.size _) (fun Bc hSn => ?_)
          have HRW := Lib.hid (row_two Xn n.cost dc)
          have HNn := Lib.hid (HN.out.later ((Below.refl _ Xn).alloc (Nat.le_refl _) (.cells #[.int .i64 n.cost, .int .i64 dc] 3)))
          clear HN
          have HN := HNn
          clear HNn
          change wpAnyH _ _ _ _ _ _ _ _ (Xn.alloc (.cells #[.int .i64 n.cost, .int .i64 dc] 3))
          have Bc2 := Lib.hid (show Below V.heap.size V (Xn.alloc (.cells #[.int .i64 n.cost, .int .i64 dc] 3)) from Bc.out)
          clear Bc
          have Bc := Bc2
          clear Bc2
          generalize Xn.alloc (.cells #[.int .i64 n.cost, .int .i64 dc] 3) = Va at *
          refine wpAnyH_ready (rs := [5]) (by kernel_rfl) (by simp) ?_
          refine AllReadyH.cons (o := ?oz232) ?iz232 (fun K hK => ?kz232) AllReadyH.nil
          case iz232 => (simp only [List.getElem?_toArray, List.getElem?_cons_zero, List.getElem?_cons_succ]; rfl)
          go_simp
          refine (rsum_any HRW.out).mono ?_
          rw [HES.out]
          rintro e w' ⟨rfl, rfl⟩
          refine held_more hK HS0.out hlt Bc.out (fun Bc hSn => ?_)
          clear hK
          refine tks [7] 1 rfl (by kernel_rfl) (fun _ _ _ _ h => h) (by assumption) (fun KT hKT => ?_)
          refine tkT (by (simp only [gA, gB, gC]; rfl)) (by rfl) (by (intro w hSw; (simp only [Holds] at hSw); go_simp <;> with_reducible rfl)) ?_
          simp only [Act.put, pA, pB, pC]
          refine hKT _ ?_
          clear KT hKT
          refine wpAnyH_ready (rs := [9]) (by kernel_rfl) (by simp) ?_
          refine (AllReadyH.cons (o := ?oz233) ?iz233 (fun K hK => ?kz233) AllReadyH.nil)
          case iz233 => (simp only [List.getElem?_toArray, List.getElem?_cons_zero, List.getElem?_cons_succ]; rfl)
          simp only [Act.put]
          rw [if_pos (by rfl)]
          refine wp_store_node (.tmp 23) (.tmp 103) (by rfl) bc _ _ _ ⟨ts, es2, ra, pl, rc⟩ (by rfl) (by rfl) HN.out ?_
          intro wE hE hbE hoE hgE
          refine held_more hK HS0.out hlt (Bc.out.trans (hbE _ HLE2.out)) (fun Bc hSn => ?_)
          clear hK
          refine wpAnyH_done (by kernel_rfl) ?_ _
          go_wp2_with fail
          go_meet
          exact ⟨bc, rfl, hE, HBRd.out.trans (Bc.out.mono HBRd.out.size)⟩
      case rest =>
      obtain ⟨bc, rfl, f1, f2⟩ := hcut
      have HNC := Lib.hid f1
      have HYn := Lib.hid (HY.out.later f2)
      have HAn := Lib.hid (HA.out.later f2)
      have HCn := Lib.hid (HC.out.later f2)
      have HDn := Lib.hid (HD.out.later f2)
      have HONn := Lib.hid (HON.out.below f2)
      have HXn := Lib.hid (HX.out.below f2)
      have HPBn := Lib.hid (HPB.out.below f2)
      have HMVn := Lib.hid (HMV.out.below f2)
      have HPCn := Lib.hid (HPC.out.below f2)
      clear HY HA HC HD HON HX HPB HMV HPC
      have HY := HYn
      have HA := HAn
      have HC := HCn
      have HD := HDn
      have HON := HONn
      have HX := HXn
      have HPB := HPBn
      have HMV := HMVn
      have HPC := HPCn
      clear HYn HAn HCn HDn HONn HXn HPBn HMVn HPCn
      have HBWn := Lib.hid (HBW.out.trans (f2.mono HBW.out.size))
      clear HBW
      have HBW := HBWn
      clear HBWn
      clear f1 f2 HB9 HB9r HT
      generalize wc = W10 at *
      obtain ⟨y0, y1, y2, y3⟩ := HY.out.cells
      have x0 := HNC.out.c0
      have x1 := HNC.out.c1
      have x2 := HNC.out.c2
      have x3 := HNC.out.c3
      have x4 := HNC.out.c4
      have x5 := HNC.out.c5
      have x6 := HNC.out.c6
      have x7 := HNC.out.c7
      have x8 := HNC.out.c8
      have x9 := HNC.out.c9
      go_wp2_with fail
      clear y0 y1 y2 y3
      clear x0 x1 x2 x3 x4 x5 x6 x7 x8 x9
      change Calls _ _ #[insV I (.slice ad I.l.length cap), nodeV ts es2 (.slice ra pl rc)] _ _
      refine (dbof_any (I := I) (HR.out.below HBW.out) HTS.out (HPC.out.row (HW0.out.trans (HBW.out.mono HW0.out.size)))).mono ?_
      rw [show sumOf [es2, boundS I ts] = ofB I (childN I n j) by rw [HCH.out]; rfl]
      rintro e w11 ⟨rfl, hb⟩
      have HYn := Lib.hid (HY.out.later hb)
      have HAn := Lib.hid (HA.out.later hb)
      have HCn := Lib.hid (HC.out.later hb)
      have HDn := Lib.hid (HD.out.later hb)
      have HONn := Lib.hid (HON.out.below hb)
      have HXn := Lib.hid (HX.out.below hb)
      have HPBn := Lib.hid (HPB.out.below hb)
      have HMVn := Lib.hid (HMV.out.below hb)
      have HPCn := Lib.hid (HPC.out.below hb)
      have HNCn := Lib.hid (HNC.out.later hb)
      clear HY HA HC HD HON HX HPB HMV HPC HNC
      have HY := HYn
      have HA := HAn
      have HC := HCn
      have HD := HDn
      have HON := HONn
      have HX := HXn
      have HPB := HPBn
      have HMV := HMVn
      have HPC := HPCn
      have HNC := HNCn
      clear HYn HAn HCn HDn HONn HXn HPBn HMVn HPCn HNCn
      have HBWn := Lib.hid (HBW.out.trans (hb.mono HBW.out.size))
      clear HBW
      have HBW := HBWn
      clear HBWn
      clear hb
      by_cases hu : ofB I (childN I n j) < up
      rotate_left
      · have du := decide_eq_false hu
        have HF := Lib.hid (HKX2.out.trans (if_neg hu))
        clear hu
        generalize ofB I (childN I n j) = ov at *
        go_wp2_with fail
        go_roundw
        case rel => exact ⟨i + 1, _, by have := HI.out; omega, by go_num, rfl, by rw [HF.out]; exact HON.out, HAP.out, HY.out, HA.out, HC.out, HPB.out, HD.out, HX.out, HMV.out, HBW.out⟩
        case measure => have := HI.out; simp [intOf]; omega
      have du := decide_eq_true hu
      have HF := Lib.hid (HKX2.out.trans (if_pos hu))
      clear hu
      generalize ofB I (childN I n j) = ov at *
      have x0 := HNC.out.c0
      have x1 := HNC.out.c1
      have x2 := HNC.out.c2
      have x3 := HNC.out.c3
      have x4 := HNC.out.c4
      have x5 := HNC.out.c5
      have x6 := HNC.out.c6
      have x7 := HNC.out.c7
      have x8 := HNC.out.c8
      have x9 := HNC.out.c9
      have HLN := Lib.hid (show (A ++ KI i).length + [childN I n j].length ≤ 1000000 by
        have h1 := HKL.out
        have h2 := HKJ.out i
        have h3 := HK.out
        have h4 := HLE.out
        rw [List.length_append, List.length_cons, List.length_nil]
        omega)
      have HSZ1 := Lib.hid (show w.heap.size + 3 ≤ w11.heap.size from HC.out.lt)
      go_wp2_with (at_builtin; refine app_nodes Tryz.underlying35 rfl _ _ rfl (w.heap.size + 3) al (A ++ KI i) rfl (HON.out.below ((Below.refl _ _).alloc (Nat.le_refl _) _)) _ rfl [⟨ts, es2, ra, pl, rc⟩] [childN I n j] (nrow_one (heap_alloc_new _ _)) ⟨by rw [HCH.out]; exact ⟨rfl, rfl, HPC.out.below ((Below.refl _ _).alloc (Nat.le_refl _) _)⟩, trivial⟩ HLN.out (Nat.le_trans HSZ1.out (World.grownBy_alloc _ _ none).size) (by have := HW0.out.size; omega) ((HW0.out.trans (HBW.out.mono HW0.out.size)).trans (((Below.refl _ w11).alloc (Nat.le_refl _) _).mono (Nat.le_trans HW0.out.size HBW.out.size))) ?_; intro av w12 o1 b1' b2' g3)
      obtain ⟨Wa, hWa, hWs, hWb⟩ : ∃ Wa, Below w11.heap.size w11 Wa ∧ Wa.heap.size = w11.heap.size + 1 ∧ (Below (w.heap.size + 3) Wa w12 ∧ Wa.grownBy w12 al.ownBlock ∧ (av.ownBlock = al.ownBlock ∨ av.ownBlock = some Wa.heap.size)) := ⟨_, (Below.refl _ w11).alloc (Nat.le_refl _) _, by simp, b2', g3.1, g3.2⟩
      have hz : Below (w.heap.size + 3) w11 w12 := (hWa.mono HSZ1.out).trans hWb.1
      have ho := HON.out.below hWa
      have hbd := HD.out.lt
      have hd : w12.heap[bd]? = w11.heap[bd]? := (hWb.2.1.block bd (by omega) (fun e => HAP.out bd e.symm rfl)).trans (hWa.block bd hbd)
      have HR2 := Lib.hid (show OwnN w0 (w.heap.size + 3) w12 av (A ++ KI (i + 1)) ∧ (∀ g, av.ownBlock = some g → g ≠ bd) ∧ YBox w12 w.heap.size I (.slice ad I.l.length cap) ∧ NodB w12 (w.heap.size + 1) noughtS 0 (.slice none 0 0) ∧ NodB w12 (w.heap.size + 2) b'.s b'.cost (.slice qb qn qc) ∧ PathB w0 w12 (.slice qb qn qc) b'.path ∧ NodB w12 bd n.s n.cost (.slice xa n.path.length xc) ∧ PathB w0 w12 (.slice xa n.path.length xc) n.path ∧ PathB w0 w12 (.slice (some ⟨b3, o3, none⟩) MS.length mc) MS ∧ Below w.heap.size w w12 from
        ⟨by rw [HF.out, ← List.append_assoc]; exact o1, fun g hg => by
          rcases hWb.2.2 with h | h
          · rw [h] at hg; exact HAP.out g hg
          · rw [h] at hg
            simp only [Option.some.injEq] at hg
            omega,
          HY.out.below (by omega) hz, HA.out.below (by omega) hz, HC.out.below (by omega) hz, PathB.grown ho hWb.2.1 (HPB.out.below hWa), HD.out.same hd, PathB.grown ho hWb.2.1 (HX.out.below hWa), PathB.grown ho hWb.2.1 (HMV.out.below hWa), HBW.out.trans (hz.mono (by omega))⟩)
      clear hWa hWs hWb hz ho hbd hd o1 b1' b2' g3
      go_roundw
      case rel =>
        obtain ⟨r1, r2, r3, r4, r5, r6, r7, r8, r9, r10⟩ := HR2.out
        exact ⟨i + 1, _, by have := HI.out; omega, by go_num, rfl, r1, r2, r3, r4, r5, r6, r7, r8, r9, r10⟩
      case measure => have := HI.out; simp [intOf]; omega
end Go.Proofs.YtgplajofemencaaGreat
