/- Whether a node leaves another one without use: the document's answer; few nodes. -/
import Derived.Test.YtofapalakpkkpaaNRow
import Derived.Test.YtofapalakpkkpaaXR2
namespace Go.Proofs.Ytofapalakpkkpaa
open Go.ChangeShapes Go.WideShapes Go.ChangeAt Go.RowKit

theorem boxes_nn (w : World) (s t : Sta) (c d : Int) (u v : Value) : NodB ((w.alloc (boxN s c u)).alloc (boxN t d v)) w.heap.size s c u ∧ NodB ((w.alloc (boxN s c u)).alloc (boxN t d v)) (w.heap.size + 1) t d v ∧ Below w.heap.size w ((w.alloc (boxN s c u)).alloc (boxN t d v)) := by
  have h1 : (w.alloc (boxN s c u)).heap.size = w.heap.size + 1 := by simp
  have a1 := nod_new (w.alloc (boxN s c u)) t d v
  rw [h1] at a1
  exact ⟨(nod_new w s c u).later ((Below.refl _ _).alloc (Nat.le_refl _) _), a1, ((Below.refl w.heap.size w).alloc (Nat.le_refl _) _).alloc (by rw [h1]; omega) _⟩
set_option maxRecDepth 1000000 in
set_option maxHeartbeats 4000000 in
theorem dthan_any {a b : Nod} {xa xb : Option Addr} {na ca nb cb : Nat} (w : World) (ha : SetsOk a.s) (hb : SetsOk b.s) :
    Calls Try.prog 14 #[nodeV a.s a.cost (.slice xa na ca), nodeV b.s b.cost (.slice xb nb cb)] w fun e w' => e = .returned (.bool (decide (Than a b))) ∧ Below w.heap.size w w' := by
  have H1 := Lib.hid ha
  have H2 := Lib.hid hb
  clear ha hb
  unfold nodeV
  go_enter Try.func14, Try.ntmps14
  go_upto_region 1 with fail
  obtain ⟨k1, k2, k3⟩ := boxes_nn w a.s b.s a.cost b.cost (.slice xa na ca) (.slice xb nb cb)
  have HA := Lib.hid k1
  have HC := Lib.hid k2
  have HB := Lib.hid k3
  clear k1 k2 k3
  change Code.wp _ _ _ _ ((w.alloc (boxN a.s a.cost (.slice xa na ca))).alloc (boxN b.s b.cost (.slice xb nb cb)))
  generalize (w.alloc (boxN a.s a.cost (.slice xa na ca))).alloc (boxN b.s b.cost (.slice xb nb cb)) = W at *
  have x0 := HA.out.c0
  have x1 := HA.out.c1
  have x2 := HA.out.c2
  have x3 := HA.out.c3
  have x4 := HA.out.c4
  have x5 := HA.out.c5
  have x6 := HA.out.c6
  have x7 := HA.out.c7
  have z0 := HC.out.c0
  have z1 := HC.out.c1
  have z2 := HC.out.c2
  have z3 := HC.out.c3
  have z4 := HC.out.c4
  have z5 := HC.out.c5
  have z6 := HC.out.c6
  have z7 := HC.out.c7
  go_wp2_with fail
  clear x0 x1 x2 x3 x4 x5 x6 x7 z0 z1 z2 z3 z4 z5 z6 z7
  change Calls _ _ #[staV a.s, staV b.s] _ _
  refine (ycovers_any _ H1.out H2.out).mono ?_
  rintro e w1 ⟨rfl, hb⟩
  have HAn := Lib.hid (HA.out.later hb)
  have HCn := Lib.hid (HC.out.later hb)
  have HBn := Lib.hid (HB.out.trans (hb.mono HB.out.size))
  clear hb HA HC HB
  have HA := HAn
  have HC := HCn
  have HB := HBn
  clear HAn HCn HBn
  have x5 := HA.out.c5
  have x6 := HA.out.c6
  have x7 := HA.out.c7
  have x8 := HA.out.c8
  have z5 := HC.out.c5
  have z6 := HC.out.c6
  have z7 := HC.out.c7
  have z8 := HC.out.c8
  obtain ⟨cv, hcv⟩ : ∃ cv, decide (Covers a.s b.s) = cv := ⟨_, rfl⟩
  rw [hcv]
  have HCV := Lib.hid hcv
  clear hcv
  by_cases g0 : a.s.must = b.s.must
  rotate_left
  · have b0 : ((a.s.must : Int) == (b.s.must : Int)) = false := by simp; omega
    have HE := Lib.hid (show decide (Than a b) = false from decide_eq_false (fun h => g0 h.1))
    clear g0
    go_wp2
    go_ret
    exact ⟨ret_bool HE.out.symm, HB.out⟩
  have b0 : ((a.s.must : Int) == (b.s.must : Int)) = true := by simp; omega
  have G0 := Lib.hid g0
  clear g0
  by_cases g1 : a.s.may = b.s.may
  rotate_left
  · have b1 : ((a.s.may : Int) == (b.s.may : Int)) = false := by simp; omega
    have HE := Lib.hid (show decide (Than a b) = false from decide_eq_false (fun h => g1 h.2.1))
    clear g1
    go_wp2
    go_ret
    exact ⟨ret_bool HE.out.symm, HB.out⟩
  have b1 : ((a.s.may : Int) == (b.s.may : Int)) = true := by simp; omega
  have G1 := Lib.hid g1
  clear g1
  by_cases g2 : a.s.on = b.s.on
  rotate_left
  · have b2 : ((a.s.on : Int) == (b.s.on : Int)) = false := by simp; omega
    have HE := Lib.hid (show decide (Than a b) = false from decide_eq_false (fun h => g2 h.2.2.1))
    clear g2
    go_wp2
    go_ret
    exact ⟨ret_bool HE.out.symm, HB.out⟩
  have b2 : ((a.s.on : Int) == (b.s.on : Int)) = true := by simp; omega
  have G2 := Lib.hid g2
  clear g2
  cases cv with
  | false =>
    have HE := Lib.hid (show decide (Than a b) = false from decide_eq_false (fun h => (of_decide_eq_false HCV.out) h.2.2.2.1))
    go_wp2
    go_ret
    exact ⟨ret_bool HE.out.symm, HB.out⟩
  | true =>
    by_cases g4 : a.cost ≤ b.cost
    · have b4 := decide_eq_true g4
      have HE := Lib.hid (show decide (Than a b) = true from decide_eq_true ⟨G0.out, G1.out, G2.out, of_decide_eq_true HCV.out, g4⟩)
      clear g4
      go_wp2
      go_ret
      exact ⟨ret_bool HE.out.symm, HB.out⟩
    · have b4 := decide_eq_false g4
      have HE := Lib.hid (show decide (Than a b) = false from decide_eq_false (fun h => g4 h.2.2.2.2))
      clear g4
      go_wp2
      go_ret
      exact ⟨ret_bool HE.out.symm, HB.out⟩
/-- At most 60 nodes, of at most 100 moves each. -/
def FewN (l : List Nod) : Prop := l.length ≤ 60 ∧ ∀ n ∈ l, n.path.length ≤ 100
instance (l : List Nod) : Decidable (FewN l) := by unfold FewN; infer_instance
theorem few_on {l : List Nod} {k : Nat} (hk : k < l.length) (h : ∀ n ∈ l.take k, n.path.length ≤ 100) (hc : (nodAt l k).path.length ≤ 100) : ∀ n ∈ l.take (k + 1), n.path.length ≤ 100 := by
  intro n hn
  rw [List.take_succ_eq_append_getElem hk] at hn
  rcases List.mem_append.1 hn with hn | hn
  · exact h n hn
  · simp only [List.mem_singleton] at hn
    subst hn
    unfold nodAt at hc
    rw [List.getD_eq_getElem?_getD, List.getElem?_eq_getElem hk] at hc
    exact hc
theorem nodAt_is {l : List Nod} {k : Nat} (hk : k < l.length) : l[k]? = some (nodAt l k) := by
  unfold nodAt; rw [List.getD_eq_getElem?_getD, List.getElem?_eq_getElem hk]; rfl
set_option maxRecDepth 1000000 in
set_option maxHeartbeats 4000000 in
theorem fewN_any {w : World} {v : Value} {l : List Nod} (h : NRow w v l) : Calls Try.prog 9 #[v] w fun e w' => e = .returned (.bool (decide (FewN l))) ∧ w = w' := by
  have H := Lib.hid h
  obtain ⟨a, cap, rfl, hm, _⟩ := h.form
  unfold maxLen at hm
  clear h
  by_cases hl : 60 < l.length
  · have hd : decide ((60 : Int) < (l.length : Int)) = true := decide_eq_true (by omega)
    have hd2 := decide_eq_true hl
    have HD := Lib.hid (show decide (FewN l) = false from decide_eq_false (fun h => by have := h.1; omega))
    clear hl
    go_enter Try.func9, Try.ntmps9
    go_wp2
    go_ret
    exact ⟨ret_bool HD.out.symm, rfl⟩
  · have hd : decide ((60 : Int) < (l.length : Int)) = false := decide_eq_false (by omega)
    have hd2 := decide_eq_false hl
    have HL := Lib.hid hl
    have hlm : l.length ≤ 9223372036854775807 := by omega
    clear hl
    go_enter Try.func9, Try.ntmps9
    go_wp2
    go_loop [3] (fun i => ∃ k : Nat, k ≤ l.length ∧ i = .int .i64 k ∧ ∀ n ∈ l.take k, n.path.length ≤ 100) (fun i => l.length - (intOf i).toNat)
    case atStart => exact ⟨0, Nat.zero_le _, rfl, by simp⟩
    case round =>
      obtain ⟨k, hk, rfl, hall⟩ := hrel
      have HA := Lib.hid hall
      clear hall
      by_cases hlt : k < l.length
      · have HK := Lib.hid hlt
        obtain ⟨b, off, pa, pc, ha, hc, _, _⟩ := nrow_at H.out k _ (nodAt_is hlt)
        subst ha
        have q9 := hc.2.2.2.2.2.2.2.2.2
        clear hc
        have hki : (k : Int) < (l.length : Int) := by omega
        obtain ⟨n, hn⟩ : ∃ n, nodAt l k = n := ⟨_, rfl⟩
        rw [hn] at q9
        have HN := Lib.hid hn
        clear hn hk hlt
        by_cases hp : 100 < n.path.length
        · have d1 : decide ((100 : Int) < (n.path.length : Int)) = true := decide_eq_true (by omega)
          have d2 := decide_eq_true hp
          have HD := Lib.hid (show decide (FewN l) = false from decide_eq_false (fun h => by
            have := h.2 _ (nodAt_mem HK.out)
            rw [HN.out] at this; omega))
          clear hp
          go_wp2
          go_ret
          exact ⟨ret_bool HD.out.symm, rfl⟩
        · have d1 : decide ((100 : Int) < (n.path.length : Int)) = false := decide_eq_false (by omega)
          have d2 := decide_eq_false hp
          have HP := Lib.hid hp
          have hk2 : IntKind.i64.wrap ((k : Int) + 1) = (k : Int) + 1 := IntWalk.i64_in _ (by omega)
          clear hp
          go_wp2
          go_round
          case rel => exact ⟨k + 1, by have := HK.out; omega, by go_num, few_on HK.out HA.out (by rw [HN.out]; have := HP.out; omega)⟩
          case measure => have := HK.out; simp [intOf]; omega
      · obtain rfl : k = l.length := by omega
        have HD := Lib.hid (show decide (FewN l) = true from decide_eq_true ⟨by have := HL.out; omega, fun n hn => HA.out n (by rw [List.take_length]; exact hn)⟩)
        clear hlt hk
        go_wp2
        go_ret
        exact ⟨ret_bool HD.out.symm, rfl⟩
end Go.Proofs.Ytofapalakpkkpaa
