/- Heads and rows as arrays: headOf, rowOf, stop. -/
import Derived.Test.YtpdeffpmfbplnaaDoorXIMem
import Derived.Test.YtpdeffpmfbplnaaDoorXIMay
namespace Go.Proofs.YtpdeffpmfbplnaaDoor
open Go.ChangeShapes Go.WideShapes Go.ChangeAt Go.RowKit

set_option maxRecDepth 100000 in
theorem rowStop_any (t : Stp) (w : World) : Calls Tryd.prog 71 #[.agg #[.int .i64 t.x, .int .i64 t.y, .int .i64 t.d, .int .i64 t.r, .int .i64 t.u, .int .i64 t.s]] w fun e w' => e = .returned (.agg #[.int .i64 t.x, .int .i64 t.y, .int .i64 t.d, .int .i64 t.r, .int .i64 t.u, .int .i64 t.s]) ∧ Below w.heap.size w w' := by
  go_enter Tryd.func71, Tryd.ntmps71
  go_wp2
  exact bodyPost_ret (v := .agg #[.int .i64 t.x, .int .i64 t.y, .int .i64 t.d, .int .i64 t.r, .int .i64 t.u, .int .i64 t.s]) (by simp [results, Tryd.results71, go_sem]) rfl ⟨rfl, by
    repeat' (first | exact Below.refl _ w | (refine Below.alloc ?_ ?_ _) | (refine Below.setCell ?_ ?_ _) | (simp; omega) | simp)⟩
end Go.Proofs.YtpdeffpmfbplnaaDoor
/- Lines that are made in whatever blocks; what linesOf answers. -/
namespace Go.Proofs.YtpdeffpmfbplnaaDoor
open Go.ChangeShapes Go.WideShapes Go.ChangeAt Go.RowKit

/-- A line that is all of a block. -/
def Fix (w : World) (u : Value) (l : List Int) : Prop := ∃ g e, u = .slice (some ⟨g, 0, none⟩) l.length l.length ∧ w.heap[g]? = some (.cells (ints l).toArray e (0, 0)) ∧ e ≠ 42 ∧ l.length ≤ maxLen
theorem Fix.row {w : World} {u : Value} {l : List Int} (h : Fix w u l) : Row w u (ints l) := by
  obtain ⟨g, e, rfl, hg, _, hm⟩ := h
  refine ⟨by rw [ints_len]; exact hm, _, _, by rw [ints_len], by rw [ints_len]; exact Nat.le_refl _, ⟨hm, by simp⟩, .inr ⟨g, 0, rfl, fun i hi => ?_⟩⟩
  rw [cell_of_row _ _ _ _ _ _ hg]
  simp
theorem Fix.kept {w w' : World} {u : Value} {l : List Int} {row : Option Nat} (h : Fix w u l) (hg : w.grownBy w' row) (hne : ∀ g e c fr, w.heap[g]? = some (.cells c e fr) → e ≠ 42 → row ≠ some g) : Fix w' u l := by
  obtain ⟨g, e, rfl, hb, he, hm⟩ := h
  exact ⟨g, e, rfl, by rw [hg.block g (Array.getElem?_eq_some_iff.1 hb).1 (fun x => hne g e _ _ hb he x.symm)]; exact hb, he, hm⟩
def FixIn (w : World) : List Value → List (List Int) → Prop
  | [], [] => True
  | v :: vs, l :: L => Fix w v l ∧ FixIn w vs L
  | _, _ => False
theorem FixIn.in {w : World} : ∀ {vs : List Value} {L : List (List Int)}, FixIn w vs L → In w vs L
  | [], [], _ => trivial
  | _ :: _, _ :: _, h => ⟨h.1.row, FixIn.in h.2⟩
  | [], _ :: _, h => h.elim
  | _ :: _, [], h => h.elim
theorem FixIn.kept {w w' : World} {row : Option Nat} (hg : w.grownBy w' row) (hne : ∀ g e c fr, w.heap[g]? = some (.cells c e fr) → e ≠ 42 → row ≠ some g) : ∀ {vs : List Value} {L : List (List Int)}, FixIn w vs L → FixIn w' vs L
  | [], [], _ => trivial
  | _ :: _, _ :: _, h => ⟨h.1.kept hg hne, FixIn.kept hg hne h.2⟩
  | [], _ :: _, h => h.elim
  | _ :: _, [], h => h.elim
theorem FixIn.append {w : World} : ∀ {vs : List Value} {L : List (List Int)} {us : List Value} {K : List (List Int)}, FixIn w vs L → FixIn w us K → FixIn w (vs ++ us) (L ++ K)
  | [], [], _, _, _, k => k
  | _ :: _, _ :: _, _, _, h, k => ⟨h.1, FixIn.append h.2 k⟩
  | [], _ :: _, _, _, h, _ => h.elim
  | _ :: _, [], _, _, h, _ => h.elim
/-- Lines that a call has made, each of them all of a block. -/
def MadeLL (w : World) (B : Nat) (v : Value) (L : List (List Int)) : Prop := ∃ vs, w.ownsRow B 42 1 v vs.length vs ∧ FixIn w vs L
theorem MadeLL.is {w : World} {B : Nat} {v : Value} {L : List (List Int)} (h : MadeLL w B v L) : IsLL w v L := by
  obtain ⟨vs, h1, h2⟩ := h
  exact ⟨vs, own_row h1, h2.in⟩
theorem MadeLL.below {w w' : World} {B : Nat} {v : Value} {L : List (List Int)} (h : MadeLL w B v L) (hb : Below w.heap.size w w') : MadeLL w' B v L := by
  obtain ⟨vs, h1, h2⟩ := h
  exact ⟨vs, own_below h1 hb, h2.kept (row := none) ⟨hb.os, hb.tape, hb.output, hb.size, fun k hk _ => hb.block k hk⟩ (fun _ _ _ _ _ _ => by simp)⟩
theorem MadeLL.less {w : World} {B B' : Nat} {v : Value} {L : List (List Int)} (h : MadeLL w B v L) (hB : B' ≤ B) : MadeLL w B' v L := by
  obtain ⟨vs, h1, h2⟩ := h
  exact ⟨vs, own_less h1 hB, h2⟩
theorem MadeLL.shape {w : World} {B : Nat} {v : Value} {L : List (List Int)} (h : MadeLL w B v L) : ∃ a cap, v = .slice a L.length cap := by
  obtain ⟨vs, h1, h2⟩ := h
  rw [h2.in.len] at h1
  exact own_shape h1
/-- The first line, in a list of one. -/
theorem made_one {w : World} {u : Value} {l : List Int} (h : Fix w u l) : MadeLL (w.alloc (.cells #[u] 42)) w.heap.size (.slice (some ⟨w.heap.size, 0, none⟩) 1 1) [l] := by
  have hf : Fix (w.alloc (.cells #[u] 42)) u l := h.kept (World.grownBy_alloc w _ none) (fun _ _ _ _ _ _ => by simp)
  refine ⟨[u], ?_, hf, trivial⟩
  exact World.ownsRow_lit w #[u] 1 (Nat.le_refl _) (by simp [maxLen]) rfl
/-- One more line put behind. -/
theorem app_fix {w : World} {ops : Array Oper} {rest : List Oper} {o : Oper} {a : Act} {Q : Exit → Act → World → Prop} (hgd : o.guard = none) (s x : Operand)
    (ho : o.op = .call { callee := .builtin .append, args := #[s, x], argTypes := #[25, 25] }) (B : Nat) (v : Value) (A : List (List Int)) (hs : a.eval s = v) (W : World) (lv : Value) (hW : w = W.alloc (.cells #[lv] 42)) (hown : MadeLL W B v A)
    (l : List Int) (N : Nat) (hN : W.heap.size = N) (hx : a.eval x = .slice (some ⟨N, 0, none⟩) 1 1) (hl : Fix W lv l) (hlen : A.length ≤ 1000000) (hB : B ≤ W.heap.size)
    (h : ∀ v' w', MadeLL w' B v' (A ++ [l]) → W.grownBy w' v.ownBlock → wpList Tryd.prog ops Q rest (a.put o.dst v') w') : wpList Tryd.prog ops Q (o :: rest) a w := by
  subst hW hN
  obtain ⟨i0, hi, hz0, hz1, hz2⟩ := info_parts infoInts
  obtain ⟨vs, h1, h2⟩ := hown
  have hvl := h2.in.len
  have one : lv.oneCell' = true := by
    obtain ⟨g, e, rfl, _⟩ := hl
    rfl
  refine wpList_append_own_at _ hgd s x 25 ho B 42 i0 _ 1 24 Tryd.underlying25 hi hz0 hz1 hz2 rfl (by decide) v vs.length vs hs (h1.alloc _) ⟨W.heap.size, 0, none⟩ 1 1 [lv] hx rfl (cell_one_new _ _ _) (by simpa using one) (by unfold maxLen; omega) (by omega) (by simp; omega) ?_
  intro v' w' q1 q2 _ _
  have hg := grown_alloc q2
  refine h v' w' ⟨vs ++ [lv], by rw [List.length_append]; exact q1, ?_⟩ hg
  have hall : FixIn W (vs ++ [lv]) (A ++ [l]) := h2.append ⟨hl, trivial⟩
  refine hall.kept hg (fun g e c fr hb he => ?_)
  rcases h1.2 with ⟨rfl, _⟩ | ⟨g', cap, cur, rfl, _, hgg, _⟩
  · simp [Value.ownBlock]
  · simp only [Value.ownBlock, ne_eq, Option.some.injEq]
    rintro rfl
    rw [hb] at hgg
    simp at hgg
    exact he hgg.2.1
theorem fix_new (w : World) (l : List Int) (e : TypeId) (he : e ≠ 42) (hm : l.length ≤ maxLen) : Fix (w.alloc (.cells (ints l).toArray e)) (.slice (some ⟨w.heap.size, 0, none⟩) l.length l.length) l :=
  ⟨_, e, rfl, heap_alloc_new w _, he, hm⟩
theorem lines_take (I : Ins) (k : Nat) (hk : k < I.l.length) : (headI I :: (I.l.take k).map rowS) ++ [rowS (nth I.l k)] = headI I :: (I.l.take (k + 1)).map rowS := by
  rw [List.take_add_one, List.map_append, List.getElem?_eq_getElem hk, List.cons_append]
  unfold nth
  rw [List.getD_eq_getElem?_getD, List.getElem?_eq_getElem hk]
  rfl
end Go.Proofs.YtpdeffpmfbplnaaDoor
/- Whether two instances are the same: slices.Equal, Same, the document's Same. -/
namespace Go.Proofs.YtpdeffpmfbplnaaDoor
open Go.ChangeShapes Go.WideShapes Go.ChangeAt Go.RowKit

theorem nth_take_on {A B : List Stp} {k : Nat} (hk : k < A.length) (hl : A.length = B.length) (h : A.take k = B.take k) (hx : nth A k = nth B k) : A.take (k + 1) = B.take (k + 1) :=
  take_on (d := (⟨0, 0, 0, 0, 0, 0⟩ : Stp)) hl hk h hx
end Go.Proofs.YtpdeffpmfbplnaaDoor
/- inst.Same, and the document's. -/
namespace Go.Proofs.YtpdeffpmfbplnaaDoor
open Go.ChangeShapes Go.WideShapes Go.ChangeAt Go.RowKit

theorem headEq_iff (I J : Ins) : decide (I = J) = (decide (I.p = J.p ∧ I.c = J.c ∧ I.r = J.r) && decide (I.l = J.l)) := by
  rw [Bool.eq_iff_iff]
  simp only [Bool.and_eq_true, decide_eq_true_iff, ← Ins.eq_iff I J]
  constructor
  · rintro ⟨a, b, c, d⟩; exact ⟨⟨a, b, c⟩, d⟩
  · rintro ⟨⟨a, b, c⟩, d⟩; exact ⟨a, b, c, d⟩
def cellsTwo (N M : Nat) (I J : Ins) (v u : Value) : List (Addr × Value) := [(⟨N, 0, none⟩, .int .i64 I.p), (⟨N, 1, none⟩, .int .i64 I.c), (⟨N, 2, none⟩, .int .i64 I.r), (⟨N, 3, none⟩, v), (⟨M, 0, none⟩, .int .i64 J.p), (⟨M, 1, none⟩, .int .i64 J.c), (⟨M, 2, none⟩, .int .i64 J.r), (⟨M, 3, none⟩, u)]
theorem holds_two (w : World) (I J : Ins) (v u : Value) : Holds (cellsTwo w.heap.size (w.heap.size + 1) I J v u) ((w.alloc (boxI I v)).alloc (boxI J u)) := by
  have h1 := Holds.below (M := w.heap.size + 1) (((Below.refl _ (w.alloc (boxI I v))).alloc (by simp) (boxI J u))) (holds_box w I v) ⟨by simp, by simp, by simp, by simp, trivial⟩
  have h2 := holds_box (w.alloc (boxI I v)) J u
  rw [show (w.alloc (boxI I v)).heap.size = w.heap.size + 1 by simp] at h2
  simp only [cellsI, Holds] at h1 h2
  obtain ⟨a0, a1, a2, a3, _⟩ := h1
  obtain ⟨b0, b1, b2, b3, _⟩ := h2
  exact ⟨a0, a1, a2, a3, b0, b1, b2, b3, trivial⟩
theorem lows_two {M N K : Nat} {I J : Ins} {v u : Value} (h1 : N < M) (h2 : K < M) : Lows M (cellsTwo N K I J v u) := ⟨h1, h1, h1, h1, h2, h2, h2, h2, trivial⟩
end Go.Proofs.YtpdeffpmfbplnaaDoor
/- What wellFormed answers. -/
namespace Go.Proofs.YtpdeffpmfbplnaaDoor
open Go.ChangeShapes Go.WideShapes Go.ChangeAt Go.RowKit

theorem wf_first {L : List (List Int)} (h : wf L = true) : 0 < L.length ∧ (L.getD 0 []).length = 3 := by
  unfold wf at h
  rw [decide_eq_true_iff] at h
  exact ⟨List.length_pos_iff.2 h.1, h.2.1⟩
theorem wf_at {L : List (List Int)} (h : wf L = true) (k : Nat) (h1 : 1 ≤ k) (hk : k < L.length) : (L.getD k []).length = 6 := by
  unfold wf at h
  rw [decide_eq_true_iff] at h
  refine h.2.2 _ ?_
  obtain ⟨j, rfl⟩ : ∃ j, k = j + 1 := ⟨k - 1, by omega⟩
  rw [List.getD_eq_getElem?_getD, List.getElem?_eq_getElem hk]
  match L, hk with
  | a :: R, hk => simp
theorem wf_mk {L : List (List Int)} (h0 : 0 < L.length) (h1 : (L.getD 0 []).length = 3) (h2 : ∀ k, 1 ≤ k → k < L.length → (L.getD k []).length = 6) : wf L = true := by
  unfold wf
  rw [decide_eq_true_iff]
  refine ⟨List.length_pos_iff.1 h0, h1, fun l hl => ?_⟩
  obtain ⟨i, hi, rfl⟩ := List.getElem_of_mem hl
  have := h2 (i + 1) (by omega) (by simp at hi; omega)
  rw [List.getD_eq_getElem?_getD, List.getElem?_eq_getElem (by simp at hi; omega)] at this
  simpa using this
theorem wf_no0 {L : List (List Int)} (h : L.length = 0) : wf L = false := by
  cases hw : wf L with
  | false => rfl
  | true => have := wf_first hw; omega
theorem wf_no1 {L : List (List Int)} (h : (L.getD 0 []).length ≠ 3) : wf L = false := by
  cases hw : wf L with
  | false => rfl
  | true => exact absurd (wf_first hw).2 h
theorem wf_no2 {L : List (List Int)} (k : Nat) (h1 : 1 ≤ k) (hk : k < L.length) (h : (L.getD k []).length ≠ 6) : wf L = false := by
  cases hw : wf L with
  | false => rfl
  | true => exact absurd (wf_at hw k h1 hk) h
theorem IsLL.cap {w : World} {a : Option Addr} {n cap : Nat} {L : List (List Int)} (h : IsLL w (.slice a n cap) L) : L.length ≤ cap := by
  obtain ⟨vs, h1, h2⟩ := h
  obtain ⟨_, a', cap', hv, hc', _⟩ := h1
  rw [h2.len] at *
  simp at hv
  omega
set_option maxRecDepth 1000000 in
set_option maxHeartbeats 1000000 in
theorem wellFormed_any {w : World} {lv : Value} {L : List (List Int)} (h : IsLL w lv L) :
    Calls Tryd.prog 45 #[lv] w fun e w' => e = .returned (.bool (wf L)) ∧ w = w' := by
  have H := Lib.hid h
  obtain ⟨a, cap, rfl, hm⟩ := h.form
  have hm1 : L.length ≤ 9223372036854775807 := by unfold maxLen at hm; omega
  clear h hm
  by_cases h0 : L.length = 0
  · have HD := Lib.hid (wf_no0 h0)
    have d1 : ((L.length : Int) == 0) = true := by simp [h0]
    clear h0
    go_enter Tryd.func45, Tryd.ntmps45
    go_wp2
    go_ret
    exact ⟨ret_bool HD.out.symm, rfl⟩
  have d1 : ((L.length : Int) == 0) = false := by rw [beq_eq_false_iff_ne]; omega
  have hpos : (0 : Int) < (L.length : Int) := by omega
  have hposn : 0 < L.length := by omega
  obtain ⟨tb, off, a1, n1, c1, rfl, _, hc, hn1, hx1, r1⟩ := ll_at H.out 0 hposn
  rw [Nat.add_zero] at hc
  have HN := Lib.hid hn1
  clear hn1 r1
  by_cases h3 : n1 = 3
  · have HN3 := Lib.hid (show (L.getD 0 []).length = 3 by rw [← HN.out]; exact h3)
    subst h3
    have hcap : (1 : Int) ≤ (L.length : Int) := by omega
    have hcapn : 1 ≤ L.length := by omega
    have hcc := H.out.cap
    by_cases hc1 : cap = 1
    · subst hc1
      have hl1 : L.length = 1 := by omega
      have HD := Lib.hid (wf_mk (by omega) HN3.out (fun k h1 h2 => by omega))
      have HL1 := Lib.hid hl1
      have hl2 : (L.length : Int) - 1 = 0 := by omega
      rw [hl1] at *
      clear hl1 hl2
      go_enter Tryd.func45, Tryd.ntmps45
      go_wp2
      go_loop [18] (fun i => i = .int .i64 0) (fun _ => 0)
      case atStart => exact rfl
      case round =>
        obtain rfl := hrel
        go_wp2
        go_ret
        exact ⟨ret_bool HD.out.symm, rfl⟩
    have hl0 : (0 : Int) ≤ (L.length : Int) - 1 := by omega
    go_enter Tryd.func45, Tryd.ntmps45
    go_wp2
    go_loop [18] (fun i => ∃ k : Nat, k ≤ L.length - 1 ∧ i = .int .i64 k ∧ ∀ j, 1 ≤ j → j < k + 1 → (L.getD j []).length = 6) (fun i => L.length - 1 - (intOf i).toNat)
    case atStart => exact ⟨0, Nat.zero_le _, rfl, fun j _ _ => by omega⟩
    case round =>
      obtain ⟨k, hk, rfl, hall⟩ := hrel
      have HA := Lib.hid hall
      clear hall
      by_cases hlt : k < L.length - 1
      · obtain ⟨tb', off', a2, n2, c2, he, _, hc2, hn2, hx2, r2⟩ := ll_at H.out (k + 1) (by omega)
        simp only [Option.some.injEq, Addr.mk.injEq, and_true] at he
        obtain ⟨rfl, rfl⟩ := he
        rw [show off + (k + 1) = off + 1 + k by omega] at hc2
        have HN2 := Lib.hid hn2
        clear hn2 r2 hc
        by_cases h6 : n2 = 6
        · have HS := Lib.hid (show ∀ j, 1 ≤ j → j < k + 1 + 1 → (L.getD j []).length = 6 from fun j h1 h2 => by
            by_cases hj : j < k + 1
            · exact HA.out j h1 hj
            · obtain rfl : j = k + 1 := by omega
              rw [← HN2.out]; exact h6)
          subst h6
          go_wp2
          go_round
          case rel => exact ⟨k + 1, by omega, by go_num, HS.out⟩
          case measure => simp [intOf]; omega
        · have HD := Lib.hid (wf_no2 (L := L) (k + 1) (by omega) (by omega) (by rw [← HN2.out]; exact h6))
          have d6 : ((n2 : Int) != 6) = true := by simp; omega
          clear h6
          go_wp2
          go_ret
          exact ⟨ret_bool HD.out.symm, rfl⟩
      · have HD := Lib.hid (wf_mk hposn HN3.out (fun j h1 h2 => HA.out j h1 (by omega)))
        obtain rfl : k = L.length - 1 := by omega
        clear hlt hk
        go_wp2
        go_ret
        exact ⟨ret_bool HD.out.symm, rfl⟩
  · have HD := Lib.hid (wf_no1 (L := L) (by rw [← HN.out]; exact h3))
    have d3 : ((n1 : Int) != 3) = true := by simp; omega
    clear h3
    go_enter Tryd.func45, Tryd.ntmps45
    go_wp2
    go_ret
    exact ⟨ret_bool HD.out.symm, rfl⟩
end Go.Proofs.YtpdeffpmfbplnaaDoor
