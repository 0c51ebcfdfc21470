/- What going over a set's stops hands on (set.stops), for every loop body that keeps what lay before; and what set.All answers: a new list of all stops, rising. -/
import Derived.Test.YtbpledppckmclaaDoorTz
import Derived.RangeFuncBox
import Derived.RangeFuncLeaves
import Derived.Shelf.Abstract
import Derived.WalkKit
import Derived.OwnWalkIn
import Derived.TacticsInMore
import Derived.LoopNIn
import Derived.LoopIn
import Derived.Maps.AppendAt
namespace Go.Proofs.YtbpledppckmclaaDoor
open Go.ChangeShapes Go.WideShapes Go.ChangeAt Go.RowKit Go.Shelf

attribute [local go_sem] Oper.semAt_some

theorem drop_getD (L : List Int) (k : Nat) (h : k < L.length) : L.drop k = L.getD k 0 :: L.drop (k + 1) := by
  rw [List.drop_eq_getElem_cons h]
  simp [List.getD, h]
theorem take_getD (L : List Int) (k : Nat) (h : k < L.length) : L.take (k + 1) = L.take k ++ [L.getD k 0] := by
  rw [List.take_succ_eq_append_getElem h]
  simp [List.getD, h]
/-- One step over a set's stops. -/
theorem step_all (s k : Nat) (h : k < (allN s).length) :
    ofN ((allN s).drop k) ≠ 0 ∧ ((Lib.ctz 64 (ofN ((allN s).drop k)) : Nat) : Int) = (allN s).getD k 0 ∧ minus (ofN ((allN s).drop k)) (bitN ((allN s).getD k 0)) = ofN ((allN s).drop (k + 1)) := by
  rw [drop_getD _ k h]
  have hd : (allN s).getD k 0 :: (allN s).drop (k + 1) = (allN s).drop k := (drop_getD _ k h).symm
  refine next_stop _ _ ?_ ?_
  · rw [hd]; exact (allN_rises s).drop
  · rw [hd]; exact fun i hi => allN_stop s i (List.mem_of_mem_drop hi)

set_option maxRecDepth 100000 in
set_option maxHeartbeats 2000000 in
theorem stops1_in (n : Nat) (l Bs n₀ s : Nat) (hs : s < 18446744073709551616) (h0n : 0 < n₀) (J Jx : List Int → World → Prop)
    (hY : ∀ pre x W, J pre W → pre.length < (allN s).length → YieldAt Fence.wide (n - 1) Tryd.prog l #[.int .i64 x] W fun e W' =>
      (e = .returned (.bool true) ∧ J (pre ++ [x]) W' ∧ Below n₀ W W') ∨ (e = .returned (.bool false) ∧ Jx (pre ++ [x]) W'))
    (W : World) (hBs : W.cell? ⟨Bs, 0, none⟩ = some (.int .u64 s)) (hT : TabAt W) (h0 : J [] W) :
    CallsIn Fence.wide n Tryd.prog 22 #[.func (.yield l) #[] #[], .pointer (some ⟨Bs, 0, none⟩)] W fun e W' => (∃ v, e = .returned v) ∧
      ((∃ ys, ys = allN s ∧ J ys W') ∨ (∃ pre, pre <+: allN s ∧ Jx pre W')) := by
  have HLen := Lib.hid (len_any s W hs)
  have HO := Lib.hid (of_all s hs)
  have HL := Lib.hid (cnt_all s)
  have hle := cnt_le s
  have HSt := Lib.hid (step_all s)
  have HBd := Lib.hid (allN_stop s)
  have HT := Lib.hid hT
  have HY := Lib.hid hY
  clear hT hY
  generalize cnt s = c at *
  generalize allN s = L at *
  refine callsIn_of_wp Tryd.func22 rfl trivial ?_ rfl
  simp only [Tryd.ntmps22, List.size_toArray, List.length_cons, List.length_nil, Nat.reduceAdd, Nat.reduceSub, Array.replicate_succ, Array.replicate_zero, List.push_toArray, List.append_toArray, List.nil_append, List.cons_append]
  gi_wp2_with fail
  refine ⟨trivial, (fun h => by cases h), ?_⟩
  refine (callsIn_wide.2 HLen.out).mono ?_
  rintro e w' ⟨rfl, rfl⟩
  gi_wp2_with fail
  gi_loopw [3, 8] (fun r i wr => ∃ k : Nat, k ≤ c ∧ i = .int .i64 k ∧ r = .int .u64 (ofN (L.drop k)) ∧ J (L.take k) wr ∧ Below n₀ W wr) (fun _ i _ => c - (intOf i).toNat)
  case atStart => exact ⟨0, Nat.zero_le _, rfl, by rw [List.drop_zero, HO.out], h0, Below.refl _ _⟩
  case round =>
    obtain ⟨k, hk, rfl, rfl, hJs, hnx⟩ := hrel
    have hol := ofN_lt (L.drop k)
    by_cases hlt : k < c
    · have hkl : k < L.length := by have := HL.out; omega
      obtain ⟨s0, s1, s2⟩ := HSt.out k hkl
      have hJx := take_getD L k hkl
      have hpre : L.take (k + 1) <+: L := List.take_prefix _ _
      have S0 := Lib.hid s0
      have S1 := Lib.hid s1
      have S2 := Lib.hid s2
      have HX := Lib.hid hJx
      have HP := Lib.hid hpre
      have hbd := HBd.out (L.getD k 0) (by rw [List.getD_eq_getElem?_getD, List.getElem?_eq_getElem hkl]; exact List.getElem_mem hkl)
      obtain ⟨x1, x2⟩ := hbd
      have hTr : TabAt wr := fun j hj => (hnx.cell (p := ⟨0, j, none⟩) h0n).trans (HT.out j hj)
      have HTr := Lib.hid hTr
      have HN := Lib.hid hnx
      obtain ⟨fn, tmps, assign, body, hy, hR⟩ := HY.out (L.take k) (L.getD k 0) wr hJs (by rw [List.length_take]; omega)
      clear s0 s1 s2 hJx hpre hTr hnx hkl
      generalize L.getD k 0 = x at *
      generalize ofN (L.drop k) = r at *
      gi_wp2_with fail
      refine ⟨trivial, (fun h => by cases h), ?_⟩
      refine (callsIn_wide.2 (tz_any _ _ S0.out hol HTr.out)).mono ?_
      rw [S1.out]
      rintro e w' ⟨rfl, rfl⟩
      gi_wp2_with fail
      refine ⟨(fun h => by cases h), hR.mono ?_⟩
      rintro e W3 (⟨rfl, hJ3, hk3⟩ | ⟨rfl, hJx3⟩)
      · gi_wp2_with fail
        refine ⟨trivial, (fun h => by cases h), ?_⟩
        refine (callsIn_wide.2 (without_any _ _ _ hol)).mono ?_
        rw [S2.out]
        rintro e w' ⟨rfl, rfl⟩
        gi_wp2
        go_roundw
        case rel => exact ⟨k + 1, by omega, by go_num, rfl, by rw [HX.out]; exact hJ3, HN.out.trans hk3⟩
        case measure => simp [intOf]; omega
      · gi_wp2
        refine bodyPost_ret (results_none rfl _ _ _) rfl ?_
        exact ⟨⟨_, rfl⟩, .inr ⟨_, HP.out, by rw [HX.out]; exact hJx3⟩⟩
    · obtain rfl : c = k := by omega
      gi_wp2
      go_end0
      refine ⟨⟨_, rfl⟩, .inl ⟨_, rfl, ?_⟩⟩
      rw [← HL.out, List.take_length] at hJs
      exact hJs

theorem stops_any (s : Nat) (w : World) :
    Calls Tryd.prog 17 #[.int .u64 s] w fun e w' => e = .returned (.func (.func 22) #[] #[.pointer (some ⟨w.heap.size, 0, none⟩)]) ∧ w.alloc (.cells #[.int .u64 s] 22) = w' := by
  go_enter Tryd.func17, Tryd.ntmps17
  go_wp2
  go_ret
  exact ⟨rfl, rfl⟩
theorem stops_stops (n : Nat) (Bs n₀ s : Nat) (hs : s < 18446744073709551616) (h0n : 0 < n₀) (w : World) (hBs : Bs < w.heap.size) (h0w : 0 < w.heap.size) (hc : w.cell? ⟨Bs, 0, none⟩ = some (.int .u64 s)) (hT : TabAt w) :
    SeqStopsK Fence.wide n Tryd.prog 22 #[.pointer (some ⟨Bs, 0, none⟩)] (fun x : Int => #[Value.int .i64 x]) (Below n₀) (fun ys => ys = allN s) (fun pre => pre <+: allN s) (allN s).length w := fun l J Jx W hW _ _ hY h0 =>
  stops1_in n l Bs n₀ s hs h0n J Jx hY W ((hW.cell (p := ⟨Bs, 0, none⟩) hBs).trans hc) (fun j hj => (hW.cell (p := ⟨0, j, none⟩) h0w).trans (hT j hj)) h0

set_option maxRecDepth 100000 in
set_option maxHeartbeats 2000000 in
theorem all_in (n : Nat) (h1 : 1 ≤ n) (s : Nat) (w : World) (hs : s < 18446744073709551616) (hT : TabAt w) :
    CallsIn Fence.wide n Tryd.prog 8 #[.int .u64 s] w (NewList (allN s) w) := by
  obtain ⟨i0, hi, hz0, hz1, hz2⟩ := info_parts info3
  have hle := cnt_le s
  have h0w : 0 < w.heap.size := by
    rcases Nat.eq_zero_or_pos w.heap.size with h | h
    · have := hT 0 (by decide)
      have e : w.heap[0]? = none := Array.getElem?_eq_none (by omega)
      simp [World.cell?, e] at this
    · exact h
  have HT := Lib.hid hT
  clear hT
  refine callsIn_of_wp_marks Tryd.func8 rfl trivial ?_ rfl
  simp only [Tryd.ntmps8, List.size_toArray, List.length_cons, List.length_nil, Nat.reduceAdd, Nat.reduceSub, Array.replicate_succ, Array.replicate_zero, List.push_toArray, List.append_toArray, List.nil_append, List.cons_append]
  gi_wp2_with fail
  refine ⟨trivial, ?_⟩
  refine (callsIn_wide.2 (len_any s w hs)).mono ?_
  rintro e w' ⟨rfl, rfl⟩
  have HC := Lib.hid (cnt_all s)
  generalize cnt s = c at *
  gi_wp2_with (gi_at_make; refine wpListIn_make_own _ rfl _ _ 24 rfl w.heap.size 3 i0 (.int .i64 0) 1 Tryd.underlying24 hi hz0 hz1 .i64 .i64 _ c rfl rfl rfl (by rw [hz2]; omega) (by unfold maxLen; omega) (Nat.le_refl _) ?_; intro w0 hown0 hgrow0; have HO0 := Lib.hid hown0; have HG0 := Lib.hid hgrow0; clear hown0 hgrow0)
  refine ⟨trivial, ?_⟩
  refine (callsIn_wide.2 (stops_any s _)).mono ?_
  rintro e w' ⟨rfl, rfl⟩
  gi_wp2_with fail
  have hgs : w.heap.size ≤ w0.heap.size := HG0.out.size
  have bO := Boxed.new w0 24 (.slice (some ⟨w.heap.size, 0, none⟩) 0 c)
  have bN := Boxed.new (w0.alloc (.cells #[.slice (some ⟨w.heap.size, 0, none⟩) 0 c] 24)) 22 (.int .u64 s)
  rw [World.size_alloc] at bN
  have hB0 : Below w.heap.size w ((w0.alloc (.cells #[.slice (some ⟨w.heap.size, 0, none⟩) 0 c] 24)).alloc (.cells #[.int .u64 s] 22)) :=
    (((Below.refl _ w).grown HG0.out (Nat.le_refl _) (fun k h => by cases h)).alloc hgs _).alloc (by simp; omega) _
  refine wpIn_rangeFunc_ownG rfl h1 (gf := 22) (lb := #[.pointer (some ⟨w0.heap.size + 1, 0, none⟩)]) rfl trivial (enters_of Tryd.func22 (by kernel_rfl) rfl)
    (stops_stops (n - 1) (w0.heap.size + 1) w.heap.size s hs h0w _ (by simp) (by simp) bN.cell (tab_later hB0 HT.out)) belowK_t (belowK_b (by simp; omega)) (Below.refl _ _) (fun _ => rfl)
    (fun pre W => (∃ v, Boxed W w0.heap.size 24 v ∧ W.ownsRow w.heap.size 3 1 v pre.length (vals pre) ∧ True) ∧ Below w.heap.size w W)
    (fun _ _ _ => False)
    (OwnFrom.and (Own.from (holdsRow_own w.heap.size w0.heap.size 24 3 1 (fun pre => pre.length) (fun pre => vals pre) (fun _ _ => True)) _) (ownFrom_below (Nat.le_refl _) (by simp; omega)))
    (fun _ _ _ _ _ hs _ _ => hs)
    ⟨⟨_, bO.alloc _, (HO0.out.alloc _).alloc _, trivial⟩, hB0⟩
    (fun x => { tmps := #[.int .u64 s, undef, .slice none 0 0, .pointer (some ⟨w0.heap.size, 0, none⟩), .int .i64 x, .int .u64 s, .int .i64 c, .slice (some ⟨w.heap.size, 0, none⟩) 0 c, .int .u64 s, .func (.func 22) #[] #[.pointer (some ⟨w0.heap.size + 1, 0, none⟩)], .int .i64 x, undef, undef, undef, undef, undef], defers := [] }) ?assign ?body ?done ?stop
  case assign =>
    intro l x W K hK
    gi_wp2
    exact hK
  case body =>
    rintro l pre x W ⟨⟨v, hv, hrow, -⟩, hB⟩ hlt
    have hc := hv.cell
    have hlc : pre.length < 64 := by have := HC.out; omega
    gi_wp2_with (gi_at_builtin; refine wpListIn_append_own _ rfl _ _ 24 rfl w.heap.size 3 i0 (.int .i64 0) 1 8 Tryd.underlying24 hi hz0 hz1 hz2 rfl (by decide) _ _ _ rfl (hrow.alloc _) ⟨W.heap.size, 0, none⟩ 1 1 [.int .i64 x] rfl rfl (cell_one_new _ _ _) (by simp [Value.oneCell']) (by unfold maxLen; omega) (by omega) (by have := hB.size; simp; omega) ?_; intro v' w1 hown' hgrow _; obtain ⟨g', cap', rfl⟩ := ownsRow_succ hown'; obtain ⟨hv1, hv2, hr2, hk2, hb2⟩ := hv.appended (by decide) hrow hB.size hgs hown' hgrow; have hc1 := hv1.cell; have hf1 := hv1.frozen)
    exact ⟨hk2.from _, hb2, ⟨_, hv2, by unfold vals at *; simpa using hr2, trivial⟩, hB.trans hb2⟩
  case done =>
    rintro D ys W hD rfl ⟨⟨v, hv, hrow, -⟩, hB⟩ hK
    have hc := hv.cell
    gi_wp2
    refine ⟨by simp, .inl ⟨_, _, rfl, run_takeDeferred hK, ?_⟩⟩
    exact ⟨_, results_tmp rfl _ _ _, v, rfl, ownsRow_putObj hrow _ hK rfl, hB.trans (belowK_b (w := w) (Nat.le_refl _) W D _ _ (by simp at hD; omega) hK rfl rfl)⟩
  case stop =>
    rintro D c pre W _ _ h _
    exact h.elim

theorem all_any (s : Nat) (w : World) (hs : s < 18446744073709551616) (hT : TabAt w) : Calls Tryd.prog 8 #[.int .u64 s] w (NewList (allN s) w) :=
  callsIn_wide.1 (all_in 3 (by decide) s w hs hT)
end Go.Proofs.YtbpledppckmclaaDoor
