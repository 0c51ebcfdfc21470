/- Going over the stops that were not even perhaps seen (bound.unseen), for every loop body that keeps the two cells that it reads. -/
import Derived.Test.YtgplajofemencaaGreatXE
import Derived.RangeFuncNested
import Derived.RangeFuncBound
import Derived.RangeFuncCalls
import Derived.RangeFuncLeaves
import Derived.RangeFuncBox
import Derived.Shelf.Abstract
import Derived.Shelf.RegionOpen
import Derived.WalkKit
import Derived.OwnWalkIn
import Derived.TacticsInMore
import Derived.LoopNIn
import Derived.LoopIn
namespace Go.Proofs.YtgplajofemencaaGreat
open Go.ChangeShapes Go.WideShapes Go.ChangeAt Go.RowKit Go.Shelf

attribute [local go_sem] Oper.semAt_some

/-- The stops, less one, that are not in m, of the first k. -/
def unsK (m k : Nat) : List Nat := (List.range k).filter (fun i : Nat => !has m ((i : Int) + 1))
theorem unsK_yes {m k : Nat} (h : has m ((k : Int) + 1) = true) : unsK m (k + 1) = unsK m k := by
  unfold unsK; rw [List.range_succ, List.filter_append]; simp [h]
theorem unsK_no {m k : Nat} (h : has m ((k : Int) + 1) = false) : unsK m (k + 1) = unsK m k ++ [k] := by
  unfold unsK; rw [List.range_succ, List.filter_append]; simp [h]
theorem unsK_len (m k : Nat) : (unsK m k).length ≤ k := by
  unfold unsK
  exact Nat.le_trans (List.length_filter_le _ _) (by simp)
/-- What a round that goes on keeps: the two cells. -/
def Kp2 (Bp Bm : Nat) (X Y : World) : Prop := ∀ v, (Boxed X Bp 3 v → Boxed Y Bp 3 v) ∧ (Boxed X Bm 25 v → Boxed Y Bm 25 v)
theorem kp2_t {Bp Bm : Nat} {A B C : World} (h : Kp2 Bp Bm A B) (k : Kp2 Bp Bm B C) : Kp2 Bp Bm A C := fun v => ⟨fun x => (k v).1 ((h v).1 x), fun x => (k v).2 ((h v).2 x)⟩
theorem kp2_b {Bp Bm : Nat} (W : World) (l : Nat) (o o' : Obj) (h : W.heap[l]? = some o) (hc : o.isCells = false) : Kp2 Bp Bm W (W.putObj l o') := by
  have e : ∀ (B : Nat) (t : TypeId) (v : Value), Boxed W B t v → Boxed (W.putObj l o') B t v := fun B t v hb =>
    hb.kept (grownBy_putObj' W l o') (fun e => by
      cases e
      rw [show W.heap[l]? = _ from hb] at h
      cases h; cases hc)
  exact fun v => ⟨e _ _ v, e _ _ v⟩
theorem kp2_same {Bp Bm : Nat} {X Y : World} (h1 : Y.heap[Bp]? = X.heap[Bp]?) (h2 : Y.heap[Bm]? = X.heap[Bm]?) : Kp2 Bp Bm X Y := fun _ => ⟨fun h => h1.trans h, fun h => h2.trans h⟩

set_option maxRecDepth 100000 in
set_option maxHeartbeats 2000000 in
theorem uns1_in (n p l Bp Bm m : Nat) (hp : p ≤ 16) (hm : m < 18446744073709551616) (J Jx : List (Fin (2 * p)) → World → Prop)
    (hY : ∀ pre x W, J pre W → pre.length < 2 * p → YieldAt Fence.wide (n - 1) Tryz.prog l #[.int .i64 ((x.val : Int) + 1)] W fun e W' =>
      (e = .returned (.bool true) ∧ J (pre ++ [x]) W' ∧ Kp2 Bp Bm W W') ∨ (e = .returned (.bool false) ∧ Jx (pre ++ [x]) W'))
    (W : World) (hBp : Boxed W Bp 3 (.int .i64 p)) (hBm : Boxed W Bm 25 (.int .u64 m)) (h0 : J [] W) :
    CallsIn Fence.wide n Tryz.prog 148 #[.func (.yield l) #[] #[], .pointer (some ⟨Bp, 0, none⟩), .pointer (some ⟨Bm, 0, none⟩)] W fun e W' => (∃ v, e = .returned v) ∧
      ((∃ ys : List (Fin (2 * p)), ys.map Fin.val = unsK m (2 * p) ∧ J ys W') ∨ (∃ pre, True ∧ Jx pre W')) := by
  have HY := Lib.hid hY
  have e1 : IntKind.i64.wrap (2 * (p : Int)) = 2 * (p : Int) := IntWalk.i64_in _ (by omega)
  have HP := Lib.hid hp
  have HM := Lib.hid hm
  clear hY hp hm
  refine callsIn_of_wp Tryz.func148 rfl trivial ?_ rfl
  simp only [Tryz.ntmps148, List.size_toArray, List.length_cons, List.length_nil, Nat.reduceAdd, Nat.reduceSub, Array.replicate_succ, Array.replicate_zero, List.push_toArray, List.append_toArray, List.nil_append, List.cons_append]
  gi_wp2_with fail
  gi_loopw [4] (fun i wr => ∃ (k : Nat) (pre : List (Fin (2 * p))), k ≤ 2 * p ∧ i = .int .i64 ((k : Int) + 1) ∧ pre.map Fin.val = unsK m k ∧ J pre wr ∧ Boxed wr Bp 3 (.int .i64 p) ∧ Boxed wr Bm 25 (.int .u64 m)) (fun i _ => 2 * p + 1 - (intOf i).toNat)
  case atStart => exact ⟨0, [], Nat.zero_le _, rfl, rfl, h0, hBp, hBm⟩
  case round =>
    obtain ⟨k, pre, hk, rfl, hpre, hJ, hp1, hm1⟩ := hrel
    have x1 := hp1.cell
    have x2 := hm1.cell
    by_cases hlt : k < 2 * p
    · have d1 : decide ((k : Int) + 1 ≤ 2 * (p : Int)) = true := decide_eq_true (by omega)
      have HK := Lib.hid hlt
      have HPre := Lib.hid hpre
      have HJ := Lib.hid hJ
      have HBP := Lib.hid hp1
      have HBM := Lib.hid hm1
      have hw : IntKind.i64.wrap ((k : Int) + 1 + 1) = (k : Int) + 1 + 1 := IntWalk.i64_in _ (by have := HP.out; omega)
      clear hlt hk hpre hJ hp1 hm1
      gi_wp2_with fail
      refine ⟨trivial, (fun h => by cases h), ?_⟩
      refine (callsIn_wide.2 (ehas_any m _ wr HM.out)).mono ?_
      rintro e w' ⟨rfl, rfl⟩
      by_cases hh : has m ((k : Int) + 1) = true
      · rw [hh]
        have HN := Lib.hid (unsK_yes hh)
        clear hh
        gi_wp2_with fail
        refine ⟨fun _ h => (by cases h), ?_⟩
        gi_wp2_with fail
        go_roundw
        case rel => exact ⟨k + 1, pre, by have := HK.out; omega, by go_num, by rw [HPre.out, HN.out], HJ.out, HBP.out, HBM.out⟩
        case measure => have := HK.out; simp [intOf]; omega
      · have hh2 : has m ((k : Int) + 1) = false := by simpa using hh
        rw [hh2]
        have HN := Lib.hid (unsK_no hh2)
        clear hh hh2
        have hpl : pre.length < 2 * p := by
          have h1 := congrArg List.length HPre.out
          rw [List.length_map] at h1
          have h2 := unsK_len m k
          have h3 := HK.out
          omega
        obtain ⟨fn, tmps, assign, body, hy, hR⟩ := HY.out pre ⟨k, HK.out⟩ wr HJ.out hpl
        dsimp only at hy
        clear hpl
        gi_wp2_with fail
        refine ⟨(fun h => by cases h), hR.mono ?_⟩
        rintro e W3 (⟨rfl, hJ3, hk3⟩ | ⟨rfl, hJx3⟩)
        · have hp3 := (hk3 _).1 HBP.out
          have hm3 := (hk3 _).2 HBM.out
          have HJ3 := Lib.hid hJ3
          have HP3 := Lib.hid hp3
          have HM3 := Lib.hid hm3
          clear hJ3 hk3 hp3 hm3
          gi_wp2_with fail
          go_roundw
          case rel => exact ⟨k + 1, pre ++ [⟨k, HK.out⟩], by have := HK.out; omega, by go_num, by rw [List.map_append, HPre.out, HN.out]; rfl, HJ3.out, HP3.out, HM3.out⟩
          case measure => have := HK.out; simp [intOf]; omega
        · have HX3 := Lib.hid hJx3
          clear hJx3
          gi_wp2
          refine bodyPost_ret (results_none rfl _ _ _) rfl ?_
          exact ⟨⟨_, rfl⟩, .inr ⟨_, trivial, HX3.out⟩⟩
    · have HK := Lib.hid (show k = 2 * p by omega)
      have d1 : decide ((k : Int) + 1 ≤ 2 * (p : Int)) = false := decide_eq_false (by omega)
      clear hlt hk
      gi_wp2
      go_end0
      refine ⟨⟨_, rfl⟩, .inl ⟨pre, ?_, hJ⟩⟩
      rw [hpre, HK.out]
end Go.Proofs.YtgplajofemencaaGreat
