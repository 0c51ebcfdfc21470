/- RelaxTwice holds for all rows of states and numbers: to throw together does not ask for the order, nor how often, nor in which parts; no condition beyond what the statement gives. -/
import Derived.Test.YtclepdnpclmegaaRows
import Derived.Test.YtclepdnpclmegaaRApp
namespace Go.Proofs.Ytclepdnpclmegaa.relaxTwice
open Go.ChangeShapes Go.WideShapes Go.ChangeAt Go.RowKit

def zS : Sta := ⟨0, 0, 0, 0, 0, 0, 0, 0⟩
/-- Each from both ends, so far. -/
def twM (l : List Sta) (k : Nat) : List Sta := (List.range k).flatMap (fun i => [l.getD (l.length - 1 - i) zS, l.getD i zS])
theorem twM_succ (l : List Sta) (k : Nat) : twM l (k + 1) = twM l k ++ [l.getD (l.length - 1 - k) zS, l.getD k zS] := by
  unfold twM
  rw [List.range_succ, List.flatMap_append]
  simp
theorem twM_len (l : List Sta) : ∀ k, (twM l k).length = 2 * k
  | 0 => rfl
  | k + 1 => by rw [twM_succ, List.length_append, twM_len l k]; simp; omega
theorem twM_mem (l : List Sta) (x : Sta) : x ∈ twM l l.length ↔ x ∈ l := by
  unfold twM
  rw [List.mem_flatMap]
  constructor
  · rintro ⟨i, hi, hx⟩
    rw [List.mem_range] at hi
    simp only [List.mem_cons, List.not_mem_nil, or_false] at hx
    rcases hx with rfl | rfl
    · rw [List.getD_eq_getElem?_getD, List.getElem?_eq_getElem (by omega)]; exact List.getElem_mem _
    · rw [List.getD_eq_getElem?_getD, List.getElem?_eq_getElem hi]; exact List.getElem_mem _
  · intro hx
    obtain ⟨i, hi, rfl⟩ := List.mem_iff_getElem.1 hx
    refine ⟨i, List.mem_range.2 hi, ?_⟩
    rw [List.getD_eq_getElem?_getD (i := i), List.getElem?_eq_getElem hi]
    simp
theorem get_some {l : List Sta} {i : Nat} (h : i < l.length) : l[i]? = some (l.getD i zS) := by
  rw [List.getD_eq_getElem?_getD, List.getElem?_eq_getElem h]; rfl
theorem join_sub {A l : List Sta} (hne : A ≠ []) (hs : ∀ x ∈ A, x ∈ l) (h : joinS A = none) : joinS l = none := by
  rw [join_none] at h ⊢
  rcases h with h | ⟨x, hx, y, hy, hn⟩
  · exact absurd h hne
  · exact .inr ⟨x, hs x hx, y, hs y hy, hn⟩
theorem sets_of {l : List Sta} (h : ∀ s ∈ l, SetsOk s) (hq : SetsOk noughtS) : SetsOk (jOf l) := by
  cases hj : joinS l with
  | none => rw [jOf_none hj]; exact hq
  | some u => rw [jOf_some hj]; exact of_fits (join_is (fun x hx => fits_of (h x hx)) hj).1
theorem nought_sets : SetsOk noughtS := by unfold SetsOk noughtS; decide
theorem jOf_eq {l m : List Sta} (h : joinS l = joinS m) : jOf l = jOf m := by unfold jOf; rw [h]
set_option maxRecDepth 1000000 in
set_option maxHeartbeats 4000000 in
theorem walk (v0 : Value) (l0 : List Sta) (a1 : Int) (w : World) (e0 : ARow w v0 l0) (f0 : ∀ s ∈ l0, SetsOk s) :
    Calls Try.prog 7 #[v0, .int .i64 a1] w fun e w' => e = .returned (.bool true) ∧ Below w.heap.size w w' := by
  have HR0 := Lib.hid e0
  have HF := Lib.hid f0
  obtain ⟨ad, cap, rfl, hlm, hlc, hcm⟩ := e0.form
  unfold maxLen at hlm hcm
  clear e0 f0
  go_enter Try.func7, Try.ntmps7
  go_wp2_with fail
  refine (xawake_any _).mono ?_
  rintro e w1 ⟨rfl, hb⟩
  have HB := Lib.hid hb
  clear hb
  by_cases g1 : 30 < l0.length
  · have d1 : decide (30 < (l0.length : Int)) = true := decide_eq_true (by omega)
    have d2 := decide_eq_true g1
    clear g1
    go_wp2
    go_ret
    exact ⟨rfl, HB.out⟩
  have d1 : decide (30 < (l0.length : Int)) = false := decide_eq_false (by omega)
  have d2 := decide_eq_false g1
  have HG1 := Lib.hid g1
  clear g1
  by_cases g2 : a1 < 1
  · have d3 := decide_eq_true g2
    clear g2
    go_wp2
    go_ret
    exact ⟨rfl, HB.out⟩
  have d3 := decide_eq_false g2
  by_cases g3 : (l0.length : Int) ≤ a1
  · have d4 := decide_eq_true g3
    clear g2 g3
    go_wp2
    go_ret
    exact ⟨rfl, HB.out⟩
  have d4 := decide_eq_false g3
  have HG2 := Lib.hid g2
  have HG3 := Lib.hid g3
  clear g2 g3
  go_wp2_with fail
  clear d1 d2 d3 d4
  have g2 := HG2.out
  have g3 := HG3.out
  obtain ⟨c, rfl⟩ : ∃ c : Nat, a1 = c := ⟨a1.toNat, by omega⟩
  have HC0 := Lib.hid (show 1 ≤ c by omega)
  have HC1 := Lib.hid (show c < l0.length by omega)
  have hpos : 0 < l0.length := by omega
  obtain ⟨tb, off, rfl, _, htb⟩ := arow_at HR0.out 0 _ (get_some hpos)
  have HTB := Lib.hid htb
  have HR := HR0
  clear HR0 htb hpos g2 g3 HG2 HG3
  go_loopw [6, 7] (fun v i wr => ∃ k : Nat, k ≤ l0.length ∧ i = .int .i64 k ∧ OwnA wr w.heap.size v (twM l0 k) ∧ Below w.heap.size w wr) (fun _ i _ => l0.length - (intOf i).toNat)
  case atStart => exact ⟨0, Nat.zero_le _, rfl, ownG_nil _ _, HB.out⟩
  case round =>
    obtain ⟨k, hk, rfl, ho, hb⟩ := hrel
    clear HB
    have HO := Lib.hid ho
    have HB := Lib.hid hb
    clear ho hb
    by_cases hlt : k < l0.length
    · have HK := Lib.hid hlt
      have HN := Lib.hid (twM_succ l0 k)
      have HLN := Lib.hid (twM_len l0 k)
      obtain ⟨r, hr⟩ : ∃ r, r = l0.length - 1 - k := ⟨_, rfl⟩
      have hrl : r < l0.length := by omega
      have e1 : IntKind.i64.wrap ((l0.length : Int) - 1) = (l0.length : Int) - 1 := IntWalk.i64_in _ (by omega)
      have e2 : IntKind.i64.wrap ((l0.length : Int) - 1 - (k : Int)) = (r : Int) := by rw [IntWalk.i64_in _ (by omega)]; omega
      have hki : (k : Int) < (l0.length : Int) := by omega
      have hri : (r : Int) < (l0.length : Int) := by omega
      have HX := Lib.hid (get_some hrl)
      have HY := Lib.hid (get_some hlt)
      rw [← hr] at HN
      generalize l0.getD r zS = sx at *
      generalize l0.getD k zS = sy at *
      generalize twM l0 k = M at *
      obtain ⟨ua, uc, rfl⟩ := HO.out.shape
      clear hr hrl hk hlt
      go_upto_region 8 with fail
      have HOd := Lib.hid (HO.out.below (Below.refl _ wr).drew)
      have HBd := Lib.hid HB.out.drew
      clear HO HB
      have HS := Lib.hid (show ∀ w', Below w.heap.size w w' → Holds (cellsR tb (off + r * 8) sx ++ cellsR tb (off + k * 8) sy) w' from fun w' hb' => Holds.app.2 ⟨holds_row (arow_here (HR.out.below hb') r sx HX.out), holds_row (arow_here (HR.out.below hb') k sy HY.out)⟩)
      have HS0 := Lib.hid (HS.out _ HBd.out)
      refine wp_region_held_drew (S := Holds (cellsR tb (off + r * 8) sx ++ cellsR tb (off + k * 8) sy)) (by kernel_rfl) HS0.out (fun hSn => ?_)
      generalize wr.drew = V at *
      have hlt := Lib.hid (show Lows V.heap.size (cellsR tb (off + r * 8) sx ++ cellsR tb (off + k * 8) sy) from Lows.app (lows_R (Nat.lt_of_lt_of_le HTB.out HBd.out.size)) (lows_R (Nat.lt_of_lt_of_le HTB.out HBd.out.size)))
      have Bc := Lib.hid (Below.refl V.heap.size V)
      simp only [cellsR, List.cons_append, List.nil_append] at HS HS0 hlt hSn ⊢
      refine tks [0, 1, 2, 3, 4, 5, 6, 7, 8, 9, 10, 11, 12] 13 rfl (by kernel_rfl) (fun _ _ _ _ h => h) (by assumption) (fun KT hKT => ?_)
      iterate 13 (refine tkT (by (simp only [gA, gB, gC]; rfl)) (by rfl) (by (intro w hSw; (simp only [Holds] at hSw); go_simp <;> with_reducible rfl)) ?_; simp only [Act.put, pA, pB, pC])
      refine hKT _ ?_
      clear KT hKT
      refine wpAnyH_ready (rs := [13]) (by kernel_rfl) (by simp) ?_
      refine AllReadyH.cons (o := ?oz1) ?iz1 (fun K hK => ?kz1) AllReadyH.nil
      case iz1 => (simp only [List.getElem?_toArray, List.getElem?_cons_zero, List.getElem?_cons_succ]; rfl)
      go_simp
      refine held_more hK HS0.out hlt (Bc.out.alloc Bc.out.size _) (fun Bc hSn => ?_)
      refine wpAnyH_ready (rs := [14]) (by kernel_rfl) (by simp) ?_
      refine (AllReadyH.cons (o := ?oz2) ?iz2 (fun K hK => ?kz2) AllReadyH.nil)
      case iz2 => (simp only [List.getElem?_toArray, List.getElem?_cons_zero, List.getElem?_cons_succ]; rfl)
      simp only [Act.put, List.setIfInBounds_toArray, List.set_cons_zero, List.set_cons_succ]
      rw [if_pos (by rfl)]
      have HBC := Lib.hid (HBd.out.trans (Bc.out.mono HBd.out.size))
      have HOC := Lib.hid (HOd.out.below Bc.out)
      refine wp_app_rows encSta Try.underlying25 infoSta rfl (by decide) _ _ (by rfl) w.heap.size _ M (by rfl) HOC.out V.heap.size 2 2 [sx, sy] (by rfl) (grow_block (l := [sx, sy]) encSta (heap_alloc_new V (.cells (gflat stL [sx, sy]).toArray 24)) (by simp [maxLen])) rfl (by decide) (by have := HLN.out; have := HG1.out; have := HK.out; omega) HBC.out.size ?_
      intro v' w5 hown hgrow
      have HNO := Lib.hid hown
      have HB5 := Lib.hid (HBC.out.trans (grown_below hgrow HBC.out.size (fun q hq => (World.ownsRow.lt HOC.out q hq).1)))
      refine hK.out _ _ (HS.out _ HB5.out) (fun hSn => ?_)
      clear hown hgrow hK
      refine tks [15] 1 rfl (by kernel_rfl) (fun _ _ _ _ h => h) (by assumption) (fun KT hKT => ?_)
      refine tkT (by (simp only [gA, gB, gC]; rfl)) (by rfl) (by (intro w hSw; (simp only [Holds] at hSw); go_simp <;> with_reducible rfl)) ?_
      simp only [Act.put, pA, pB, pC]
      refine hKT _ ?_
      clear KT hKT
      refine wpAnyH_done (by kernel_rfl) ?_ _
      go_wp2
      go_roundw
      case rel => exact ⟨k + 1, by have := HK.out; omega, by go_num, by rw [HN.out]; exact HNO.out, HB5.out⟩
      case measure => have := HK.out; simp [intOf]; omega
    · obtain rfl : k = l0.length := by omega
      clear hlt hk
      have HMS := Lib.hid (show joinS (twM l0 l0.length) = joinS l0 from (join_same (fun x hx => fits_of (HF.out x hx)) (fun x => (twM_mem l0 x).symm)).symm)
      have HMF := Lib.hid (show ∀ s ∈ twM l0 l0.length, SetsOk s from fun s hs => HF.out s ((twM_mem l0 s).1 hs))
      have HML := Lib.hid (twM_len l0 l0.length)
      have HOR := Lib.hid (show ARow wr _ _ from HO.out.row)
      clear HO
      generalize twM l0 l0.length = M at *
      obtain ⟨ua, uc, rfl, _⟩ := HOR.out.form
      go_wp2_with fail
      refine (xjoin_any (HR.out.below HB.out) HF.out).mono ?_
      rintro e w2 ⟨rfl, hb⟩
      have HORn := Lib.hid (HOR.out.below hb)
      have HBn := Lib.hid (HB.out.trans (hb.mono HB.out.size))
      clear hb HOR HB
      have HOR := HORn
      have HB := HBn
      clear HORn HBn
      have HJQ := Lib.hid (jOf_eq HMS.out)
      have HJB := Lib.hid (show (joinS M).isSome = (joinS l0).isSome by rw [HMS.out])
      have HPT := Lib.hid (show ∀ a b, joinS (l0.take c) = some a → joinS (l0.drop c) = some b → joinS [a, b] = joinS l0 from fun a b ha hb => by
        have h := join_parts (fun x hx => fits_of (HF.out x (List.mem_of_mem_take hx))) (fun x hx => fits_of (HF.out x (List.mem_of_mem_drop hx))) ha hb
        rw [List.take_append_drop] at h
        exact h)
      have HNA := Lib.hid (show joinS (l0.take c) = none → joinS l0 = none from join_sub (fun h => by have h2 := congrArg List.length h; rw [List.length_take, List.length_nil] at h2; have := HC0.out; have := HC1.out; omega) (fun x hx => List.mem_of_mem_take hx))
      have HNB := Lib.hid (show joinS (l0.drop c) = none → joinS l0 = none from join_sub (fun h => by have h2 := congrArg List.length h; rw [List.length_drop, List.length_nil] at h2; have := HC0.out; have := HC1.out; omega) (fun x hx => List.mem_of_mem_drop hx))
      have HSA := Lib.hid (sets_of (fun s hs => HF.out s (List.mem_of_mem_take hs)) nought_sets : SetsOk (jOf (l0.take c)))
      have HSB := Lib.hid (sets_of (fun s hs => HF.out s (List.mem_of_mem_drop hs)) nought_sets : SetsOk (jOf (l0.drop c)))
      obtain ⟨q, hq⟩ : ∃ q, jOf l0 = q := ⟨_, rfl⟩
      obtain ⟨jl, hjl⟩ : ∃ j, joinS l0 = j := ⟨_, rfl⟩
      have HQ := Lib.hid hq
      have HJL := Lib.hid hjl
      rw [hq, hjl]
      rw [hq] at HJQ
      rw [hjl] at HJB HNA HNB HPT
      clear hq hjl
      rw [show staV q = .agg #[.int .i64 q.pos, .int .i64 q.car, .int .i64 q.time, .int .i64 q.load, .int .i64 q.first, .int .u64 q.must, .int .u64 q.may, .int .u64 q.on] from rfl]
      go_upto_region 10 with fail
      have HP := Lib.hid (st_new w2 q)
      have HORn := Lib.hid (HOR.out.below ((Below.refl _ w2).alloc (Nat.le_refl _) (boxSt q)))
      have HBn := Lib.hid (HB.out.alloc HB.out.size (boxSt q))
      clear HOR HB
      have HOR := HORn
      have HB := HBn
      clear HORn HBn
      change Code.wp _ _ _ _ (w2.alloc (boxSt q))
      generalize w2.alloc (boxSt q) = W3 at *
      generalize w2.heap.size = bp at *
      go_wp2_with fail
      refine (xjoin_any HOR.out HMF.out).mono ?_
      rw [HJQ.out, HJB.out]
      rintro e w4 ⟨rfl, hb⟩
      have HPn := Lib.hid (HP.out.later hb)
      have HBn := Lib.hid (HB.out.trans (hb.mono HB.out.size))
      clear hb HP HB
      have HP := HPn
      have HB := HBn
      clear HPn HBn
      rw [show staV q = .agg #[.int .i64 q.pos, .int .i64 q.car, .int .i64 q.time, .int .i64 q.load, .int .i64 q.first, .int .u64 q.must, .int .u64 q.may, .int .u64 q.on] from rfl]
      go_upto_region 11 with fail
      have HP2 := Lib.hid (st_new w4 q)
      have HPn := Lib.hid (HP.out.later ((Below.refl _ w4).alloc (Nat.le_refl _) (boxSt q)))
      have HBn := Lib.hid (HB.out.alloc HB.out.size (boxSt q))
      clear HP HB
      have HP := HPn
      have HB := HBn
      clear HPn HBn
      change Code.wp _ _ _ _ (w4.alloc (boxSt q))
      generalize w4.alloc (boxSt q) = W5 at *
      generalize w4.heap.size = bp2 at *
      have hc0 := HC0.out
      have hc1 := HC1.out
      have ij0 : (0 : Int) ≤ (c : Int) := by omega
      have ij1 : (c : Int) ≤ (cap : Int) := by omega
      have ij2 : (c : Int) ≤ (l0.length : Int) := by omega
      have ij3 : (l0.length : Int) ≤ (cap : Int) := by omega
      have ij4 : c ≤ cap := by omega
      have ij5 : c ≤ l0.length := by omega
      have ij6 : ¬ cap = c := by omega
      have HIF := Lib.hid (show (some ⟨tb, off + c * 8, none⟩ : Option Addr) = (if cap = c then some ⟨tb, off, none⟩ else some ⟨tb, off + c * 8, none⟩) from (if_neg ij6).symm)
      clear hc0 hc1
      go_wp2_with fail
      refine (xjoin_any (ARow.head (HR.out.below HB.out) c (Nat.le_of_lt HC1.out)) (fun s hs => HF.out s (List.mem_of_mem_take hs))).mono ?_
      rintro e w6 ⟨rfl, hb⟩
      have HPn := Lib.hid (HP.out.later hb)
      have HP2n := Lib.hid (HP2.out.later hb)
      have HBn := Lib.hid (HB.out.trans (hb.mono HB.out.size))
      clear hb HP HP2 HB
      have HP := HPn
      have HP2 := HP2n
      have HB := HBn
      clear HPn HP2n HBn
      obtain ⟨qa, hqa⟩ : ∃ q, jOf (l0.take c) = q := ⟨_, rfl⟩
      obtain ⟨ja, hja⟩ : ∃ j, joinS (l0.take c) = j := ⟨_, rfl⟩
      have HQA := Lib.hid hqa
      have HJA := Lib.hid hja
      rw [hqa, hja]
      rw [hqa] at HSA
      rw [hja] at HNA HPT
      clear hqa hja
      rw [show staV qa = .agg #[.int .i64 qa.pos, .int .i64 qa.car, .int .i64 qa.time, .int .i64 qa.load, .int .i64 qa.first, .int .u64 qa.must, .int .u64 qa.may, .int .u64 qa.on] from rfl]
      go_upto_region 12 with fail
      have HP3 := Lib.hid (st_new w6 qa)
      have HPn := Lib.hid (HP.out.later ((Below.refl _ w6).alloc (Nat.le_refl _) (boxSt qa)))
      have HP2n := Lib.hid (HP2.out.later ((Below.refl _ w6).alloc (Nat.le_refl _) (boxSt qa)))
      have HBn := Lib.hid (HB.out.alloc HB.out.size (boxSt qa))
      clear HP HP2 HB
      have HP := HPn
      have HP2 := HP2n
      have HB := HBn
      clear HPn HP2n HBn
      change Code.wp _ _ _ _ (w6.alloc (boxSt qa))
      generalize w6.alloc (boxSt qa) = W7 at *
      generalize w6.heap.size = bp3 at *
      go_wp2_with fail
      refine (xjoin_any (ARow.tail (HR.out.below HB.out) c (Nat.le_of_lt HC1.out) _ HIF.out) (fun s hs => HF.out s (List.mem_of_mem_drop hs))).mono ?_
      rintro e w8 ⟨rfl, hb⟩
      have HPn := Lib.hid (HP.out.later hb)
      have HP2n := Lib.hid (HP2.out.later hb)
      have HP3n := Lib.hid (HP3.out.later hb)
      have HBn := Lib.hid (HB.out.trans (hb.mono HB.out.size))
      clear hb HP HP2 HP3 HB
      have HP := HPn
      have HP2 := HP2n
      have HP3 := HP3n
      have HB := HBn
      clear HPn HP2n HP3n HBn
      obtain ⟨qb, hqb⟩ : ∃ q, jOf (l0.drop c) = q := ⟨_, rfl⟩
      obtain ⟨jb, hjb⟩ : ∃ j, joinS (l0.drop c) = j := ⟨_, rfl⟩
      have HQB := Lib.hid hqb
      have HJB2 := Lib.hid hjb
      rw [hqb, hjb]
      rw [hqb] at HSB
      rw [hjb] at HNB HPT
      clear hqb hjb
      rw [show staV qb = .agg #[.int .i64 qb.pos, .int .i64 qb.car, .int .i64 qb.time, .int .i64 qb.load, .int .i64 qb.first, .int .u64 qb.must, .int .u64 qb.may, .int .u64 qb.on] from rfl]
      go_upto_region 13 with fail
      have HP4 := Lib.hid (st_new w8 qb)
      have HPn := Lib.hid (HP.out.later ((Below.refl _ w8).alloc (Nat.le_refl _) (boxSt qb)))
      have HP2n := Lib.hid (HP2.out.later ((Below.refl _ w8).alloc (Nat.le_refl _) (boxSt qb)))
      have HP3n := Lib.hid (HP3.out.later ((Below.refl _ w8).alloc (Nat.le_refl _) (boxSt qb)))
      have HBn := Lib.hid (HB.out.alloc HB.out.size (boxSt qb))
      clear HP HP2 HP3 HB
      have HP := HPn
      have HP2 := HP2n
      have HP3 := HP3n
      have HB := HBn
      clear HPn HP2n HP3n HBn
      change Code.wp _ _ _ _ (w8.alloc (boxSt qb))
      generalize w8.alloc (boxSt qb) = W9 at *
      generalize w8.heap.size = bp4 at *
      clear ij0 ij1 ij2 ij3 ij4 ij5 ij6
      cases ja with
      | none =>
        obtain rfl := HNA.out rfl
        rw [show (none : Option Sta).isSome = false from rfl]
        go_wp2
        go_ret
        exact ⟨rfl, HB.out⟩
      | some xa =>
        rw [show (some xa).isSome = true from rfl]
        cases jb with
        | none =>
          obtain rfl := HNB.out rfl
          rw [show (none : Option Sta).isSome = false from rfl]
          go_wp2
          go_ret
          exact ⟨rfl, HB.out⟩
        | some xb =>
          rw [show (some xb).isSome = true from rfl]
          have HE := Lib.hid (HPT.out xa xb rfl rfl)
          have ea : xa = qa := by rw [← HQA.out]; exact (jOf_some HJA.out).symm
          have eb : xb = qb := by rw [← HQB.out]; exact (jOf_some HJB2.out).symm
          rw [ea, eb] at HE
          have HE2 := Lib.hid (show jOf [qa, qb] = q by rw [← HQ.out]; exact jOf_eq (by rw [HE.out, HJL.out]))
          clear ea eb
          have x0 := HP3.out.c0
          have x1 := HP3.out.c1
          have x2 := HP3.out.c2
          have x3 := HP3.out.c3
          have x4 := HP3.out.c4
          have x5 := HP3.out.c5
          have x6 := HP3.out.c6
          have x7 := HP3.out.c7
          have z0 := HP4.out.c0
          have z1 := HP4.out.c1
          have z2 := HP4.out.c2
          have z3 := HP4.out.c3
          have z4 := HP4.out.c4
          have z5 := HP4.out.c5
          have z6 := HP4.out.c6
          have z7 := HP4.out.c7
          go_wp2_with fail
          clear x0 x1 x2 x3 x4 x5 x6 x7 z0 z1 z2 z3 z4 z5 z6 z7
          have HRN := Lib.hid (grow_block (l := [qa, qb]) encSta (heap_alloc_new W9 (.cells (gflat stL [qa, qb]).toArray 24)) (by simp [maxLen]))
          have HPn := Lib.hid (HP.out.later ((Below.refl _ W9).alloc (Nat.le_refl _) (.cells (gflat stL [qa, qb]).toArray 24)))
          have HP2n := Lib.hid (HP2.out.later ((Below.refl _ W9).alloc (Nat.le_refl _) (.cells (gflat stL [qa, qb]).toArray 24)))
          have HBn := Lib.hid (HB.out.alloc HB.out.size (.cells (gflat stL [qa, qb]).toArray 24))
          clear HP HP2 HB
          change Calls _ _ _ (W9.alloc (.cells (gflat stL [qa, qb]).toArray 24)) _
          generalize W9.alloc (.cells (gflat stL [qa, qb]).toArray 24) = WA at *
          generalize W9.heap.size = bw at *
          refine (xjoin_any (l := [qa, qb]) HRN.out (by
            intro s hs
            simp only [List.mem_cons, List.not_mem_nil, or_false] at hs
            rcases hs with rfl | rfl
            · exact HSA.out
            · exact HSB.out)).mono ?_
          rw [HE2.out, HE.out]
          rintro e wB ⟨rfl, hb⟩
          have HP := Lib.hid (HPn.out.later hb)
          have HP2 := Lib.hid (HP2n.out.later hb)
          have HB := Lib.hid (HBn.out.trans (hb.mono HBn.out.size))
          clear hb HPn HP2n HBn
          rw [show staV q = .agg #[.int .i64 q.pos, .int .i64 q.car, .int .i64 q.time, .int .i64 q.load, .int .i64 q.first, .int .u64 q.must, .int .u64 q.may, .int .u64 q.on] from rfl]
          obtain ⟨bj, hbj⟩ : ∃ b, jl.isSome = b := ⟨_, rfl⟩
          rw [hbj]
          clear hbj
          go_upto_region 16 with fail
          have HP5 := Lib.hid (st_new wB q)
          have HPn := Lib.hid (HP.out.later ((Below.refl _ wB).alloc (Nat.le_refl _) (boxSt q)))
          have HP2n := Lib.hid (HP2.out.later ((Below.refl _ wB).alloc (Nat.le_refl _) (boxSt q)))
          have HBn := Lib.hid (HB.out.alloc HB.out.size (boxSt q))
          clear HP HP2 HB
          have HP := HPn
          have HP2 := HP2n
          have HB := HBn
          clear HPn HP2n HBn
          change Code.wp _ _ _ _ (wB.alloc (boxSt q))
          generalize wB.alloc (boxSt q) = WC at *
          generalize wB.heap.size = bp5 at *
          have keq := equalSta q q
          rw [decide_eq_true (rfl : q = q)] at keq
          have kg := guardSta
          have kb : (bj == bj) = true := by simp
          have x0 := HP.out.c0
          have x1 := HP.out.c1
          have x2 := HP.out.c2
          have x3 := HP.out.c3
          have x4 := HP.out.c4
          have x5 := HP.out.c5
          have x6 := HP.out.c6
          have x7 := HP.out.c7
          have y0 := HP2.out.c0
          have y1 := HP2.out.c1
          have y2 := HP2.out.c2
          have y3 := HP2.out.c3
          have y4 := HP2.out.c4
          have y5 := HP2.out.c5
          have y6 := HP2.out.c6
          have y7 := HP2.out.c7
          have z0 := HP5.out.c0
          have z1 := HP5.out.c1
          have z2 := HP5.out.c2
          have z3 := HP5.out.c3
          have z4 := HP5.out.c4
          have z5 := HP5.out.c5
          have z6 := HP5.out.c6
          have z7 := HP5.out.c7
          go_wp2
          go_ret
          exact ⟨rfl, HB.out⟩

set_option maxRecDepth 100000 in
theorem lifted (os : Os) (started : os.Started) (H : Type) (enc : TypeId × Value → H) :
    ReturnsInHanded {} Try.checked os 7 .any (Rows.relaxTwiceSpec.pre6 enc Try.prog Try.f7 Rows.relaxTwiceRow.domain false) (Rows.relaxTwiceSpec.post enc Try.prog Try.f7 false true false false) := by
  refine returnsInHanded_of_change (C := Try.checked) own started (by kernel_rfl) Try.func7
    (ChangeSpec.witness6 (enc := enc) (C := Try.checked) false ⟨#[], #[.slice none 0 0, .int .i64 0], []⟩ 8 (by kernel_rfl) (by kernel_rfl) (by kernel_rfl) (by kernel_rfl)) ?_
  intro W base args ds gs before hval0 hW hcnd _
  have hval : ∀ (j : Nat) t v, Try.f7.params[j]? = some t → args[j]? = some v → Value.okWide Try.prog W .any base t v := hval0
  have hW' := hW
  obtain ⟨p, q, hA0, hV, rfl, hfz, hnd⟩ := hW
  have hA : DataW.TrodAll enc Try.prog W 0 (fun _ => true) true Try.f7.params.toList args.toList ds p := hA0
  rw [Try.params7] at hA hval
  obtain ⟨v0, vs0, d0, ds0, p0, q0, hargs, rfl, rfl, h0, r0⟩ := trodAll_cons hA
  obtain ⟨v1, vs1, d1, ds1, p1, q1, rfl, rfl, rfl, h1, r1⟩ := trodAll_cons r0
  obtain ⟨rfl, rfl, rfl⟩ := trodAll_nil r1
  obtain rfl : args = #[v0, v1] := by cases args; simp_all
  obtain ⟨rfl, rfl⟩ := trodVars_none hV
  have k0 := h0
  have lt0 : ∀ x ∈ p0, x.block < W.heap.size := by obtain ⟨m, hm⟩ := k0; exact DataW.trod_lt m _ _ _ hm
  have k1 := h1
  have lt1 : ∀ x ∈ p1, x.block < W.heap.size := by obtain ⟨m, hm⟩ := k1; exact DataW.trod_lt m _ _ _ hm
  obtain ⟨a0, len0, cap0, rfl⟩ := okWide_slice Try.underlying25 (hval 0 25 v0 rfl rfl)
  obtain ⟨l0, e0, f0⟩ := open_states h0
  obtain ⟨a1, rfl, rfl, rfl, i1⟩ := open_int Try.underlying3 (hval 1 3 v1 rfl rfl) h1
  clear hA0 hval0
  refine (walk _ l0 a1 W e0 f0).mono fun e W' ⟨he, bel⟩ => ?_
  subst he
  exact ⟨_, rfl, _, _, _, [], _, [], hW', trodAll_mk1 (shut_bool Try.underlying4 _), (trodAll_cons_mk (Below.trod laidOut (by kernel_rfl) (of_decide_eq_true (by kernel_rfl)) k0 bel lt0) (trodAll_cons_mk (Below.trod laidOut (by kernel_rfl) (of_decide_eq_true (by kernel_rfl)) k1 bel lt1) trodAll_mk0)), rfl, bel.frame _, fun h => by cases h⟩

theorem over : Rows.relaxTwiceRow.holds Try.pinned (OpenSpec.ofChange Rows.relaxTwiceSpec) :=
  OpenClaim.holds_of_wide 7 Try.f7 rfl rfl rfl rfl rfl rfl rfl ⟨rfl, rfl, rfl, rfl, rfl⟩ rfl rfl rfl rfl rfl (by kernel_rfl) Try.func7 (by kernel_rfl)
    (of_decide_eq_true (by kernel_rfl)) (by unfold Func.isWrapper; first | (rw [if_pos (by decide +kernel)]; kernel_rfl) | (rw [if_neg (by decide +kernel)]; exact ⟨rfl, rfl⟩))
    (fun os started H enc _ => lifted os started H enc)

theorem proved : Rows.RelaxTwiceSaid := over
#print axioms proved
end Go.Proofs.Ytclepdnpclmegaa.relaxTwice
