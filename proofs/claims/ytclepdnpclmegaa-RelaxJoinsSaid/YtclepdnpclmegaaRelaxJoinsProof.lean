/- RelaxJoins holds for all rows of states and states: what is thrown together covers each, and is covered by all that cover each; no condition beyond what the statement gives. -/
import Derived.Test.YtclepdnpclmegaaRows
import Derived.Test.YtclepdnpclmegaaRHold
namespace Go.Proofs.Ytclepdnpclmegaa.relaxJoins
open Go.ChangeShapes Go.WideShapes Go.ChangeAt Go.RowKit

/-- Does it cover each? -/
def allC (a : Sta) (l : List Sta) : Bool := l.all (fun x => decide (Covers a x))
theorem allC_next {a s : Sta} {l : List Sta} {k : Nat} (h : l[k]? = some s) : allC a (l.take (k + 1)) = (allC a (l.take k) && decide (Covers a s)) := by
  obtain ⟨hk, he⟩ := List.getElem?_eq_some_iff.1 h
  unfold allC
  rw [List.take_succ_eq_append_getElem hk, he, List.all_append]
  simp
theorem allC_iff {a : Sta} {l : List Sta} : allC a l = true ↔ ∀ x ∈ l, Covers a x := by
  unfold allC
  rw [List.all_eq_true]
  exact ⟨fun h x hx => of_decide_eq_true (h x hx), fun h x hx => decide_eq_true (h x hx)⟩
set_option maxRecDepth 1000000 in
set_option maxHeartbeats 4000000 in
theorem walk (v0 : Value) (l0 : List Sta) (s1 : Sta) (w : World) (e0 : ARow w v0 l0) (f0 : ∀ s ∈ l0, SetsOk s) (e1 : SetsOk s1) :
    Calls Try.prog 4 #[v0, staV s1] w fun e w' => e = .returned (.bool true) ∧ Below w.heap.size w w' := by
  have HR := Lib.hid e0
  have HF := Lib.hid f0
  have H1 := Lib.hid e1
  obtain ⟨ad, cap, rfl, hlm, _⟩ := e0.form
  unfold maxLen at hlm
  clear e0 e1 f0
  unfold staV
  go_enter Try.func4, Try.ntmps4
  go_upto_region 1 with fail
  have HX := Lib.hid (st_new w s1)
  have HB := Lib.hid ((Below.refl w.heap.size w).alloc (Nat.le_refl _) (boxSt s1))
  change Code.wp _ _ _ _ (w.alloc (boxSt s1))
  generalize w.alloc (boxSt s1) = W at *
  go_wp2_with fail
  refine (xawake_any _).mono ?_
  rintro e w1 ⟨rfl, hb⟩
  have HXn := Lib.hid (HX.out.later hb)
  have HBn := Lib.hid (HB.out.trans (hb.mono HB.out.size))
  clear hb HX HB
  have HX := HXn
  have HB := HBn
  clear HXn HBn
  by_cases g1 : 60 < l0.length
  · have d1 : decide (60 < (l0.length : Int)) = true := decide_eq_true (by omega)
    have d2 := decide_eq_true g1
    clear g1
    go_wp2
    go_ret
    exact ⟨rfl, HB.out⟩
  have d1 : decide (60 < (l0.length : Int)) = false := decide_eq_false (by omega)
  have d2 := decide_eq_false g1
  clear g1
  go_wp2_with fail
  refine (xjoin_any (HR.out.below HB.out) HF.out).mono ?_
  rintro e w2 ⟨rfl, hb⟩
  have HXn := Lib.hid (HX.out.later hb)
  have HBn := Lib.hid (HB.out.trans (hb.mono HB.out.size))
  clear hb HX HB
  have HX := HXn
  have HB := HBn
  clear HXn HBn
  cases hj : joinS l0 with
  | none =>
    rw [jOf_none hj]
    clear hj
    unfold staV
    go_upto_region 5 with fail
    have HP := Lib.hid (st_new w2 noughtS)
    have HXn := Lib.hid (HX.out.later ((Below.refl _ w2).alloc (Nat.le_refl _) (boxSt noughtS)))
    have HBn := Lib.hid (HB.out.alloc HB.out.size (boxSt noughtS))
    clear HX HB
    have HX := HXn
    have HB := HBn
    clear HXn HBn
    change Code.wp _ _ _ _ (w2.alloc (boxSt noughtS))
    generalize w2.alloc (boxSt noughtS) = W3 at *
    generalize w2.heap.size = bp at *
    have z0 := HP.out.c0
    have z1 := HP.out.c1
    have z2 := HP.out.c2
    have z3 := HP.out.c3
    have z4 := HP.out.c4
    have z5 := HP.out.c5
    have z6 := HP.out.c6
    have z7 := HP.out.c7
    have keq := equalSta noughtS noughtS
    rw [decide_eq_true (rfl : noughtS = noughtS)] at keq
    unfold noughtS at keq z0 z1 z2 z3 z4 z5 z6 z7
    simp only at keq z0 z1 z2 z3 z4 z5 z6 z7
    have kg := guardSta
    go_wp2
    go_ret
    exact ⟨rfl, HB.out⟩
  | some u =>
    rw [jOf_some hj]
    have HJ := Lib.hid (join_is (fun x hx => fits_of (HF.out x hx)) hj)
    clear hj
    have HU := Lib.hid (of_fits HJ.out.1)
    unfold staV
    rw [show (some u).isSome = true from rfl]
    go_upto_region 5 with fail
    have HP := Lib.hid (st_new w2 u)
    have HXn := Lib.hid (HX.out.later ((Below.refl _ w2).alloc (Nat.le_refl _) (boxSt u)))
    have HBn := Lib.hid (HB.out.alloc HB.out.size (boxSt u))
    clear HX HB
    have HX := HXn
    have HB := HBn
    clear HXn HBn
    change Code.wp _ _ _ _ (w2.alloc (boxSt u))
    generalize w2.alloc (boxSt u) = W3 at *
    generalize w2.heap.size = bp at *
    go_wp2_with fail
    go_loopw [8, 9] (fun al i wr => ∃ k : Nat, k ≤ l0.length ∧ i = .int .i64 k ∧ al = .bool (allC s1 (l0.take k)) ∧ StB wr w.heap.size s1 ∧ StB wr bp u ∧ Below w.heap.size w wr) (fun _ i _ => l0.length - (intOf i).toNat)
    case atStart => exact ⟨0, Nat.zero_le _, rfl, rfl, HX.out, HP.out, HB.out⟩
    case round =>
      obtain ⟨k, hk, rfl, rfl, hx, hp, hb⟩ := hrel
      clear HX HP HB
      have HX := Lib.hid hx
      have HP := Lib.hid hp
      have HB := Lib.hid hb
      clear hx hp hb
      by_cases hlt : k < l0.length
      rotate_left
      · obtain rfl : k = l0.length := by omega
        clear hlt hk
        rw [List.take_length]
        cases ha : allC s1 l0 with
        | false =>
          clear ha
          go_wp2
          go_ret
          exact ⟨rfl, HB.out⟩
        | true =>
          have hc := HJ.out.2.2 s1 (fits_of H1.out) (allC_iff.1 ha)
          have HC := Lib.hid (decide_eq_true hc)
          clear hc ha
          have x0 := HX.out.c0
          have x1 := HX.out.c1
          have x2 := HX.out.c2
          have x3 := HX.out.c3
          have x4 := HX.out.c4
          have x5 := HX.out.c5
          have x6 := HX.out.c6
          have x7 := HX.out.c7
          have z0 := HP.out.c0
          have z1 := HP.out.c1
          have z2 := HP.out.c2
          have z3 := HP.out.c3
          have z4 := HP.out.c4
          have z5 := HP.out.c5
          have z6 := HP.out.c6
          have z7 := HP.out.c7
          go_wp2_with fail
          clear x0 x1 x2 x3 x4 x5 x6 x7 z0 z1 z2 z3 z4 z5 z6 z7
          change Calls _ _ #[staV s1, staV u] _ _
          refine (covers_any _ H1.out HU.out).mono ?_
          rw [HC.out]
          rintro e w5 ⟨rfl, hb⟩
          have HBn := Lib.hid (HB.out.trans (hb.mono HB.out.size))
          clear hb
          go_wp2
          go_ret
          exact ⟨rfl, HBn.out⟩
      have HK := Lib.hid hlt
      obtain ⟨s, hs⟩ : ∃ s, l0[k]? = some s := ⟨_, List.getElem?_eq_getElem hlt⟩
      have HE := Lib.hid hs
      have HSS := Lib.hid (HF.out s (List.mem_of_getElem? hs))
      have HCS := Lib.hid (decide_eq_true (HJ.out.2.1 s (List.mem_of_getElem? hs)))
      have HN := Lib.hid (allC_next (a := s1) hs)
      obtain ⟨tb, off, rfl, hat, htb⟩ := arow_at (HR.out.below HB.out) k s hs
      have HTB := Lib.hid (show tb < w.heap.size from arow_lt HR.out k s hs)
      clear hat htb hs
      have hki : (k : Int) < (l0.length : Int) := by omega
      generalize allC s1 (l0.take k) = ab at *
      clear hk hlt
      go_upto_region 11 with fail
      have HXn := Lib.hid (HX.out.later (Below.refl _ wr).drew)
      have HPn := Lib.hid (HP.out.later (Below.refl _ wr).drew)
      have HBn := Lib.hid HB.out.drew
      clear HX HP HB
      have HX := HXn
      have HP := HPn
      have HB := HBn
      clear HXn HPn HBn
      have HS0 := Lib.hid (show Holds (cellsSt bp u ++ cellsR tb (off + k * 8) s) wr.drew from (Holds.app.2 ⟨HP.out.holds, (show Holds (cellsR tb (off + k * 8) s) wr.drew from holds_row (arow_here (HR.out.below HB.out) k s HE.out))⟩))
      refine wp_region_held_drew (S := Holds (cellsSt bp u ++ cellsR tb (off + k * 8) s)) (by kernel_rfl) HS0.out (fun hSn => ?_)
      generalize wr.drew = V at *
      have hlt := Lib.hid (show Lows V.heap.size (cellsSt bp u ++ cellsR tb (off + k * 8) s) from (Lows.app (lows_St HP.out.lt) (lows_R (Nat.lt_of_lt_of_le HTB.out HB.out.size))))
      have Bc := Lib.hid (Below.refl V.heap.size V)
      simp only [cellsSt, cellsR, List.cons_append, List.nil_append] at HS0 hlt hSn ⊢
      refine tks [0, 1, 2, 3, 4] 5 rfl (by kernel_rfl) (fun _ _ _ _ h => h) (by assumption) (fun KT hKT => ?_)
      iterate 5 (refine tkT (by (simp only [gA, gB, gC]; rfl)) (by rfl) (by (intro w hSw; (simp only [Holds] at hSw); go_simp <;> with_reducible rfl)) ?_; simp only [Act.put, pA, pB, pC])
      refine hKT _ ?_
      clear KT hKT
      refine wpAnyH_ready (rs := [5]) (by kernel_rfl) (by simp) ?_
      refine AllReadyH.cons (o := ?oz1) ?iz1 (fun K hK => ?kz1) AllReadyH.nil
      case iz1 => (simp only [List.getElem?_toArray, List.getElem?_cons_zero, List.getElem?_cons_succ]; rfl)
      go_simp
      change Calls _ _ #[staV u, staV s] _ _
      refine (covers_any _ HU.out HSS.out).mono ?_
      rw [HCS.out]
      rintro e w' ⟨rfl, hb⟩
      refine held_more hK HS0.out hlt (Bc.out.trans (hb.mono Bc.out.size)) (fun Bc hSn => ?_)
      clear hb hK
      refine tks [6] 1 rfl (by kernel_rfl) (fun _ _ _ _ h => h) (by assumption) (fun KT hKT => ?_)
      refine tkT (by (simp only [gA, gB, gC]; rfl)) (by rfl) (by (intro w hSw; (simp only [Holds] at hSw); go_simp <;> with_reducible rfl)) ?_
      simp only [Act.put, pA, pB, pC]
      refine hKT _ ?_
      clear KT hKT
      refine wpAnyH_done (by kernel_rfl) ?_ _
      have HXn := Lib.hid (HX.out.later Bc.out)
      have HPn := Lib.hid (HP.out.later Bc.out)
      have HBn := Lib.hid (HB.out.trans (Bc.out.mono HB.out.size))
      clear HX HP HB
      have HX := HXn
      have HP := HPn
      have HB := HBn
      clear HXn HPn HBn
      clear HS0 hlt Bc hSn
      go_upto_region 13 with fail
      have HXn := Lib.hid (HX.out.later (Below.refl _ w').drew)
      have HPn := Lib.hid (HP.out.later (Below.refl _ w').drew)
      have HBn := Lib.hid HB.out.drew
      clear HX HP HB
      have HX := HXn
      have HP := HPn
      have HB := HBn
      clear HXn HPn HBn
      have HS0 := Lib.hid (show Holds (cellsSt w.heap.size s1 ++ cellsR tb (off + k * 8) s) w'.drew from (Holds.app.2 ⟨HX.out.holds, (show Holds (cellsR tb (off + k * 8) s) w'.drew from holds_row (arow_here (HR.out.below HB.out) k s HE.out))⟩))
      refine wp_region_held_drew (S := Holds (cellsSt w.heap.size s1 ++ cellsR tb (off + k * 8) s)) (by kernel_rfl) HS0.out (fun hSn => ?_)
      generalize w'.drew = V2 at *
      have hlt := Lib.hid (show Lows V2.heap.size (cellsSt w.heap.size s1 ++ cellsR tb (off + k * 8) s) from (Lows.app (lows_St HX.out.lt) (lows_R (Nat.lt_of_lt_of_le HTB.out HB.out.size))))
      have Bc := Lib.hid (Below.refl V2.heap.size V2)
      simp only [cellsSt, cellsR, List.cons_append, List.nil_append] at HS0 hlt hSn ⊢
      cases ab with
      | false =>
        refine tks [0, 1] 2 rfl (by kernel_rfl) (fun _ _ _ _ h => h) (by assumption) (fun KT hKT => ?_)
        iterate 2 (refine tkT (by (simp only [gA, gB, gC]; rfl)) (by rfl) (by (intro w hSw; (simp only [Holds] at hSw); go_simp <;> with_reducible rfl)) ?_; simp only [Act.put, pA, pB, pC])
        refine hKT _ ?_
        clear KT hKT
        refine tks [2, 3, 4, 5, 6, 7] 6 rfl (by kernel_rfl) (fun _ _ _ _ h => h) (by assumption) (fun KT hKT => ?_)
        iterate 6 (refine tkS (by (simp only [gA, gB, gC]; rfl)) (by rfl) ?_; simp only [Act.put, pA, pB, pC])
        refine hKT _ ?_
        clear KT hKT
        refine tks [8, 9] 2 rfl (by kernel_rfl) (fun _ _ _ _ h => h) (by assumption) (fun KT hKT => ?_)
        iterate 2 (refine tkT (by (simp only [gA, gB, gC]; rfl)) (by rfl) (by (intro w hSw; (simp only [Holds] at hSw); go_simp <;> with_reducible rfl)) ?_; simp only [Act.put, pA, pB, pC])
        refine hKT _ ?_
        clear KT hKT
        refine wpAnyH_done (by kernel_rfl) ?_ _
        have HXn := Lib.hid (HX.out.later Bc.out)
        have HPn := Lib.hid (HP.out.later Bc.out)
        have HBn := Lib.hid (HB.out.trans (Bc.out.mono HB.out.size))
        clear HX HP HB
        have HX := HXn
        have HP := HPn
        have HB := HBn
        clear HXn HPn HBn
        go_wp2
        go_roundw
        case rel => exact ⟨k + 1, by have := HK.out; omega, by go_num, by rw [HN.out]; rfl, HX.out, HP.out, HB.out⟩
        case measure => have := HK.out; simp [intOf]; omega
      | true =>
        refine tks [0, 1, 2, 3, 4, 5, 6] 7 rfl (by kernel_rfl) (fun _ _ _ _ h => h) (by assumption) (fun KT hKT => ?_)
        iterate 7 (refine tkT (by (simp only [gA, gB, gC]; rfl)) (by rfl) (by (intro w hSw; (simp only [Holds] at hSw); go_simp <;> with_reducible rfl)) ?_; simp only [Act.put, pA, pB, pC])
        refine hKT _ ?_
        clear KT hKT
        refine wpAnyH_ready (rs := [7]) (by kernel_rfl) (by simp) ?_
        refine AllReadyH.cons (o := ?oz2) ?iz2 (fun K hK => ?kz2) AllReadyH.nil
        case iz2 => (simp only [List.getElem?_toArray, List.getElem?_cons_zero, List.getElem?_cons_succ]; rfl)
        go_simp
        change Calls _ _ #[staV s1, staV s] _ _
        refine (covers_any _ H1.out HSS.out).mono ?_
        rintro e w' ⟨rfl, hb⟩
        refine held_more hK HS0.out hlt (Bc.out.trans (hb.mono Bc.out.size)) (fun Bc hSn => ?_)
        clear hb hK
        refine tks [8, 9] 2 rfl (by kernel_rfl) (fun _ _ _ _ h => h) (by assumption) (fun KT hKT => ?_)
        iterate 2 (refine tkT (by (simp only [gA, gB, gC]; rfl)) (by rfl) (by (intro w hSw; (simp only [Holds] at hSw); go_simp <;> with_reducible rfl)) ?_; simp only [Act.put, pA, pB, pC])
        refine hKT _ ?_
        clear KT hKT
        refine wpAnyH_done (by kernel_rfl) ?_ _
        have HXn := Lib.hid (HX.out.later Bc.out)
        have HPn := Lib.hid (HP.out.later Bc.out)
        have HBn := Lib.hid (HB.out.trans (Bc.out.mono HB.out.size))
        clear HX HP HB
        have HX := HXn
        have HP := HPn
        have HB := HBn
        clear HXn HPn HBn
        go_wp2
        go_roundw
        case rel => exact ⟨k + 1, by have := HK.out; omega, by go_num, by rw [HN.out]; rfl, HX.out, HP.out, HB.out⟩
        case measure => have := HK.out; simp [intOf]; omega

set_option maxRecDepth 100000 in
theorem lifted (os : Os) (started : os.Started) (H : Type) (enc : TypeId × Value → H) :
    ReturnsInHanded {} Try.checked os 4 .any (Rows.relaxJoinsSpec.pre6 enc Try.prog Try.f4 Rows.relaxJoinsRow.domain false) (Rows.relaxJoinsSpec.post enc Try.prog Try.f4 false true false false) := by
  refine returnsInHanded_of_change (C := Try.checked) own started (by kernel_rfl) Try.func4
    (ChangeSpec.witness6 (enc := enc) (C := Try.checked) false ⟨#[], #[.slice none 0 0, .agg #[.int .i64 0, .int .i64 0, .int .i64 0, .int .i64 0, .int .i64 0, .int .u64 0, .int .u64 0, .int .u64 0]], []⟩ 8 (by kernel_rfl) (by kernel_rfl) (by kernel_rfl) (by kernel_rfl)) ?_
  intro W base args ds gs before hval0 hW hcnd _
  have hval : ∀ (j : Nat) t v, Try.f4.params[j]? = some t → args[j]? = some v → Value.okWide Try.prog W .any base t v := hval0
  have hW' := hW
  obtain ⟨p, q, hA0, hV, rfl, hfz, hnd⟩ := hW
  have hA : DataW.TrodAll enc Try.prog W 0 (fun _ => true) true Try.f4.params.toList args.toList ds p := hA0
  rw [Try.params4] at hA hval
  obtain ⟨v0, vs0, d0, ds0, p0, q0, hargs, rfl, rfl, h0, r0⟩ := trodAll_cons hA
  obtain ⟨v1, vs1, d1, ds1, p1, q1, rfl, rfl, rfl, h1, r1⟩ := trodAll_cons r0
  obtain ⟨rfl, rfl, rfl⟩ := trodAll_nil r1
  obtain rfl : args = #[v0, v1] := by cases args; simp_all
  obtain ⟨rfl, rfl⟩ := trodVars_none hV
  have k0 := h0
  have lt0 : ∀ x ∈ p0, x.block < W.heap.size := by obtain ⟨m, hm⟩ := k0; exact DataW.trod_lt m _ _ _ hm
  have k1 := h1
  have lt1 : ∀ x ∈ p1, x.block < W.heap.size := by obtain ⟨m, hm⟩ := k1; exact DataW.trod_lt m _ _ _ hm
  obtain ⟨a0, len0, cap0, rfl⟩ := okWide_slice Try.underlying25 (hval 0 25 v0 rfl rfl)
  obtain ⟨l0, e0, f0⟩ := open_states h0
  obtain ⟨s1, rfl, _, e1⟩ := open_state (hval 1 24 v1 rfl rfl) h1
  clear hA0 hval0
  refine (walk _ l0 s1 W e0 f0 e1).mono fun e W' ⟨he, bel⟩ => ?_
  subst he
  exact ⟨_, rfl, _, _, _, [], _, [], hW', trodAll_mk1 (shut_bool Try.underlying4 _), (trodAll_cons_mk (Below.trod laidOut (by kernel_rfl) (of_decide_eq_true (by kernel_rfl)) k0 bel lt0) (trodAll_cons_mk (Below.trod laidOut (by kernel_rfl) (of_decide_eq_true (by kernel_rfl)) k1 bel lt1) trodAll_mk0)), rfl, bel.frame _, fun h => by cases h⟩

theorem over : Rows.relaxJoinsRow.holds Try.pinned (OpenSpec.ofChange Rows.relaxJoinsSpec) :=
  OpenClaim.holds_of_wide 4 Try.f4 rfl rfl rfl rfl rfl rfl rfl ⟨rfl, rfl, rfl, rfl, rfl⟩ rfl rfl rfl rfl rfl (by kernel_rfl) Try.func4 (by kernel_rfl)
    (of_decide_eq_true (by kernel_rfl)) (by unfold Func.isWrapper; first | (rw [if_pos (by decide +kernel)]; kernel_rfl) | (rw [if_neg (by decide +kernel)]; exact ⟨rfl, rfl⟩))
    (fun os started H enc _ => lifted os started H enc)

theorem proved : Rows.RelaxJoinsSaid := over
#print axioms proved
end Go.Proofs.Ytclepdnpclmegaa.relaxJoins
