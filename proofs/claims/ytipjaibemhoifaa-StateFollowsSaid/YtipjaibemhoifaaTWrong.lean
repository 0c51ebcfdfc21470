/- What a car's wrongAt and wrongBack answer. -/
import Derived.Test.YtipjaibemhoifaaXTCar
namespace Go.Proofs.Ytipjaibemhoifaa
open Go.ChangeShapes Go.WideShapes Go.ChangeAt Go.RowKit

/-- What is wrong with a stop as the next one. -/
def nextE (I : Ins) (L : List Int) (n : Int) (s : Stp) (i : Int) : Int := if wrongE I L i ≠ 0 then wrongE I L i else if (stp I i).u < (tmN n s (stp I i)).begn then 7 else 0
theorem fieldT0 (x y z : Int) (w : World) : (Instr.field 128 (.agg #[.int .i64 x, .int .i64 y, .int .i64 z]) 0).run Try.prog w = .ok (.int .i64 x) w := by kernel_rfl
theorem fieldT1 (x y z : Int) (w : World) : (Instr.field 128 (.agg #[.int .i64 x, .int .i64 y, .int .i64 z]) 1).run Try.prog w = .ok (.int .i64 y) w := by kernel_rfl
section
variable {I : Ins} {L : List Int} {n : Int} {s : Stp} {i : Int}
theorem nextE_arg (h : i < 1 ∨ 2 * I.p < i) : nextE I L n s i = 1 := by
  have : wrongE I L i = 1 := by unfold wrongE; rw [if_pos h]
  unfold nextE; rw [this, if_pos (by decide)]
theorem nextE_twice (h1 : 1 ≤ i ∧ i ≤ 2 * I.p) (h2 : i ∈ L) : nextE I L n s i = 5 := by
  have : wrongE I L i = 5 := by unfold wrongE; rw [if_neg (by omega), if_pos h2]
  unfold nextE; rw [this, if_pos (by decide)]
theorem nextE_order (h1 : 1 ≤ i ∧ i ≤ 2 * I.p) (h2 : i ∉ L) (h3 : I.p < i) (h4 : i - I.p ∉ L) : nextE I L n s i = 8 := by
  have : wrongE I L i = 8 := by unfold wrongE; rw [if_neg (by omega), if_neg h2, if_pos ⟨h3, h4⟩]
  unfold nextE; rw [this, if_pos (by decide)]
theorem nextE_full (h1 : 1 ≤ i ∧ i ≤ 2 * I.p) (h2 : i ∉ L) (h3 : ¬ (I.p < i ∧ i - I.p ∉ L)) (h4 : I.r < heldL I L + (stp I i).d) : nextE I L n s i = 6 := by
  have : wrongE I L i = 6 := by unfold wrongE; rw [if_neg (by omega), if_neg h2, if_neg h3, if_pos h4]
  unfold nextE; rw [this, if_pos (by decide)]
theorem nextE_rest (h1 : 1 ≤ i ∧ i ≤ 2 * I.p) (h2 : i ∉ L) (h3 : ¬ (I.p < i ∧ i - I.p ∉ L)) (h4 : ¬ I.r < heldL I L + (stp I i).d) : nextE I L n s i = if (stp I i).u < (tmN n s (stp I i)).begn then 7 else 0 := by
  have : wrongE I L i = 0 := by unfold wrongE; rw [if_neg (by omega), if_neg h2, if_neg h3, if_neg h4]
  unfold nextE; rw [this, if_neg (by decide)]
end
set_option maxRecDepth 1000000 in
set_option maxHeartbeats 2000000 in
theorem wrongAt_any {w : World} {b : Nat} {I : Ins} {sv : Value} {a : Nat} {i n g : Int} {L : List Int} {tv lv : Value} (hc : CarB w b I sv a n g (heldL I L) (seenB L) tv lv) (hr : SRow w sv I.l) (hm : mayB I = true) (ha : a < I.l.length)
    (hn : 0 ≤ n ∧ n ≤ 2000000) (hh : 0 ≤ heldL I L ∧ heldL I L ≤ 1000) :
    Calls Try.prog 105 #[.pointer (some ⟨b, 0, none⟩), .int .i64 i] w fun e w' => e = .returned (.int .i64 (nextE I L n (stp I a) i)) ∧ Below w.heap.size w w' := by
  have HC := Lib.hid hc
  have HR := Lib.hid hr
  have HM := Lib.hid (fine_of hm)
  have hp0 := HM.out.p0
  have hp1 := HM.out.p1
  have hl := HM.out.len
  have q0 := hc.c0
  have e1 : IntKind.i64.wrap (2 * I.p) = 2 * I.p := IntWalk.i64_in _ (by omega)
  clear hc hr hm
  by_cases h1 : i < 1
  · have d1 := decide_eq_true h1
    have HE := Lib.hid (nextE_arg (L := L) (n := n) (s := stp I a) (show i < 1 ∨ 2 * I.p < i from .inl h1))
    clear h1
    go_enter Try.func105, Try.ntmps105
    go_wp2
    go_ret
    exact ⟨ret_int HE.out.symm, Below.refl _ _⟩
  have d1 := decide_eq_false h1
  by_cases h2 : 2 * I.p < i
  · have d2 := decide_eq_true h2
    have HE := Lib.hid (nextE_arg (L := L) (n := n) (s := stp I a) (show i < 1 ∨ 2 * I.p < i from .inr h2))
    clear h1 h2
    go_enter Try.func105, Try.ntmps105
    go_wp2
    go_ret
    exact ⟨ret_int HE.out.symm, Below.refl _ _⟩
  have d2 := decide_eq_false h2
  have HI := Lib.hid (show 1 ≤ i ∧ i ≤ 2 * I.p by omega)
  obtain ⟨k, rfl⟩ : ∃ k : Nat, i = (k : Int) := ⟨i.toNat, by omega⟩
  have hk33 : k < 33 := by omega
  have hkl : k < I.l.length := by omega
  clear h1 h2
  have q8 := HC.out.cs k hk33
  rw [seenB_at L k hk33] at q8
  have k33 : (k : Int) < 33 := by omega
  by_cases h3 : (k : Int) ∈ L
  · have HE := Lib.hid (nextE_twice (n := n) (s := stp I a) HI.out h3)
    rw [decide_eq_true h3] at q8
    clear h3
    go_enter Try.func105, Try.ntmps105
    go_wp2
    go_ret
    exact ⟨ret_int HE.out.symm, Below.refl _ _⟩
  have H3 := Lib.hid h3
  rw [decide_eq_false h3] at q8
  clear h3
  obtain ⟨ad, cap, rfl, _⟩ := HR.out.form
  obtain ⟨tb, off, rfl, hkt, hlt0⟩ := srow_at HR.out k hkl
  have HKT := Lib.hid (show At w tb (off + k * 6) (stp I k) from hkt)
  clear hkt
  have hd : -1000 ≤ (stp I (k : Int)).d ∧ (stp I (k : Int)).d ≤ 1000 := by
    by_cases c : (k : Int) ≤ I.p
    · have := HM.out.take (k : Int) HI.out.1 c; omega
    · have h0 := HM.out.bring (k : Int) (by omega) HI.out.2
      have := HM.out.take ((k : Int) - I.p) (by omega) (by omega); omega
  have hst := HM.out.ok (k : Int) (by omega) HI.out.2
  have e3 : IntKind.i64.wrap (heldL I L + (stp I (k : Int)).d) = heldL I L + (stp I (k : Int)).d := IntWalk.i64_in _ (by omega)
  refine Or.elim (show (I.p < (k : Int) ∧ (k : Int) - I.p ∉ L) ∨ (I.p < (k : Int) ∧ (k : Int) - I.p ∈ L) ∨ ¬ I.p < (k : Int) by
    by_cases c : I.p < (k : Int)
    · by_cases c2 : (k : Int) - I.p ∈ L
      · exact .inr (.inl ⟨c, c2⟩)
      · exact .inl ⟨c, c2⟩
    · exact .inr (.inr c)) (fun h => ?bad) (fun h => Or.elim h (fun h => ?pa) (fun h => ?pb))
  case bad =>
    have HE := Lib.hid (nextE_order (n := n) (s := stp I a) HI.out H3.out h.1 h.2)
    obtain ⟨m, hm⟩ : ∃ m : Nat, (k : Int) - I.p = (m : Int) := ⟨((k : Int) - I.p).toNat, by omega⟩
    have hm33 : m < 33 := by omega
    have q9 := HC.out.cs m hm33
    rw [seenB_at L m hm33, ← hm, decide_eq_false h.2] at q9
    have e2 : IntKind.i64.wrap ((k : Int) - I.p) = (m : Int) := by rw [← hm]; exact IntWalk.i64_in _ (by omega)
    have m33 : (m : Int) < 33 := by omega
    have d3 := decide_eq_true h.1
    clear h hm
    go_enter Try.func105, Try.ntmps105
    go_wp2_with fail
    go_quiet (fail)
    go_wp2
    go_ret
    exact ⟨ret_int HE.out.symm, below_drewN (Below.refl _ _) nq⟩
  case' pa =>
    have HO := Lib.hid (show ¬ (I.p < (k : Int) ∧ (k : Int) - I.p ∉ L) from fun x => x.2 h.2)
    obtain ⟨m, hm⟩ : ∃ m : Nat, (k : Int) - I.p = (m : Int) := ⟨((k : Int) - I.p).toNat, by omega⟩
    have hm33 : m < 33 := by omega
    have q9 := HC.out.cs m hm33
    rw [seenB_at L m hm33, ← hm, decide_eq_true h.2] at q9
    have e2 : IntKind.i64.wrap ((k : Int) - I.p) = (m : Int) := by rw [← hm]; exact IntWalk.i64_in _ (by omega)
    have m33 : (m : Int) < 33 := by omega
    have d3 := decide_eq_true h.1
    clear h hm
    go_enter Try.func105, Try.ntmps105
    go_wp2_with fail
    go_quiet (fail)
    clear d3 q9 e2 m33 hm33
  case' pb =>
    have HO := Lib.hid (show ¬ (I.p < (k : Int) ∧ (k : Int) - I.p ∉ L) from fun x => h x.1)
    have d3 := decide_eq_false h
    clear h
    go_enter Try.func105, Try.ntmps105
    go_wp2_with fail
    go_quiet (fail)
    clear d3
  all_goals
    have HW := Lib.hid (below_drewN (Below.refl w.heap.size w) nq)
    generalize w.drewN nq = w1 at *
    clear q0 q8
    have q2 := (HC.out.later HW.out).c2
    have q3 := (HC.out.later HW.out).c3
    have q7 := (HC.out.later HW.out).c7
    obtain ⟨t0, t1, t2, t3, t4, t5⟩ := HKT.out.below hlt0 HW.out
    by_cases h6 : I.r < heldL I L + (stp I (k : Int)).d
    · have HE := Lib.hid (nextE_full (n := n) (s := stp I a) HI.out H3.out HO.out h6)
      have d4 := decide_eq_true h6
      clear h6
      go_wp2_with fail
      go_quiet (fail)
      go_wp2
      go_ret
      exact ⟨ret_int HE.out.symm, below_drewN HW.out nq⟩
    have HE := Lib.hid (nextE_rest (n := n) (s := stp I a) HI.out H3.out HO.out h6)
    have d4 := decide_eq_false h6
    clear h6
    go_wp2_with fail
    go_quiet (fail)
    have HW2 := Lib.hid ((below_drewN HW.out nq).drew)
    generalize w1.drewN nq = w2 at *
    clear d4 q2 q3 q7 t0 t1 t2 t3 t4 t5 e1 d1 d2 e3
    go_wp2_with fail
  · have HC2 := Lib.hid (HC.out.later HW2.out)
    have HR2 := Lib.hid (HR.out.below HW2.out)
    have hb2 : b < w2.drew.heap.size := HC2.out.lt
    have htb2 : tb < w2.drew.heap.size := Nat.lt_of_lt_of_le hlt0 HW2.out.size
    have HS0 := Lib.hid (show Holds ((⟨b, 3, none⟩, .slice (some ⟨tb, off, none⟩) I.l.length cap) :: cellsF tb (off + k * 6) (stp I (k : Int))) w2.drew from ⟨HC2.out.c3, holds_at (HKT.out.below hlt0 HW2.out)⟩)
    have hlt := Lib.hid (show Lows w2.drew.heap.size ((⟨b, 3, none⟩, .slice (some ⟨tb, off, none⟩) I.l.length cap) :: cellsF tb (off + k * 6) (stp I (k : Int))) from ⟨hb2, lows_at htb2⟩)
    refine wp_region_held_drew (S := Holds ((⟨b, 3, none⟩, .slice (some ⟨tb, off, none⟩) I.l.length cap) :: cellsF tb (off + k * 6) (stp I (k : Int)))) (by kernel_rfl) HS0.out (fun hSn => ?_)
    have Bc := Lib.hid (Below.refl w2.drew.heap.size w2.drew)
    unfold cellsF at *
    have hki : (k : Int) < (I.l.length : Int) := by omega
    clear hl
    refine tks [0, 1, 4, 5, 6, 7, 8, 9, 10, 11, 12] 11 rfl (by kernel_rfl) (fun _ _ _ _ h => h) (by assumption) (fun KT hKT => ?_)
    iterate 11 (refine tkT (by (simp only [gA, gB, gC]; rfl)) (by rfl) (by (intro w hSw; (simp only [Holds] at hSw); go_simp <;> with_reducible rfl)) ?_; simp only [Act.put, pA, pB, pC])
    refine hKT _ ?_
    clear KT hKT
    refine wpAnyH_ready (rs := [2]) (by kernel_rfl) (by simp) ?_
    refine AllReadyH.cons (o := ?oz40) ?iz40 (fun K hK => ?kz40) AllReadyH.nil
    case iz40 => (simp only [List.getElem?_toArray, List.getElem?_cons_zero, List.getElem?_cons_succ]; rfl)
    go_simp
    refine (timeAt_any (HC2.out.later Bc.out) (HR2.out.below Bc.out) ha hkl hn hst).mono ?_
    rintro e w' ⟨rfl, hb⟩
    refine held_more hK HS0.out hlt (Bc.out.trans (hb.mono Bc.out.size)) (fun Bc hSn => ?_)
    clear hb hK
    have HBB := Lib.hid (HW2.out.trans (Bc.out.mono HW2.out.size))
    have HE2 := Lib.hid HE.out
    by_cases h7 : (stp I (k : Int)).u < (tmN n (stp I a) (stp I (k : Int))).begn
    · have HE2 := Lib.hid (HE.out.trans (if_pos h7))
      have d7 := decide_eq_true h7
      clear h7
      unfold timeV
      have hfl := fieldT1
      refine tks [3, 13, 14] 3 rfl (by kernel_rfl) (fun _ _ _ _ h => h) (by assumption) (fun KT hKT => ?_)
      iterate 3 (refine tkT (by (simp only [gA, gB, gC]; rfl)) (by rfl) (by (intro w hSw; (simp only [Holds] at hSw); go_simp <;> with_reducible rfl)) ?_; simp only [Act.put, pA, pB, pC])
      refine hKT _ ?_
      clear KT hKT
      refine wpAnyH_done (by kernel_rfl) ?_ _
      go_wp2
      go_ret
      exact ⟨ret_int HE2.out.symm, HBB.out⟩
    · have HE2 := Lib.hid (HE.out.trans (if_neg h7))
      have d7 := decide_eq_false h7
      clear h7
      unfold timeV
      have hfl := fieldT1
      refine tks [3, 13, 14] 3 rfl (by kernel_rfl) (fun _ _ _ _ h => h) (by assumption) (fun KT hKT => ?_)
      iterate 3 (refine tkT (by (simp only [gA, gB, gC]; rfl)) (by rfl) (by (intro w hSw; (simp only [Holds] at hSw); go_simp <;> with_reducible rfl)) ?_; simp only [Act.put, pA, pB, pC])
      refine hKT _ ?_
      clear KT hKT
      refine wpAnyH_done (by kernel_rfl) ?_ _
      go_wp2
      go_ret
      exact ⟨ret_int HE2.out.symm, HBB.out⟩
  · have HC2 := Lib.hid (HC.out.later HW2.out)
    have HR2 := Lib.hid (HR.out.below HW2.out)
    have hb2 : b < w2.drew.heap.size := HC2.out.lt
    have htb2 : tb < w2.drew.heap.size := Nat.lt_of_lt_of_le hlt0 HW2.out.size
    have HS0 := Lib.hid (show Holds ((⟨b, 3, none⟩, .slice (some ⟨tb, off, none⟩) I.l.length cap) :: cellsF tb (off + k * 6) (stp I (k : Int))) w2.drew from ⟨HC2.out.c3, holds_at (HKT.out.below hlt0 HW2.out)⟩)
    have hlt := Lib.hid (show Lows w2.drew.heap.size ((⟨b, 3, none⟩, .slice (some ⟨tb, off, none⟩) I.l.length cap) :: cellsF tb (off + k * 6) (stp I (k : Int))) from ⟨hb2, lows_at htb2⟩)
    refine wp_region_held_drew (S := Holds ((⟨b, 3, none⟩, .slice (some ⟨tb, off, none⟩) I.l.length cap) :: cellsF tb (off + k * 6) (stp I (k : Int)))) (by kernel_rfl) HS0.out (fun hSn => ?_)
    have Bc := Lib.hid (Below.refl w2.drew.heap.size w2.drew)
    unfold cellsF at *
    have hki : (k : Int) < (I.l.length : Int) := by omega
    clear hl
    refine tks [0, 1, 4, 5, 6, 7, 8, 9, 10, 11, 12] 11 rfl (by kernel_rfl) (fun _ _ _ _ h => h) (by assumption) (fun KT hKT => ?_)
    iterate 11 (refine tkT (by (simp only [gA, gB, gC]; rfl)) (by rfl) (by (intro w hSw; (simp only [Holds] at hSw); go_simp <;> with_reducible rfl)) ?_; simp only [Act.put, pA, pB, pC])
    refine hKT _ ?_
    clear KT hKT
    refine wpAnyH_ready (rs := [2]) (by kernel_rfl) (by simp) ?_
    refine AllReadyH.cons (o := ?oz41) ?iz41 (fun K hK => ?kz41) AllReadyH.nil
    case iz41 => (simp only [List.getElem?_toArray, List.getElem?_cons_zero, List.getElem?_cons_succ]; rfl)
    go_simp
    refine (timeAt_any (HC2.out.later Bc.out) (HR2.out.below Bc.out) ha hkl hn hst).mono ?_
    rintro e w' ⟨rfl, hb⟩
    refine held_more hK HS0.out hlt (Bc.out.trans (hb.mono Bc.out.size)) (fun Bc hSn => ?_)
    clear hb hK
    have HBB := Lib.hid (HW2.out.trans (Bc.out.mono HW2.out.size))
    have HE2 := Lib.hid HE.out
    by_cases h7 : (stp I (k : Int)).u < (tmN n (stp I a) (stp I (k : Int))).begn
    · have HE2 := Lib.hid (HE.out.trans (if_pos h7))
      have d7 := decide_eq_true h7
      clear h7
      unfold timeV
      have hfl := fieldT1
      refine tks [3, 13, 14] 3 rfl (by kernel_rfl) (fun _ _ _ _ h => h) (by assumption) (fun KT hKT => ?_)
      iterate 3 (refine tkT (by (simp only [gA, gB, gC]; rfl)) (by rfl) (by (intro w hSw; (simp only [Holds] at hSw); go_simp <;> with_reducible rfl)) ?_; simp only [Act.put, pA, pB, pC])
      refine hKT _ ?_
      clear KT hKT
      refine wpAnyH_done (by kernel_rfl) ?_ _
      go_wp2
      go_ret
      exact ⟨ret_int HE2.out.symm, HBB.out⟩
    · have HE2 := Lib.hid (HE.out.trans (if_neg h7))
      have d7 := decide_eq_false h7
      clear h7
      unfold timeV
      have hfl := fieldT1
      refine tks [3, 13, 14] 3 rfl (by kernel_rfl) (fun _ _ _ _ h => h) (by assumption) (fun KT hKT => ?_)
      iterate 3 (refine tkT (by (simp only [gA, gB, gC]; rfl)) (by rfl) (by (intro w hSw; (simp only [Holds] at hSw); go_simp <;> with_reducible rfl)) ?_; simp only [Act.put, pA, pB, pC])
      refine hKT _ ?_
      clear KT hKT
      refine wpAnyH_done (by kernel_rfl) ?_ _
      go_wp2
      go_ret
      exact ⟨ret_int HE2.out.symm, HBB.out⟩
/-- What is wrong with the yard as the next one. -/
def backE (h : Int) (I : Ins) (n : Int) (s : Stp) : Int := if 0 < h then 8 else if (nth I.l 0).u < n + farF s (nth I.l 0) then 7 else 0
set_option maxRecDepth 1000000 in
set_option maxHeartbeats 2000000 in
theorem wrongBack_any {w : World} {b : Nat} {I : Ins} {sv : Value} {a : Nat} {n g h : Int} {S : List Bool} {tv lv : Value} (hc : CarB w b I sv a n g h S tv lv) (hr : SRow w sv I.l) (hm : mayB I = true) (ha : a < I.l.length)
    (hn : 0 ≤ n ∧ n ≤ 2000000) :
    Calls Try.prog 107 #[.pointer (some ⟨b, 0, none⟩)] w fun e w' => e = .returned (.int .i64 (backE h I n (stp I a))) ∧ Below w.heap.size w w' := by
  have HC := Lib.hid hc
  have HR := Lib.hid hr
  have hl0 : 0 < I.l.length := (pmay_len hm).1
  have hst := (fine_of hm).ok 0 (Int.le_refl _) (by have := (fine_of hm).p0; omega)
  have q7 := hc.c7
  clear hc hr hm
  by_cases h1 : 0 < h
  · have HE := Lib.hid (show backE h I n (stp I a) = 8 from if_pos h1)
    have d1 := decide_eq_true h1
    clear h1
    go_enter Try.func107, Try.ntmps107
    go_wp2
    go_ret
    exact ⟨ret_int HE.out.symm, Below.refl _ _⟩
  have HE := Lib.hid (show backE h I n (stp I a) = if (stp I 0).u < n + farF (stp I a) (stp I 0) then 7 else 0 from if_neg h1)
  have d1 := decide_eq_false h1
  clear h1
  obtain ⟨ad, cap, rfl, _⟩ := HR.out.form
  obtain ⟨tb, off, rfl, hkt, hlt0⟩ := srow_at HR.out 0 hl0
  have HKT := Lib.hid (show At w tb off (stp I 0) by have h0 := hkt; rw [Nat.zero_mul, Nat.add_zero] at h0; exact h0)
  clear hkt
  go_enter Try.func107, Try.ntmps107
  go_wp2_with fail
  have HW2 := Lib.hid ((Below.refl w.heap.size w).drew)
  clear d1
  have HC2 := Lib.hid (HC.out.later HW2.out)
  have HR2 := Lib.hid (HR.out.below HW2.out)
  have hb2 : b < w.drew.heap.size := HC2.out.lt
  have htb2 : tb < w.drew.heap.size := Nat.lt_of_lt_of_le hlt0 HW2.out.size
  have HS0 := Lib.hid (show Holds ((⟨b, 3, none⟩, .slice (some ⟨tb, off, none⟩) I.l.length cap) :: cellsF tb off (stp I 0)) w.drew from ⟨HC2.out.c3, holds_at (HKT.out.below hlt0 HW2.out)⟩)
  have hlt := Lib.hid (show Lows w.drew.heap.size ((⟨b, 3, none⟩, .slice (some ⟨tb, off, none⟩) I.l.length cap) :: cellsF tb off (stp I 0)) from ⟨hb2, lows_at htb2⟩)
  refine wp_region_held_drew (S := Holds ((⟨b, 3, none⟩, .slice (some ⟨tb, off, none⟩) I.l.length cap) :: cellsF tb off (stp I 0))) (by kernel_rfl) HS0.out (fun hSn => ?_)
  have Bc := Lib.hid (Below.refl w.drew.heap.size w.drew)
  unfold cellsF at *
  have hki : (0 : Int) < (I.l.length : Int) := by omega
  refine tks [0, 3, 4, 5, 6, 7, 8, 9, 10] 9 rfl (by kernel_rfl) (fun _ _ _ _ h => h) (by assumption) (fun KT hKT => ?_)
  iterate 9 (refine tkT (by (simp only [gA, gB, gC]; rfl)) (by rfl) (by (intro w hSw; (simp only [Holds] at hSw); go_simp <;> with_reducible rfl)) ?_; simp only [Act.put, pA, pB, pC])
  refine hKT _ ?_
  clear KT hKT
  refine wpAnyH_ready (rs := [1]) (by kernel_rfl) (by simp) ?_
  refine AllReadyH.cons (o := ?oz42) ?iz42 (fun K hK => ?kz42) AllReadyH.nil
  case iz42 => (simp only [List.getElem?_toArray, List.getElem?_cons_zero, List.getElem?_cons_succ]; rfl)
  go_simp
  refine (timeAt_any (k := 0) (HC2.out.later Bc.out) (HR2.out.below Bc.out) ha hl0 hn hst).mono ?_
  rintro e w' ⟨rfl, hb⟩
  refine held_more hK HS0.out hlt (Bc.out.trans (hb.mono Bc.out.size)) (fun Bc hSn => ?_)
  clear hb hK
  have HBB := Lib.hid (HW2.out.trans (Bc.out.mono HW2.out.size))
  rw [show tmN n (stp I a) (stp I ((0 : Nat) : Int)) = ⟨n + farF (stp I a) (stp I 0), max (n + farF (stp I a) (stp I 0)) (stp I 0).r, max (n + farF (stp I a) (stp I 0)) (stp I 0).r + (stp I 0).s⟩ from rfl]
  by_cases h7 : (stp I 0).u < n + farF (stp I a) (stp I 0)
  · have HE2 := Lib.hid (HE.out.trans (if_pos h7))
    have d7 := decide_eq_true h7
    clear h7
    unfold timeV
    have hfl := fieldT0
    refine tks [2, 11, 12] 3 rfl (by kernel_rfl) (fun _ _ _ _ h => h) (by assumption) (fun KT hKT => ?_)
    iterate 3 (refine tkT (by (simp only [gA, gB, gC]; rfl)) (by rfl) (by (intro w hSw; (simp only [Holds] at hSw); go_simp <;> with_reducible rfl)) ?_; simp only [Act.put, pA, pB, pC])
    refine hKT _ ?_
    clear KT hKT
    refine wpAnyH_done (by kernel_rfl) ?_ _
    go_wp2
    go_ret
    exact ⟨ret_int HE2.out.symm, HBB.out⟩
  · have HE2 := Lib.hid (HE.out.trans (if_neg h7))
    have d7 := decide_eq_false h7
    clear h7
    unfold timeV
    have hfl := fieldT0
    refine tks [2, 11, 12] 3 rfl (by kernel_rfl) (fun _ _ _ _ h => h) (by assumption) (fun KT hKT => ?_)
    iterate 3 (refine tkT (by (simp only [gA, gB, gC]; rfl)) (by rfl) (by (intro w hSw; (simp only [Holds] at hSw); go_simp <;> with_reducible rfl)) ?_; simp only [Act.put, pA, pB, pC])
    refine hKT _ ?_
    clear KT hKT
    refine wpAnyH_done (by kernel_rfl) ?_ _
    go_wp2
    go_ret
    exact ⟨ret_int HE2.out.symm, HBB.out⟩
end Go.Proofs.Ytipjaibemhoifaa
