/- What a car's wrongAt and wrongBack answer. -/
import Derived.Test.YtolaiccgbngomaaTMethods
namespace Go.Proofs.Ytolaiccgbngomaa
open Go.ChangeShapes Go.WideShapes Go.ChangeAt Go.RowKit

/-- What is wrong with a stop as the next one. -/
def nextE (I : Ins) (L : List Int) (n : Int) (s : Stp) (i : Int) : Int := if wrongE I L i ≠ 0 then wrongE I L i else if (stp I i).u < (tmN n s (stp I i)).begn then 7 else 0
theorem fieldT0 (x y z : Int) (w : World) : (Instr.field 40 (.agg #[.int .i64 x, .int .i64 y, .int .i64 z]) 0).run Try.prog w = .ok (.int .i64 x) w := by kernel_rfl
theorem fieldT1 (x y z : Int) (w : World) : (Instr.field 40 (.agg #[.int .i64 x, .int .i64 y, .int .i64 z]) 1).run Try.prog w = .ok (.int .i64 y) w := by kernel_rfl
section
variable {I : Ins} {L : List Int} {n : Int} {s : Stp} {i : Int}
theorem nextE_arg (h : i < 1 ∨ 2 * I.p < i) : nextE I L n s i = 1 := by
  have : wrongE I L i = 1 := by unfold wrongE; rw [if_pos h]
  unfold nextE; rw [this, if_pos (by decide)]
theorem nextE_twice (h1 : 1 ≤ i ∧ i ≤ 2 * I.p) (h2 : i ∈ L) : nextE I L n s i = 5 := by
  have : wrongE I L i = 5 := by unfold wrongE; rw [if_neg (by omega), if_pos h2]
  unfold nextE; rw [this, if_pos (by decide)]
theorem nextE_order (h1 : 1 ≤ i ∧ i ≤ 2 * I.p) (h2 : i ∉ L) (h3 : I.p < i) (h4 : i - I.p ∉ L) : nextE I L n s i = 8 := by
  have : wrongE I L i = 8 := by unfold wrongE; rw [if_neg (by omega), if_neg h2, if_pos ⟨h3, h4⟩]
  unfold nextE; rw [this, if_pos (by decide)]
theorem nextE_full (h1 : 1 ≤ i ∧ i ≤ 2 * I.p) (h2 : i ∉ L) (h3 : ¬ (I.p < i ∧ i - I.p ∉ L)) (h4 : I.r < heldL I L + (stp I i).d) : nextE I L n s i = 6 := by
  have : wrongE I L i = 6 := by unfold wrongE; rw [if_neg (by omega), if_neg h2, if_neg h3, if_pos h4]
  unfold nextE; rw [this, if_pos (by decide)]
theorem nextE_rest (h1 : 1 ≤ i ∧ i ≤ 2 * I.p) (h2 : i ∉ L) (h3 : ¬ (I.p < i ∧ i - I.p ∉ L)) (h4 : ¬ I.r < heldL I L + (stp I i).d) : nextE I L n s i = if (stp I i).u < (tmN n s (stp I i)).begn then 7 else 0 := by
  have : wrongE I L i = 0 := by unfold wrongE; rw [if_neg (by omega), if_neg h2, if_neg h3, if_neg h4]
  unfold nextE; rw [this, if_neg (by decide)]
end
set_option maxRecDepth 1000000 in
set_option maxHeartbeats 2000000 in
theorem wrongAt_any {w : World} {b : Nat} {I : Ins} {sv : Value} {a : Nat} {i n g : Int} {L : List Int} {tv lv : Value} (hc : CarB w b I sv a n g (heldL I L) (seenB L) tv lv) (hr : SRow w sv I.l) (hm : mayB I = true) (ha : a < I.l.length)
    (hn : 0 ≤ n ∧ n ≤ 2000000) (hh : 0 ≤ heldL I L ∧ heldL I L ≤ 1000) :
    Calls Try.prog 38 #[.pointer (some ⟨b, 0, none⟩), .int .i64 i] w fun e w' => e = .returned (.int .i64 (nextE I L n (stp I a) i)) ∧ Below w.heap.size w w' := by
  have HC := Lib.hid hc
  have HR := Lib.hid hr
  have HM := Lib.hid (fine_of hm)
  have hp0 := HM.out.p0
  have hp1 := HM.out.p1
  have hl := HM.out.len
  have q0 := hc.c0
  have e1 : IntKind.i64.wrap (2 * I.p) = 2 * I.p := IntWalk.i64_in _ (by omega)
  clear hc hr hm
  by_cases h1 : i < 1
  · have d1 := decide_eq_true h1
    have HE := Lib.hid (nextE_arg (L := L) (n := n) (s := stp I a) (show i < 1 ∨ 2 * I.p < i from .inl h1))
    clear h1
    go_enter Try.func38, Try.ntmps38
    go_wp2
    go_ret
    exact ⟨ret_int HE.out.symm, Below.refl _ _⟩
  have d1 := decide_eq_false h1
  by_cases h2 : 2 * I.p < i
  · have d2 := decide_eq_true h2
    have HE := Lib.hid (nextE_arg (L := L) (n := n) (s := stp I a) (show i < 1 ∨ 2 * I.p < i from .inr h2))
    clear h1 h2
    go_enter Try.func38, Try.ntmps38
    go_wp2
    go_ret
    exact ⟨ret_int HE.out.symm, Below.refl _ _⟩
  have d2 := decide_eq_false h2
  have HI := Lib.hid (show 1 ≤ i ∧ i ≤ 2 * I.p by omega)
  obtain ⟨k, rfl⟩ : ∃ k : Nat, i = (k : Int) := ⟨i.toNat, by omega⟩
  have hk33 : k < 33 := by omega
  have hkl : k < I.l.length := by omega
  clear h1 h2
  have q8 := HC.out.cs k hk33
  rw [seenB_at L k hk33] at q8
  have k33 : (k : Int) < 33 := by omega
  by_cases h3 : (k : Int) ∈ L
  · have HE := Lib.hid (nextE_twice (n := n) (s := stp I a) HI.out h3)
    rw [decide_eq_true h3] at q8
    clear h3
    go_enter Try.func38, Try.ntmps38
    go_wp2
    go_ret
    exact ⟨ret_int HE.out.symm, Below.refl _ _⟩
  have H3 := Lib.hid h3
  rw [decide_eq_false h3] at q8
  clear h3
  obtain ⟨ad, cap, rfl, _⟩ := HR.out.form
  obtain ⟨tb, off, rfl, hkt, hlt0⟩ := srow_at HR.out k hkl
  have HKT := Lib.hid (show At w tb (off + k * 6) (stp I k) from hkt)
  clear hkt
  have hd : -1000 ≤ (stp I (k : Int)).d ∧ (stp I (k : Int)).d ≤ 1000 := by
    by_cases c : (k : Int) ≤ I.p
    · have := HM.out.take (k : Int) HI.out.1 c; omega
    · have h0 := HM.out.bring (k : Int) (by omega) HI.out.2
      have := HM.out.take ((k : Int) - I.p) (by omega) (by omega); omega
  have hst := HM.out.ok (k : Int) (by omega) HI.out.2
  have e3 : IntKind.i64.wrap (heldL I L + (stp I (k : Int)).d) = heldL I L + (stp I (k : Int)).d := IntWalk.i64_in _ (by omega)
  refine Or.elim (show (I.p < (k : Int) ∧ (k : Int) - I.p ∉ L) ∨ (I.p < (k : Int) ∧ (k : Int) - I.p ∈ L) ∨ ¬ I.p < (k : Int) by
    by_cases c : I.p < (k : Int)
    · by_cases c2 : (k : Int) - I.p ∈ L
      · exact .inr (.inl ⟨c, c2⟩)
      · exact .inl ⟨c, c2⟩
    · exact .inr (.inr c)) (fun h => ?bad) (fun h => Or.elim h (fun h => ?pa) (fun h => ?pb))
  case bad =>
    have HE := Lib.hid (nextE_order (n := n) (s := stp I a) HI.out H3.out h.1 h.2)
    obtain ⟨m, hm⟩ : ∃ m : Nat, (k : Int) - I.p = (m : Int) := ⟨((k : Int) - I.p).toNat, by omega⟩
    have hm33 : m < 33 := by omega
    have q9 := HC.out.cs m hm33
    rw [seenB_at L m hm33, ← hm, decide_eq_false h.2] at q9
    have e2 : IntKind.i64.wrap ((k : Int) - I.p) = (m : Int) := by rw [← hm]; exact IntWalk.i64_in _ (by omega)
    have m33 : (m : Int) < 33 := by omega
    have d3 := decide_eq_true h.1
    clear h hm
    go_enter Try.func38, Try.ntmps38
    go_wp2_with fail
    go_quiet (fail)
    go_wp2
    go_ret
    exact ⟨ret_int HE.out.symm, below_drewN (Below.refl _ _) nq⟩
  case' pa =>
    have HO := Lib.hid (show ¬ (I.p < (k : Int) ∧ (k : Int) - I.p ∉ L) from fun x => x.2 h.2)
    obtain ⟨m, hm⟩ : ∃ m : Nat, (k : Int) - I.p = (m : Int) := ⟨((k : Int) - I.p).toNat, by omega⟩
    have hm33 : m < 33 := by omega
    have q9 := HC.out.cs m hm33
    rw [seenB_at L m hm33, ← hm, decide_eq_true h.2] at q9
    have e2 : IntKind.i64.wrap ((k : Int) - I.p) = (m : Int) := by rw [← hm]; exact IntWalk.i64_in _ (by omega)
    have m33 : (m : Int) < 33 := by omega
    have d3 := decide_eq_true h.1
    clear h hm
    go_enter Try.func38, Try.ntmps38
    go_wp2_with fail
    go_quiet (fail)
    clear d3 q9 e2 m33 hm33
  case' pb =>
    have HO := Lib.hid (show ¬ (I.p < (k : Int) ∧ (k : Int) - I.p ∉ L) from fun x => h x.1)
    have d3 := decide_eq_false h
    clear h
    go_enter Try.func38, Try.ntmps38
    go_wp2_with fail
    go_quiet (fail)
    clear d3
  all_goals
    have HW := Lib.hid (below_drewN (Below.refl w.heap.size w) nq)
    generalize w.drewN nq = w1 at *
    clear q0 q8
    have q2 := (HC.out.later HW.out).c2
    have q3 := (HC.out.later HW.out).c3
    have q7 := (HC.out.later HW.out).c7
    obtain ⟨t0, t1, t2, t3, t4, t5⟩ := HKT.out.below hlt0 HW.out
    by_cases h6 : I.r < heldL I L + (stp I (k : Int)).d
    · have HE := Lib.hid (nextE_full (n := n) (s := stp I a) HI.out H3.out HO.out h6)
      have d4 := decide_eq_true h6
      clear h6
      go_wp2_with fail
      go_quiet (fail)
      go_wp2
      go_ret
      exact ⟨ret_int HE.out.symm, below_drewN HW.out nq⟩
    have HE := Lib.hid (nextE_rest (n := n) (s := stp I a) HI.out H3.out HO.out h6)
    have d4 := decide_eq_false h6
    clear h6
    go_wp2_with fail
    go_quiet (fail)
    have HW2 := Lib.hid ((below_drewN HW.out nq).drew)
    generalize w1.drewN nq = w2 at *
    clear d4 q2 q3 q7 t0 t1 t2 t3 t4 t5 e1 d1 d2 e3
    go_wp2_with fail
  · have HC2 := Lib.hid (HC.out.later HW2.out)
    have HR2 := Lib.hid (HR.out.below HW2.out)
    have hb2 : b < w2.drew.heap.size := HC2.out.lt
    have htb2 : tb < w2.drew.heap.size := Nat.lt_of_lt_of_le hlt0 HW2.out.size
    have HS0 := Lib.hid (show Holds ((⟨b, 3, none⟩, .slice (some ⟨tb, off, none⟩) I.l.length cap) :: cellsF tb (off + k * 6) (stp I (k : Int))) w2.drew from ⟨HC2.out.c3, holds_at (HKT.out.below hlt0 HW2.out)⟩)
    have hlt := Lib.hid (show Lows w2.drew.heap.size ((⟨b, 3, none⟩, .slice (some ⟨tb, off, none⟩) I.l.length cap) :: cellsF tb (off + k * 6) (stp I (k : Int))) from ⟨hb2, lows_at htb2⟩)
    refine wp_region_held_drew (S := Holds ((⟨b, 3, none⟩, .slice (some ⟨tb, off, none⟩) I.l.length cap) :: cellsF tb (off + k * 6) (stp I (k : Int)))) (by kernel_rfl) HS0.out (fun hSn => ?_)
    have Bc := Lib.hid (Below.refl w2.drew.heap.size w2.drew)
    unfold cellsF at *
    have hki : (k : Int) < (I.l.length : Int) := by omega
    clear hl
    refine wpAnyH_take (i := 0) (oi := ?oz1) (v := ?vz1) ?iz1 (by kernel_rfl) (by kernel_rfl) (by kernel_rfl) ?qz1 (Or.inl ⟨?gz1, ?hz1⟩) (by assumption) ?rz1
    case iz1 => (simp only [List.getElem?_toArray, List.getElem?_cons_zero]; rfl)
    case qz1 => exact fun _ _ _ h => h
    case gz1 => rfl
    case hz1 => (intro w hSw; (simp only [Holds] at hSw); go_simp <;> with_reducible rfl)
    simp only [Act.put, List.setIfInBounds_toArray, List.set_cons_zero, List.set_cons_succ]
    refine wpAnyH_take (i := 1) (oi := ?oz2) (v := ?vz2) ?iz2 (by kernel_rfl) (by kernel_rfl) (by kernel_rfl) ?qz2 (Or.inl ⟨?gz2, ?hz2⟩) (by assumption) ?rz2
    case iz2 => (simp only [List.getElem?_toArray, List.getElem?_cons_zero, List.getElem?_cons_succ]; rfl)
    case qz2 => exact fun _ _ _ h => h
    case gz2 => rfl
    case hz2 => (intro w hSw; (simp only [Holds] at hSw); go_simp <;> with_reducible rfl)
    simp only [Act.put, List.setIfInBounds_toArray, List.set_cons_zero, List.set_cons_succ]
    refine wpAnyH_take (i := 4) (oi := ?oz3) (v := ?vz3) ?iz3 (by kernel_rfl) (by kernel_rfl) (by kernel_rfl) ?qz3 (Or.inl ⟨?gz3, ?hz3⟩) (by assumption) ?rz3
    case iz3 => (simp only [List.getElem?_toArray, List.getElem?_cons_zero, List.getElem?_cons_succ]; rfl)
    case qz3 => exact fun _ _ _ h => h
    case gz3 => rfl
    case hz3 => (intro w hSw; (simp only [Holds] at hSw); go_simp <;> with_reducible rfl)
    simp only [Act.put, List.setIfInBounds_toArray, List.set_cons_zero, List.set_cons_succ]
    refine wpAnyH_take (i := 5) (oi := ?oz4) (v := ?vz4) ?iz4 (by kernel_rfl) (by kernel_rfl) (by kernel_rfl) ?qz4 (Or.inl ⟨?gz4, ?hz4⟩) (by assumption) ?rz4
    case iz4 => (simp only [List.getElem?_toArray, List.getElem?_cons_zero, List.getElem?_cons_succ]; rfl)
    case qz4 => exact fun _ _ _ h => h
    case gz4 => rfl
    case hz4 => (intro w hSw; (simp only [Holds] at hSw); go_simp <;> with_reducible rfl)
    simp only [Act.put, List.setIfInBounds_toArray, List.set_cons_zero, List.set_cons_succ]
    refine wpAnyH_take (i := 6) (oi := ?oz5) (v := ?vz5) ?iz5 (by kernel_rfl) (by kernel_rfl) (by kernel_rfl) ?qz5 (Or.inl ⟨?gz5, ?hz5⟩) (by assumption) ?rz5
    case iz5 => (simp only [List.getElem?_toArray, List.getElem?_cons_zero, List.getElem?_cons_succ]; rfl)
    case qz5 => exact fun _ _ _ h => h
    case gz5 => rfl
    case hz5 => (intro w hSw; (simp only [Holds] at hSw); go_simp <;> with_reducible rfl)
    simp only [Act.put, List.setIfInBounds_toArray, List.set_cons_zero, List.set_cons_succ]
    refine wpAnyH_take (i := 7) (oi := ?oz6) (v := ?vz6) ?iz6 (by kernel_rfl) (by kernel_rfl) (by kernel_rfl) ?qz6 (Or.inl ⟨?gz6, ?hz6⟩) (by assumption) ?rz6
    case iz6 => (simp only [List.getElem?_toArray, List.getElem?_cons_zero, List.getElem?_cons_succ]; rfl)
    case qz6 => exact fun _ _ _ h => h
    case gz6 => rfl
    case hz6 => (intro w hSw; (simp only [Holds] at hSw); go_simp <;> with_reducible rfl)
    simp only [Act.put, List.setIfInBounds_toArray, List.set_cons_zero, List.set_cons_succ]
    refine wpAnyH_take (i := 8) (oi := ?oz7) (v := ?vz7) ?iz7 (by kernel_rfl) (by kernel_rfl) (by kernel_rfl) ?qz7 (Or.inl ⟨?gz7, ?hz7⟩) (by assumption) ?rz7
    case iz7 => (simp only [List.getElem?_toArray, List.getElem?_cons_zero, List.getElem?_cons_succ]; rfl)
    case qz7 => exact fun _ _ _ h => h
    case gz7 => rfl
    case hz7 => (intro w hSw; (simp only [Holds] at hSw); go_simp <;> with_reducible rfl)
    simp only [Act.put, List.setIfInBounds_toArray, List.set_cons_zero, List.set_cons_succ]
    refine wpAnyH_take (i := 9) (oi := ?oz8) (v := ?vz8) ?iz8 (by kernel_rfl) (by kernel_rfl) (by kernel_rfl) ?qz8 (Or.inl ⟨?gz8, ?hz8⟩) (by assumption) ?rz8
    case iz8 => (simp only [List.getElem?_toArray, List.getElem?_cons_zero, List.getElem?_cons_succ]; rfl)
    case qz8 => exact fun _ _ _ h => h
    case gz8 => rfl
    case hz8 => (intro w hSw; (simp only [Holds] at hSw); go_simp <;> with_reducible rfl)
    simp only [Act.put, List.setIfInBounds_toArray, List.set_cons_zero, List.set_cons_succ]
    refine wpAnyH_take (i := 10) (oi := ?oz9) (v := ?vz9) ?iz9 (by kernel_rfl) (by kernel_rfl) (by kernel_rfl) ?qz9 (Or.inl ⟨?gz9, ?hz9⟩) (by assumption) ?rz9
    case iz9 => (simp only [List.getElem?_toArray, List.getElem?_cons_zero, List.getElem?_cons_succ]; rfl)
    case qz9 => exact fun _ _ _ h => h
    case gz9 => rfl
    case hz9 => (intro w hSw; (simp only [Holds] at hSw); go_simp <;> with_reducible rfl)
    simp only [Act.put, List.setIfInBounds_toArray, List.set_cons_zero, List.set_cons_succ]
    refine wpAnyH_take (i := 11) (oi := ?oz10) (v := ?vz10) ?iz10 (by kernel_rfl) (by kernel_rfl) (by kernel_rfl) ?qz10 (Or.inl ⟨?gz10, ?hz10⟩) (by assumption) ?rz10
    case iz10 => (simp only [List.getElem?_toArray, List.getElem?_cons_zero, List.getElem?_cons_succ]; rfl)
    case qz10 => exact fun _ _ _ h => h
    case gz10 => rfl
    case hz10 => (intro w hSw; (simp only [Holds] at hSw); go_simp <;> with_reducible rfl)
    simp only [Act.put, List.setIfInBounds_toArray, List.set_cons_zero, List.set_cons_succ]
    refine wpAnyH_take (i := 12) (oi := ?oz11) (v := ?vz11) ?iz11 (by kernel_rfl) (by kernel_rfl) (by kernel_rfl) ?qz11 (Or.inl ⟨?gz11, ?hz11⟩) (by assumption) ?rz11
    case iz11 => (simp only [List.getElem?_toArray, List.getElem?_cons_zero, List.getElem?_cons_succ]; rfl)
    case qz11 => exact fun _ _ _ h => h
    case gz11 => rfl
    case hz11 => (intro w hSw; (simp only [Holds] at hSw); go_simp <;> with_reducible rfl)
    simp only [Act.put, List.setIfInBounds_toArray, List.set_cons_zero, List.set_cons_succ]
    refine wpAnyH_ready (rs := [2]) (by kernel_rfl) (by simp) ?_
    refine AllReadyH.cons (o := ?oz12) ?iz12 (fun K hK => ?kz12) AllReadyH.nil
    case iz12 => (simp only [List.getElem?_toArray, List.getElem?_cons_zero, List.getElem?_cons_succ]; rfl)
    go_simp
    refine (timeAt_any (HC2.out.later Bc.out) (HR2.out.below Bc.out) ha hkl hn hst).mono ?_
    rintro e w' ⟨rfl, hb⟩
    refine held_more hK HS0.out hlt (Bc.out.trans (hb.mono Bc.out.size)) (fun Bc hSn => ?_)
    clear hb hK
    have HBB := Lib.hid (HW2.out.trans (Bc.out.mono HW2.out.size))
    have HE2 := Lib.hid HE.out
    by_cases h7 : (stp I (k : Int)).u < (tmN n (stp I a) (stp I (k : Int))).begn
    · have HE2 := Lib.hid (HE.out.trans (if_pos h7))
      have d7 := decide_eq_true h7
      clear h7
      unfold timeV
      have hfl := fieldT1
      refine wpAnyH_take (i := 3) (oi := ?oz13) (v := ?vz13) ?iz13 (by kernel_rfl) (by kernel_rfl) (by kernel_rfl) ?qz13 (Or.inl ⟨?gz13, ?hz13⟩) (by assumption) ?rz13
      case iz13 => (simp only [List.getElem?_toArray, List.getElem?_cons_zero, List.getElem?_cons_succ]; rfl)
      case qz13 => exact fun _ _ _ h => h
      case gz13 => rfl
      case hz13 => (intro w hSw; (simp only [Holds] at hSw); go_simp <;> with_reducible rfl)
      simp only [Act.put, List.setIfInBounds_toArray, List.set_cons_zero, List.set_cons_succ]
      refine wpAnyH_take (i := 13) (oi := ?oz14) (v := ?vz14) ?iz14 (by kernel_rfl) (by kernel_rfl) (by kernel_rfl) ?qz14 (Or.inl ⟨?gz14, ?hz14⟩) (by assumption) ?rz14
      case iz14 => (simp only [List.getElem?_toArray, List.getElem?_cons_zero, List.getElem?_cons_succ]; rfl)
      case qz14 => exact fun _ _ _ h => h
      case gz14 => rfl
      case hz14 => (intro w hSw; (simp only [Holds] at hSw); go_simp <;> with_reducible rfl)
      simp only [Act.put, List.setIfInBounds_toArray, List.set_cons_zero, List.set_cons_succ]
      refine wpAnyH_take (i := 14) (oi := ?oz15) (v := ?vz15) ?iz15 (by kernel_rfl) (by kernel_rfl) (by kernel_rfl) ?qz15 (Or.inl ⟨?gz15, ?hz15⟩) (by assumption) ?rz15
      case iz15 => (simp only [List.getElem?_toArray, List.getElem?_cons_zero, List.getElem?_cons_succ]; rfl)
      case qz15 => exact fun _ _ _ h => h
      case gz15 => rfl
      case hz15 => (intro w hSw; (simp only [Holds] at hSw); go_simp <;> with_reducible rfl)
      simp only [Act.put, List.setIfInBounds_toArray, List.set_cons_zero, List.set_cons_succ]
      refine wpAnyH_done (by kernel_rfl) ?_ _
      go_wp2
      go_ret
      exact ⟨ret_int HE2.out.symm, HBB.out⟩
    · have HE2 := Lib.hid (HE.out.trans (if_neg h7))
      have d7 := decide_eq_false h7
      clear h7
      unfold timeV
      have hfl := fieldT1
      refine wpAnyH_take (i := 3) (oi := ?oz16) (v := ?vz16) ?iz16 (by kernel_rfl) (by kernel_rfl) (by kernel_rfl) ?qz16 (Or.inl ⟨?gz16, ?hz16⟩) (by assumption) ?rz16
      case iz16 => (simp only [List.getElem?_toArray, List.getElem?_cons_zero, List.getElem?_cons_succ]; rfl)
      case qz16 => exact fun _ _ _ h => h
      case gz16 => rfl
      case hz16 => (intro w hSw; (simp only [Holds] at hSw); go_simp <;> with_reducible rfl)
      simp only [Act.put, List.setIfInBounds_toArray, List.set_cons_zero, List.set_cons_succ]
      refine wpAnyH_take (i := 13) (oi := ?oz17) (v := ?vz17) ?iz17 (by kernel_rfl) (by kernel_rfl) (by kernel_rfl) ?qz17 (Or.inl ⟨?gz17, ?hz17⟩) (by assumption) ?rz17
      case iz17 => (simp only [List.getElem?_toArray, List.getElem?_cons_zero, List.getElem?_cons_succ]; rfl)
      case qz17 => exact fun _ _ _ h => h
      case gz17 => rfl
      case hz17 => (intro w hSw; (simp only [Holds] at hSw); go_simp <;> with_reducible rfl)
      simp only [Act.put, List.setIfInBounds_toArray, List.set_cons_zero, List.set_cons_succ]
      refine wpAnyH_take (i := 14) (oi := ?oz18) (v := ?vz18) ?iz18 (by kernel_rfl) (by kernel_rfl) (by kernel_rfl) ?qz18 (Or.inl ⟨?gz18, ?hz18⟩) (by assumption) ?rz18
      case iz18 => (simp only [List.getElem?_toArray, List.getElem?_cons_zero, List.getElem?_cons_succ]; rfl)
      case qz18 => exact fun _ _ _ h => h
      case gz18 => rfl
      case hz18 => (intro w hSw; (simp only [Holds] at hSw); go_simp <;> with_reducible rfl)
      simp only [Act.put, List.setIfInBounds_toArray, List.set_cons_zero, List.set_cons_succ]
      refine wpAnyH_done (by kernel_rfl) ?_ _
      go_wp2
      go_ret
      exact ⟨ret_int HE2.out.symm, HBB.out⟩
  · have HC2 := Lib.hid (HC.out.later HW2.out)
    have HR2 := Lib.hid (HR.out.below HW2.out)
    have hb2 : b < w2.drew.heap.size := HC2.out.lt
    have htb2 : tb < w2.drew.heap.size := Nat.lt_of_lt_of_le hlt0 HW2.out.size
    have HS0 := Lib.hid (show Holds ((⟨b, 3, none⟩, .slice (some ⟨tb, off, none⟩) I.l.length cap) :: cellsF tb (off + k * 6) (stp I (k : Int))) w2.drew from ⟨HC2.out.c3, holds_at (HKT.out.below hlt0 HW2.out)⟩)
    have hlt := Lib.hid (show Lows w2.drew.heap.size ((⟨b, 3, none⟩, .slice (some ⟨tb, off, none⟩) I.l.length cap) :: cellsF tb (off + k * 6) (stp I (k : Int))) from ⟨hb2, lows_at htb2⟩)
    refine wp_region_held_drew (S := Holds ((⟨b, 3, none⟩, .slice (some ⟨tb, off, none⟩) I.l.length cap) :: cellsF tb (off + k * 6) (stp I (k : Int)))) (by kernel_rfl) HS0.out (fun hSn => ?_)
    have Bc := Lib.hid (Below.refl w2.drew.heap.size w2.drew)
    unfold cellsF at *
    have hki : (k : Int) < (I.l.length : Int) := by omega
    clear hl
    refine wpAnyH_take (i := 0) (oi := ?oz19) (v := ?vz19) ?iz19 (by kernel_rfl) (by kernel_rfl) (by kernel_rfl) ?qz19 (Or.inl ⟨?gz19, ?hz19⟩) (by assumption) ?rz19
    case iz19 => (simp only [List.getElem?_toArray, List.getElem?_cons_zero]; rfl)
    case qz19 => exact fun _ _ _ h => h
    case gz19 => rfl
    case hz19 => (intro w hSw; (simp only [Holds] at hSw); go_simp <;> with_reducible rfl)
    simp only [Act.put, List.setIfInBounds_toArray, List.set_cons_zero, List.set_cons_succ]
    refine wpAnyH_take (i := 1) (oi := ?oz20) (v := ?vz20) ?iz20 (by kernel_rfl) (by kernel_rfl) (by kernel_rfl) ?qz20 (Or.inl ⟨?gz20, ?hz20⟩) (by assumption) ?rz20
    case iz20 => (simp only [List.getElem?_toArray, List.getElem?_cons_zero, List.getElem?_cons_succ]; rfl)
    case qz20 => exact fun _ _ _ h => h
    case gz20 => rfl
    case hz20 => (intro w hSw; (simp only [Holds] at hSw); go_simp <;> with_reducible rfl)
    simp only [Act.put, List.setIfInBounds_toArray, List.set_cons_zero, List.set_cons_succ]
    refine wpAnyH_take (i := 4) (oi := ?oz21) (v := ?vz21) ?iz21 (by kernel_rfl) (by kernel_rfl) (by kernel_rfl) ?qz21 (Or.inl ⟨?gz21, ?hz21⟩) (by assumption) ?rz21
    case iz21 => (simp only [List.getElem?_toArray, List.getElem?_cons_zero, List.getElem?_cons_succ]; rfl)
    case qz21 => exact fun _ _ _ h => h
    case gz21 => rfl
    case hz21 => (intro w hSw; (simp only [Holds] at hSw); go_simp <;> with_reducible rfl)
    simp only [Act.put, List.setIfInBounds_toArray, List.set_cons_zero, List.set_cons_succ]
    refine wpAnyH_take (i := 5) (oi := ?oz22) (v := ?vz22) ?iz22 (by kernel_rfl) (by kernel_rfl) (by kernel_rfl) ?qz22 (Or.inl ⟨?gz22, ?hz22⟩) (by assumption) ?rz22
    case iz22 => (simp only [List.getElem?_toArray, List.getElem?_cons_zero, List.getElem?_cons_succ]; rfl)
    case qz22 => exact fun _ _ _ h => h
    case gz22 => rfl
    case hz22 => (intro w hSw; (simp only [Holds] at hSw); go_simp <;> with_reducible rfl)
    simp only [Act.put, List.setIfInBounds_toArray, List.set_cons_zero, List.set_cons_succ]
    refine wpAnyH_take (i := 6) (oi := ?oz23) (v := ?vz23) ?iz23 (by kernel_rfl) (by kernel_rfl) (by kernel_rfl) ?qz23 (Or.inl ⟨?gz23, ?hz23⟩) (by assumption) ?rz23
    case iz23 => (simp only [List.getElem?_toArray, List.getElem?_cons_zero, List.getElem?_cons_succ]; rfl)
    case qz23 => exact fun _ _ _ h => h
    case gz23 => rfl
    case hz23 => (intro w hSw; (simp only [Holds] at hSw); go_simp <;> with_reducible rfl)
    simp only [Act.put, List.setIfInBounds_toArray, List.set_cons_zero, List.set_cons_succ]
    refine wpAnyH_take (i := 7) (oi := ?oz24) (v := ?vz24) ?iz24 (by kernel_rfl) (by kernel_rfl) (by kernel_rfl) ?qz24 (Or.inl ⟨?gz24, ?hz24⟩) (by assumption) ?rz24
    case iz24 => (simp only [List.getElem?_toArray, List.getElem?_cons_zero, List.getElem?_cons_succ]; rfl)
    case qz24 => exact fun _ _ _ h => h
    case gz24 => rfl
    case hz24 => (intro w hSw; (simp only [Holds] at hSw); go_simp <;> with_reducible rfl)
    simp only [Act.put, List.setIfInBounds_toArray, List.set_cons_zero, List.set_cons_succ]
    refine wpAnyH_take (i := 8) (oi := ?oz25) (v := ?vz25) ?iz25 (by kernel_rfl) (by kernel_rfl) (by kernel_rfl) ?qz25 (Or.inl ⟨?gz25, ?hz25⟩) (by assumption) ?rz25
    case iz25 => (simp only [List.getElem?_toArray, List.getElem?_cons_zero, List.getElem?_cons_succ]; rfl)
    case qz25 => exact fun _ _ _ h => h
    case gz25 => rfl
    case hz25 => (intro w hSw; (simp only [Holds] at hSw); go_simp <;> with_reducible rfl)
    simp only [Act.put, List.setIfInBounds_toArray, List.set_cons_zero, List.set_cons_succ]
    refine wpAnyH_take (i := 9) (oi := ?oz26) (v := ?vz26) ?iz26 (by kernel_rfl) (by kernel_rfl) (by kernel_rfl) ?qz26 (Or.inl ⟨?gz26, ?hz26⟩) (by assumption) ?rz26
    case iz26 => (simp only [List.getElem?_toArray, List.getElem?_cons_zero, List.getElem?_cons_succ]; rfl)
    case qz26 => exact fun _ _ _ h => h
    case gz26 => rfl
    case hz26 => (intro w hSw; (simp only [Holds] at hSw); go_simp <;> with_reducible rfl)
    simp only [Act.put, List.setIfInBounds_toArray, List.set_cons_zero, List.set_cons_succ]
    refine wpAnyH_take (i := 10) (oi := ?oz27) (v := ?vz27) ?iz27 (by kernel_rfl) (by kernel_rfl) (by kernel_rfl) ?qz27 (Or.inl ⟨?gz27, ?hz27⟩) (by assumption) ?rz27
    case iz27 => (simp only [List.getElem?_toArray, List.getElem?_cons_zero, List.getElem?_cons_succ]; rfl)
    case qz27 => exact fun _ _ _ h => h
    case gz27 => rfl
    case hz27 => (intro w hSw; (simp only [Holds] at hSw); go_simp <;> with_reducible rfl)
    simp only [Act.put, List.setIfInBounds_toArray, List.set_cons_zero, List.set_cons_succ]
    refine wpAnyH_take (i := 11) (oi := ?oz28) (v := ?vz28) ?iz28 (by kernel_rfl) (by kernel_rfl) (by kernel_rfl) ?qz28 (Or.inl ⟨?gz28, ?hz28⟩) (by assumption) ?rz28
    case iz28 => (simp only [List.getElem?_toArray, List.getElem?_cons_zero, List.getElem?_cons_succ]; rfl)
    case qz28 => exact fun _ _ _ h => h
    case gz28 => rfl
    case hz28 => (intro w hSw; (simp only [Holds] at hSw); go_simp <;> with_reducible rfl)
    simp only [Act.put, List.setIfInBounds_toArray, List.set_cons_zero, List.set_cons_succ]
    refine wpAnyH_take (i := 12) (oi := ?oz29) (v := ?vz29) ?iz29 (by kernel_rfl) (by kernel_rfl) (by kernel_rfl) ?qz29 (Or.inl ⟨?gz29, ?hz29⟩) (by assumption) ?rz29
    case iz29 => (simp only [List.getElem?_toArray, List.getElem?_cons_zero, List.getElem?_cons_succ]; rfl)
    case qz29 => exact fun _ _ _ h => h
    case gz29 => rfl
    case hz29 => (intro w hSw; (simp only [Holds] at hSw); go_simp <;> with_reducible rfl)
    simp only [Act.put, List.setIfInBounds_toArray, List.set_cons_zero, List.set_cons_succ]
    refine wpAnyH_ready (rs := [2]) (by kernel_rfl) (by simp) ?_
    refine AllReadyH.cons (o := ?oz30) ?iz30 (fun K hK => ?kz30) AllReadyH.nil
    case iz30 => (simp only [List.getElem?_toArray, List.getElem?_cons_zero, List.getElem?_cons_succ]; rfl)
    go_simp
    refine (timeAt_any (HC2.out.later Bc.out) (HR2.out.below Bc.out) ha hkl hn hst).mono ?_
    rintro e w' ⟨rfl, hb⟩
    refine held_more hK HS0.out hlt (Bc.out.trans (hb.mono Bc.out.size)) (fun Bc hSn => ?_)
    clear hb hK
    have HBB := Lib.hid (HW2.out.trans (Bc.out.mono HW2.out.size))
    have HE2 := Lib.hid HE.out
    by_cases h7 : (stp I (k : Int)).u < (tmN n (stp I a) (stp I (k : Int))).begn
    · have HE2 := Lib.hid (HE.out.trans (if_pos h7))
      have d7 := decide_eq_true h7
      clear h7
      unfold timeV
      have hfl := fieldT1
      refine wpAnyH_take (i := 3) (oi := ?oz31) (v := ?vz31) ?iz31 (by kernel_rfl) (by kernel_rfl) (by kernel_rfl) ?qz31 (Or.inl ⟨?gz31, ?hz31⟩) (by assumption) ?rz31
      case iz31 => (simp only [List.getElem?_toArray, List.getElem?_cons_zero, List.getElem?_cons_succ]; rfl)
      case qz31 => exact fun _ _ _ h => h
      case gz31 => rfl
      case hz31 => (intro w hSw; (simp only [Holds] at hSw); go_simp <;> with_reducible rfl)
      simp only [Act.put, List.setIfInBounds_toArray, List.set_cons_zero, List.set_cons_succ]
      refine wpAnyH_take (i := 13) (oi := ?oz32) (v := ?vz32) ?iz32 (by kernel_rfl) (by kernel_rfl) (by kernel_rfl) ?qz32 (Or.inl ⟨?gz32, ?hz32⟩) (by assumption) ?rz32
      case iz32 => (simp only [List.getElem?_toArray, List.getElem?_cons_zero, List.getElem?_cons_succ]; rfl)
      case qz32 => exact fun _ _ _ h => h
      case gz32 => rfl
      case hz32 => (intro w hSw; (simp only [Holds] at hSw); go_simp <;> with_reducible rfl)
      simp only [Act.put, List.setIfInBounds_toArray, List.set_cons_zero, List.set_cons_succ]
      refine wpAnyH_take (i := 14) (oi := ?oz33) (v := ?vz33) ?iz33 (by kernel_rfl) (by kernel_rfl) (by kernel_rfl) ?qz33 (Or.inl ⟨?gz33, ?hz33⟩) (by assumption) ?rz33
      case iz33 => (simp only [List.getElem?_toArray, List.getElem?_cons_zero, List.getElem?_cons_succ]; rfl)
      case qz33 => exact fun _ _ _ h => h
      case gz33 => rfl
      case hz33 => (intro w hSw; (simp only [Holds] at hSw); go_simp <;> with_reducible rfl)
      simp only [Act.put, List.setIfInBounds_toArray, List.set_cons_zero, List.set_cons_succ]
      refine wpAnyH_done (by kernel_rfl) ?_ _
      go_wp2
      go_ret
      exact ⟨ret_int HE2.out.symm, HBB.out⟩
    · have HE2 := Lib.hid (HE.out.trans (if_neg h7))
      have d7 := decide_eq_false h7
      clear h7
      unfold timeV
      have hfl := fieldT1
      refine wpAnyH_take (i := 3) (oi := ?oz34) (v := ?vz34) ?iz34 (by kernel_rfl) (by kernel_rfl) (by kernel_rfl) ?qz34 (Or.inl ⟨?gz34, ?hz34⟩) (by assumption) ?rz34
      case iz34 => (simp only [List.getElem?_toArray, List.getElem?_cons_zero, List.getElem?_cons_succ]; rfl)
      case qz34 => exact fun _ _ _ h => h
      case gz34 => rfl
      case hz34 => (intro w hSw; (simp only [Holds] at hSw); go_simp <;> with_reducible rfl)
      simp only [Act.put, List.setIfInBounds_toArray, List.set_cons_zero, List.set_cons_succ]
      refine wpAnyH_take (i := 13) (oi := ?oz35) (v := ?vz35) ?iz35 (by kernel_rfl) (by kernel_rfl) (by kernel_rfl) ?qz35 (Or.inl ⟨?gz35, ?hz35⟩) (by assumption) ?rz35
      case iz35 => (simp only [List.getElem?_toArray, List.getElem?_cons_zero, List.getElem?_cons_succ]; rfl)
      case qz35 => exact fun _ _ _ h => h
      case gz35 => rfl
      case hz35 => (intro w hSw; (simp only [Holds] at hSw); go_simp <;> with_reducible rfl)
      simp only [Act.put, List.setIfInBounds_toArray, List.set_cons_zero, List.set_cons_succ]
      refine wpAnyH_take (i := 14) (oi := ?oz36) (v := ?vz36) ?iz36 (by kernel_rfl) (by kernel_rfl) (by kernel_rfl) ?qz36 (Or.inl ⟨?gz36, ?hz36⟩) (by assumption) ?rz36
      case iz36 => (simp only [List.getElem?_toArray, List.getElem?_cons_zero, List.getElem?_cons_succ]; rfl)
      case qz36 => exact fun _ _ _ h => h
      case gz36 => rfl
      case hz36 => (intro w hSw; (simp only [Holds] at hSw); go_simp <;> with_reducible rfl)
      simp only [Act.put, List.setIfInBounds_toArray, List.set_cons_zero, List.set_cons_succ]
      refine wpAnyH_done (by kernel_rfl) ?_ _
      go_wp2
      go_ret
      exact ⟨ret_int HE2.out.symm, HBB.out⟩
/-- What is wrong with the yard as the next one. -/
def backE (h : Int) (I : Ins) (n : Int) (s : Stp) : Int := if 0 < h then 8 else if (nth I.l 0).u < n + farF s (nth I.l 0) then 7 else 0
set_option maxRecDepth 1000000 in
set_option maxHeartbeats 2000000 in
theorem wrongBack_any {w : World} {b : Nat} {I : Ins} {sv : Value} {a : Nat} {n g h : Int} {S : List Bool} {tv lv : Value} (hc : CarB w b I sv a n g h S tv lv) (hr : SRow w sv I.l) (hm : mayB I = true) (ha : a < I.l.length)
    (hn : 0 ≤ n ∧ n ≤ 2000000) :
    Calls Try.prog 40 #[.pointer (some ⟨b, 0, none⟩)] w fun e w' => e = .returned (.int .i64 (backE h I n (stp I a))) ∧ Below w.heap.size w w' := by
  have HC := Lib.hid hc
  have HR := Lib.hid hr
  have hl0 : 0 < I.l.length := (pmay_len hm).1
  have hst := (fine_of hm).ok 0 (Int.le_refl _) (by have := (fine_of hm).p0; omega)
  have q7 := hc.c7
  clear hc hr hm
  by_cases h1 : 0 < h
  · have HE := Lib.hid (show backE h I n (stp I a) = 8 from if_pos h1)
    have d1 := decide_eq_true h1
    clear h1
    go_enter Try.func40, Try.ntmps40
    go_wp2
    go_ret
    exact ⟨ret_int HE.out.symm, Below.refl _ _⟩
  have HE := Lib.hid (show backE h I n (stp I a) = if (stp I 0).u < n + farF (stp I a) (stp I 0) then 7 else 0 from if_neg h1)
  have d1 := decide_eq_false h1
  clear h1
  obtain ⟨ad, cap, rfl, _⟩ := HR.out.form
  obtain ⟨tb, off, rfl, hkt, hlt0⟩ := srow_at HR.out 0 hl0
  have HKT := Lib.hid (show At w tb off (stp I 0) by have h0 := hkt; rw [Nat.zero_mul, Nat.add_zero] at h0; exact h0)
  clear hkt
  go_enter Try.func40, Try.ntmps40
  go_wp2_with fail
  have HW2 := Lib.hid ((Below.refl w.heap.size w).drew)
  clear d1
  have HC2 := Lib.hid (HC.out.later HW2.out)
  have HR2 := Lib.hid (HR.out.below HW2.out)
  have hb2 : b < w.drew.heap.size := HC2.out.lt
  have htb2 : tb < w.drew.heap.size := Nat.lt_of_lt_of_le hlt0 HW2.out.size
  have HS0 := Lib.hid (show Holds ((⟨b, 3, none⟩, .slice (some ⟨tb, off, none⟩) I.l.length cap) :: cellsF tb off (stp I 0)) w.drew from ⟨HC2.out.c3, holds_at (HKT.out.below hlt0 HW2.out)⟩)
  have hlt := Lib.hid (show Lows w.drew.heap.size ((⟨b, 3, none⟩, .slice (some ⟨tb, off, none⟩) I.l.length cap) :: cellsF tb off (stp I 0)) from ⟨hb2, lows_at htb2⟩)
  refine wp_region_held_drew (S := Holds ((⟨b, 3, none⟩, .slice (some ⟨tb, off, none⟩) I.l.length cap) :: cellsF tb off (stp I 0))) (by kernel_rfl) HS0.out (fun hSn => ?_)
  have Bc := Lib.hid (Below.refl w.drew.heap.size w.drew)
  unfold cellsF at *
  have hki : (0 : Int) < (I.l.length : Int) := by omega
  refine wpAnyH_take (i := 0) (oi := ?oz37) (v := ?vz37) ?iz37 (by kernel_rfl) (by kernel_rfl) (by kernel_rfl) ?qz37 (Or.inl ⟨?gz37, ?hz37⟩) (by assumption) ?rz37
  case iz37 => (simp only [List.getElem?_toArray, List.getElem?_cons_zero]; rfl)
  case qz37 => exact fun _ _ _ h => h
  case gz37 => rfl
  case hz37 => (intro w hSw; (simp only [Holds] at hSw); go_simp <;> with_reducible rfl)
  simp only [Act.put, List.setIfInBounds_toArray, List.set_cons_zero, List.set_cons_succ]
  refine wpAnyH_take (i := 3) (oi := ?oz38) (v := ?vz38) ?iz38 (by kernel_rfl) (by kernel_rfl) (by kernel_rfl) ?qz38 (Or.inl ⟨?gz38, ?hz38⟩) (by assumption) ?rz38
  case iz38 => (simp only [List.getElem?_toArray, List.getElem?_cons_zero, List.getElem?_cons_succ]; rfl)
  case qz38 => exact fun _ _ _ h => h
  case gz38 => rfl
  case hz38 => (intro w hSw; (simp only [Holds] at hSw); go_simp <;> with_reducible rfl)
  simp only [Act.put, List.setIfInBounds_toArray, List.set_cons_zero, List.set_cons_succ]
  refine wpAnyH_take (i := 4) (oi := ?oz39) (v := ?vz39) ?iz39 (by kernel_rfl) (by kernel_rfl) (by kernel_rfl) ?qz39 (Or.inl ⟨?gz39, ?hz39⟩) (by assumption) ?rz39
  case iz39 => (simp only [List.getElem?_toArray, List.getElem?_cons_zero, List.getElem?_cons_succ]; rfl)
  case qz39 => exact fun _ _ _ h => h
  case gz39 => rfl
  case hz39 => (intro w hSw; (simp only [Holds] at hSw); go_simp <;> with_reducible rfl)
  simp only [Act.put, List.setIfInBounds_toArray, List.set_cons_zero, List.set_cons_succ]
  refine wpAnyH_take (i := 5) (oi := ?oz40) (v := ?vz40) ?iz40 (by kernel_rfl) (by kernel_rfl) (by kernel_rfl) ?qz40 (Or.inl ⟨?gz40, ?hz40⟩) (by assumption) ?rz40
  case iz40 => (simp only [List.getElem?_toArray, List.getElem?_cons_zero, List.getElem?_cons_succ]; rfl)
  case qz40 => exact fun _ _ _ h => h
  case gz40 => rfl
  case hz40 => (intro w hSw; (simp only [Holds] at hSw); go_simp <;> with_reducible rfl)
  simp only [Act.put, List.setIfInBounds_toArray, List.set_cons_zero, List.set_cons_succ]
  refine wpAnyH_take (i := 6) (oi := ?oz41) (v := ?vz41) ?iz41 (by kernel_rfl) (by kernel_rfl) (by kernel_rfl) ?qz41 (Or.inl ⟨?gz41, ?hz41⟩) (by assumption) ?rz41
  case iz41 => (simp only [List.getElem?_toArray, List.getElem?_cons_zero, List.getElem?_cons_succ]; rfl)
  case qz41 => exact fun _ _ _ h => h
  case gz41 => rfl
  case hz41 => (intro w hSw; (simp only [Holds] at hSw); go_simp <;> with_reducible rfl)
  simp only [Act.put, List.setIfInBounds_toArray, List.set_cons_zero, List.set_cons_succ]
  refine wpAnyH_take (i := 7) (oi := ?oz42) (v := ?vz42) ?iz42 (by kernel_rfl) (by kernel_rfl) (by kernel_rfl) ?qz42 (Or.inl ⟨?gz42, ?hz42⟩) (by assumption) ?rz42
  case iz42 => (simp only [List.getElem?_toArray, List.getElem?_cons_zero, List.getElem?_cons_succ]; rfl)
  case qz42 => exact fun _ _ _ h => h
  case gz42 => rfl
  case hz42 => (intro w hSw; (simp only [Holds] at hSw); go_simp <;> with_reducible rfl)
  simp only [Act.put, List.setIfInBounds_toArray, List.set_cons_zero, List.set_cons_succ]
  refine wpAnyH_take (i := 8) (oi := ?oz43) (v := ?vz43) ?iz43 (by kernel_rfl) (by kernel_rfl) (by kernel_rfl) ?qz43 (Or.inl ⟨?gz43, ?hz43⟩) (by assumption) ?rz43
  case iz43 => (simp only [List.getElem?_toArray, List.getElem?_cons_zero, List.getElem?_cons_succ]; rfl)
  case qz43 => exact fun _ _ _ h => h
  case gz43 => rfl
  case hz43 => (intro w hSw; (simp only [Holds] at hSw); go_simp <;> with_reducible rfl)
  simp only [Act.put, List.setIfInBounds_toArray, List.set_cons_zero, List.set_cons_succ]
  refine wpAnyH_take (i := 9) (oi := ?oz44) (v := ?vz44) ?iz44 (by kernel_rfl) (by kernel_rfl) (by kernel_rfl) ?qz44 (Or.inl ⟨?gz44, ?hz44⟩) (by assumption) ?rz44
  case iz44 => (simp only [List.getElem?_toArray, List.getElem?_cons_zero, List.getElem?_cons_succ]; rfl)
  case qz44 => exact fun _ _ _ h => h
  case gz44 => rfl
  case hz44 => (intro w hSw; (simp only [Holds] at hSw); go_simp <;> with_reducible rfl)
  simp only [Act.put, List.setIfInBounds_toArray, List.set_cons_zero, List.set_cons_succ]
  refine wpAnyH_take (i := 10) (oi := ?oz45) (v := ?vz45) ?iz45 (by kernel_rfl) (by kernel_rfl) (by kernel_rfl) ?qz45 (Or.inl ⟨?gz45, ?hz45⟩) (by assumption) ?rz45
  case iz45 => (simp only [List.getElem?_toArray, List.getElem?_cons_zero, List.getElem?_cons_succ]; rfl)
  case qz45 => exact fun _ _ _ h => h
  case gz45 => rfl
  case hz45 => (intro w hSw; (simp only [Holds] at hSw); go_simp <;> with_reducible rfl)
  simp only [Act.put, List.setIfInBounds_toArray, List.set_cons_zero, List.set_cons_succ]
  refine wpAnyH_ready (rs := [1]) (by kernel_rfl) (by simp) ?_
  refine AllReadyH.cons (o := ?oz46) ?iz46 (fun K hK => ?kz46) AllReadyH.nil
  case iz46 => (simp only [List.getElem?_toArray, List.getElem?_cons_zero, List.getElem?_cons_succ]; rfl)
  go_simp
  refine (timeAt_any (k := 0) (HC2.out.later Bc.out) (HR2.out.below Bc.out) ha hl0 hn hst).mono ?_
  rintro e w' ⟨rfl, hb⟩
  refine held_more hK HS0.out hlt (Bc.out.trans (hb.mono Bc.out.size)) (fun Bc hSn => ?_)
  clear hb hK
  have HBB := Lib.hid (HW2.out.trans (Bc.out.mono HW2.out.size))
  rw [show tmN n (stp I a) (stp I ((0 : Nat) : Int)) = ⟨n + farF (stp I a) (stp I 0), max (n + farF (stp I a) (stp I 0)) (stp I 0).r, max (n + farF (stp I a) (stp I 0)) (stp I 0).r + (stp I 0).s⟩ from rfl]
  by_cases h7 : (stp I 0).u < n + farF (stp I a) (stp I 0)
  · have HE2 := Lib.hid (HE.out.trans (if_pos h7))
    have d7 := decide_eq_true h7
    clear h7
    unfold timeV
    have hfl := fieldT0
    refine wpAnyH_take (i := 2) (oi := ?oz47) (v := ?vz47) ?iz47 (by kernel_rfl) (by kernel_rfl) (by kernel_rfl) ?qz47 (Or.inl ⟨?gz47, ?hz47⟩) (by assumption) ?rz47
    case iz47 => (simp only [List.getElem?_toArray, List.getElem?_cons_zero, List.getElem?_cons_succ]; rfl)
    case qz47 => exact fun _ _ _ h => h
    case gz47 => rfl
    case hz47 => (intro w hSw; (simp only [Holds] at hSw); go_simp <;> with_reducible rfl)
    simp only [Act.put, List.setIfInBounds_toArray, List.set_cons_zero, List.set_cons_succ]
    refine wpAnyH_take (i := 11) (oi := ?oz48) (v := ?vz48) ?iz48 (by kernel_rfl) (by kernel_rfl) (by kernel_rfl) ?qz48 (Or.inl ⟨?gz48, ?hz48⟩) (by assumption) ?rz48
    case iz48 => (simp only [List.getElem?_toArray, List.getElem?_cons_zero, List.getElem?_cons_succ]; rfl)
    case qz48 => exact fun _ _ _ h => h
    case gz48 => rfl
    case hz48 => (intro w hSw; (simp only [Holds] at hSw); go_simp <;> with_reducible rfl)
    simp only [Act.put, List.setIfInBounds_toArray, List.set_cons_zero, List.set_cons_succ]
    refine wpAnyH_take (i := 12) (oi := ?oz49) (v := ?vz49) ?iz49 (by kernel_rfl) (by kernel_rfl) (by kernel_rfl) ?qz49 (Or.inl ⟨?gz49, ?hz49⟩) (by assumption) ?rz49
    case iz49 => (simp only [List.getElem?_toArray, List.getElem?_cons_zero, List.getElem?_cons_succ]; rfl)
    case qz49 => exact fun _ _ _ h => h
    case gz49 => rfl
    case hz49 => (intro w hSw; (simp only [Holds] at hSw); go_simp <;> with_reducible rfl)
    simp only [Act.put, List.setIfInBounds_toArray, List.set_cons_zero, List.set_cons_succ]
    refine wpAnyH_done (by kernel_rfl) ?_ _
    go_wp2
    go_ret
    exact ⟨ret_int HE2.out.symm, HBB.out⟩
  · have HE2 := Lib.hid (HE.out.trans (if_neg h7))
    have d7 := decide_eq_false h7
    clear h7
    unfold timeV
    have hfl := fieldT0
    refine wpAnyH_take (i := 2) (oi := ?oz50) (v := ?vz50) ?iz50 (by kernel_rfl) (by kernel_rfl) (by kernel_rfl) ?qz50 (Or.inl ⟨?gz50, ?hz50⟩) (by assumption) ?rz50
    case iz50 => (simp only [List.getElem?_toArray, List.getElem?_cons_zero, List.getElem?_cons_succ]; rfl)
    case qz50 => exact fun _ _ _ h => h
    case gz50 => rfl
    case hz50 => (intro w hSw; (simp only [Holds] at hSw); go_simp <;> with_reducible rfl)
    simp only [Act.put, List.setIfInBounds_toArray, List.set_cons_zero, List.set_cons_succ]
    refine wpAnyH_take (i := 11) (oi := ?oz51) (v := ?vz51) ?iz51 (by kernel_rfl) (by kernel_rfl) (by kernel_rfl) ?qz51 (Or.inl ⟨?gz51, ?hz51⟩) (by assumption) ?rz51
    case iz51 => (simp only [List.getElem?_toArray, List.getElem?_cons_zero, List.getElem?_cons_succ]; rfl)
    case qz51 => exact fun _ _ _ h => h
    case gz51 => rfl
    case hz51 => (intro w hSw; (simp only [Holds] at hSw); go_simp <;> with_reducible rfl)
    simp only [Act.put, List.setIfInBounds_toArray, List.set_cons_zero, List.set_cons_succ]
    refine wpAnyH_take (i := 12) (oi := ?oz52) (v := ?vz52) ?iz52 (by kernel_rfl) (by kernel_rfl) (by kernel_rfl) ?qz52 (Or.inl ⟨?gz52, ?hz52⟩) (by assumption) ?rz52
    case iz52 => (simp only [List.getElem?_toArray, List.getElem?_cons_zero, List.getElem?_cons_succ]; rfl)
    case qz52 => exact fun _ _ _ h => h
    case gz52 => rfl
    case hz52 => (intro w hSw; (simp only [Holds] at hSw); go_simp <;> with_reducible rfl)
    simp only [Act.put, List.setIfInBounds_toArray, List.set_cons_zero, List.set_cons_succ]
    refine wpAnyH_done (by kernel_rfl) ?_ _
    go_wp2
    go_ret
    exact ⟨ret_int HE2.out.symm, HBB.out⟩
end Go.Proofs.Ytolaiccgbngomaa
