/- What a car's wrongAt and wrongBack answer. -/
import Derived.Test.YtjnmiibefhcfeaaXTCar
namespace Go.Proofs.Ytjnmiibefhcfeaa
open Go.ChangeShapes Go.WideShapes Go.ChangeAt Go.RowKit

/-- What is wrong with a stop as the next one. -/
def nextE (I : Ins) (L : List Int) (n : Int) (s : Stp) (i : Int) : Int := if wrongE I L i ≠ 0 then wrongE I L i else if (stp I i).u < (tmN n s (stp I i)).begn then 7 else 0
theorem fieldT0 (x y z : Int) (w : World) : (Instr.field 37 (.agg #[.int .i64 x, .int .i64 y, .int .i64 z]) 0).run Try.prog w = .ok (.int .i64 x) w := by kernel_rfl
theorem fieldT1 (x y z : Int) (w : World) : (Instr.field 37 (.agg #[.int .i64 x, .int .i64 y, .int .i64 z]) 1).run Try.prog w = .ok (.int .i64 y) w := by kernel_rfl
section
variable {I : Ins} {L : List Int} {n : Int} {s : Stp} {i : Int}
theorem nextE_arg (h : i < 1 ∨ 2 * I.p < i) : nextE I L n s i = 1 := by
  have : wrongE I L i = 1 := by unfold wrongE; rw [if_pos h]
  unfold nextE; rw [this, if_pos (by decide)]
theorem nextE_twice (h1 : 1 ≤ i ∧ i ≤ 2 * I.p) (h2 : i ∈ L) : nextE I L n s i = 5 := by
  have : wrongE I L i = 5 := by unfold wrongE; rw [if_neg (by omega), if_pos h2]
  unfold nextE; rw [this, if_pos (by decide)]
theorem nextE_order (h1 : 1 ≤ i ∧ i ≤ 2 * I.p) (h2 : i ∉ L) (h3 : I.p < i) (h4 : i - I.p ∉ L) : nextE I L n s i = 8 := by
  have : wrongE I L i = 8 := by unfold wrongE; rw [if_neg (by omega), if_neg h2, if_pos ⟨h3, h4⟩]
  unfold nextE; rw [this, if_pos (by decide)]
theorem nextE_full (h1 : 1 ≤ i ∧ i ≤ 2 * I.p) (h2 : i ∉ L) (h3 : ¬ (I.p < i ∧ i - I.p ∉ L)) (h4 : I.r < heldL I L + (stp I i).d) : nextE I L n s i = 6 := by
  have : wrongE I L i = 6 := by unfold wrongE; rw [if_neg (by omega), if_neg h2, if_neg h3, if_pos h4]
  unfold nextE; rw [this, if_pos (by decide)]
theorem nextE_rest (h1 : 1 ≤ i ∧ i ≤ 2 * I.p) (h2 : i ∉ L) (h3 : ¬ (I.p < i ∧ i - I.p ∉ L)) (h4 : ¬ I.r < heldL I L + (stp I i).d) : nextE I L n s i = if (stp I i).u < (tmN n s (stp I i)).begn then 7 else 0 := by
  have : wrongE I L i = 0 := by unfold wrongE; rw [if_neg (by omega), if_neg h2, if_neg h3, if_neg h4]
  unfold nextE; rw [this, if_neg (by decide)]
end
set_option maxRecDepth 1000000 in
set_option maxHeartbeats 2000000 in
theorem wrongAt_any {w : World} {b : Nat} {I : Ins} {sv : Value} {a : Nat} {i n g : Int} {L : List Int} {tv lv : Value} (hc : CarB w b I sv a n g (heldL I L) (seenB L) tv lv) (hr : SRow w sv I.l) (hm : mayB I = true) (ha : a < I.l.length)
    (hn : 0 ≤ n ∧ n ≤ 2000000) (hh : 0 ≤ heldL I L ∧ heldL I L ≤ 1000) :
    Calls Try.prog 16 #[.pointer (some ⟨b, 0, none⟩), .int .i64 i] w fun e w' => e = .returned (.int .i64 (nextE I L n (stp I a) i)) ∧ Below w.heap.size w w' := by
  have HC := Lib.hid hc
  have HR := Lib.hid hr
  have HM := Lib.hid (fine_of hm)
  have hp0 := HM.out.p0
  have hp1 := HM.out.p1
  have hl := HM.out.len
  have q0 := hc.c0
  have e1 : IntKind.i64.wrap (2 * I.p) = 2 * I.p := IntWalk.i64_in _ (by omega)
  clear hc hr hm
  by_cases h1 : i < 1
  · have d1 := decide_eq_true h1
    have HE := Lib.hid (nextE_arg (L := L) (n := n) (s := stp I a) (show i < 1 ∨ 2 * I.p < i from .inl h1))
    clear h1
    go_enter Try.func16, Try.ntmps16
    go_wp2
    go_ret
    exact ⟨ret_int HE.out.symm, Below.refl _ _⟩
  have d1 := decide_eq_false h1
  by_cases h2 : 2 * I.p < i
  · have d2 := decide_eq_true h2
    have HE := Lib.hid (nextE_arg (L := L) (n := n) (s := stp I a) (show i < 1 ∨ 2 * I.p < i from .inr h2))
    clear h1 h2
    go_enter Try.func16, Try.ntmps16
    go_wp2
    go_ret
    exact ⟨ret_int HE.out.symm, Below.refl _ _⟩
  have d2 := decide_eq_false h2
  have HI := Lib.hid (show 1 ≤ i ∧ i ≤ 2 * I.p by omega)
  obtain ⟨k, rfl⟩ : ∃ k : Nat, i = (k : Int) := ⟨i.toNat, by omega⟩
  have hk33 : k < 33 := by omega
  have hkl : k < I.l.length := by omega
  clear h1 h2
  have q8 := HC.out.cs k hk33
  rw [seenB_at L k hk33] at q8
  have k33 : (k : Int) < 33 := by omega
  by_cases h3 : (k : Int) ∈ L
  · have HE := Lib.hid (nextE_twice (n := n) (s := stp I a) HI.out h3)
    rw [decide_eq_true h3] at q8
    clear h3
    go_enter Try.func16, Try.ntmps16
    go_wp2
    go_ret
    exact ⟨ret_int HE.out.symm, Below.refl _ _⟩
  have H3 := Lib.hid h3
  rw [decide_eq_false h3] at q8
  clear h3
  obtain ⟨ad, cap, rfl, _⟩ := HR.out.form
  obtain ⟨tb, off, rfl, hkt, hlt0⟩ := srow_at HR.out k hkl
  have HKT := Lib.hid (show At w tb (off + k * 6) (stp I k) from hkt)
  clear hkt
  have hd : -1000 ≤ (stp I (k : Int)).d ∧ (stp I (k : Int)).d ≤ 1000 := by
    by_cases c : (k : Int) ≤ I.p
    · have := HM.out.take (k : Int) HI.out.1 c; omega
    · have h0 := HM.out.bring (k : Int) (by omega) HI.out.2
      have := HM.out.take ((k : Int) - I.p) (by omega) (by omega); omega
  have hst := HM.out.ok (k : Int) (by omega) HI.out.2
  have e3 : IntKind.i64.wrap (heldL I L + (stp I (k : Int)).d) = heldL I L + (stp I (k : Int)).d := IntWalk.i64_in _ (by omega)
  refine Or.elim (show (I.p < (k : Int) ∧ (k : Int) - I.p ∉ L) ∨ (I.p < (k : Int) ∧ (k : Int) - I.p ∈ L) ∨ ¬ I.p < (k : Int) by
    by_cases c : I.p < (k : Int)
    · by_cases c2 : (k : Int) - I.p ∈ L
      · exact .inr (.inl ⟨c, c2⟩)
      · exact .inl ⟨c, c2⟩
    · exact .inr (.inr c)) (fun h => ?bad) (fun h => Or.elim h (fun h => ?pa) (fun h => ?pb))
  case bad =>
    have HE := Lib.hid (nextE_order (n := n) (s := stp I a) HI.out H3.out h.1 h.2)
    obtain ⟨m, hm⟩ : ∃ m : Nat, (k : Int) - I.p = (m : Int) := ⟨((k : Int) - I.p).toNat, by omega⟩
    have hm33 : m < 33 := by omega
    have q9 := HC.out.cs m hm33
    rw [seenB_at L m hm33, ← hm, decide_eq_false h.2] at q9
    have e2 : IntKind.i64.wrap ((k : Int) - I.p) = (m : Int) := by rw [← hm]; exact IntWalk.i64_in _ (by omega)
    have m33 : (m : Int) < 33 := by omega
    have d3 := decide_eq_true h.1
    clear h hm
    go_enter Try.func16, Try.ntmps16
    go_wp2_with fail
    go_quiet (fail)
    go_wp2
    go_ret
    exact ⟨ret_int HE.out.symm, below_drewN (Below.refl _ _) nq⟩
  case' pa =>
    have HO := Lib.hid (show ¬ (I.p < (k : Int) ∧ (k : Int) - I.p ∉ L) from fun x => x.2 h.2)
    obtain ⟨m, hm⟩ : ∃ m : Nat, (k : Int) - I.p = (m : Int) := ⟨((k : Int) - I.p).toNat, by omega⟩
    have hm33 : m < 33 := by omega
    have q9 := HC.out.cs m hm33
    rw [seenB_at L m hm33, ← hm, decide_eq_true h.2] at q9
    have e2 : IntKind.i64.wrap ((k : Int) - I.p) = (m : Int) := by rw [← hm]; exact IntWalk.i64_in _ (by omega)
    have m33 : (m : Int) < 33 := by omega
    have d3 := decide_eq_true h.1
    clear h hm
    go_enter Try.func16, Try.ntmps16
    go_wp2_with fail
    go_quiet (fail)
    clear d3 q9 e2 m33 hm33
  case' pb =>
    have HO := Lib.hid (show ¬ (I.p < (k : Int) ∧ (k : Int) - I.p ∉ L) from fun x => h x.1)
    have d3 := decide_eq_false h
    clear h
    go_enter Try.func16, Try.ntmps16
    go_wp2_with fail
    go_quiet (fail)
    clear d3
  all_goals
    have HW := Lib.hid (below_drewN (Below.refl w.heap.size w) nq)
    generalize w.drewN nq = w1 at *
    clear q0 q8
    have q2 := (HC.out.later HW.out).c2
    have q3 := (HC.out.later HW.out).c3
    have q7 := (HC.out.later HW.out).c7
    obtain ⟨t0, t1, t2, t3, t4, t5⟩ := HKT.out.below hlt0 HW.out
    by_cases h6 : I.r < heldL I L + (stp I (k : Int)).d
    · have HE := Lib.hid (nextE_full (n := n) (s := stp I a) HI.out H3.out HO.out h6)
      have d4 := decide_eq_true h6
      clear h6
      go_wp2_with fail
      go_quiet (fail)
      go_wp2
      go_ret
      exact ⟨ret_int HE.out.symm, below_drewN HW.out nq⟩
    have HE := Lib.hid (nextE_rest (n := n) (s := stp I a) HI.out H3.out HO.out h6)
    have d4 := decide_eq_false h6
    clear h6
    go_wp2_with fail
    go_quiet (fail)
    have HW2 := Lib.hid ((below_drewN HW.out nq).drew)
    generalize w1.drewN nq = w2 at *
    clear d4 q2 q3 q7 t0 t1 t2 t3 t4 t5 e1 d1 d2 e3
    go_wp2_with fail
  · have HC2 := Lib.hid (HC.out.later HW2.out)
    have HR2 := Lib.hid (HR.out.below HW2.out)
    have hb2 : b < w2.drew.heap.size := HC2.out.lt
    have htb2 : tb < w2.drew.heap.size := Nat.lt_of_lt_of_le hlt0 HW2.out.size
    have HS0 := Lib.hid (show Holds ((⟨b, 3, none⟩, .slice (some ⟨tb, off, none⟩) I.l.length cap) :: cellsF tb (off + k * 6) (stp I (k : Int))) w2.drew from ⟨HC2.out.c3, holds_at (HKT.out.below hlt0 HW2.out)⟩)
    have hlt := Lib.hid (show Lows w2.drew.heap.size ((⟨b, 3, none⟩, .slice (some ⟨tb, off, none⟩) I.l.length cap) :: cellsF tb (off + k * 6) (stp I (k : Int))) from ⟨hb2, lows_at htb2⟩)
    refine wp_region_held_drew (S := Holds ((⟨b, 3, none⟩, .slice (some ⟨tb, off, none⟩) I.l.length cap) :: cellsF tb (off + k * 6) (stp I (k : Int)))) (by kernel_rfl) HS0.out (fun hSn => ?_)
    have Bc := Lib.hid (Below.refl w2.drew.heap.size w2.drew)
    unfold cellsF at *
    have hki : (k : Int) < (I.l.length : Int) := by omega
    clear hl
    refine wpAnyH_take (i := 0) (oi := ?oz372) (v := ?vz372) ?iz372 (by kernel_rfl) (by kernel_rfl) (by kernel_rfl) ?qz372 (Or.inl ⟨?gz372, ?hz372⟩) (by assumption) ?rz372
    case iz372 => (simp only [List.getElem?_toArray, List.getElem?_cons_zero]; rfl)
    case qz372 => exact fun _ _ _ h => h
    case gz372 => rfl
    case hz372 => (intro w hSw; (simp only [Holds] at hSw); go_simp <;> with_reducible rfl)
    simp only [Act.put, List.setIfInBounds_toArray, List.set_cons_zero, List.set_cons_succ]
    refine wpAnyH_take (i := 1) (oi := ?oz373) (v := ?vz373) ?iz373 (by kernel_rfl) (by kernel_rfl) (by kernel_rfl) ?qz373 (Or.inl ⟨?gz373, ?hz373⟩) (by assumption) ?rz373
    case iz373 => (simp only [List.getElem?_toArray, List.getElem?_cons_zero, List.getElem?_cons_succ]; rfl)
    case qz373 => exact fun _ _ _ h => h
    case gz373 => rfl
    case hz373 => (intro w hSw; (simp only [Holds] at hSw); go_simp <;> with_reducible rfl)
    simp only [Act.put, List.setIfInBounds_toArray, List.set_cons_zero, List.set_cons_succ]
    refine wpAnyH_take (i := 4) (oi := ?oz374) (v := ?vz374) ?iz374 (by kernel_rfl) (by kernel_rfl) (by kernel_rfl) ?qz374 (Or.inl ⟨?gz374, ?hz374⟩) (by assumption) ?rz374
    case iz374 => (simp only [List.getElem?_toArray, List.getElem?_cons_zero, List.getElem?_cons_succ]; rfl)
    case qz374 => exact fun _ _ _ h => h
    case gz374 => rfl
    case hz374 => (intro w hSw; (simp only [Holds] at hSw); go_simp <;> with_reducible rfl)
    simp only [Act.put, List.setIfInBounds_toArray, List.set_cons_zero, List.set_cons_succ]
    refine wpAnyH_take (i := 5) (oi := ?oz375) (v := ?vz375) ?iz375 (by kernel_rfl) (by kernel_rfl) (by kernel_rfl) ?qz375 (Or.inl ⟨?gz375, ?hz375⟩) (by assumption) ?rz375
    case iz375 => (simp only [List.getElem?_toArray, List.getElem?_cons_zero, List.getElem?_cons_succ]; rfl)
    case qz375 => exact fun _ _ _ h => h
    case gz375 => rfl
    case hz375 => (intro w hSw; (simp only [Holds] at hSw); go_simp <;> with_reducible rfl)
    simp only [Act.put, List.setIfInBounds_toArray, List.set_cons_zero, List.set_cons_succ]
    refine wpAnyH_take (i := 6) (oi := ?oz376) (v := ?vz376) ?iz376 (by kernel_rfl) (by kernel_rfl) (by kernel_rfl) ?qz376 (Or.inl ⟨?gz376, ?hz376⟩) (by assumption) ?rz376
    case iz376 => (simp only [List.getElem?_toArray, List.getElem?_cons_zero, List.getElem?_cons_succ]; rfl)
    case qz376 => exact fun _ _ _ h => h
    case gz376 => rfl
    case hz376 => (intro w hSw; (simp only [Holds] at hSw); go_simp <;> with_reducible rfl)
    simp only [Act.put, List.setIfInBounds_toArray, List.set_cons_zero, List.set_cons_succ]
    refine wpAnyH_take (i := 7) (oi := ?oz377) (v := ?vz377) ?iz377 (by kernel_rfl) (by kernel_rfl) (by kernel_rfl) ?qz377 (Or.inl ⟨?gz377, ?hz377⟩) (by assumption) ?rz377
    case iz377 => (simp only [List.getElem?_toArray, List.getElem?_cons_zero, List.getElem?_cons_succ]; rfl)
    case qz377 => exact fun _ _ _ h => h
    case gz377 => rfl
    case hz377 => (intro w hSw; (simp only [Holds] at hSw); go_simp <;> with_reducible rfl)
    simp only [Act.put, List.setIfInBounds_toArray, List.set_cons_zero, List.set_cons_succ]
    refine wpAnyH_take (i := 8) (oi := ?oz378) (v := ?vz378) ?iz378 (by kernel_rfl) (by kernel_rfl) (by kernel_rfl) ?qz378 (Or.inl ⟨?gz378, ?hz378⟩) (by assumption) ?rz378
    case iz378 => (simp only [List.getElem?_toArray, List.getElem?_cons_zero, List.getElem?_cons_succ]; rfl)
    case qz378 => exact fun _ _ _ h => h
    case gz378 => rfl
    case hz378 => (intro w hSw; (simp only [Holds] at hSw); go_simp <;> with_reducible rfl)
    simp only [Act.put, List.setIfInBounds_toArray, List.set_cons_zero, List.set_cons_succ]
    refine wpAnyH_take (i := 9) (oi := ?oz379) (v := ?vz379) ?iz379 (by kernel_rfl) (by kernel_rfl) (by kernel_rfl) ?qz379 (Or.inl ⟨?gz379, ?hz379⟩) (by assumption) ?rz379
    case iz379 => (simp only [List.getElem?_toArray, List.getElem?_cons_zero, List.getElem?_cons_succ]; rfl)
    case qz379 => exact fun _ _ _ h => h
    case gz379 => rfl
    case hz379 => (intro w hSw; (simp only [Holds] at hSw); go_simp <;> with_reducible rfl)
    simp only [Act.put, List.setIfInBounds_toArray, List.set_cons_zero, List.set_cons_succ]
    refine wpAnyH_take (i := 10) (oi := ?oz380) (v := ?vz380) ?iz380 (by kernel_rfl) (by kernel_rfl) (by kernel_rfl) ?qz380 (Or.inl ⟨?gz380, ?hz380⟩) (by assumption) ?rz380
    case iz380 => (simp only [List.getElem?_toArray, List.getElem?_cons_zero, List.getElem?_cons_succ]; rfl)
    case qz380 => exact fun _ _ _ h => h
    case gz380 => rfl
    case hz380 => (intro w hSw; (simp only [Holds] at hSw); go_simp <;> with_reducible rfl)
    simp only [Act.put, List.setIfInBounds_toArray, List.set_cons_zero, List.set_cons_succ]
    refine wpAnyH_take (i := 11) (oi := ?oz381) (v := ?vz381) ?iz381 (by kernel_rfl) (by kernel_rfl) (by kernel_rfl) ?qz381 (Or.inl ⟨?gz381, ?hz381⟩) (by assumption) ?rz381
    case iz381 => (simp only [List.getElem?_toArray, List.getElem?_cons_zero, List.getElem?_cons_succ]; rfl)
    case qz381 => exact fun _ _ _ h => h
    case gz381 => rfl
    case hz381 => (intro w hSw; (simp only [Holds] at hSw); go_simp <;> with_reducible rfl)
    simp only [Act.put, List.setIfInBounds_toArray, List.set_cons_zero, List.set_cons_succ]
    refine wpAnyH_take (i := 12) (oi := ?oz382) (v := ?vz382) ?iz382 (by kernel_rfl) (by kernel_rfl) (by kernel_rfl) ?qz382 (Or.inl ⟨?gz382, ?hz382⟩) (by assumption) ?rz382
    case iz382 => (simp only [List.getElem?_toArray, List.getElem?_cons_zero, List.getElem?_cons_succ]; rfl)
    case qz382 => exact fun _ _ _ h => h
    case gz382 => rfl
    case hz382 => (intro w hSw; (simp only [Holds] at hSw); go_simp <;> with_reducible rfl)
    simp only [Act.put, List.setIfInBounds_toArray, List.set_cons_zero, List.set_cons_succ]
    refine wpAnyH_ready (rs := [2]) (by kernel_rfl) (by simp) ?_
    refine AllReadyH.cons (o := ?oz383) ?iz383 (fun K hK => ?kz383) AllReadyH.nil
    case iz383 => (simp only [List.getElem?_toArray, List.getElem?_cons_zero, List.getElem?_cons_succ]; rfl)
    go_simp
    refine (timeAt_any (HC2.out.later Bc.out) (HR2.out.below Bc.out) ha hkl hn hst).mono ?_
    rintro e w' ⟨rfl, hb⟩
    refine held_more hK HS0.out hlt (Bc.out.trans (hb.mono Bc.out.size)) (fun Bc hSn => ?_)
    clear hb hK
    have HBB := Lib.hid (HW2.out.trans (Bc.out.mono HW2.out.size))
    have HE2 := Lib.hid HE.out
    by_cases h7 : (stp I (k : Int)).u < (tmN n (stp I a) (stp I (k : Int))).begn
    · have HE2 := Lib.hid (HE.out.trans (if_pos h7))
      have d7 := decide_eq_true h7
      clear h7
      unfold timeV
      have hfl := fieldT1
      refine wpAnyH_take (i := 3) (oi := ?oz384) (v := ?vz384) ?iz384 (by kernel_rfl) (by kernel_rfl) (by kernel_rfl) ?qz384 (Or.inl ⟨?gz384, ?hz384⟩) (by assumption) ?rz384
      case iz384 => (simp only [List.getElem?_toArray, List.getElem?_cons_zero, List.getElem?_cons_succ]; rfl)
      case qz384 => exact fun _ _ _ h => h
      case gz384 => rfl
      case hz384 => (intro w hSw; (simp only [Holds] at hSw); go_simp <;> with_reducible rfl)
      simp only [Act.put, List.setIfInBounds_toArray, List.set_cons_zero, List.set_cons_succ]
      refine wpAnyH_take (i := 13) (oi := ?oz385) (v := ?vz385) ?iz385 (by kernel_rfl) (by kernel_rfl) (by kernel_rfl) ?qz385 (Or.inl ⟨?gz385, ?hz385⟩) (by assumption) ?rz385
      case iz385 => (simp only [List.getElem?_toArray, List.getElem?_cons_zero, List.getElem?_cons_succ]; rfl)
      case qz385 => exact fun _ _ _ h => h
      case gz385 => rfl
      case hz385 => (intro w hSw; (simp only [Holds] at hSw); go_simp <;> with_reducible rfl)
      simp only [Act.put, List.setIfInBounds_toArray, List.set_cons_zero, List.set_cons_succ]
      refine wpAnyH_take (i := 14) (oi := ?oz386) (v := ?vz386) ?iz386 (by kernel_rfl) (by kernel_rfl) (by kernel_rfl) ?qz386 (Or.inl ⟨?gz386, ?hz386⟩) (by assumption) ?rz386
      case iz386 => (simp only [List.getElem?_toArray, List.getElem?_cons_zero, List.getElem?_cons_succ]; rfl)
      case qz386 => exact fun _ _ _ h => h
      case gz386 => rfl
      case hz386 => (intro w hSw; (simp only [Holds] at hSw); go_simp <;> with_reducible rfl)
      simp only [Act.put, List.setIfInBounds_toArray, List.set_cons_zero, List.set_cons_succ]
      refine wpAnyH_done (by kernel_rfl) ?_ _
      go_wp2
      go_ret
      exact ⟨ret_int HE2.out.symm, HBB.out⟩
    · have HE2 := Lib.hid (HE.out.trans (if_neg h7))
      have d7 := decide_eq_false h7
      clear h7
      unfold timeV
      have hfl := fieldT1
      refine wpAnyH_take (i := 3) (oi := ?oz387) (v := ?vz387) ?iz387 (by kernel_rfl) (by kernel_rfl) (by kernel_rfl) ?qz387 (Or.inl ⟨?gz387, ?hz387⟩) (by assumption) ?rz387
      case iz387 => (simp only [List.getElem?_toArray, List.getElem?_cons_zero, List.getElem?_cons_succ]; rfl)
      case qz387 => exact fun _ _ _ h => h
      case gz387 => rfl
      case hz387 => (intro w hSw; (simp only [Holds] at hSw); go_simp <;> with_reducible rfl)
      simp only [Act.put, List.setIfInBounds_toArray, List.set_cons_zero, List.set_cons_succ]
      refine wpAnyH_take (i := 13) (oi := ?oz388) (v := ?vz388) ?iz388 (by kernel_rfl) (by kernel_rfl) (by kernel_rfl) ?qz388 (Or.inl ⟨?gz388, ?hz388⟩) (by assumption) ?rz388
      case iz388 => (simp only [List.getElem?_toArray, List.getElem?_cons_zero, List.getElem?_cons_succ]; rfl)
      case qz388 => exact fun _ _ _ h => h
      case gz388 => rfl
      case hz388 => (intro w hSw; (simp only [Holds] at hSw); go_simp <;> with_reducible rfl)
      simp only [Act.put, List.setIfInBounds_toArray, List.set_cons_zero, List.set_cons_succ]
      refine wpAnyH_take (i := 14) (oi := ?oz389) (v := ?vz389) ?iz389 (by kernel_rfl) (by kernel_rfl) (by kernel_rfl) ?qz389 (Or.inl ⟨?gz389, ?hz389⟩) (by assumption) ?rz389
      case iz389 => (simp only [List.getElem?_toArray, List.getElem?_cons_zero, List.getElem?_cons_succ]; rfl)
      case qz389 => exact fun _ _ _ h => h
      case gz389 => rfl
      case hz389 => (intro w hSw; (simp only [Holds] at hSw); go_simp <;> with_reducible rfl)
      simp only [Act.put, List.setIfInBounds_toArray, List.set_cons_zero, List.set_cons_succ]
      refine wpAnyH_done (by kernel_rfl) ?_ _
      go_wp2
      go_ret
      exact ⟨ret_int HE2.out.symm, HBB.out⟩
  · have HC2 := Lib.hid (HC.out.later HW2.out)
    have HR2 := Lib.hid (HR.out.below HW2.out)
    have hb2 : b < w2.drew.heap.size := HC2.out.lt
    have htb2 : tb < w2.drew.heap.size := Nat.lt_of_lt_of_le hlt0 HW2.out.size
    have HS0 := Lib.hid (show Holds ((⟨b, 3, none⟩, .slice (some ⟨tb, off, none⟩) I.l.length cap) :: cellsF tb (off + k * 6) (stp I (k : Int))) w2.drew from ⟨HC2.out.c3, holds_at (HKT.out.below hlt0 HW2.out)⟩)
    have hlt := Lib.hid (show Lows w2.drew.heap.size ((⟨b, 3, none⟩, .slice (some ⟨tb, off, none⟩) I.l.length cap) :: cellsF tb (off + k * 6) (stp I (k : Int))) from ⟨hb2, lows_at htb2⟩)
    refine wp_region_held_drew (S := Holds ((⟨b, 3, none⟩, .slice (some ⟨tb, off, none⟩) I.l.length cap) :: cellsF tb (off + k * 6) (stp I (k : Int)))) (by kernel_rfl) HS0.out (fun hSn => ?_)
    have Bc := Lib.hid (Below.refl w2.drew.heap.size w2.drew)
    unfold cellsF at *
    have hki : (k : Int) < (I.l.length : Int) := by omega
    clear hl
    refine wpAnyH_take (i := 0) (oi := ?oz390) (v := ?vz390) ?iz390 (by kernel_rfl) (by kernel_rfl) (by kernel_rfl) ?qz390 (Or.inl ⟨?gz390, ?hz390⟩) (by assumption) ?rz390
    case iz390 => (simp only [List.getElem?_toArray, List.getElem?_cons_zero]; rfl)
    case qz390 => exact fun _ _ _ h => h
    case gz390 => rfl
    case hz390 => (intro w hSw; (simp only [Holds] at hSw); go_simp <;> with_reducible rfl)
    simp only [Act.put, List.setIfInBounds_toArray, List.set_cons_zero, List.set_cons_succ]
    refine wpAnyH_take (i := 1) (oi := ?oz391) (v := ?vz391) ?iz391 (by kernel_rfl) (by kernel_rfl) (by kernel_rfl) ?qz391 (Or.inl ⟨?gz391, ?hz391⟩) (by assumption) ?rz391
    case iz391 => (simp only [List.getElem?_toArray, List.getElem?_cons_zero, List.getElem?_cons_succ]; rfl)
    case qz391 => exact fun _ _ _ h => h
    case gz391 => rfl
    case hz391 => (intro w hSw; (simp only [Holds] at hSw); go_simp <;> with_reducible rfl)
    simp only [Act.put, List.setIfInBounds_toArray, List.set_cons_zero, List.set_cons_succ]
    refine wpAnyH_take (i := 4) (oi := ?oz392) (v := ?vz392) ?iz392 (by kernel_rfl) (by kernel_rfl) (by kernel_rfl) ?qz392 (Or.inl ⟨?gz392, ?hz392⟩) (by assumption) ?rz392
    case iz392 => (simp only [List.getElem?_toArray, List.getElem?_cons_zero, List.getElem?_cons_succ]; rfl)
    case qz392 => exact fun _ _ _ h => h
    case gz392 => rfl
    case hz392 => (intro w hSw; (simp only [Holds] at hSw); go_simp <;> with_reducible rfl)
    simp only [Act.put, List.setIfInBounds_toArray, List.set_cons_zero, List.set_cons_succ]
    refine wpAnyH_take (i := 5) (oi := ?oz393) (v := ?vz393) ?iz393 (by kernel_rfl) (by kernel_rfl) (by kernel_rfl) ?qz393 (Or.inl ⟨?gz393, ?hz393⟩) (by assumption) ?rz393
    case iz393 => (simp only [List.getElem?_toArray, List.getElem?_cons_zero, List.getElem?_cons_succ]; rfl)
    case qz393 => exact fun _ _ _ h => h
    case gz393 => rfl
    case hz393 => (intro w hSw; (simp only [Holds] at hSw); go_simp <;> with_reducible rfl)
    simp only [Act.put, List.setIfInBounds_toArray, List.set_cons_zero, List.set_cons_succ]
    refine wpAnyH_take (i := 6) (oi := ?oz394) (v := ?vz394) ?iz394 (by kernel_rfl) (by kernel_rfl) (by kernel_rfl) ?qz394 (Or.inl ⟨?gz394, ?hz394⟩) (by assumption) ?rz394
    case iz394 => (simp only [List.getElem?_toArray, List.getElem?_cons_zero, List.getElem?_cons_succ]; rfl)
    case qz394 => exact fun _ _ _ h => h
    case gz394 => rfl
    case hz394 => (intro w hSw; (simp only [Holds] at hSw); go_simp <;> with_reducible rfl)
    simp only [Act.put, List.setIfInBounds_toArray, List.set_cons_zero, List.set_cons_succ]
    refine wpAnyH_take (i := 7) (oi := ?oz395) (v := ?vz395) ?iz395 (by kernel_rfl) (by kernel_rfl) (by kernel_rfl) ?qz395 (Or.inl ⟨?gz395, ?hz395⟩) (by assumption) ?rz395
    case iz395 => (simp only [List.getElem?_toArray, List.getElem?_cons_zero, List.getElem?_cons_succ]; rfl)
    case qz395 => exact fun _ _ _ h => h
    case gz395 => rfl
    case hz395 => (intro w hSw; (simp only [Holds] at hSw); go_simp <;> with_reducible rfl)
    simp only [Act.put, List.setIfInBounds_toArray, List.set_cons_zero, List.set_cons_succ]
    refine wpAnyH_take (i := 8) (oi := ?oz396) (v := ?vz396) ?iz396 (by kernel_rfl) (by kernel_rfl) (by kernel_rfl) ?qz396 (Or.inl ⟨?gz396, ?hz396⟩) (by assumption) ?rz396
    case iz396 => (simp only [List.getElem?_toArray, List.getElem?_cons_zero, List.getElem?_cons_succ]; rfl)
    case qz396 => exact fun _ _ _ h => h
    case gz396 => rfl
    case hz396 => (intro w hSw; (simp only [Holds] at hSw); go_simp <;> with_reducible rfl)
    simp only [Act.put, List.setIfInBounds_toArray, List.set_cons_zero, List.set_cons_succ]
    refine wpAnyH_take (i := 9) (oi := ?oz397) (v := ?vz397) ?iz397 (by kernel_rfl) (by kernel_rfl) (by kernel_rfl) ?qz397 (Or.inl ⟨?gz397, ?hz397⟩) (by assumption) ?rz397
    case iz397 => (simp only [List.getElem?_toArray, List.getElem?_cons_zero, List.getElem?_cons_succ]; rfl)
    case qz397 => exact fun _ _ _ h => h
    case gz397 => rfl
    case hz397 => (intro w hSw; (simp only [Holds] at hSw); go_simp <;> with_reducible rfl)
    simp only [Act.put, List.setIfInBounds_toArray, List.set_cons_zero, List.set_cons_succ]
    refine wpAnyH_take (i := 10) (oi := ?oz398) (v := ?vz398) ?iz398 (by kernel_rfl) (by kernel_rfl) (by kernel_rfl) ?qz398 (Or.inl ⟨?gz398, ?hz398⟩) (by assumption) ?rz398
    case iz398 => (simp only [List.getElem?_toArray, List.getElem?_cons_zero, List.getElem?_cons_succ]; rfl)
    case qz398 => exact fun _ _ _ h => h
    case gz398 => rfl
    case hz398 => (intro w hSw; (simp only [Holds] at hSw); go_simp <;> with_reducible rfl)
    simp only [Act.put, List.setIfInBounds_toArray, List.set_cons_zero, List.set_cons_succ]
    refine wpAnyH_take (i := 11) (oi := ?oz399) (v := ?vz399) ?iz399 (by kernel_rfl) (by kernel_rfl) (by kernel_rfl) ?qz399 (Or.inl ⟨?gz399, ?hz399⟩) (by assumption) ?rz399
    case iz399 => (simp only [List.getElem?_toArray, List.getElem?_cons_zero, List.getElem?_cons_succ]; rfl)
    case qz399 => exact fun _ _ _ h => h
    case gz399 => rfl
    case hz399 => (intro w hSw; (simp only [Holds] at hSw); go_simp <;> with_reducible rfl)
    simp only [Act.put, List.setIfInBounds_toArray, List.set_cons_zero, List.set_cons_succ]
    refine wpAnyH_take (i := 12) (oi := ?oz400) (v := ?vz400) ?iz400 (by kernel_rfl) (by kernel_rfl) (by kernel_rfl) ?qz400 (Or.inl ⟨?gz400, ?hz400⟩) (by assumption) ?rz400
    case iz400 => (simp only [List.getElem?_toArray, List.getElem?_cons_zero, List.getElem?_cons_succ]; rfl)
    case qz400 => exact fun _ _ _ h => h
    case gz400 => rfl
    case hz400 => (intro w hSw; (simp only [Holds] at hSw); go_simp <;> with_reducible rfl)
    simp only [Act.put, List.setIfInBounds_toArray, List.set_cons_zero, List.set_cons_succ]
    refine wpAnyH_ready (rs := [2]) (by kernel_rfl) (by simp) ?_
    refine AllReadyH.cons (o := ?oz401) ?iz401 (fun K hK => ?kz401) AllReadyH.nil
    case iz401 => (simp only [List.getElem?_toArray, List.getElem?_cons_zero, List.getElem?_cons_succ]; rfl)
    go_simp
    refine (timeAt_any (HC2.out.later Bc.out) (HR2.out.below Bc.out) ha hkl hn hst).mono ?_
    rintro e w' ⟨rfl, hb⟩
    refine held_more hK HS0.out hlt (Bc.out.trans (hb.mono Bc.out.size)) (fun Bc hSn => ?_)
    clear hb hK
    have HBB := Lib.hid (HW2.out.trans (Bc.out.mono HW2.out.size))
    have HE2 := Lib.hid HE.out
    by_cases h7 : (stp I (k : Int)).u < (tmN n (stp I a) (stp I (k : Int))).begn
    · have HE2 := Lib.hid (HE.out.trans (if_pos h7))
      have d7 := decide_eq_true h7
      clear h7
      unfold timeV
      have hfl := fieldT1
      refine wpAnyH_take (i := 3) (oi := ?oz402) (v := ?vz402) ?iz402 (by kernel_rfl) (by kernel_rfl) (by kernel_rfl) ?qz402 (Or.inl ⟨?gz402, ?hz402⟩) (by assumption) ?rz402
      case iz402 => (simp only [List.getElem?_toArray, List.getElem?_cons_zero, List.getElem?_cons_succ]; rfl)
      case qz402 => exact fun _ _ _ h => h
      case gz402 => rfl
      case hz402 => (intro w hSw; (simp only [Holds] at hSw); go_simp <;> with_reducible rfl)
      simp only [Act.put, List.setIfInBounds_toArray, List.set_cons_zero, List.set_cons_succ]
      refine wpAnyH_take (i := 13) (oi := ?oz403) (v := ?vz403) ?iz403 (by kernel_rfl) (by kernel_rfl) (by kernel_rfl) ?qz403 (Or.inl ⟨?gz403, ?hz403⟩) (by assumption) ?rz403
      case iz403 => (simp only [List.getElem?_toArray, List.getElem?_cons_zero, List.getElem?_cons_succ]; rfl)
      case qz403 => exact fun _ _ _ h => h
      case gz403 => rfl
      case hz403 => (intro w hSw; (simp only [Holds] at hSw); go_simp <;> with_reducible rfl)
      simp only [Act.put, List.setIfInBounds_toArray, List.set_cons_zero, List.set_cons_succ]
      refine wpAnyH_take (i := 14) (oi := ?oz404) (v := ?vz404) ?iz404 (by kernel_rfl) (by kernel_rfl) (by kernel_rfl) ?qz404 (Or.inl ⟨?gz404, ?hz404⟩) (by assumption) ?rz404
      case iz404 => (simp only [List.getElem?_toArray, List.getElem?_cons_zero, List.getElem?_cons_succ]; rfl)
      case qz404 => exact fun _ _ _ h => h
      case gz404 => rfl
      case hz404 => (intro w hSw; (simp only [Holds] at hSw); go_simp <;> with_reducible rfl)
      simp only [Act.put, List.setIfInBounds_toArray, List.set_cons_zero, List.set_cons_succ]
      refine wpAnyH_done (by kernel_rfl) ?_ _
      go_wp2
      go_ret
      exact ⟨ret_int HE2.out.symm, HBB.out⟩
    · have HE2 := Lib.hid (HE.out.trans (if_neg h7))
      have d7 := decide_eq_false h7
      clear h7
      unfold timeV
      have hfl := fieldT1
      refine wpAnyH_take (i := 3) (oi := ?oz405) (v := ?vz405) ?iz405 (by kernel_rfl) (by kernel_rfl) (by kernel_rfl) ?qz405 (Or.inl ⟨?gz405, ?hz405⟩) (by assumption) ?rz405
      case iz405 => (simp only [List.getElem?_toArray, List.getElem?_cons_zero, List.getElem?_cons_succ]; rfl)
      case qz405 => exact fun _ _ _ h => h
      case gz405 => rfl
      case hz405 => (intro w hSw; (simp only [Holds] at hSw); go_simp <;> with_reducible rfl)
      simp only [Act.put, List.setIfInBounds_toArray, List.set_cons_zero, List.set_cons_succ]
      refine wpAnyH_take (i := 13) (oi := ?oz406) (v := ?vz406) ?iz406 (by kernel_rfl) (by kernel_rfl) (by kernel_rfl) ?qz406 (Or.inl ⟨?gz406, ?hz406⟩) (by assumption) ?rz406
      case iz406 => (simp only [List.getElem?_toArray, List.getElem?_cons_zero, List.getElem?_cons_succ]; rfl)
      case qz406 => exact fun _ _ _ h => h
      case gz406 => rfl
      case hz406 => (intro w hSw; (simp only [Holds] at hSw); go_simp <;> with_reducible rfl)
      simp only [Act.put, List.setIfInBounds_toArray, List.set_cons_zero, List.set_cons_succ]
      refine wpAnyH_take (i := 14) (oi := ?oz407) (v := ?vz407) ?iz407 (by kernel_rfl) (by kernel_rfl) (by kernel_rfl) ?qz407 (Or.inl ⟨?gz407, ?hz407⟩) (by assumption) ?rz407
      case iz407 => (simp only [List.getElem?_toArray, List.getElem?_cons_zero, List.getElem?_cons_succ]; rfl)
      case qz407 => exact fun _ _ _ h => h
      case gz407 => rfl
      case hz407 => (intro w hSw; (simp only [Holds] at hSw); go_simp <;> with_reducible rfl)
      simp only [Act.put, List.setIfInBounds_toArray, List.set_cons_zero, List.set_cons_succ]
      refine wpAnyH_done (by kernel_rfl) ?_ _
      go_wp2
      go_ret
      exact ⟨ret_int HE2.out.symm, HBB.out⟩
/-- What is wrong with the yard as the next one. -/
def backE (h : Int) (I : Ins) (n : Int) (s : Stp) : Int := if 0 < h then 8 else if (nth I.l 0).u < n + farF s (nth I.l 0) then 7 else 0
set_option maxRecDepth 1000000 in
set_option maxHeartbeats 2000000 in
theorem wrongBack_any {w : World} {b : Nat} {I : Ins} {sv : Value} {a : Nat} {n g h : Int} {S : List Bool} {tv lv : Value} (hc : CarB w b I sv a n g h S tv lv) (hr : SRow w sv I.l) (hm : mayB I = true) (ha : a < I.l.length)
    (hn : 0 ≤ n ∧ n ≤ 2000000) :
    Calls Try.prog 18 #[.pointer (some ⟨b, 0, none⟩)] w fun e w' => e = .returned (.int .i64 (backE h I n (stp I a))) ∧ Below w.heap.size w w' := by
  have HC := Lib.hid hc
  have HR := Lib.hid hr
  have hl0 : 0 < I.l.length := (pmay_len hm).1
  have hst := (fine_of hm).ok 0 (Int.le_refl _) (by have := (fine_of hm).p0; omega)
  have q7 := hc.c7
  clear hc hr hm
  by_cases h1 : 0 < h
  · have HE := Lib.hid (show backE h I n (stp I a) = 8 from if_pos h1)
    have d1 := decide_eq_true h1
    clear h1
    go_enter Try.func18, Try.ntmps18
    go_wp2
    go_ret
    exact ⟨ret_int HE.out.symm, Below.refl _ _⟩
  have HE := Lib.hid (show backE h I n (stp I a) = if (stp I 0).u < n + farF (stp I a) (stp I 0) then 7 else 0 from if_neg h1)
  have d1 := decide_eq_false h1
  clear h1
  obtain ⟨ad, cap, rfl, _⟩ := HR.out.form
  obtain ⟨tb, off, rfl, hkt, hlt0⟩ := srow_at HR.out 0 hl0
  have HKT := Lib.hid (show At w tb off (stp I 0) by have h0 := hkt; rw [Nat.zero_mul, Nat.add_zero] at h0; exact h0)
  clear hkt
  go_enter Try.func18, Try.ntmps18
  go_wp2_with fail
  have HW2 := Lib.hid ((Below.refl w.heap.size w).drew)
  clear d1
  have HC2 := Lib.hid (HC.out.later HW2.out)
  have HR2 := Lib.hid (HR.out.below HW2.out)
  have hb2 : b < w.drew.heap.size := HC2.out.lt
  have htb2 : tb < w.drew.heap.size := Nat.lt_of_lt_of_le hlt0 HW2.out.size
  have HS0 := Lib.hid (show Holds ((⟨b, 3, none⟩, .slice (some ⟨tb, off, none⟩) I.l.length cap) :: cellsF tb off (stp I 0)) w.drew from ⟨HC2.out.c3, holds_at (HKT.out.below hlt0 HW2.out)⟩)
  have hlt := Lib.hid (show Lows w.drew.heap.size ((⟨b, 3, none⟩, .slice (some ⟨tb, off, none⟩) I.l.length cap) :: cellsF tb off (stp I 0)) from ⟨hb2, lows_at htb2⟩)
  refine wp_region_held_drew (S := Holds ((⟨b, 3, none⟩, .slice (some ⟨tb, off, none⟩) I.l.length cap) :: cellsF tb off (stp I 0))) (by kernel_rfl) HS0.out (fun hSn => ?_)
  have Bc := Lib.hid (Below.refl w.drew.heap.size w.drew)
  unfold cellsF at *
  have hki : (0 : Int) < (I.l.length : Int) := by omega
  refine wpAnyH_take (i := 0) (oi := ?oz408) (v := ?vz408) ?iz408 (by kernel_rfl) (by kernel_rfl) (by kernel_rfl) ?qz408 (Or.inl ⟨?gz408, ?hz408⟩) (by assumption) ?rz408
  case iz408 => (simp only [List.getElem?_toArray, List.getElem?_cons_zero]; rfl)
  case qz408 => exact fun _ _ _ h => h
  case gz408 => rfl
  case hz408 => (intro w hSw; (simp only [Holds] at hSw); go_simp <;> with_reducible rfl)
  simp only [Act.put, List.setIfInBounds_toArray, List.set_cons_zero, List.set_cons_succ]
  refine wpAnyH_take (i := 3) (oi := ?oz409) (v := ?vz409) ?iz409 (by kernel_rfl) (by kernel_rfl) (by kernel_rfl) ?qz409 (Or.inl ⟨?gz409, ?hz409⟩) (by assumption) ?rz409
  case iz409 => (simp only [List.getElem?_toArray, List.getElem?_cons_zero, List.getElem?_cons_succ]; rfl)
  case qz409 => exact fun _ _ _ h => h
  case gz409 => rfl
  case hz409 => (intro w hSw; (simp only [Holds] at hSw); go_simp <;> with_reducible rfl)
  simp only [Act.put, List.setIfInBounds_toArray, List.set_cons_zero, List.set_cons_succ]
  refine wpAnyH_take (i := 4) (oi := ?oz410) (v := ?vz410) ?iz410 (by kernel_rfl) (by kernel_rfl) (by kernel_rfl) ?qz410 (Or.inl ⟨?gz410, ?hz410⟩) (by assumption) ?rz410
  case iz410 => (simp only [List.getElem?_toArray, List.getElem?_cons_zero, List.getElem?_cons_succ]; rfl)
  case qz410 => exact fun _ _ _ h => h
  case gz410 => rfl
  case hz410 => (intro w hSw; (simp only [Holds] at hSw); go_simp <;> with_reducible rfl)
  simp only [Act.put, List.setIfInBounds_toArray, List.set_cons_zero, List.set_cons_succ]
  refine wpAnyH_take (i := 5) (oi := ?oz411) (v := ?vz411) ?iz411 (by kernel_rfl) (by kernel_rfl) (by kernel_rfl) ?qz411 (Or.inl ⟨?gz411, ?hz411⟩) (by assumption) ?rz411
  case iz411 => (simp only [List.getElem?_toArray, List.getElem?_cons_zero, List.getElem?_cons_succ]; rfl)
  case qz411 => exact fun _ _ _ h => h
  case gz411 => rfl
  case hz411 => (intro w hSw; (simp only [Holds] at hSw); go_simp <;> with_reducible rfl)
  simp only [Act.put, List.setIfInBounds_toArray, List.set_cons_zero, List.set_cons_succ]
  refine wpAnyH_take (i := 6) (oi := ?oz412) (v := ?vz412) ?iz412 (by kernel_rfl) (by kernel_rfl) (by kernel_rfl) ?qz412 (Or.inl ⟨?gz412, ?hz412⟩) (by assumption) ?rz412
  case iz412 => (simp only [List.getElem?_toArray, List.getElem?_cons_zero, List.getElem?_cons_succ]; rfl)
  case qz412 => exact fun _ _ _ h => h
  case gz412 => rfl
  case hz412 => (intro w hSw; (simp only [Holds] at hSw); go_simp <;> with_reducible rfl)
  simp only [Act.put, List.setIfInBounds_toArray, List.set_cons_zero, List.set_cons_succ]
  refine wpAnyH_take (i := 7) (oi := ?oz413) (v := ?vz413) ?iz413 (by kernel_rfl) (by kernel_rfl) (by kernel_rfl) ?qz413 (Or.inl ⟨?gz413, ?hz413⟩) (by assumption) ?rz413
  case iz413 => (simp only [List.getElem?_toArray, List.getElem?_cons_zero, List.getElem?_cons_succ]; rfl)
  case qz413 => exact fun _ _ _ h => h
  case gz413 => rfl
  case hz413 => (intro w hSw; (simp only [Holds] at hSw); go_simp <;> with_reducible rfl)
  simp only [Act.put, List.setIfInBounds_toArray, List.set_cons_zero, List.set_cons_succ]
  refine wpAnyH_take (i := 8) (oi := ?oz414) (v := ?vz414) ?iz414 (by kernel_rfl) (by kernel_rfl) (by kernel_rfl) ?qz414 (Or.inl ⟨?gz414, ?hz414⟩) (by assumption) ?rz414
  case iz414 => (simp only [List.getElem?_toArray, List.getElem?_cons_zero, List.getElem?_cons_succ]; rfl)
  case qz414 => exact fun _ _ _ h => h
  case gz414 => rfl
  case hz414 => (intro w hSw; (simp only [Holds] at hSw); go_simp <;> with_reducible rfl)
  simp only [Act.put, List.setIfInBounds_toArray, List.set_cons_zero, List.set_cons_succ]
  refine wpAnyH_take (i := 9) (oi := ?oz415) (v := ?vz415) ?iz415 (by kernel_rfl) (by kernel_rfl) (by kernel_rfl) ?qz415 (Or.inl ⟨?gz415, ?hz415⟩) (by assumption) ?rz415
  case iz415 => (simp only [List.getElem?_toArray, List.getElem?_cons_zero, List.getElem?_cons_succ]; rfl)
  case qz415 => exact fun _ _ _ h => h
  case gz415 => rfl
  case hz415 => (intro w hSw; (simp only [Holds] at hSw); go_simp <;> with_reducible rfl)
  simp only [Act.put, List.setIfInBounds_toArray, List.set_cons_zero, List.set_cons_succ]
  refine wpAnyH_take (i := 10) (oi := ?oz416) (v := ?vz416) ?iz416 (by kernel_rfl) (by kernel_rfl) (by kernel_rfl) ?qz416 (Or.inl ⟨?gz416, ?hz416⟩) (by assumption) ?rz416
  case iz416 => (simp only [List.getElem?_toArray, List.getElem?_cons_zero, List.getElem?_cons_succ]; rfl)
  case qz416 => exact fun _ _ _ h => h
  case gz416 => rfl
  case hz416 => (intro w hSw; (simp only [Holds] at hSw); go_simp <;> with_reducible rfl)
  simp only [Act.put, List.setIfInBounds_toArray, List.set_cons_zero, List.set_cons_succ]
  refine wpAnyH_ready (rs := [1]) (by kernel_rfl) (by simp) ?_
  refine AllReadyH.cons (o := ?oz417) ?iz417 (fun K hK => ?kz417) AllReadyH.nil
  case iz417 => (simp only [List.getElem?_toArray, List.getElem?_cons_zero, List.getElem?_cons_succ]; rfl)
  go_simp
  refine (timeAt_any (k := 0) (HC2.out.later Bc.out) (HR2.out.below Bc.out) ha hl0 hn hst).mono ?_
  rintro e w' ⟨rfl, hb⟩
  refine held_more hK HS0.out hlt (Bc.out.trans (hb.mono Bc.out.size)) (fun Bc hSn => ?_)
  clear hb hK
  have HBB := Lib.hid (HW2.out.trans (Bc.out.mono HW2.out.size))
  rw [show tmN n (stp I a) (stp I ((0 : Nat) : Int)) = ⟨n + farF (stp I a) (stp I 0), max (n + farF (stp I a) (stp I 0)) (stp I 0).r, max (n + farF (stp I a) (stp I 0)) (stp I 0).r + (stp I 0).s⟩ from rfl]
  by_cases h7 : (stp I 0).u < n + farF (stp I a) (stp I 0)
  · have HE2 := Lib.hid (HE.out.trans (if_pos h7))
    have d7 := decide_eq_true h7
    clear h7
    unfold timeV
    have hfl := fieldT0
    refine wpAnyH_take (i := 2) (oi := ?oz418) (v := ?vz418) ?iz418 (by kernel_rfl) (by kernel_rfl) (by kernel_rfl) ?qz418 (Or.inl ⟨?gz418, ?hz418⟩) (by assumption) ?rz418
    case iz418 => (simp only [List.getElem?_toArray, List.getElem?_cons_zero, List.getElem?_cons_succ]; rfl)
    case qz418 => exact fun _ _ _ h => h
    case gz418 => rfl
    case hz418 => (intro w hSw; (simp only [Holds] at hSw); go_simp <;> with_reducible rfl)
    simp only [Act.put, List.setIfInBounds_toArray, List.set_cons_zero, List.set_cons_succ]
    refine wpAnyH_take (i := 11) (oi := ?oz419) (v := ?vz419) ?iz419 (by kernel_rfl) (by kernel_rfl) (by kernel_rfl) ?qz419 (Or.inl ⟨?gz419, ?hz419⟩) (by assumption) ?rz419
    case iz419 => (simp only [List.getElem?_toArray, List.getElem?_cons_zero, List.getElem?_cons_succ]; rfl)
    case qz419 => exact fun _ _ _ h => h
    case gz419 => rfl
    case hz419 => (intro w hSw; (simp only [Holds] at hSw); go_simp <;> with_reducible rfl)
    simp only [Act.put, List.setIfInBounds_toArray, List.set_cons_zero, List.set_cons_succ]
    refine wpAnyH_take (i := 12) (oi := ?oz420) (v := ?vz420) ?iz420 (by kernel_rfl) (by kernel_rfl) (by kernel_rfl) ?qz420 (Or.inl ⟨?gz420, ?hz420⟩) (by assumption) ?rz420
    case iz420 => (simp only [List.getElem?_toArray, List.getElem?_cons_zero, List.getElem?_cons_succ]; rfl)
    case qz420 => exact fun _ _ _ h => h
    case gz420 => rfl
    case hz420 => (intro w hSw; (simp only [Holds] at hSw); go_simp <;> with_reducible rfl)
    simp only [Act.put, List.setIfInBounds_toArray, List.set_cons_zero, List.set_cons_succ]
    refine wpAnyH_done (by kernel_rfl) ?_ _
    go_wp2
    go_ret
    exact ⟨ret_int HE2.out.symm, HBB.out⟩
  · have HE2 := Lib.hid (HE.out.trans (if_neg h7))
    have d7 := decide_eq_false h7
    clear h7
    unfold timeV
    have hfl := fieldT0
    refine wpAnyH_take (i := 2) (oi := ?oz421) (v := ?vz421) ?iz421 (by kernel_rfl) (by kernel_rfl) (by kernel_rfl) ?qz421 (Or.inl ⟨?gz421, ?hz421⟩) (by assumption) ?rz421
    case iz421 => (simp only [List.getElem?_toArray, List.getElem?_cons_zero, List.getElem?_cons_succ]; rfl)
    case qz421 => exact fun _ _ _ h => h
    case gz421 => rfl
    case hz421 => (intro w hSw; (simp only [Holds] at hSw); go_simp <;> with_reducible rfl)
    simp only [Act.put, List.setIfInBounds_toArray, List.set_cons_zero, List.set_cons_succ]
    refine wpAnyH_take (i := 11) (oi := ?oz422) (v := ?vz422) ?iz422 (by kernel_rfl) (by kernel_rfl) (by kernel_rfl) ?qz422 (Or.inl ⟨?gz422, ?hz422⟩) (by assumption) ?rz422
    case iz422 => (simp only [List.getElem?_toArray, List.getElem?_cons_zero, List.getElem?_cons_succ]; rfl)
    case qz422 => exact fun _ _ _ h => h
    case gz422 => rfl
    case hz422 => (intro w hSw; (simp only [Holds] at hSw); go_simp <;> with_reducible rfl)
    simp only [Act.put, List.setIfInBounds_toArray, List.set_cons_zero, List.set_cons_succ]
    refine wpAnyH_take (i := 12) (oi := ?oz423) (v := ?vz423) ?iz423 (by kernel_rfl) (by kernel_rfl) (by kernel_rfl) ?qz423 (Or.inl ⟨?gz423, ?hz423⟩) (by assumption) ?rz423
    case iz423 => (simp only [List.getElem?_toArray, List.getElem?_cons_zero, List.getElem?_cons_succ]; rfl)
    case qz423 => exact fun _ _ _ h => h
    case gz423 => rfl
    case hz423 => (intro w hSw; (simp only [Holds] at hSw); go_simp <;> with_reducible rfl)
    simp only [Act.put, List.setIfInBounds_toArray, List.set_cons_zero, List.set_cons_succ]
    refine wpAnyH_done (by kernel_rfl) ?_ _
    go_wp2
    go_ret
    exact ⟨ret_int HE2.out.symm, HBB.out⟩
end Go.Proofs.Ytjnmiibefhcfeaa
