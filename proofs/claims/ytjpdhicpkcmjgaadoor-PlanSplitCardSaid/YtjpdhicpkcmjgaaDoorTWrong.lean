/- What a car's wrongAt and wrongBack answer. -/
import Derived.Test.YtjpdhicpkcmjgaaDoorXTCar
namespace Go.Proofs.YtjpdhicpkcmjgaaDoor
open Go.ChangeShapes Go.WideShapes Go.ChangeAt Go.RowKit

/-- What is wrong with a stop as the next one. -/
def nextE (I : Ins) (L : List Int) (n : Int) (s : Stp) (i : Int) : Int := if wrongE I L i ≠ 0 then wrongE I L i else if (stp I i).u < (tmN n s (stp I i)).begn then 7 else 0
theorem fieldT0 (x y z : Int) (w : World) : (Instr.field 82 (.agg #[.int .i64 x, .int .i64 y, .int .i64 z]) 0).run Tryd.prog w = .ok (.int .i64 x) w := by kernel_rfl
theorem fieldT1 (x y z : Int) (w : World) : (Instr.field 82 (.agg #[.int .i64 x, .int .i64 y, .int .i64 z]) 1).run Tryd.prog w = .ok (.int .i64 y) w := by kernel_rfl
section
variable {I : Ins} {L : List Int} {n : Int} {s : Stp} {i : Int}
theorem nextE_arg (h : i < 1 ∨ 2 * I.p < i) : nextE I L n s i = 1 := by
  have : wrongE I L i = 1 := by unfold wrongE; rw [if_pos h]
  unfold nextE; rw [this, if_pos (by decide)]
theorem nextE_twice (h1 : 1 ≤ i ∧ i ≤ 2 * I.p) (h2 : i ∈ L) : nextE I L n s i = 5 := by
  have : wrongE I L i = 5 := by unfold wrongE; rw [if_neg (by omega), if_pos h2]
  unfold nextE; rw [this, if_pos (by decide)]
theorem nextE_order (h1 : 1 ≤ i ∧ i ≤ 2 * I.p) (h2 : i ∉ L) (h3 : I.p < i) (h4 : i - I.p ∉ L) : nextE I L n s i = 8 := by
  have : wrongE I L i = 8 := by unfold wrongE; rw [if_neg (by omega), if_neg h2, if_pos ⟨h3, h4⟩]
  unfold nextE; rw [this, if_pos (by decide)]
theorem nextE_full (h1 : 1 ≤ i ∧ i ≤ 2 * I.p) (h2 : i ∉ L) (h3 : ¬ (I.p < i ∧ i - I.p ∉ L)) (h4 : I.r < heldL I L + (stp I i).d) : nextE I L n s i = 6 := by
  have : wrongE I L i = 6 := by unfold wrongE; rw [if_neg (by omega), if_neg h2, if_neg h3, if_pos h4]
  unfold nextE; rw [this, if_pos (by decide)]
theorem nextE_rest (h1 : 1 ≤ i ∧ i ≤ 2 * I.p) (h2 : i ∉ L) (h3 : ¬ (I.p < i ∧ i - I.p ∉ L)) (h4 : ¬ I.r < heldL I L + (stp I i).d) : nextE I L n s i = if (stp I i).u < (tmN n s (stp I i)).begn then 7 else 0 := by
  have : wrongE I L i = 0 := by unfold wrongE; rw [if_neg (by omega), if_neg h2, if_neg h3, if_neg h4]
  unfold nextE; rw [this, if_neg (by decide)]
end
set_option maxRecDepth 1000000 in
set_option maxHeartbeats 2000000 in
theorem wrongAt_any {w : World} {b : Nat} {I : Ins} {sv : Value} {a : Nat} {i n g : Int} {L : List Int} {tv lv : Value} (hc : CarB w b I sv a n g (heldL I L) (seenB L) tv lv) (hr : SRow w sv I.l) (hm : mayB I = true) (ha : a < I.l.length)
    (hn : 0 ≤ n ∧ n ≤ 2000000) (hh : 0 ≤ heldL I L ∧ heldL I L ≤ 1000) :
    Calls Tryd.prog 67 #[.pointer (some ⟨b, 0, none⟩), .int .i64 i] w fun e w' => e = .returned (.int .i64 (nextE I L n (stp I a) i)) ∧ Below w.heap.size w w' := by
  have HC := Lib.hid hc
  have HR := Lib.hid hr
  have HM := Lib.hid (fine_of hm)
  have hp0 := HM.out.p0
  have hp1 := HM.out.p1
  have hl := HM.out.len
  have q0 := hc.c0
  have e1 : IntKind.i64.wrap (2 * I.p) = 2 * I.p := IntWalk.i64_in _ (by omega)
  clear hc hr hm
  by_cases h1 : i < 1
  · have d1 := decide_eq_true h1
    have HE := Lib.hid (nextE_arg (L := L) (n := n) (s := stp I a) (show i < 1 ∨ 2 * I.p < i from .inl h1))
    clear h1
    go_enter Tryd.func67, Tryd.ntmps67
    go_wp2
    go_ret
    exact ⟨ret_int HE.out.symm, Below.refl _ _⟩
  have d1 := decide_eq_false h1
  by_cases h2 : 2 * I.p < i
  · have d2 := decide_eq_true h2
    have HE := Lib.hid (nextE_arg (L := L) (n := n) (s := stp I a) (show i < 1 ∨ 2 * I.p < i from .inr h2))
    clear h1 h2
    go_enter Tryd.func67, Tryd.ntmps67
    go_wp2
    go_ret
    exact ⟨ret_int HE.out.symm, Below.refl _ _⟩
  have d2 := decide_eq_false h2
  have HI := Lib.hid (show 1 ≤ i ∧ i ≤ 2 * I.p by omega)
  obtain ⟨k, rfl⟩ : ∃ k : Nat, i = (k : Int) := ⟨i.toNat, by omega⟩
  have hk33 : k < 33 := by omega
  have hkl : k < I.l.length := by omega
  clear h1 h2
  have q8 := HC.out.cs k hk33
  rw [seenB_at L k hk33] at q8
  have k33 : (k : Int) < 33 := by omega
  by_cases h3 : (k : Int) ∈ L
  · have HE := Lib.hid (nextE_twice (n := n) (s := stp I a) HI.out h3)
    rw [decide_eq_true h3] at q8
    clear h3
    go_enter Tryd.func67, Tryd.ntmps67
    go_wp2
    go_ret
    exact ⟨ret_int HE.out.symm, Below.refl _ _⟩
  have H3 := Lib.hid h3
  rw [decide_eq_false h3] at q8
  clear h3
  obtain ⟨ad, cap, rfl, _⟩ := HR.out.form
  obtain ⟨tb, off, rfl, hkt, hlt0⟩ := srow_at HR.out k hkl
  have HKT := Lib.hid (show At w tb (off + k * 6) (stp I k) from hkt)
  clear hkt
  have hd : -1000 ≤ (stp I (k : Int)).d ∧ (stp I (k : Int)).d ≤ 1000 := by
    by_cases c : (k : Int) ≤ I.p
    · have := HM.out.take (k : Int) HI.out.1 c; omega
    · have h0 := HM.out.bring (k : Int) (by omega) HI.out.2
      have := HM.out.take ((k : Int) - I.p) (by omega) (by omega); omega
  have hst := HM.out.ok (k : Int) (by omega) HI.out.2
  have e3 : IntKind.i64.wrap (heldL I L + (stp I (k : Int)).d) = heldL I L + (stp I (k : Int)).d := IntWalk.i64_in _ (by omega)
  refine Or.elim (show (I.p < (k : Int) ∧ (k : Int) - I.p ∉ L) ∨ (I.p < (k : Int) ∧ (k : Int) - I.p ∈ L) ∨ ¬ I.p < (k : Int) by
    by_cases c : I.p < (k : Int)
    · by_cases c2 : (k : Int) - I.p ∈ L
      · exact .inr (.inl ⟨c, c2⟩)
      · exact .inl ⟨c, c2⟩
    · exact .inr (.inr c)) (fun h => ?bad) (fun h => Or.elim h (fun h => ?pa) (fun h => ?pb))
  case bad =>
    have HE := Lib.hid (nextE_order (n := n) (s := stp I a) HI.out H3.out h.1 h.2)
    obtain ⟨m, hm⟩ : ∃ m : Nat, (k : Int) - I.p = (m : Int) := ⟨((k : Int) - I.p).toNat, by omega⟩
    have hm33 : m < 33 := by omega
    have q9 := HC.out.cs m hm33
    rw [seenB_at L m hm33, ← hm, decide_eq_false h.2] at q9
    have e2 : IntKind.i64.wrap ((k : Int) - I.p) = (m : Int) := by rw [← hm]; exact IntWalk.i64_in _ (by omega)
    have m33 : (m : Int) < 33 := by omega
    have d3 := decide_eq_true h.1
    clear h hm
    go_enter Tryd.func67, Tryd.ntmps67
    go_wp2_with fail
    go_quiet (fail)
    go_wp2
    go_ret
    exact ⟨ret_int HE.out.symm, below_drewN (Below.refl _ _) nq⟩
  case' pa =>
    have HO := Lib.hid (show ¬ (I.p < (k : Int) ∧ (k : Int) - I.p ∉ L) from fun x => x.2 h.2)
    obtain ⟨m, hm⟩ : ∃ m : Nat, (k : Int) - I.p = (m : Int) := ⟨((k : Int) - I.p).toNat, by omega⟩
    have hm33 : m < 33 := by omega
    have q9 := HC.out.cs m hm33
    rw [seenB_at L m hm33, ← hm, decide_eq_true h.2] at q9
    have e2 : IntKind.i64.wrap ((k : Int) - I.p) = (m : Int) := by rw [← hm]; exact IntWalk.i64_in _ (by omega)
    have m33 : (m : Int) < 33 := by omega
    have d3 := decide_eq_true h.1
    clear h hm
    go_enter Tryd.func67, Tryd.ntmps67
    go_wp2_with fail
    go_quiet (fail)
    clear d3 q9 e2 m33 hm33
  case' pb =>
    have HO := Lib.hid (show ¬ (I.p < (k : Int) ∧ (k : Int) - I.p ∉ L) from fun x => h x.1)
    have d3 := decide_eq_false h
    clear h
    go_enter Tryd.func67, Tryd.ntmps67
    go_wp2_with fail
    go_quiet (fail)
    clear d3
  all_goals
    have HW := Lib.hid (below_drewN (Below.refl w.heap.size w) nq)
    generalize w.drewN nq = w1 at *
    clear q0 q8
    have q2 := (HC.out.later HW.out).c2
    have q3 := (HC.out.later HW.out).c3
    have q7 := (HC.out.later HW.out).c7
    obtain ⟨t0, t1, t2, t3, t4, t5⟩ := HKT.out.below hlt0 HW.out
    by_cases h6 : I.r < heldL I L + (stp I (k : Int)).d
    · have HE := Lib.hid (nextE_full (n := n) (s := stp I a) HI.out H3.out HO.out h6)
      have d4 := decide_eq_true h6
      clear h6
      go_wp2_with fail
      go_quiet (fail)
      go_wp2
      go_ret
      exact ⟨ret_int HE.out.symm, below_drewN HW.out nq⟩
    have HE := Lib.hid (nextE_rest (n := n) (s := stp I a) HI.out H3.out HO.out h6)
    have d4 := decide_eq_false h6
    clear h6
    go_wp2_with fail
    go_quiet (fail)
    have HW2 := Lib.hid ((below_drewN HW.out nq).drew)
    generalize w1.drewN nq = w2 at *
    clear d4 q2 q3 q7 t0 t1 t2 t3 t4 t5 e1 d1 d2 e3
    go_wp2_with fail
  · have HC2 := Lib.hid (HC.out.later HW2.out)
    have HR2 := Lib.hid (HR.out.below HW2.out)
    have hb2 : b < w2.drew.heap.size := HC2.out.lt
    have htb2 : tb < w2.drew.heap.size := Nat.lt_of_lt_of_le hlt0 HW2.out.size
    have HS0 := Lib.hid (show Holds ((⟨b, 3, none⟩, .slice (some ⟨tb, off, none⟩) I.l.length cap) :: cellsF tb (off + k * 6) (stp I (k : Int))) w2.drew from ⟨HC2.out.c3, holds_at (HKT.out.below hlt0 HW2.out)⟩)
    have hlt := Lib.hid (show Lows w2.drew.heap.size ((⟨b, 3, none⟩, .slice (some ⟨tb, off, none⟩) I.l.length cap) :: cellsF tb (off + k * 6) (stp I (k : Int))) from ⟨hb2, lows_at htb2⟩)
    refine wp_region_held_drew (S := Holds ((⟨b, 3, none⟩, .slice (some ⟨tb, off, none⟩) I.l.length cap) :: cellsF tb (off + k * 6) (stp I (k : Int)))) (by kernel_rfl) HS0.out (fun hSn => ?_)
    have Bc := Lib.hid (Below.refl w2.drew.heap.size w2.drew)
    unfold cellsF at *
    have hki : (k : Int) < (I.l.length : Int) := by omega
    clear hl
    refine wpAnyH_take (i := 0) (oi := ?oz61) (v := ?vz61) ?iz61 (by kernel_rfl) (by kernel_rfl) (by kernel_rfl) ?qz61 (Or.inl ⟨?gz61, ?hz61⟩) (by assumption) ?rz61
    case iz61 => (simp only [List.getElem?_toArray, List.getElem?_cons_zero]; rfl)
    case qz61 => exact fun _ _ _ h => h
    case gz61 => rfl
    case hz61 => (intro w hSw; (simp only [Holds] at hSw); go_simp <;> with_reducible rfl)
    simp only [Act.put, List.setIfInBounds_toArray, List.set_cons_zero, List.set_cons_succ]
    refine wpAnyH_take (i := 1) (oi := ?oz62) (v := ?vz62) ?iz62 (by kernel_rfl) (by kernel_rfl) (by kernel_rfl) ?qz62 (Or.inl ⟨?gz62, ?hz62⟩) (by assumption) ?rz62
    case iz62 => (simp only [List.getElem?_toArray, List.getElem?_cons_zero, List.getElem?_cons_succ]; rfl)
    case qz62 => exact fun _ _ _ h => h
    case gz62 => rfl
    case hz62 => (intro w hSw; (simp only [Holds] at hSw); go_simp <;> with_reducible rfl)
    simp only [Act.put, List.setIfInBounds_toArray, List.set_cons_zero, List.set_cons_succ]
    refine wpAnyH_take (i := 4) (oi := ?oz63) (v := ?vz63) ?iz63 (by kernel_rfl) (by kernel_rfl) (by kernel_rfl) ?qz63 (Or.inl ⟨?gz63, ?hz63⟩) (by assumption) ?rz63
    case iz63 => (simp only [List.getElem?_toArray, List.getElem?_cons_zero, List.getElem?_cons_succ]; rfl)
    case qz63 => exact fun _ _ _ h => h
    case gz63 => rfl
    case hz63 => (intro w hSw; (simp only [Holds] at hSw); go_simp <;> with_reducible rfl)
    simp only [Act.put, List.setIfInBounds_toArray, List.set_cons_zero, List.set_cons_succ]
    refine wpAnyH_take (i := 5) (oi := ?oz64) (v := ?vz64) ?iz64 (by kernel_rfl) (by kernel_rfl) (by kernel_rfl) ?qz64 (Or.inl ⟨?gz64, ?hz64⟩) (by assumption) ?rz64
    case iz64 => (simp only [List.getElem?_toArray, List.getElem?_cons_zero, List.getElem?_cons_succ]; rfl)
    case qz64 => exact fun _ _ _ h => h
    case gz64 => rfl
    case hz64 => (intro w hSw; (simp only [Holds] at hSw); go_simp <;> with_reducible rfl)
    simp only [Act.put, List.setIfInBounds_toArray, List.set_cons_zero, List.set_cons_succ]
    refine wpAnyH_take (i := 6) (oi := ?oz65) (v := ?vz65) ?iz65 (by kernel_rfl) (by kernel_rfl) (by kernel_rfl) ?qz65 (Or.inl ⟨?gz65, ?hz65⟩) (by assumption) ?rz65
    case iz65 => (simp only [List.getElem?_toArray, List.getElem?_cons_zero, List.getElem?_cons_succ]; rfl)
    case qz65 => exact fun _ _ _ h => h
    case gz65 => rfl
    case hz65 => (intro w hSw; (simp only [Holds] at hSw); go_simp <;> with_reducible rfl)
    simp only [Act.put, List.setIfInBounds_toArray, List.set_cons_zero, List.set_cons_succ]
    refine wpAnyH_take (i := 7) (oi := ?oz66) (v := ?vz66) ?iz66 (by kernel_rfl) (by kernel_rfl) (by kernel_rfl) ?qz66 (Or.inl ⟨?gz66, ?hz66⟩) (by assumption) ?rz66
    case iz66 => (simp only [List.getElem?_toArray, List.getElem?_cons_zero, List.getElem?_cons_succ]; rfl)
    case qz66 => exact fun _ _ _ h => h
    case gz66 => rfl
    case hz66 => (intro w hSw; (simp only [Holds] at hSw); go_simp <;> with_reducible rfl)
    simp only [Act.put, List.setIfInBounds_toArray, List.set_cons_zero, List.set_cons_succ]
    refine wpAnyH_take (i := 8) (oi := ?oz67) (v := ?vz67) ?iz67 (by kernel_rfl) (by kernel_rfl) (by kernel_rfl) ?qz67 (Or.inl ⟨?gz67, ?hz67⟩) (by assumption) ?rz67
    case iz67 => (simp only [List.getElem?_toArray, List.getElem?_cons_zero, List.getElem?_cons_succ]; rfl)
    case qz67 => exact fun _ _ _ h => h
    case gz67 => rfl
    case hz67 => (intro w hSw; (simp only [Holds] at hSw); go_simp <;> with_reducible rfl)
    simp only [Act.put, List.setIfInBounds_toArray, List.set_cons_zero, List.set_cons_succ]
    refine wpAnyH_take (i := 9) (oi := ?oz68) (v := ?vz68) ?iz68 (by kernel_rfl) (by kernel_rfl) (by kernel_rfl) ?qz68 (Or.inl ⟨?gz68, ?hz68⟩) (by assumption) ?rz68
    case iz68 => (simp only [List.getElem?_toArray, List.getElem?_cons_zero, List.getElem?_cons_succ]; rfl)
    case qz68 => exact fun _ _ _ h => h
    case gz68 => rfl
    case hz68 => (intro w hSw; (simp only [Holds] at hSw); go_simp <;> with_reducible rfl)
    simp only [Act.put, List.setIfInBounds_toArray, List.set_cons_zero, List.set_cons_succ]
    refine wpAnyH_take (i := 10) (oi := ?oz69) (v := ?vz69) ?iz69 (by kernel_rfl) (by kernel_rfl) (by kernel_rfl) ?qz69 (Or.inl ⟨?gz69, ?hz69⟩) (by assumption) ?rz69
    case iz69 => (simp only [List.getElem?_toArray, List.getElem?_cons_zero, List.getElem?_cons_succ]; rfl)
    case qz69 => exact fun _ _ _ h => h
    case gz69 => rfl
    case hz69 => (intro w hSw; (simp only [Holds] at hSw); go_simp <;> with_reducible rfl)
    simp only [Act.put, List.setIfInBounds_toArray, List.set_cons_zero, List.set_cons_succ]
    refine wpAnyH_take (i := 11) (oi := ?oz70) (v := ?vz70) ?iz70 (by kernel_rfl) (by kernel_rfl) (by kernel_rfl) ?qz70 (Or.inl ⟨?gz70, ?hz70⟩) (by assumption) ?rz70
    case iz70 => (simp only [List.getElem?_toArray, List.getElem?_cons_zero, List.getElem?_cons_succ]; rfl)
    case qz70 => exact fun _ _ _ h => h
    case gz70 => rfl
    case hz70 => (intro w hSw; (simp only [Holds] at hSw); go_simp <;> with_reducible rfl)
    simp only [Act.put, List.setIfInBounds_toArray, List.set_cons_zero, List.set_cons_succ]
    refine wpAnyH_take (i := 12) (oi := ?oz71) (v := ?vz71) ?iz71 (by kernel_rfl) (by kernel_rfl) (by kernel_rfl) ?qz71 (Or.inl ⟨?gz71, ?hz71⟩) (by assumption) ?rz71
    case iz71 => (simp only [List.getElem?_toArray, List.getElem?_cons_zero, List.getElem?_cons_succ]; rfl)
    case qz71 => exact fun _ _ _ h => h
    case gz71 => rfl
    case hz71 => (intro w hSw; (simp only [Holds] at hSw); go_simp <;> with_reducible rfl)
    simp only [Act.put, List.setIfInBounds_toArray, List.set_cons_zero, List.set_cons_succ]
    refine wpAnyH_ready (rs := [2]) (by kernel_rfl) (by simp) ?_
    refine AllReadyH.cons (o := ?oz72) ?iz72 (fun K hK => ?kz72) AllReadyH.nil
    case iz72 => (simp only [List.getElem?_toArray, List.getElem?_cons_zero, List.getElem?_cons_succ]; rfl)
    go_simp
    refine (timeAt_any (HC2.out.later Bc.out) (HR2.out.below Bc.out) ha hkl hn hst).mono ?_
    rintro e w' ⟨rfl, hb⟩
    refine held_more hK HS0.out hlt (Bc.out.trans (hb.mono Bc.out.size)) (fun Bc hSn => ?_)
    clear hb hK
    have HBB := Lib.hid (HW2.out.trans (Bc.out.mono HW2.out.size))
    have HE2 := Lib.hid HE.out
    by_cases h7 : (stp I (k : Int)).u < (tmN n (stp I a) (stp I (k : Int))).begn
    · have HE2 := Lib.hid (HE.out.trans (if_pos h7))
      have d7 := decide_eq_true h7
      clear h7
      unfold timeV
      have hfl := fieldT1
      refine wpAnyH_take (i := 3) (oi := ?oz73) (v := ?vz73) ?iz73 (by kernel_rfl) (by kernel_rfl) (by kernel_rfl) ?qz73 (Or.inl ⟨?gz73, ?hz73⟩) (by assumption) ?rz73
      case iz73 => (simp only [List.getElem?_toArray, List.getElem?_cons_zero, List.getElem?_cons_succ]; rfl)
      case qz73 => exact fun _ _ _ h => h
      case gz73 => rfl
      case hz73 => (intro w hSw; (simp only [Holds] at hSw); go_simp <;> with_reducible rfl)
      simp only [Act.put, List.setIfInBounds_toArray, List.set_cons_zero, List.set_cons_succ]
      refine wpAnyH_take (i := 13) (oi := ?oz74) (v := ?vz74) ?iz74 (by kernel_rfl) (by kernel_rfl) (by kernel_rfl) ?qz74 (Or.inl ⟨?gz74, ?hz74⟩) (by assumption) ?rz74
      case iz74 => (simp only [List.getElem?_toArray, List.getElem?_cons_zero, List.getElem?_cons_succ]; rfl)
      case qz74 => exact fun _ _ _ h => h
      case gz74 => rfl
      case hz74 => (intro w hSw; (simp only [Holds] at hSw); go_simp <;> with_reducible rfl)
      simp only [Act.put, List.setIfInBounds_toArray, List.set_cons_zero, List.set_cons_succ]
      refine wpAnyH_take (i := 14) (oi := ?oz75) (v := ?vz75) ?iz75 (by kernel_rfl) (by kernel_rfl) (by kernel_rfl) ?qz75 (Or.inl ⟨?gz75, ?hz75⟩) (by assumption) ?rz75
      case iz75 => (simp only [List.getElem?_toArray, List.getElem?_cons_zero, List.getElem?_cons_succ]; rfl)
      case qz75 => exact fun _ _ _ h => h
      case gz75 => rfl
      case hz75 => (intro w hSw; (simp only [Holds] at hSw); go_simp <;> with_reducible rfl)
      simp only [Act.put, List.setIfInBounds_toArray, List.set_cons_zero, List.set_cons_succ]
      refine wpAnyH_done (by kernel_rfl) ?_ _
      go_wp2
      go_ret
      exact ⟨ret_int HE2.out.symm, HBB.out⟩
    · have HE2 := Lib.hid (HE.out.trans (if_neg h7))
      have d7 := decide_eq_false h7
      clear h7
      unfold timeV
      have hfl := fieldT1
      refine wpAnyH_take (i := 3) (oi := ?oz76) (v := ?vz76) ?iz76 (by kernel_rfl) (by kernel_rfl) (by kernel_rfl) ?qz76 (Or.inl ⟨?gz76, ?hz76⟩) (by assumption) ?rz76
      case iz76 => (simp only [List.getElem?_toArray, List.getElem?_cons_zero, List.getElem?_cons_succ]; rfl)
      case qz76 => exact fun _ _ _ h => h
      case gz76 => rfl
      case hz76 => (intro w hSw; (simp only [Holds] at hSw); go_simp <;> with_reducible rfl)
      simp only [Act.put, List.setIfInBounds_toArray, List.set_cons_zero, List.set_cons_succ]
      refine wpAnyH_take (i := 13) (oi := ?oz77) (v := ?vz77) ?iz77 (by kernel_rfl) (by kernel_rfl) (by kernel_rfl) ?qz77 (Or.inl ⟨?gz77, ?hz77⟩) (by assumption) ?rz77
      case iz77 => (simp only [List.getElem?_toArray, List.getElem?_cons_zero, List.getElem?_cons_succ]; rfl)
      case qz77 => exact fun _ _ _ h => h
      case gz77 => rfl
      case hz77 => (intro w hSw; (simp only [Holds] at hSw); go_simp <;> with_reducible rfl)
      simp only [Act.put, List.setIfInBounds_toArray, List.set_cons_zero, List.set_cons_succ]
      refine wpAnyH_take (i := 14) (oi := ?oz78) (v := ?vz78) ?iz78 (by kernel_rfl) (by kernel_rfl) (by kernel_rfl) ?qz78 (Or.inl ⟨?gz78, ?hz78⟩) (by assumption) ?rz78
      case iz78 => (simp only [List.getElem?_toArray, List.getElem?_cons_zero, List.getElem?_cons_succ]; rfl)
      case qz78 => exact fun _ _ _ h => h
      case gz78 => rfl
      case hz78 => (intro w hSw; (simp only [Holds] at hSw); go_simp <;> with_reducible rfl)
      simp only [Act.put, List.setIfInBounds_toArray, List.set_cons_zero, List.set_cons_succ]
      refine wpAnyH_done (by kernel_rfl) ?_ _
      go_wp2
      go_ret
      exact ⟨ret_int HE2.out.symm, HBB.out⟩
  · have HC2 := Lib.hid (HC.out.later HW2.out)
    have HR2 := Lib.hid (HR.out.below HW2.out)
    have hb2 : b < w2.drew.heap.size := HC2.out.lt
    have htb2 : tb < w2.drew.heap.size := Nat.lt_of_lt_of_le hlt0 HW2.out.size
    have HS0 := Lib.hid (show Holds ((⟨b, 3, none⟩, .slice (some ⟨tb, off, none⟩) I.l.length cap) :: cellsF tb (off + k * 6) (stp I (k : Int))) w2.drew from ⟨HC2.out.c3, holds_at (HKT.out.below hlt0 HW2.out)⟩)
    have hlt := Lib.hid (show Lows w2.drew.heap.size ((⟨b, 3, none⟩, .slice (some ⟨tb, off, none⟩) I.l.length cap) :: cellsF tb (off + k * 6) (stp I (k : Int))) from ⟨hb2, lows_at htb2⟩)
    refine wp_region_held_drew (S := Holds ((⟨b, 3, none⟩, .slice (some ⟨tb, off, none⟩) I.l.length cap) :: cellsF tb (off + k * 6) (stp I (k : Int)))) (by kernel_rfl) HS0.out (fun hSn => ?_)
    have Bc := Lib.hid (Below.refl w2.drew.heap.size w2.drew)
    unfold cellsF at *
    have hki : (k : Int) < (I.l.length : Int) := by omega
    clear hl
    refine wpAnyH_take (i := 0) (oi := ?oz79) (v := ?vz79) ?iz79 (by kernel_rfl) (by kernel_rfl) (by kernel_rfl) ?qz79 (Or.inl ⟨?gz79, ?hz79⟩) (by assumption) ?rz79
    case iz79 => (simp only [List.getElem?_toArray, List.getElem?_cons_zero]; rfl)
    case qz79 => exact fun _ _ _ h => h
    case gz79 => rfl
    case hz79 => (intro w hSw; (simp only [Holds] at hSw); go_simp <;> with_reducible rfl)
    simp only [Act.put, List.setIfInBounds_toArray, List.set_cons_zero, List.set_cons_succ]
    refine wpAnyH_take (i := 1) (oi := ?oz80) (v := ?vz80) ?iz80 (by kernel_rfl) (by kernel_rfl) (by kernel_rfl) ?qz80 (Or.inl ⟨?gz80, ?hz80⟩) (by assumption) ?rz80
    case iz80 => (simp only [List.getElem?_toArray, List.getElem?_cons_zero, List.getElem?_cons_succ]; rfl)
    case qz80 => exact fun _ _ _ h => h
    case gz80 => rfl
    case hz80 => (intro w hSw; (simp only [Holds] at hSw); go_simp <;> with_reducible rfl)
    simp only [Act.put, List.setIfInBounds_toArray, List.set_cons_zero, List.set_cons_succ]
    refine wpAnyH_take (i := 4) (oi := ?oz81) (v := ?vz81) ?iz81 (by kernel_rfl) (by kernel_rfl) (by kernel_rfl) ?qz81 (Or.inl ⟨?gz81, ?hz81⟩) (by assumption) ?rz81
    case iz81 => (simp only [List.getElem?_toArray, List.getElem?_cons_zero, List.getElem?_cons_succ]; rfl)
    case qz81 => exact fun _ _ _ h => h
    case gz81 => rfl
    case hz81 => (intro w hSw; (simp only [Holds] at hSw); go_simp <;> with_reducible rfl)
    simp only [Act.put, List.setIfInBounds_toArray, List.set_cons_zero, List.set_cons_succ]
    refine wpAnyH_take (i := 5) (oi := ?oz82) (v := ?vz82) ?iz82 (by kernel_rfl) (by kernel_rfl) (by kernel_rfl) ?qz82 (Or.inl ⟨?gz82, ?hz82⟩) (by assumption) ?rz82
    case iz82 => (simp only [List.getElem?_toArray, List.getElem?_cons_zero, List.getElem?_cons_succ]; rfl)
    case qz82 => exact fun _ _ _ h => h
    case gz82 => rfl
    case hz82 => (intro w hSw; (simp only [Holds] at hSw); go_simp <;> with_reducible rfl)
    simp only [Act.put, List.setIfInBounds_toArray, List.set_cons_zero, List.set_cons_succ]
    refine wpAnyH_take (i := 6) (oi := ?oz83) (v := ?vz83) ?iz83 (by kernel_rfl) (by kernel_rfl) (by kernel_rfl) ?qz83 (Or.inl ⟨?gz83, ?hz83⟩) (by assumption) ?rz83
    case iz83 => (simp only [List.getElem?_toArray, List.getElem?_cons_zero, List.getElem?_cons_succ]; rfl)
    case qz83 => exact fun _ _ _ h => h
    case gz83 => rfl
    case hz83 => (intro w hSw; (simp only [Holds] at hSw); go_simp <;> with_reducible rfl)
    simp only [Act.put, List.setIfInBounds_toArray, List.set_cons_zero, List.set_cons_succ]
    refine wpAnyH_take (i := 7) (oi := ?oz84) (v := ?vz84) ?iz84 (by kernel_rfl) (by kernel_rfl) (by kernel_rfl) ?qz84 (Or.inl ⟨?gz84, ?hz84⟩) (by assumption) ?rz84
    case iz84 => (simp only [List.getElem?_toArray, List.getElem?_cons_zero, List.getElem?_cons_succ]; rfl)
    case qz84 => exact fun _ _ _ h => h
    case gz84 => rfl
    case hz84 => (intro w hSw; (simp only [Holds] at hSw); go_simp <;> with_reducible rfl)
    simp only [Act.put, List.setIfInBounds_toArray, List.set_cons_zero, List.set_cons_succ]
    refine wpAnyH_take (i := 8) (oi := ?oz85) (v := ?vz85) ?iz85 (by kernel_rfl) (by kernel_rfl) (by kernel_rfl) ?qz85 (Or.inl ⟨?gz85, ?hz85⟩) (by assumption) ?rz85
    case iz85 => (simp only [List.getElem?_toArray, List.getElem?_cons_zero, List.getElem?_cons_succ]; rfl)
    case qz85 => exact fun _ _ _ h => h
    case gz85 => rfl
    case hz85 => (intro w hSw; (simp only [Holds] at hSw); go_simp <;> with_reducible rfl)
    simp only [Act.put, List.setIfInBounds_toArray, List.set_cons_zero, List.set_cons_succ]
    refine wpAnyH_take (i := 9) (oi := ?oz86) (v := ?vz86) ?iz86 (by kernel_rfl) (by kernel_rfl) (by kernel_rfl) ?qz86 (Or.inl ⟨?gz86, ?hz86⟩) (by assumption) ?rz86
    case iz86 => (simp only [List.getElem?_toArray, List.getElem?_cons_zero, List.getElem?_cons_succ]; rfl)
    case qz86 => exact fun _ _ _ h => h
    case gz86 => rfl
    case hz86 => (intro w hSw; (simp only [Holds] at hSw); go_simp <;> with_reducible rfl)
    simp only [Act.put, List.setIfInBounds_toArray, List.set_cons_zero, List.set_cons_succ]
    refine wpAnyH_take (i := 10) (oi := ?oz87) (v := ?vz87) ?iz87 (by kernel_rfl) (by kernel_rfl) (by kernel_rfl) ?qz87 (Or.inl ⟨?gz87, ?hz87⟩) (by assumption) ?rz87
    case iz87 => (simp only [List.getElem?_toArray, List.getElem?_cons_zero, List.getElem?_cons_succ]; rfl)
    case qz87 => exact fun _ _ _ h => h
    case gz87 => rfl
    case hz87 => (intro w hSw; (simp only [Holds] at hSw); go_simp <;> with_reducible rfl)
    simp only [Act.put, List.setIfInBounds_toArray, List.set_cons_zero, List.set_cons_succ]
    refine wpAnyH_take (i := 11) (oi := ?oz88) (v := ?vz88) ?iz88 (by kernel_rfl) (by kernel_rfl) (by kernel_rfl) ?qz88 (Or.inl ⟨?gz88, ?hz88⟩) (by assumption) ?rz88
    case iz88 => (simp only [List.getElem?_toArray, List.getElem?_cons_zero, List.getElem?_cons_succ]; rfl)
    case qz88 => exact fun _ _ _ h => h
    case gz88 => rfl
    case hz88 => (intro w hSw; (simp only [Holds] at hSw); go_simp <;> with_reducible rfl)
    simp only [Act.put, List.setIfInBounds_toArray, List.set_cons_zero, List.set_cons_succ]
    refine wpAnyH_take (i := 12) (oi := ?oz89) (v := ?vz89) ?iz89 (by kernel_rfl) (by kernel_rfl) (by kernel_rfl) ?qz89 (Or.inl ⟨?gz89, ?hz89⟩) (by assumption) ?rz89
    case iz89 => (simp only [List.getElem?_toArray, List.getElem?_cons_zero, List.getElem?_cons_succ]; rfl)
    case qz89 => exact fun _ _ _ h => h
    case gz89 => rfl
    case hz89 => (intro w hSw; (simp only [Holds] at hSw); go_simp <;> with_reducible rfl)
    simp only [Act.put, List.setIfInBounds_toArray, List.set_cons_zero, List.set_cons_succ]
    refine wpAnyH_ready (rs := [2]) (by kernel_rfl) (by simp) ?_
    refine AllReadyH.cons (o := ?oz90) ?iz90 (fun K hK => ?kz90) AllReadyH.nil
    case iz90 => (simp only [List.getElem?_toArray, List.getElem?_cons_zero, List.getElem?_cons_succ]; rfl)
    go_simp
    refine (timeAt_any (HC2.out.later Bc.out) (HR2.out.below Bc.out) ha hkl hn hst).mono ?_
    rintro e w' ⟨rfl, hb⟩
    refine held_more hK HS0.out hlt (Bc.out.trans (hb.mono Bc.out.size)) (fun Bc hSn => ?_)
    clear hb hK
    have HBB := Lib.hid (HW2.out.trans (Bc.out.mono HW2.out.size))
    have HE2 := Lib.hid HE.out
    by_cases h7 : (stp I (k : Int)).u < (tmN n (stp I a) (stp I (k : Int))).begn
    · have HE2 := Lib.hid (HE.out.trans (if_pos h7))
      have d7 := decide_eq_true h7
      clear h7
      unfold timeV
      have hfl := fieldT1
      refine wpAnyH_take (i := 3) (oi := ?oz91) (v := ?vz91) ?iz91 (by kernel_rfl) (by kernel_rfl) (by kernel_rfl) ?qz91 (Or.inl ⟨?gz91, ?hz91⟩) (by assumption) ?rz91
      case iz91 => (simp only [List.getElem?_toArray, List.getElem?_cons_zero, List.getElem?_cons_succ]; rfl)
      case qz91 => exact fun _ _ _ h => h
      case gz91 => rfl
      case hz91 => (intro w hSw; (simp only [Holds] at hSw); go_simp <;> with_reducible rfl)
      simp only [Act.put, List.setIfInBounds_toArray, List.set_cons_zero, List.set_cons_succ]
      refine wpAnyH_take (i := 13) (oi := ?oz92) (v := ?vz92) ?iz92 (by kernel_rfl) (by kernel_rfl) (by kernel_rfl) ?qz92 (Or.inl ⟨?gz92, ?hz92⟩) (by assumption) ?rz92
      case iz92 => (simp only [List.getElem?_toArray, List.getElem?_cons_zero, List.getElem?_cons_succ]; rfl)
      case qz92 => exact fun _ _ _ h => h
      case gz92 => rfl
      case hz92 => (intro w hSw; (simp only [Holds] at hSw); go_simp <;> with_reducible rfl)
      simp only [Act.put, List.setIfInBounds_toArray, List.set_cons_zero, List.set_cons_succ]
      refine wpAnyH_take (i := 14) (oi := ?oz93) (v := ?vz93) ?iz93 (by kernel_rfl) (by kernel_rfl) (by kernel_rfl) ?qz93 (Or.inl ⟨?gz93, ?hz93⟩) (by assumption) ?rz93
      case iz93 => (simp only [List.getElem?_toArray, List.getElem?_cons_zero, List.getElem?_cons_succ]; rfl)
      case qz93 => exact fun _ _ _ h => h
      case gz93 => rfl
      case hz93 => (intro w hSw; (simp only [Holds] at hSw); go_simp <;> with_reducible rfl)
      simp only [Act.put, List.setIfInBounds_toArray, List.set_cons_zero, List.set_cons_succ]
      refine wpAnyH_done (by kernel_rfl) ?_ _
      go_wp2
      go_ret
      exact ⟨ret_int HE2.out.symm, HBB.out⟩
    · have HE2 := Lib.hid (HE.out.trans (if_neg h7))
      have d7 := decide_eq_false h7
      clear h7
      unfold timeV
      have hfl := fieldT1
      refine wpAnyH_take (i := 3) (oi := ?oz94) (v := ?vz94) ?iz94 (by kernel_rfl) (by kernel_rfl) (by kernel_rfl) ?qz94 (Or.inl ⟨?gz94, ?hz94⟩) (by assumption) ?rz94
      case iz94 => (simp only [List.getElem?_toArray, List.getElem?_cons_zero, List.getElem?_cons_succ]; rfl)
      case qz94 => exact fun _ _ _ h => h
      case gz94 => rfl
      case hz94 => (intro w hSw; (simp only [Holds] at hSw); go_simp <;> with_reducible rfl)
      simp only [Act.put, List.setIfInBounds_toArray, List.set_cons_zero, List.set_cons_succ]
      refine wpAnyH_take (i := 13) (oi := ?oz95) (v := ?vz95) ?iz95 (by kernel_rfl) (by kernel_rfl) (by kernel_rfl) ?qz95 (Or.inl ⟨?gz95, ?hz95⟩) (by assumption) ?rz95
      case iz95 => (simp only [List.getElem?_toArray, List.getElem?_cons_zero, List.getElem?_cons_succ]; rfl)
      case qz95 => exact fun _ _ _ h => h
      case gz95 => rfl
      case hz95 => (intro w hSw; (simp only [Holds] at hSw); go_simp <;> with_reducible rfl)
      simp only [Act.put, List.setIfInBounds_toArray, List.set_cons_zero, List.set_cons_succ]
      refine wpAnyH_take (i := 14) (oi := ?oz96) (v := ?vz96) ?iz96 (by kernel_rfl) (by kernel_rfl) (by kernel_rfl) ?qz96 (Or.inl ⟨?gz96, ?hz96⟩) (by assumption) ?rz96
      case iz96 => (simp only [List.getElem?_toArray, List.getElem?_cons_zero, List.getElem?_cons_succ]; rfl)
      case qz96 => exact fun _ _ _ h => h
      case gz96 => rfl
      case hz96 => (intro w hSw; (simp only [Holds] at hSw); go_simp <;> with_reducible rfl)
      simp only [Act.put, List.setIfInBounds_toArray, List.set_cons_zero, List.set_cons_succ]
      refine wpAnyH_done (by kernel_rfl) ?_ _
      go_wp2
      go_ret
      exact ⟨ret_int HE2.out.symm, HBB.out⟩
/-- What is wrong with the yard as the next one. -/
def backE (h : Int) (I : Ins) (n : Int) (s : Stp) : Int := if 0 < h then 8 else if (nth I.l 0).u < n + farF s (nth I.l 0) then 7 else 0
set_option maxRecDepth 1000000 in
set_option maxHeartbeats 2000000 in
theorem wrongBack_any {w : World} {b : Nat} {I : Ins} {sv : Value} {a : Nat} {n g h : Int} {S : List Bool} {tv lv : Value} (hc : CarB w b I sv a n g h S tv lv) (hr : SRow w sv I.l) (hm : mayB I = true) (ha : a < I.l.length)
    (hn : 0 ≤ n ∧ n ≤ 2000000) :
    Calls Tryd.prog 69 #[.pointer (some ⟨b, 0, none⟩)] w fun e w' => e = .returned (.int .i64 (backE h I n (stp I a))) ∧ Below w.heap.size w w' := by
  have HC := Lib.hid hc
  have HR := Lib.hid hr
  have hl0 : 0 < I.l.length := (pmay_len hm).1
  have hst := (fine_of hm).ok 0 (Int.le_refl _) (by have := (fine_of hm).p0; omega)
  have q7 := hc.c7
  clear hc hr hm
  by_cases h1 : 0 < h
  · have HE := Lib.hid (show backE h I n (stp I a) = 8 from if_pos h1)
    have d1 := decide_eq_true h1
    clear h1
    go_enter Tryd.func69, Tryd.ntmps69
    go_wp2
    go_ret
    exact ⟨ret_int HE.out.symm, Below.refl _ _⟩
  have HE := Lib.hid (show backE h I n (stp I a) = if (stp I 0).u < n + farF (stp I a) (stp I 0) then 7 else 0 from if_neg h1)
  have d1 := decide_eq_false h1
  clear h1
  obtain ⟨ad, cap, rfl, _⟩ := HR.out.form
  obtain ⟨tb, off, rfl, hkt, hlt0⟩ := srow_at HR.out 0 hl0
  have HKT := Lib.hid (show At w tb off (stp I 0) by have h0 := hkt; rw [Nat.zero_mul, Nat.add_zero] at h0; exact h0)
  clear hkt
  go_enter Tryd.func69, Tryd.ntmps69
  go_wp2_with fail
  have HW2 := Lib.hid ((Below.refl w.heap.size w).drew)
  clear d1
  have HC2 := Lib.hid (HC.out.later HW2.out)
  have HR2 := Lib.hid (HR.out.below HW2.out)
  have hb2 : b < w.drew.heap.size := HC2.out.lt
  have htb2 : tb < w.drew.heap.size := Nat.lt_of_lt_of_le hlt0 HW2.out.size
  have HS0 := Lib.hid (show Holds ((⟨b, 3, none⟩, .slice (some ⟨tb, off, none⟩) I.l.length cap) :: cellsF tb off (stp I 0)) w.drew from ⟨HC2.out.c3, holds_at (HKT.out.below hlt0 HW2.out)⟩)
  have hlt := Lib.hid (show Lows w.drew.heap.size ((⟨b, 3, none⟩, .slice (some ⟨tb, off, none⟩) I.l.length cap) :: cellsF tb off (stp I 0)) from ⟨hb2, lows_at htb2⟩)
  refine wp_region_held_drew (S := Holds ((⟨b, 3, none⟩, .slice (some ⟨tb, off, none⟩) I.l.length cap) :: cellsF tb off (stp I 0))) (by kernel_rfl) HS0.out (fun hSn => ?_)
  have Bc := Lib.hid (Below.refl w.drew.heap.size w.drew)
  unfold cellsF at *
  have hki : (0 : Int) < (I.l.length : Int) := by omega
  refine wpAnyH_take (i := 0) (oi := ?oz97) (v := ?vz97) ?iz97 (by kernel_rfl) (by kernel_rfl) (by kernel_rfl) ?qz97 (Or.inl ⟨?gz97, ?hz97⟩) (by assumption) ?rz97
  case iz97 => (simp only [List.getElem?_toArray, List.getElem?_cons_zero]; rfl)
  case qz97 => exact fun _ _ _ h => h
  case gz97 => rfl
  case hz97 => (intro w hSw; (simp only [Holds] at hSw); go_simp <;> with_reducible rfl)
  simp only [Act.put, List.setIfInBounds_toArray, List.set_cons_zero, List.set_cons_succ]
  refine wpAnyH_take (i := 3) (oi := ?oz98) (v := ?vz98) ?iz98 (by kernel_rfl) (by kernel_rfl) (by kernel_rfl) ?qz98 (Or.inl ⟨?gz98, ?hz98⟩) (by assumption) ?rz98
  case iz98 => (simp only [List.getElem?_toArray, List.getElem?_cons_zero, List.getElem?_cons_succ]; rfl)
  case qz98 => exact fun _ _ _ h => h
  case gz98 => rfl
  case hz98 => (intro w hSw; (simp only [Holds] at hSw); go_simp <;> with_reducible rfl)
  simp only [Act.put, List.setIfInBounds_toArray, List.set_cons_zero, List.set_cons_succ]
  refine wpAnyH_take (i := 4) (oi := ?oz99) (v := ?vz99) ?iz99 (by kernel_rfl) (by kernel_rfl) (by kernel_rfl) ?qz99 (Or.inl ⟨?gz99, ?hz99⟩) (by assumption) ?rz99
  case iz99 => (simp only [List.getElem?_toArray, List.getElem?_cons_zero, List.getElem?_cons_succ]; rfl)
  case qz99 => exact fun _ _ _ h => h
  case gz99 => rfl
  case hz99 => (intro w hSw; (simp only [Holds] at hSw); go_simp <;> with_reducible rfl)
  simp only [Act.put, List.setIfInBounds_toArray, List.set_cons_zero, List.set_cons_succ]
  refine wpAnyH_take (i := 5) (oi := ?oz100) (v := ?vz100) ?iz100 (by kernel_rfl) (by kernel_rfl) (by kernel_rfl) ?qz100 (Or.inl ⟨?gz100, ?hz100⟩) (by assumption) ?rz100
  case iz100 => (simp only [List.getElem?_toArray, List.getElem?_cons_zero, List.getElem?_cons_succ]; rfl)
  case qz100 => exact fun _ _ _ h => h
  case gz100 => rfl
  case hz100 => (intro w hSw; (simp only [Holds] at hSw); go_simp <;> with_reducible rfl)
  simp only [Act.put, List.setIfInBounds_toArray, List.set_cons_zero, List.set_cons_succ]
  refine wpAnyH_take (i := 6) (oi := ?oz101) (v := ?vz101) ?iz101 (by kernel_rfl) (by kernel_rfl) (by kernel_rfl) ?qz101 (Or.inl ⟨?gz101, ?hz101⟩) (by assumption) ?rz101
  case iz101 => (simp only [List.getElem?_toArray, List.getElem?_cons_zero, List.getElem?_cons_succ]; rfl)
  case qz101 => exact fun _ _ _ h => h
  case gz101 => rfl
  case hz101 => (intro w hSw; (simp only [Holds] at hSw); go_simp <;> with_reducible rfl)
  simp only [Act.put, List.setIfInBounds_toArray, List.set_cons_zero, List.set_cons_succ]
  refine wpAnyH_take (i := 7) (oi := ?oz102) (v := ?vz102) ?iz102 (by kernel_rfl) (by kernel_rfl) (by kernel_rfl) ?qz102 (Or.inl ⟨?gz102, ?hz102⟩) (by assumption) ?rz102
  case iz102 => (simp only [List.getElem?_toArray, List.getElem?_cons_zero, List.getElem?_cons_succ]; rfl)
  case qz102 => exact fun _ _ _ h => h
  case gz102 => rfl
  case hz102 => (intro w hSw; (simp only [Holds] at hSw); go_simp <;> with_reducible rfl)
  simp only [Act.put, List.setIfInBounds_toArray, List.set_cons_zero, List.set_cons_succ]
  refine wpAnyH_take (i := 8) (oi := ?oz103) (v := ?vz103) ?iz103 (by kernel_rfl) (by kernel_rfl) (by kernel_rfl) ?qz103 (Or.inl ⟨?gz103, ?hz103⟩) (by assumption) ?rz103
  case iz103 => (simp only [List.getElem?_toArray, List.getElem?_cons_zero, List.getElem?_cons_succ]; rfl)
  case qz103 => exact fun _ _ _ h => h
  case gz103 => rfl
  case hz103 => (intro w hSw; (simp only [Holds] at hSw); go_simp <;> with_reducible rfl)
  simp only [Act.put, List.setIfInBounds_toArray, List.set_cons_zero, List.set_cons_succ]
  refine wpAnyH_take (i := 9) (oi := ?oz104) (v := ?vz104) ?iz104 (by kernel_rfl) (by kernel_rfl) (by kernel_rfl) ?qz104 (Or.inl ⟨?gz104, ?hz104⟩) (by assumption) ?rz104
  case iz104 => (simp only [List.getElem?_toArray, List.getElem?_cons_zero, List.getElem?_cons_succ]; rfl)
  case qz104 => exact fun _ _ _ h => h
  case gz104 => rfl
  case hz104 => (intro w hSw; (simp only [Holds] at hSw); go_simp <;> with_reducible rfl)
  simp only [Act.put, List.setIfInBounds_toArray, List.set_cons_zero, List.set_cons_succ]
  refine wpAnyH_take (i := 10) (oi := ?oz105) (v := ?vz105) ?iz105 (by kernel_rfl) (by kernel_rfl) (by kernel_rfl) ?qz105 (Or.inl ⟨?gz105, ?hz105⟩) (by assumption) ?rz105
  case iz105 => (simp only [List.getElem?_toArray, List.getElem?_cons_zero, List.getElem?_cons_succ]; rfl)
  case qz105 => exact fun _ _ _ h => h
  case gz105 => rfl
  case hz105 => (intro w hSw; (simp only [Holds] at hSw); go_simp <;> with_reducible rfl)
  simp only [Act.put, List.setIfInBounds_toArray, List.set_cons_zero, List.set_cons_succ]
  refine wpAnyH_ready (rs := [1]) (by kernel_rfl) (by simp) ?_
  refine AllReadyH.cons (o := ?oz106) ?iz106 (fun K hK => ?kz106) AllReadyH.nil
  case iz106 => (simp only [List.getElem?_toArray, List.getElem?_cons_zero, List.getElem?_cons_succ]; rfl)
  go_simp
  refine (timeAt_any (k := 0) (HC2.out.later Bc.out) (HR2.out.below Bc.out) ha hl0 hn hst).mono ?_
  rintro e w' ⟨rfl, hb⟩
  refine held_more hK HS0.out hlt (Bc.out.trans (hb.mono Bc.out.size)) (fun Bc hSn => ?_)
  clear hb hK
  have HBB := Lib.hid (HW2.out.trans (Bc.out.mono HW2.out.size))
  rw [show tmN n (stp I a) (stp I ((0 : Nat) : Int)) = ⟨n + farF (stp I a) (stp I 0), max (n + farF (stp I a) (stp I 0)) (stp I 0).r, max (n + farF (stp I a) (stp I 0)) (stp I 0).r + (stp I 0).s⟩ from rfl]
  by_cases h7 : (stp I 0).u < n + farF (stp I a) (stp I 0)
  · have HE2 := Lib.hid (HE.out.trans (if_pos h7))
    have d7 := decide_eq_true h7
    clear h7
    unfold timeV
    have hfl := fieldT0
    refine wpAnyH_take (i := 2) (oi := ?oz107) (v := ?vz107) ?iz107 (by kernel_rfl) (by kernel_rfl) (by kernel_rfl) ?qz107 (Or.inl ⟨?gz107, ?hz107⟩) (by assumption) ?rz107
    case iz107 => (simp only [List.getElem?_toArray, List.getElem?_cons_zero, List.getElem?_cons_succ]; rfl)
    case qz107 => exact fun _ _ _ h => h
    case gz107 => rfl
    case hz107 => (intro w hSw; (simp only [Holds] at hSw); go_simp <;> with_reducible rfl)
    simp only [Act.put, List.setIfInBounds_toArray, List.set_cons_zero, List.set_cons_succ]
    refine wpAnyH_take (i := 11) (oi := ?oz108) (v := ?vz108) ?iz108 (by kernel_rfl) (by kernel_rfl) (by kernel_rfl) ?qz108 (Or.inl ⟨?gz108, ?hz108⟩) (by assumption) ?rz108
    case iz108 => (simp only [List.getElem?_toArray, List.getElem?_cons_zero, List.getElem?_cons_succ]; rfl)
    case qz108 => exact fun _ _ _ h => h
    case gz108 => rfl
    case hz108 => (intro w hSw; (simp only [Holds] at hSw); go_simp <;> with_reducible rfl)
    simp only [Act.put, List.setIfInBounds_toArray, List.set_cons_zero, List.set_cons_succ]
    refine wpAnyH_take (i := 12) (oi := ?oz109) (v := ?vz109) ?iz109 (by kernel_rfl) (by kernel_rfl) (by kernel_rfl) ?qz109 (Or.inl ⟨?gz109, ?hz109⟩) (by assumption) ?rz109
    case iz109 => (simp only [List.getElem?_toArray, List.getElem?_cons_zero, List.getElem?_cons_succ]; rfl)
    case qz109 => exact fun _ _ _ h => h
    case gz109 => rfl
    case hz109 => (intro w hSw; (simp only [Holds] at hSw); go_simp <;> with_reducible rfl)
    simp only [Act.put, List.setIfInBounds_toArray, List.set_cons_zero, List.set_cons_succ]
    refine wpAnyH_done (by kernel_rfl) ?_ _
    go_wp2
    go_ret
    exact ⟨ret_int HE2.out.symm, HBB.out⟩
  · have HE2 := Lib.hid (HE.out.trans (if_neg h7))
    have d7 := decide_eq_false h7
    clear h7
    unfold timeV
    have hfl := fieldT0
    refine wpAnyH_take (i := 2) (oi := ?oz110) (v := ?vz110) ?iz110 (by kernel_rfl) (by kernel_rfl) (by kernel_rfl) ?qz110 (Or.inl ⟨?gz110, ?hz110⟩) (by assumption) ?rz110
    case iz110 => (simp only [List.getElem?_toArray, List.getElem?_cons_zero, List.getElem?_cons_succ]; rfl)
    case qz110 => exact fun _ _ _ h => h
    case gz110 => rfl
    case hz110 => (intro w hSw; (simp only [Holds] at hSw); go_simp <;> with_reducible rfl)
    simp only [Act.put, List.setIfInBounds_toArray, List.set_cons_zero, List.set_cons_succ]
    refine wpAnyH_take (i := 11) (oi := ?oz111) (v := ?vz111) ?iz111 (by kernel_rfl) (by kernel_rfl) (by kernel_rfl) ?qz111 (Or.inl ⟨?gz111, ?hz111⟩) (by assumption) ?rz111
    case iz111 => (simp only [List.getElem?_toArray, List.getElem?_cons_zero, List.getElem?_cons_succ]; rfl)
    case qz111 => exact fun _ _ _ h => h
    case gz111 => rfl
    case hz111 => (intro w hSw; (simp only [Holds] at hSw); go_simp <;> with_reducible rfl)
    simp only [Act.put, List.setIfInBounds_toArray, List.set_cons_zero, List.set_cons_succ]
    refine wpAnyH_take (i := 12) (oi := ?oz112) (v := ?vz112) ?iz112 (by kernel_rfl) (by kernel_rfl) (by kernel_rfl) ?qz112 (Or.inl ⟨?gz112, ?hz112⟩) (by assumption) ?rz112
    case iz112 => (simp only [List.getElem?_toArray, List.getElem?_cons_zero, List.getElem?_cons_succ]; rfl)
    case qz112 => exact fun _ _ _ h => h
    case gz112 => rfl
    case hz112 => (intro w hSw; (simp only [Holds] at hSw); go_simp <;> with_reducible rfl)
    simp only [Act.put, List.setIfInBounds_toArray, List.set_cons_zero, List.set_cons_succ]
    refine wpAnyH_done (by kernel_rfl) ?_ _
    go_wp2
    go_ret
    exact ⟨ret_int HE2.out.symm, HBB.out⟩
end Go.Proofs.YtjpdhicpkcmjgaaDoor
