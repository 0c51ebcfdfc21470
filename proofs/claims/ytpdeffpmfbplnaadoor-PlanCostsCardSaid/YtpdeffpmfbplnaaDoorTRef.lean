/- What the document's has, held, wrong, end, Times and Loads answer; whether two lists of times are the same. -/
import Derived.Test.YtpdeffpmfbplnaaDoorXTSched
import Derived.StillTailTactics
import Derived.Deep.CutRange
namespace Go.Proofs.YtpdeffpmfbplnaaDoor
open Go.ChangeShapes Go.WideShapes Go.ChangeAt Go.RowKit

theorem mem_getD {l : List Int} {i : Int} {k : Nat} (hk : k < l.length) (h : l.getD k 0 = i) : i ∈ l := by
  rw [← h, List.getD_eq_getElem?_getD, List.getElem?_eq_getElem hk]; simp
theorem not_mem_getD {l : List Int} {i : Int} (h : ∀ k, k < l.length → l.getD k 0 ≠ i) : i ∉ l := fun hm => by
  obtain ⟨k, hk, rfl⟩ := List.getElem_of_mem hm
  refine h k hk ?_
  rw [List.getD_eq_getElem?_getD, List.getElem?_eq_getElem hk]; rfl
set_option maxRecDepth 1000000 in
theorem has_any {w : World} {v : Value} {l : List Int} (i : Int) (h : Row w v (ints l)) : Calls Tryd.prog 72 #[v, .int .i64 i] w fun e w' => e = .returned (.bool (decide (i ∈ l))) ∧ w = w' := by
  have H := Lib.hid h
  obtain ⟨a, cap, rfl, hm⟩ := h.form
  simp only [ints_len] at *
  have hm1 : l.length ≤ 9223372036854775807 := by unfold maxLen at hm; omega
  have HD := Lib.hid (show ∀ k, k < l.length → l.getD k 0 = i → decide (i ∈ l) = true from fun k hk hh => decide_eq_true (mem_getD hk hh))
  have HN := Lib.hid (show (∀ k, k < l.length → l.getD k 0 ≠ i) → decide (i ∈ l) = false from fun hh => decide_eq_false (not_mem_getD hh))
  generalize decide (i ∈ l) = B at *
  clear h hm
  go_enter Tryd.func72, Tryd.ntmps72
  go_wp2_with fail
  go_loop [5] (fun x => ∃ k : Nat, k ≤ l.length ∧ x = .int .i64 k ∧ ∀ q, q < k → l.getD q 0 ≠ i) (fun x => l.length - (intOf x).toNat)
  case atStart => exact ⟨0, Nat.zero_le _, rfl, fun q hq => by omega⟩
  case round =>
    obtain ⟨k, hk, rfl, hq⟩ := hrel
    have HQ := Lib.hid hq
    clear hq
    by_cases hlt : k < l.length
    · obtain ⟨b, off, rfl, hc, _⟩ := row_cell H.out k (by rw [ints_len]; exact hlt)
      rw [ints_at _ _ hlt] at hc
      have hki : (k : Int) < (l.length : Int) := by omega
      have HDK := Lib.hid (HD.out k hlt)
      have HQN := Lib.hid (show l.getD k 0 ≠ i → ∀ q, q < k + 1 → l.getD q 0 ≠ i from fun h1 q hq => by
        by_cases c : q = k
        · subst c; exact h1
        · exact HQ.out q (by omega))
      generalize l.getD k 0 = y at *
      by_cases hy : y = i
      · have hb := HDK.out hy
        have d1 : (y == i) = true := by simp [hy]
        clear hy
        go_wp2
        go_ret
        exact ⟨rfl, rfl⟩
      · have HQ2 := Lib.hid (HQN.out hy)
        have d1 : (y == i) = false := by simp [hy]
        clear hy
        go_wp2
        go_round
        case rel => exact ⟨k + 1, by omega, by go_num, HQ2.out⟩
        case measure => simp [intOf]; omega
    · obtain rfl : k = l.length := by omega
      have hb := HN.out HQ.out
      clear hlt hk
      go_wp2
      go_ret
      exact ⟨rfl, rfl⟩
theorem heldL_take {I : Ins} {l : List Int} {k : Nat} (hk : k < l.length) : heldL I (l.take (k + 1)) = heldL I (l.take k) + (stp I (l.getD k 0)).d := by rw [take_snoc hk, heldL_snoc]
theorem heldL_bd {I : Ins} : ∀ (l : List Int), (∀ i ∈ l, -1000 ≤ (stp I i).d ∧ (stp I i).d ≤ 1000) → -(1000 * (l.length : Int)) ≤ heldL I l ∧ heldL I l ≤ 1000 * (l.length : Int) := by
  have key : ∀ (n : Nat) (l : List Int), l.length = n → (∀ i ∈ l, -1000 ≤ (stp I i).d ∧ (stp I i).d ≤ 1000) → -(1000 * (l.length : Int)) ≤ heldL I l ∧ heldL I l ≤ 1000 * (l.length : Int) := by
    intro n
    induction n with
    | zero =>
      intro l hl _
      have : l = [] := List.eq_nil_of_length_eq_zero hl
      subst this
      rw [heldL_nil]; simp
    | succ n ih =>
      intro l hl h
      obtain ⟨a, i, rfl⟩ : ∃ a i, l = a ++ [i] := ⟨l.dropLast, l.getLast (by intro e; subst e; simp at hl), (List.dropLast_concat_getLast _).symm⟩
      have h1 := ih a (by simp at hl; omega) (fun j hj => h j (by simp [hj]))
      have h2 := h i (by simp)
      rw [heldL_snoc, List.length_append, List.length_singleton]
      omega
  exact fun l => key l.length l rfl
theorem dem_bd {I : Ins} (hf : Fine I) {i : Int} (h0 : 0 ≤ i) (h1 : i ≤ 2 * I.p) : -1000 ≤ (stp I i).d ∧ (stp I i).d ≤ 1000 := by
  by_cases c0 : i = 0
  · subst c0; have := hf.yard.1; omega
  · by_cases c : i ≤ I.p
    · have := hf.take i (by omega) c; omega
    · have h2 := hf.bring i (by omega) h1
      have := hf.take (i - I.p) (by omega) (by omega); omega
set_option maxRecDepth 1000000 in
set_option maxHeartbeats 1000000 in
theorem held_any {w : World} {v rv : Value} {I : Ins} {l : List Int} (hf : Fine I) (hr : SRow w v I.l) (hl : Row w rv (ints l)) (hin : ∀ i ∈ l, 0 ≤ i ∧ i ≤ 2 * I.p) (hlen : l.length ≤ 1000) :
    Calls Tryd.prog 73 #[insV I v, rv] w fun e w' => e = .returned (.int .i64 (heldL I l)) ∧ Below w.heap.size w w' := by
  have HR := Lib.hid hr
  have HL := Lib.hid hl
  have HF := Lib.hid hf
  have HIN := Lib.hid hin
  obtain ⟨ad, cap, rfl, _⟩ := hr.form
  obtain ⟨a1, cap1, rfl, hm⟩ := hl.form
  simp only [ints_len] at *
  clear hr hl hf hin hm
  unfold insV
  go_enter Tryd.func73, Tryd.ntmps73
  go_wp2_with fail
  have HB0 := Lib.hid ((Below.refl _ w).alloc (Nat.le_refl _) (boxI I (.slice ad I.l.length cap)))
  have HXB := Lib.hid (ybox_new w I (.slice ad I.l.length cap))
  change Code.wp _ _ _ _ (w.alloc (boxI I (.slice ad I.l.length cap)))
  generalize w.alloc (boxI I (.slice ad I.l.length cap)) = W at *
  go_loopw [5, 6] (fun n x wr => ∃ k : Nat, k ≤ l.length ∧ x = .int .i64 k ∧ n = .int .i64 (heldL I (l.take k)) ∧ Below W.heap.size W wr) (fun _ x _ => l.length - (intOf x).toNat)
  case atStart => exact ⟨0, Nat.zero_le _, rfl, rfl, Below.refl _ _⟩
  case round =>
    obtain ⟨k, hk, rfl, rfl, hbw⟩ := hrel
    have HBW := Lib.hid hbw
    have HXR := Lib.hid ((show YBox W w.heap.size I (.slice ad I.l.length cap) from HXB.out).later hbw)
    have HBA := Lib.hid (HB0.out.trans (hbw.mono HB0.out.size))
    clear hbw
    by_cases hlt : k < l.length
    · obtain ⟨b, off, rfl, hc, hb⟩ := row_cell HL.out k (by rw [ints_len]; exact hlt)
      rw [ints_at _ _ hlt] at hc
      have qr : wr.cell? ⟨b, off + k, none⟩ = some (.int .i64 (l.getD k 0)) := (HBA.out.cell (p := ⟨b, off + k, none⟩) hb).trans hc
      have hmem : l.getD k 0 ∈ l := mem_getD hlt rfl
      have hi := HIN.out _ hmem
      have hd := dem_bd HF.out hi.1 hi.2
      have hbd := heldL_bd (I := I) (l.take k) (fun i hi2 => by
        have := HIN.out i (List.mem_of_mem_take hi2)
        exact dem_bd HF.out this.1 this.2)
      rw [List.length_take] at hbd
      have HNX := Lib.hid (heldL_take (I := I) hlt)
      have hfl := HF.out.len
      generalize l.getD k 0 = i at *
      obtain ⟨j, rfl⟩ : ∃ j : Nat, i = (j : Int) := ⟨i.toNat, by omega⟩
      have hjl : j < I.l.length := by omega
      obtain ⟨tb, tq, rfl, hat, htb⟩ := srow_at HR.out j hjl
      obtain ⟨t0, t1, t2, t3, t4, t5⟩ := hat.below htb HBA.out
      change wr.cell? ⟨tb, tq + j * 6 + 2, none⟩ = some (.int .i64 (stp I (j : Int)).d) at t2
      generalize heldL I (l.take k) = n at *
      have e1 : IntKind.i64.wrap (n + (stp I (j : Int)).d) = n + (stp I (j : Int)).d := IntWalk.i64_in _ (by omega)
      have hki : (k : Int) < (l.length : Int) := by omega
      have hji : (j : Int) < (I.l.length : Int) := by omega
      obtain ⟨c0, c1, c2, c3⟩ := HXR.out.cells
      clear hmem hi hd hbd hfl hat hc
      go_wp2_with fail
      go_quiet (fail)
      have HW6 := Lib.hid (below_drewN HBW.out nq)
      go_wp2
      go_roundw
      case rel => exact ⟨k + 1, by omega, by go_num, by rw [HNX.out], HW6.out⟩
      case measure => simp [intOf]; omega
    · obtain rfl : k = l.length := by omega
      have HT := Lib.hid (show heldL I (l.take l.length) = heldL I l by rw [List.take_length])
      clear hlt hk
      go_wp2
      go_ret
      exact ⟨ret_int HT.out, HBA.out⟩
set_option maxRecDepth 1000000 in
set_option maxHeartbeats 2000000 in
theorem rwrong_any {w : World} {v rv : Value} {I : Ins} {l : List Int} (i : Int) (hf : Fine I) (hr : SRow w v I.l) (hl : Row w rv (ints l)) (hin : ∀ i ∈ l, 0 ≤ i ∧ i ≤ 2 * I.p) (hlen : l.length ≤ 1000) :
    Calls Tryd.prog 53 #[insV I v, rv, .int .i64 i] w fun e w' => e = .returned (.int .i64 (wrongE I l i)) ∧ Below w.heap.size w w' := by
  have HR := Lib.hid hr
  have HL := Lib.hid hl
  have HF := Lib.hid hf
  have HIN := Lib.hid hin
  have hp0 := hf.p0
  have hp1 := hf.p1
  have hfl := Lib.hid hf.len
  obtain ⟨ad, cap, rfl, _⟩ := hr.form
  clear hr hl hf hin
  have e1 : IntKind.i64.wrap (2 * I.p) = 2 * I.p := IntWalk.i64_in _ (by omega)
  unfold insV
  go_enter Tryd.func53, Tryd.ntmps53
  go_upto_region 1 with fail
  have HB0 := Lib.hid ((Below.refl _ w).alloc (Nat.le_refl _) (boxI I (.slice ad I.l.length cap)))
  have HXB := Lib.hid (ybox_new w I (.slice ad I.l.length cap))
  change Code.wp _ _ _ _ (w.alloc (boxI I (.slice ad I.l.length cap)))
  generalize w.alloc (boxI I (.slice ad I.l.length cap)) = W at *
  have HX0 := Lib.hid (show YBox W w.heap.size I (.slice ad I.l.length cap) from HXB.out)
  obtain ⟨c0, c1, c2, c3⟩ := HX0.out.cells
  by_cases h1 : i < 1
  · have HE := Lib.hid (show wrongE I l i = 1 by unfold wrongE; rw [if_pos (.inl h1)])
    have d1 := decide_eq_true h1
    clear h1
    go_wp2
    go_ret
    exact ⟨ret_int HE.out.symm, HB0.out⟩
  have d1 := decide_eq_false h1
  by_cases h2 : 2 * I.p < i
  · have HE := Lib.hid (show wrongE I l i = 1 by unfold wrongE; rw [if_pos (.inr h2)])
    have d2 := decide_eq_true h2
    clear h1 h2
    go_wp2
    go_ret
    exact ⟨ret_int HE.out.symm, HB0.out⟩
  have d2 := decide_eq_false h2
  have h12 : ¬ (i < 1 ∨ 2 * I.p < i) := by omega
  go_wp2_with fail
  refine (has_any i (HL.out.below HB0.out)).mono ?_
  rintro e w' ⟨rfl, rfl⟩
  have HI := Lib.hid h12
  have hi1 : 1 ≤ i ∧ i ≤ 2 * I.p := by omega
  clear h1 h2 d1 d2 h12
  by_cases h3 : i ∈ l
  · have HE := Lib.hid (show wrongE I l i = 5 by unfold wrongE; rw [if_neg HI.out, if_pos h3])
    rw [decide_eq_true h3]
    clear h3
    go_wp2
    go_ret
    exact ⟨ret_int HE.out.symm, HB0.out⟩
  have H3 := Lib.hid h3
  rw [decide_eq_false h3]
  clear h3
  have e2 : IntKind.i64.wrap (i - I.p) = i - I.p := IntWalk.i64_in _ (by omega)
  go_wp2_with fail
  refine (has_any (i - I.p) (HL.out.below HB0.out)).mono ?_
  rintro e w' ⟨rfl, rfl⟩
  by_cases h4 : I.p < i ∧ i - I.p ∉ l
  · have HE := Lib.hid (show wrongE I l i = 8 by unfold wrongE; rw [if_neg HI.out, if_neg H3.out, if_pos h4])
    have d4 := decide_eq_true h4.1
    rw [decide_eq_false h4.2]
    clear h4
    go_wp2
    go_ret
    exact ⟨ret_int HE.out.symm, HB0.out⟩
  have H4 := Lib.hid h4
  obtain ⟨tk, htk⟩ : ∃ tk, decide (i - I.p ∈ l) = tk := ⟨_, rfl⟩
  have hgd : decide (I.p < i) = false ∨ (decide (I.p < i) = true ∧ tk = true) := by
    by_cases c : I.p < i
    · refine .inr ⟨decide_eq_true c, ?_⟩
      rw [← htk]
      exact decide_eq_true (Decidable.byContradiction (fun hc => h4 ⟨c, hc⟩))
    · exact .inl (decide_eq_false c)
  rw [htk]
  clear htk h4 e2
  have hfl2 := hfl.out
  obtain ⟨j, rfl⟩ : ∃ j : Nat, i = (j : Int) := ⟨i.toNat, by omega⟩
  have hjl : j < I.l.length := by omega
  have hji : (j : Int) < (I.l.length : Int) := by omega
  clear hfl2
  obtain ⟨tb, tq, rfl, hat, htb⟩ := srow_at HR.out j hjl
  have HAT := Lib.hid (show At W tb (tq + j * 6) (stp I (j : Int)) from hat.below htb HB0.out)
  clear hat
  have hd := dem_bd HF.out (i := (j : Int)) (by omega) hi1.2
  have hbd := heldL_bd (I := I) l (fun i hi2 => by have := HIN.out i hi2; exact dem_bd HF.out this.1 this.2)
  have e3 : IntKind.i64.wrap (heldL I l + (stp I (j : Int)).d) = heldL I l + (stp I (j : Int)).d := IntWalk.i64_in _ (by omega)
  rcases hgd with hg | ⟨hg, rfl⟩
  · go_upto_region 9 with fail
    have HW2 := Lib.hid ((Below.refl W.heap.size W).drew)
    have HBd := Lib.hid HB0.out.drew
    have HXd := Lib.hid (HX0.out.later HW2.out)
    have HSi := Lib.hid (show tb < W.drew.heap.size ∧ w.heap.size < W.drew.heap.size from ⟨Nat.lt_of_lt_of_le htb HBd.out.size, HXd.out.lt⟩)
    have HS0 := Lib.hid (show Holds (cellsI w.heap.size I (.slice (some ⟨tb, tq, none⟩) I.l.length cap) ++ cellsF tb (tq + j * 6) (stp I (j : Int))) W.drew from Holds.app.2 ⟨⟨HXd.out.cells.1, HXd.out.cells.2.1, HXd.out.cells.2.2.1, HXd.out.cells.2.2.2, trivial⟩, holds_at (HAT.out.below HAT.out.lt HW2.out)⟩)
    have hlt := Lib.hid (show Lows W.drew.heap.size (cellsI w.heap.size I (.slice (some ⟨tb, tq, none⟩) I.l.length cap) ++ cellsF tb (tq + j * 6) (stp I (j : Int))) from Lows.app ⟨HSi.out.2, HSi.out.2, HSi.out.2, HSi.out.2, trivial⟩ (lows_at HSi.out.1))
    clear c0 c1 c2 c3
    refine wp_region_held_drew (S := Holds (cellsI w.heap.size I (.slice (some ⟨tb, tq, none⟩) I.l.length cap) ++ cellsF tb (tq + j * 6) (stp I (j : Int)))) (by kernel_rfl) HS0.out (fun hSn => ?_)
    have Bc := Lib.hid (Below.refl W.drew.heap.size W.drew)
    simp only [cellsI, cellsF, List.cons_append, List.nil_append] at HS0 hlt hSn ⊢
    refine tks [0, 1, 3, 4, 5, 6, 7, 8, 10, 11] 10 rfl (by kernel_rfl) (fun _ _ _ _ h => h) (by assumption) (fun KT hKT => ?_)
    iterate 10 (refine tkT (by (simp only [gA, gB, gC]; rfl)) (by rfl) (by (intro w hSw; (simp only [Holds] at hSw); go_simp <;> with_reducible rfl)) ?_; simp only [Act.put, pA, pB, pC])
    refine hKT _ ?_
    clear KT hKT
    refine wpAnyH_ready (rs := [2]) (by kernel_rfl) (by simp) ?_
    refine AllReadyH.cons (o := ?oz144) ?iz144 (fun K hK => ?kz144) AllReadyH.nil
    case iz144 => (simp only [List.getElem?_toArray, List.getElem?_cons_zero, List.getElem?_cons_succ]; rfl)
    go_simp
    change Calls _ _ #[insV I (.slice (some ⟨tb, tq, none⟩) I.l.length cap), _] _ _
    refine (held_any HF.out ((HR.out.below HBd.out).below Bc.out) ((HL.out.below HBd.out).below Bc.out) HIN.out hlen).mono ?_
    rintro e w7 ⟨rfl, hb⟩
    refine held_more hK HS0.out hlt (Bc.out.trans (hb.mono Bc.out.size)) (fun Bc hSn => ?_)
    clear hb hK
    have HBB := Lib.hid (HBd.out.trans (Bc.out.mono HBd.out.size))
    by_cases h5 : I.r < heldL I l + (stp I (j : Int)).d
    · have HE := Lib.hid (show wrongE I l (j : Int) = 6 by unfold wrongE; rw [if_neg HI.out, if_neg H3.out, if_neg H4.out, if_pos h5])
      have d5 := decide_eq_true h5
      clear h5
      refine tks [9, 12] 2 rfl (by kernel_rfl) (fun _ _ _ _ h => h) (by assumption) (fun KT hKT => ?_)
      iterate 2 (refine tkT (by (simp only [gA, gB, gC]; rfl)) (by rfl) (by (intro w hSw; (simp only [Holds] at hSw); go_simp <;> with_reducible rfl)) ?_; simp only [Act.put, pA, pB, pC])
      refine hKT _ ?_
      clear KT hKT
      refine wpAnyH_done (by kernel_rfl) ?_ _
      go_wp2
      go_ret
      exact ⟨ret_int HE.out.symm, HBB.out⟩
    · have HE := Lib.hid (show wrongE I l (j : Int) = 0 by unfold wrongE; rw [if_neg HI.out, if_neg H3.out, if_neg H4.out, if_neg h5])
      have d5 := decide_eq_false h5
      clear h5
      refine tks [9, 12] 2 rfl (by kernel_rfl) (fun _ _ _ _ h => h) (by assumption) (fun KT hKT => ?_)
      iterate 2 (refine tkT (by (simp only [gA, gB, gC]; rfl)) (by rfl) (by (intro w hSw; (simp only [Holds] at hSw); go_simp <;> with_reducible rfl)) ?_; simp only [Act.put, pA, pB, pC])
      refine hKT _ ?_
      clear KT hKT
      refine wpAnyH_done (by kernel_rfl) ?_ _
      go_wp2
      go_ret
      exact ⟨ret_int HE.out.symm, HBB.out⟩
  · go_upto_region 9 with fail
    have HW2 := Lib.hid ((Below.refl W.heap.size W).drew)
    have HBd := Lib.hid HB0.out.drew
    have HXd := Lib.hid (HX0.out.later HW2.out)
    have HSi := Lib.hid (show tb < W.drew.heap.size ∧ w.heap.size < W.drew.heap.size from ⟨Nat.lt_of_lt_of_le htb HBd.out.size, HXd.out.lt⟩)
    have HS0 := Lib.hid (show Holds (cellsI w.heap.size I (.slice (some ⟨tb, tq, none⟩) I.l.length cap) ++ cellsF tb (tq + j * 6) (stp I (j : Int))) W.drew from Holds.app.2 ⟨⟨HXd.out.cells.1, HXd.out.cells.2.1, HXd.out.cells.2.2.1, HXd.out.cells.2.2.2, trivial⟩, holds_at (HAT.out.below HAT.out.lt HW2.out)⟩)
    have hlt := Lib.hid (show Lows W.drew.heap.size (cellsI w.heap.size I (.slice (some ⟨tb, tq, none⟩) I.l.length cap) ++ cellsF tb (tq + j * 6) (stp I (j : Int))) from Lows.app ⟨HSi.out.2, HSi.out.2, HSi.out.2, HSi.out.2, trivial⟩ (lows_at HSi.out.1))
    clear c0 c1 c2 c3
    refine wp_region_held_drew (S := Holds (cellsI w.heap.size I (.slice (some ⟨tb, tq, none⟩) I.l.length cap) ++ cellsF tb (tq + j * 6) (stp I (j : Int)))) (by kernel_rfl) HS0.out (fun hSn => ?_)
    have Bc := Lib.hid (Below.refl W.drew.heap.size W.drew)
    simp only [cellsI, cellsF, List.cons_append, List.nil_append] at HS0 hlt hSn ⊢
    refine tks [0, 1, 3, 4, 5, 6, 7, 8, 10, 11] 10 rfl (by kernel_rfl) (fun _ _ _ _ h => h) (by assumption) (fun KT hKT => ?_)
    iterate 10 (refine tkT (by (simp only [gA, gB, gC]; rfl)) (by rfl) (by (intro w hSw; (simp only [Holds] at hSw); go_simp <;> with_reducible rfl)) ?_; simp only [Act.put, pA, pB, pC])
    refine hKT _ ?_
    clear KT hKT
    refine wpAnyH_ready (rs := [2]) (by kernel_rfl) (by simp) ?_
    refine AllReadyH.cons (o := ?oz145) ?iz145 (fun K hK => ?kz145) AllReadyH.nil
    case iz145 => (simp only [List.getElem?_toArray, List.getElem?_cons_zero, List.getElem?_cons_succ]; rfl)
    go_simp
    change Calls _ _ #[insV I (.slice (some ⟨tb, tq, none⟩) I.l.length cap), _] _ _
    refine (held_any HF.out ((HR.out.below HBd.out).below Bc.out) ((HL.out.below HBd.out).below Bc.out) HIN.out hlen).mono ?_
    rintro e w7 ⟨rfl, hb⟩
    refine held_more hK HS0.out hlt (Bc.out.trans (hb.mono Bc.out.size)) (fun Bc hSn => ?_)
    clear hb hK
    have HBB := Lib.hid (HBd.out.trans (Bc.out.mono HBd.out.size))
    by_cases h5 : I.r < heldL I l + (stp I (j : Int)).d
    · have HE := Lib.hid (show wrongE I l (j : Int) = 6 by unfold wrongE; rw [if_neg HI.out, if_neg H3.out, if_neg H4.out, if_pos h5])
      have d5 := decide_eq_true h5
      clear h5
      refine tks [9, 12] 2 rfl (by kernel_rfl) (fun _ _ _ _ h => h) (by assumption) (fun KT hKT => ?_)
      iterate 2 (refine tkT (by (simp only [gA, gB, gC]; rfl)) (by rfl) (by (intro w hSw; (simp only [Holds] at hSw); go_simp <;> with_reducible rfl)) ?_; simp only [Act.put, pA, pB, pC])
      refine hKT _ ?_
      clear KT hKT
      refine wpAnyH_done (by kernel_rfl) ?_ _
      go_wp2
      go_ret
      exact ⟨ret_int HE.out.symm, HBB.out⟩
    · have HE := Lib.hid (show wrongE I l (j : Int) = 0 by unfold wrongE; rw [if_neg HI.out, if_neg H3.out, if_neg H4.out, if_neg h5])
      have d5 := decide_eq_false h5
      clear h5
      refine tks [9, 12] 2 rfl (by kernel_rfl) (fun _ _ _ _ h => h) (by assumption) (fun KT hKT => ?_)
      iterate 2 (refine tkT (by (simp only [gA, gB, gC]; rfl)) (by rfl) (by (intro w hSw; (simp only [Holds] at hSw); go_simp <;> with_reducible rfl)) ?_; simp only [Act.put, pA, pB, pC])
      refine hKT _ ?_
      clear KT hKT
      refine wpAnyH_done (by kernel_rfl) ?_ _
      go_wp2
      go_ret
      exact ⟨ret_int HE.out.symm, HBB.out⟩

theorem endE_some {I : Ins} {l : List Int} {k : Nat} (hk : k < l.length) (h1 : l.getD k 0 ≤ I.p) (h2 : l.getD k 0 + I.p ∉ l) : endE I l = 8 := by
  unfold endE; rw [if_pos ⟨_, mem_getD hk rfl, h1, h2⟩]
theorem endE_none {I : Ins} {l : List Int} (h : ∀ k, k < l.length → ¬ (l.getD k 0 ≤ I.p ∧ l.getD k 0 + I.p ∉ l)) : endE I l = 0 := by
  unfold endE
  rw [if_neg]
  rintro ⟨i, hi, h1, h2⟩
  obtain ⟨k, hk, rfl⟩ := List.getElem_of_mem hi
  refine h k hk ?_
  rw [List.getD_eq_getElem?_getD, List.getElem?_eq_getElem hk]
  exact ⟨h1, h2⟩
set_option maxRecDepth 1000000 in
set_option maxHeartbeats 1000000 in
theorem rend_any {w : World} {v rv : Value} {I : Ins} {l : List Int} (hp : 0 ≤ I.p ∧ I.p ≤ 16) (hr : SRow w v I.l) (hl : Row w rv (ints l)) (hin : ∀ i ∈ l, 0 ≤ i ∧ i ≤ 2 * I.p) :
    Calls Tryd.prog 55 #[insV I v, rv] w fun e w' => e = .returned (.int .i64 (endE I l)) ∧ Below w.heap.size w w' := by
  have HL := Lib.hid hl
  have HIN := Lib.hid hin
  obtain ⟨ad, cap, rfl, _⟩ := hr.form
  obtain ⟨a1, cap1, rfl, hm⟩ := hl.form
  simp only [ints_len] at *
  have hm1 : l.length ≤ 9223372036854775807 := by unfold maxLen at hm; omega
  have HSO := Lib.hid (fun k (hk : k < l.length) => endE_some (I := I) (l := l) hk)
  have HNO := Lib.hid (endE_none (I := I) (l := l))
  obtain ⟨E, hE⟩ : ∃ E, endE I l = E := ⟨_, rfl⟩
  rw [hE] at HSO HNO ⊢
  clear hr hl hin hm hE
  unfold insV
  go_enter Tryd.func55, Tryd.ntmps55
  go_wp2_with fail
  have HB0 := Lib.hid ((Below.refl _ w).alloc (Nat.le_refl _) (boxI I (.slice ad I.l.length cap)))
  have HXB := Lib.hid (ybox_new w I (.slice ad I.l.length cap))
  change Code.wp _ _ _ _ (w.alloc (boxI I (.slice ad I.l.length cap)))
  generalize w.alloc (boxI I (.slice ad I.l.length cap)) = W at *
  go_loopw [5] (fun x wr => ∃ k : Nat, k ≤ l.length ∧ x = .int .i64 k ∧ (∀ q, q < k → ¬ (l.getD q 0 ≤ I.p ∧ l.getD q 0 + I.p ∉ l)) ∧ Below W.heap.size W wr) (fun x _ => l.length - (intOf x).toNat)
  case atStart => exact ⟨0, Nat.zero_le _, rfl, fun q hq => by omega, Below.refl _ _⟩
  case round =>
    obtain ⟨k, hk, rfl, hq, hbw⟩ := hrel
    have HQ := Lib.hid hq
    have HBW := Lib.hid hbw
    have HXR := Lib.hid ((show YBox W w.heap.size I (.slice ad I.l.length cap) from HXB.out).later hbw)
    have HBA := Lib.hid (HB0.out.trans (hbw.mono HB0.out.size))
    clear hbw hq
    by_cases hlt : k < l.length
    · have HCE := Lib.hid (show ∃ b off, a1 = some ⟨b, off, none⟩ ∧ ∀ w', Below w.heap.size w w' → w'.cell? ⟨b, off + k, none⟩ = some (.int .i64 (l.getD k 0)) from by
        obtain ⟨b, off, he, hc, hb⟩ := row_cell HL.out k (by rw [ints_len]; exact hlt)
        rw [ints_at _ _ hlt] at hc
        exact ⟨b, off, he, fun w' hb' => (hb'.cell (p := ⟨b, off + k, none⟩) hb).trans hc⟩)
      obtain ⟨b, off, rfl, hcc⟩ := HCE.out
      have HCC := Lib.hid hcc
      have qr := hcc wr HBA.out
      have hi := HIN.out _ (mem_getD hlt rfl)
      have HS := Lib.hid (HSO.out k hlt)
      have HQN := Lib.hid (show ¬ (l.getD k 0 ≤ I.p ∧ l.getD k 0 + I.p ∉ l) → ∀ q, q < k + 1 → ¬ (l.getD q 0 ≤ I.p ∧ l.getD q 0 + I.p ∉ l) from fun h1 q hq => by
        by_cases c : q = k
        · subst c; exact h1
        · exact HQ.out q (by omega))
      generalize l.getD k 0 = i at *
      have e1 : IntKind.i64.wrap (i + I.p) = i + I.p := IntWalk.i64_in _ (by omega)
      have hki : (k : Int) < (l.length : Int) := by omega
      obtain ⟨c0, c1, c2, c3⟩ := HXR.out.cells
      clear hcc
      go_wp2_with fail
      have HXd := Lib.hid (HXR.out.later ((Below.refl _ wr).drew))
      have HSi := Lib.hid (show b < wr.drew.heap.size from World.block_lt_of_cell? wr _ qr)
      have HS0 := Lib.hid (show Holds [(⟨b, off + k, none⟩, .int .i64 i), (⟨w.heap.size, 0, none⟩, .int .i64 I.p)] wr.drew from ⟨HCC.out _ HBA.out.drew, HXd.out.cells.1, trivial⟩)
      have hltt := Lib.hid (show Lows wr.drew.heap.size [(⟨b, off + k, none⟩, .int .i64 i), (⟨w.heap.size, 0, none⟩, .int .i64 I.p)] from ⟨HSi.out, HXd.out.lt, trivial⟩)
      refine wp_region_held_drew (S := Holds [(⟨b, off + k, none⟩, .int .i64 i), (⟨w.heap.size, 0, none⟩, .int .i64 I.p)]) (by kernel_rfl) HS0.out (fun hSn => ?_)
      have Bc := Lib.hid (Below.refl wr.drew.heap.size wr.drew)
      refine tks [0, 1, 2, 3, 4, 5, 6, 7] 8 rfl (by kernel_rfl) (fun _ _ _ _ h => h) (by assumption) (fun KT hKT => ?_)
      iterate 8 (refine tkT (by (simp only [gA, gB, gC]; rfl)) (by rfl) (by (intro w hSw; (simp only [Holds] at hSw); go_simp <;> with_reducible rfl)) ?_; simp only [Act.put, pA, pB, pC])
      refine hKT _ ?_
      clear KT hKT
      refine wpAnyH_ready (rs := [8]) (by kernel_rfl) (by simp) ?_
      refine AllReadyH.cons (o := ?oz146) ?iz146 (fun K hK => ?kz146) AllReadyH.nil
      case iz146 => (simp only [List.getElem?_toArray, List.getElem?_cons_zero, List.getElem?_cons_succ]; rfl)
      go_simp
      refine (has_any (i + I.p) ((HL.out.below HBA.out.drew))).mono ?_
      rintro e w6 ⟨rfl, rfl⟩
      refine held_more hK HS0.out hltt Bc.out (fun Bc hSn => ?_)
      clear hK
      refine tks [9] 1 rfl (by kernel_rfl) (fun _ _ _ _ h => h) (by assumption) (fun KT hKT => ?_)
      refine tkT (by (simp only [gA, gB, gC]; rfl)) (by rfl) (by (intro w hSw; (simp only [Holds] at hSw); go_simp <;> with_reducible rfl)) ?_
      simp only [Act.put, pA, pB, pC]
      refine hKT _ ?_
      clear KT hKT
      refine wpAnyH_done (by kernel_rfl) ?_ _
      have HW6 := Lib.hid HBW.out.drew
      have HX6 := Lib.hid HXd.out
      have HA6 := Lib.hid HBA.out.drew
      clear HXd HSi HS0 hltt hSn Bc
      generalize wr.drew = w6 at *
      clear qr c0 c1 c2 c3 e1
      have qr := HCC.out w6 HA6.out
      obtain ⟨c0, c1, c2, c3⟩ := HX6.out.cells
      by_cases h1 : i ≤ I.p
      · have d1 := decide_eq_true h1
        by_cases h2 : i + I.p ∈ l
        · have HN := Lib.hid (HQN.out (fun h => h.2 h2))
          rw [decide_eq_true h2]
          clear h1 h2
          go_wp2_with fail
          go_quiet (fail)
          have HW7 := Lib.hid (below_drewN HW6.out nq)
          go_wp2
          go_roundw
          case rel => exact ⟨k + 1, by omega, by go_num, HN.out, HW7.out⟩
          case measure => simp [intOf]; omega
        · have hs := HS.out h1 h2
          rw [decide_eq_false h2]
          clear h1 h2
          go_wp2_with fail
          go_quiet (fail)
          have HW7 := Lib.hid (below_drewN HA6.out nq)
          go_wp2
          go_ret
          exact ⟨ret_int hs.symm, HW7.out⟩
      · have HN := Lib.hid (HQN.out (fun h => h1 h.1))
        have d1 := decide_eq_false h1
        generalize decide (i + I.p ∈ l) = tk at *
        clear h1
        go_wp2_with fail
        go_quiet (fail)
        have HW7 := Lib.hid (below_drewN HW6.out nq)
        go_wp2
        go_roundw
        case rel => exact ⟨k + 1, by omega, by go_num, HN.out, HW7.out⟩
        case measure => simp [intOf]; omega
    · obtain rfl : k = l.length := by omega
      have hz := HNO.out HQ.out
      clear hlt hk
      go_wp2
      go_ret
      exact ⟨ret_int hz.symm, HBA.out⟩
theorem nthT_ne {l m : List Tm} {k : Nat} (h : nthT l k ≠ nthT m k) : l ≠ m := fun e => h (by rw [e])
theorem nthT_all {l m : List Tm} (hl : l.length = m.length) (h : ∀ k, k < l.length → nthT l k = nthT m k) : l = m := by
  apply List.ext_getElem hl
  intro i h1 h2
  have := h i h1
  unfold nthT at this
  simpa [List.getD_eq_getElem?_getD, h1, h2] using this
theorem row_take {w : World} {b o n cap : Nat} {l : List Int} (h : Row w (.slice (some ⟨b, o, none⟩) n cap) (ints l)) {k : Nat} (hk : k ≤ l.length) : Row w (.slice (some ⟨b, o, none⟩) k cap) (ints (l.take k)) := by
  obtain ⟨hm, a', cap', hv, hc, hc2, hcell⟩ := h
  rw [ints_len] at hm hv hc hcell
  simp at hv
  obtain ⟨rfl, rfl, rfl⟩ := hv
  have hl : (ints (l.take k)).length = k := by rw [ints_len, List.length_take]; omega
  refine ⟨by omega, _, _, by rw [hl], by omega, hc2, ?_⟩
  by_cases h0 : k = 0
  · left; subst h0; simp [ints]
  · right
    rcases hcell with hn | ⟨b', o', he, hcc⟩
    · have : (ints l).length = 0 := by rw [hn]; rfl
      rw [ints_len] at this; omega
    · simp only [Option.some.injEq, Addr.mk.injEq, and_true] at he
      obtain ⟨rfl, rfl⟩ := he
      refine ⟨_, _, rfl, fun i hi => ?_⟩
      rw [hl] at hi
      rw [hcc i (by omega), ints_at _ _ (by omega), ints_at _ _ (by rw [List.length_take]; omega)]
      simp [List.getD_eq_getElem?_getD, hi]
/-- A stop's box. -/
def LBox (w : World) (N : Nat) (t : Stp) : Prop := w.heap[N]? = some (.cells #[.int .i64 t.x, .int .i64 t.y, .int .i64 t.d, .int .i64 t.r, .int .i64 t.u, .int .i64 t.s] 76 (0, 0))
theorem LBox.lt {w : World} {N : Nat} {t : Stp} (h : LBox w N t) : N < w.heap.size := (Array.getElem?_eq_some_iff.1 h).1
theorem LBox.later {w w' : World} {N : Nat} {t : Stp} (h : LBox w N t) (hb : Below w.heap.size w w') : LBox w' N t := by unfold LBox; rw [hb.block N h.lt]; exact h
theorem LBox.cells {w : World} {N : Nat} {t : Stp} (h : LBox w N t) : Holds (cellsP N t) w := by
  have hc : ∀ i, w.cell? ⟨N, i, none⟩ = (rowV t)[i]? := fun i => by rw [cell_of_row w N i _ _ _ h]; simp [rowV]
  exact ⟨hc 0, hc 1, hc 2, hc 3, hc 4, hc 5, trivial⟩
theorem LBox.free {w : World} {N : Nat} {t : Stp} (h : LBox w N t) (i : Nat) : w.frozen? ⟨N, i, none⟩ = false := frozen_of_row w N i _ _ h
theorem LBox.other {w : World} {N : Nat} {t : Stp} (h : LBox w N t) (p : Addr) (x : Value) (hp : p.block ≠ N) : LBox (w.setCell p x) N t := by unfold LBox; rw [heap_setCell_other w p N x (fun e => hp e.symm)]; exact h
theorem LBox.whole {w : World} {N : Nat} {t : Stp} (h : LBox w N t) (u : Stp) : LBox ((((((w.setCell ⟨N, 0, none⟩ (.int .i64 u.x)).setCell ⟨N, 1, none⟩ (.int .i64 u.y)).setCell ⟨N, 2, none⟩ (.int .i64 u.d)).setCell ⟨N, 3, none⟩ (.int .i64 u.r)).setCell ⟨N, 4, none⟩ (.int .i64 u.u)).setCell ⟨N, 5, none⟩ (.int .i64 u.s)) N u := by
  have h0 : w.heap[N]? = _ := h
  have h1 := heap_setCell_same w N 0 _ _ (.int .i64 u.x) h0
  have h2 := heap_setCell_same _ N 1 _ _ (.int .i64 u.y) h1
  have h3 := heap_setCell_same _ N 2 _ _ (.int .i64 u.d) h2
  have h4 := heap_setCell_same _ N 3 _ _ (.int .i64 u.r) h3
  have h5 := heap_setCell_same _ N 4 _ _ (.int .i64 u.u) h4
  have h6 := heap_setCell_same _ N 5 _ _ (.int .i64 u.s) h5
  unfold LBox
  rw [h6]; rfl
/-- A time's box. -/
def TBox (w : World) (N : Nat) (t : Tm) : Prop := w.heap[N]? = some (.cells #[.int .i64 t.come, .int .i64 t.begn, .int .i64 t.leave] 82 (0, 0))
theorem TBox.lt {w : World} {N : Nat} {t : Tm} (h : TBox w N t) : N < w.heap.size := (Array.getElem?_eq_some_iff.1 h).1
theorem TBox.later {w w' : World} {N : Nat} {t : Tm} (h : TBox w N t) (hb : Below w.heap.size w w') : TBox w' N t := by unfold TBox; rw [hb.block N h.lt]; exact h
theorem TBox.cells {w : World} {N : Nat} {t : Tm} (h : TBox w N t) : w.cell? ⟨N, 0, none⟩ = some (.int .i64 t.come) ∧ w.cell? ⟨N, 1, none⟩ = some (.int .i64 t.begn) ∧ w.cell? ⟨N, 2, none⟩ = some (.int .i64 t.leave) := by
  have hc : ∀ i, w.cell? ⟨N, i, none⟩ = [Value.int .i64 t.come, .int .i64 t.begn, .int .i64 t.leave][i]? := fun i => by rw [cell_of_row w N i _ _ _ h]; simp
  exact ⟨hc 0, hc 1, hc 2⟩
theorem TBox.free {w : World} {N : Nat} {t : Tm} (h : TBox w N t) (i : Nat) : w.frozen? ⟨N, i, none⟩ = false := frozen_of_row w N i _ _ h
theorem TBox.begn {w : World} {N : Nat} {t : Tm} (h : TBox w N t) (x : Int) : TBox (w.setCell ⟨N, 1, none⟩ (.int .i64 x)) N ⟨t.come, x, t.leave⟩ := by unfold TBox; rw [heap_setCell_same w N 1 _ _ _ h]; rfl
theorem TBox.leave {w : World} {N : Nat} {t : Tm} (h : TBox w N t) (x : Int) : TBox (w.setCell ⟨N, 2, none⟩ (.int .i64 x)) N ⟨t.come, t.begn, x⟩ := by unfold TBox; rw [heap_setCell_same w N 2 _ _ _ h]; rfl
/-- All that Times keeps at hand. -/
structure RT (w0 : World) (NX NL NS NT : Nat) (I : Ins) (sv v8 : Value) (s : TS) (sj : Stp) (t : Tm) (w : World) : Prop where
  own : OwnT w w0.heap.size v8 s.out
  tim : TBox w NT t
  stop : LBox w NS sj
  last : LBox w NL s.last
  box : YBox w NX I sv
  bel : Below w0.heap.size w0 w
theorem RT.put {w0 w : World} {NX NL NS NT : Nat} {I : Ins} {sv v8 : Value} {s : TS} {sj : Stp} {t t2 : Tm} (h : RT w0 NX NL NS NT I sv v8 s sj t w) (i : Nat) (x : Value) (ht : TBox (w.setCell ⟨NT, i, none⟩ x) NT t2) (hv : v8.ownBlock ≠ some NT) (h1 : NT ≠ NS) (h2 : NT ≠ NL) (h3 : NT ≠ NX) (h4 : w0.heap.size ≤ NT) :
    RT w0 NX NL NS NT I sv v8 s sj t2 (w.setCell ⟨NT, i, none⟩ x) := by
  have hg : w.grownBy (w.setCell ⟨NT, i, none⟩ x) (some NT) := ⟨rfl, rfl, rfl, by simp [World.setCell], fun j _ hj => heap_setCell_other w ⟨NT, i, none⟩ j _ (fun e => hj (by rw [e]))⟩
  exact ⟨h.own.kept hg (.inr hv), ht, h.stop.other _ _ h1, h.last.other _ _ h2, h.box.other _ _ h3, h.bel.setCell h4 x⟩
theorem RT.app {w0 w w' : World} {NX NL NS NT : Nat} {I : Ins} {sv v8 : Value} {s : TS} {sj : Stp} {t : Tm} (h : RT w0 NX NL NS NT I sv v8 s sj t w) (hv : v8.ownBlock ≠ some NT) (O : Obj) (hg : (w.alloc O).grownBy w' v8.ownBlock) :
    TBox w' NT t ∧ LBox w' NS sj ∧ LBox w' NL s.last ∧ YBox w' NX I sv ∧ Below w0.heap.size w0 w' := by
  have ha := (Below.refl w.heap.size w).alloc (Nat.le_refl _) O
  have h1 := h.own.alloc O
  have k1 : (w.alloc O).ownsRow w0.heap.size 82 3 v8 s.out.length (flatT s.out) := h1
  have t1 := h.tim.later ha
  have l1 := h.stop.later ha
  have l2 := h.last.later ha
  have y1 := h.box.later ha
  refine ⟨?_, ?_, ?_, ?_, (h.bel.alloc h.bel.size O).grown hg (by have := h.bel.size; simp; omega) (fun j hj => (World.ownsRow.lt k1 j hj).1)⟩
  · unfold TBox; rw [hg.block NT t1.lt (fun e => hv e.symm)]; exact t1
  · unfold LBox; rw [hg.block NS l1.lt (fun e => own_ne k1 l1 (by decide) e.symm)]; exact l1
  · unfold LBox; rw [hg.block NL l2.lt (fun e => own_ne k1 l2 (by decide) e.symm)]; exact l2
  · unfold YBox; rw [hg.block NX y1.lt (fun e => own_ne k1 y1 (by decide) e.symm)]; exact y1
theorem ownT_set {w : World} {B N : Nat} {v : Value} {O : List Tm} {cs : Array Value} {fr : Nat × Nat} (ho : OwnT w B v O) (h : w.heap[N]? = some (.cells cs 76 fr)) (i : Nat) (x : Value) : OwnT (w.setCell ⟨N, i, none⟩ x) B v O := by
  have hg : w.grownBy (w.setCell ⟨N, i, none⟩ x) (some N) := ⟨rfl, rfl, rfl, by simp [World.setCell], fun j _ hj => heap_setCell_other w ⟨N, i, none⟩ j _ (fun e => hj (by rw [e]))⟩
  exact ho.kept hg (.inr (own_ne (show w.ownsRow B 82 3 v O.length (flatT O) from ho) h (by decide)))
theorem six_last {w0 w : World} {B N NX : Nat} {t : Stp} {I : Ins} {sv v : Value} {O : List Tm} (h : LBox w N t) (hy : YBox w NX I sv) (hne : N ≠ NX) (ho : OwnT w B v O) (hb : Below B w0 w) (hB : B ≤ N) (u : Stp) :
    OwnT ((((((w.setCell ⟨N, 0, none⟩ (.int .i64 u.x)).setCell ⟨N, 1, none⟩ (.int .i64 u.y)).setCell ⟨N, 2, none⟩ (.int .i64 u.d)).setCell ⟨N, 3, none⟩ (.int .i64 u.r)).setCell ⟨N, 4, none⟩ (.int .i64 u.u)).setCell ⟨N, 5, none⟩ (.int .i64 u.s)) B v O ∧
    LBox ((((((w.setCell ⟨N, 0, none⟩ (.int .i64 u.x)).setCell ⟨N, 1, none⟩ (.int .i64 u.y)).setCell ⟨N, 2, none⟩ (.int .i64 u.d)).setCell ⟨N, 3, none⟩ (.int .i64 u.r)).setCell ⟨N, 4, none⟩ (.int .i64 u.u)).setCell ⟨N, 5, none⟩ (.int .i64 u.s)) N u ∧
    YBox ((((((w.setCell ⟨N, 0, none⟩ (.int .i64 u.x)).setCell ⟨N, 1, none⟩ (.int .i64 u.y)).setCell ⟨N, 2, none⟩ (.int .i64 u.d)).setCell ⟨N, 3, none⟩ (.int .i64 u.r)).setCell ⟨N, 4, none⟩ (.int .i64 u.u)).setCell ⟨N, 5, none⟩ (.int .i64 u.s)) NX I sv ∧
    Below B w0 ((((((w.setCell ⟨N, 0, none⟩ (.int .i64 u.x)).setCell ⟨N, 1, none⟩ (.int .i64 u.y)).setCell ⟨N, 2, none⟩ (.int .i64 u.d)).setCell ⟨N, 3, none⟩ (.int .i64 u.r)).setCell ⟨N, 4, none⟩ (.int .i64 u.u)).setCell ⟨N, 5, none⟩ (.int .i64 u.s)) := by
  have h0 : w.heap[N]? = _ := h
  have h1 := heap_setCell_same w N 0 _ _ (.int .i64 u.x) h0
  have h2 := heap_setCell_same _ N 1 _ _ (.int .i64 u.y) h1
  have h3 := heap_setCell_same _ N 2 _ _ (.int .i64 u.d) h2
  have h4 := heap_setCell_same _ N 3 _ _ (.int .i64 u.r) h3
  have h5 := heap_setCell_same _ N 4 _ _ (.int .i64 u.u) h4
  exact ⟨ownT_set (ownT_set (ownT_set (ownT_set (ownT_set (ownT_set ho h0 0 _) h1 1 _) h2 2 _) h3 3 _) h4 4 _) h5 5 _, h.whole u,
    (((((hy.other ⟨N, 0, none⟩ _ hne).other ⟨N, 1, none⟩ _ hne).other ⟨N, 2, none⟩ _ hne).other ⟨N, 3, none⟩ _ hne).other ⟨N, 4, none⟩ _ hne).other ⟨N, 5, none⟩ _ hne,
    (((((hb.setCell (p := ⟨N, 0, none⟩) hB _).setCell (p := ⟨N, 1, none⟩) hB _).setCell (p := ⟨N, 2, none⟩) hB _).setCell (p := ⟨N, 3, none⟩) hB _).setCell (p := ⟨N, 4, none⟩) hB _).setCell (p := ⟨N, 5, none⟩) hB _⟩
set_option maxRecDepth 1000000 in
set_option maxHeartbeats 4000000 in
theorem rtimes_any {w : World} {v rv : Value} {I : Ins} {l : List Int} (hr : SRow w v I.l) (hl : Row w rv (ints l)) (hlen : l.length ≤ 1000) :
    Calls Tryd.prog 30 #[insV I v, rv] w fun e w' => ∃ u, e = .returned (.tuple #[u, .int .i64 (farT I l), .int .i64 (errT I l)]) ∧ OwnT w' w.heap.size u (outT I l) ∧ Below w.heap.size w w' := by
  have HR := Lib.hid hr
  have HL := Lib.hid hl
  obtain ⟨ad, cap, rfl, _⟩ := hr.form
  obtain ⟨a1, cap1, rfl, hm⟩ := hl.form
  simp only [ints_len] at *
  clear hr hl hm
  unfold insV
  go_enter Tryd.func30, Tryd.ntmps30
  go_wp2_with fail
  change Calls _ _ #[insV I (.slice ad I.l.length cap)] (w.alloc (boxI I (.slice ad I.l.length cap))) _
  have HB0 := Lib.hid ((Below.refl _ w).alloc (Nat.le_refl _) (boxI I (.slice ad I.l.length cap)))
  have HXB := Lib.hid (ybox_new w I (.slice ad I.l.length cap))
  generalize w.alloc (boxI I (.slice ad I.l.length cap)) = W at *
  refine (rmay_any (HR.out.below HB0.out)).mono ?_
  rintro e w1 ⟨rfl, hb⟩
  have HB1 := Lib.hid (HB0.out.trans (hb.mono HB0.out.size))
  have HX1 := Lib.hid ((show YBox W w.heap.size I (.slice ad I.l.length cap) from HXB.out).later hb)
  clear hb
  obtain ⟨c0, c1, c2, c3⟩ := HX1.out.cells
  cases hmy : mayB I
  · obtain ⟨k1, k2, k3, _⟩ := err_of (I := I) (l := l) (e := 1) (by unfold timesE; rw [hmy]; rfl)
    have HK := Lib.hid (show farT I l = 0 ∧ errT I l = 1 ∧ outT I l = [] from ⟨k3, k1, k2⟩)
    clear hmy k1 k2 k3
    go_wp2
    exact bodyPost_ret (v := .tuple #[.slice none 0 0, .int .i64 0, .int .i64 1]) (by simp [results, Tryd.results30, go_sem]) rfl ⟨_, by rw [HK.out.1, HK.out.2.1], by rw [HK.out.2.2]; exact ownT_nil _ _, HB1.out⟩
  have HMY := Lib.hid hmy
  have HF := Lib.hid (fine_of hmy)
  have hl0 := (pmay_len hmy).1
  have h0i : (0 : Int) < (I.l.length : Int) := by omega
  obtain ⟨tb, off, rfl, hat, htb⟩ := srow_at HR.out 0 hl0
  rw [Nat.zero_mul, Nat.add_zero] at hat
  have HA0 := Lib.hid (show ∀ w', Below w.heap.size w w' → At w' tb off (nth I.l 0) from fun w' hb' => hat.below htb hb')
  obtain ⟨t0, t1, t2, t3, t4, t5⟩ := HA0.out w1 HB1.out
  clear hmy hat
  go_wp2_with fail
  have HB2 := Lib.hid (HB1.out.alloc HB1.out.size (boxS (nth I.l 0)))
  have HX2 := Lib.hid (HX1.out.later ((Below.refl _ w1).alloc (Nat.le_refl _) (boxS (nth I.l 0))))
  have HL2 := Lib.hid (show LBox (w1.alloc (boxS (nth I.l 0))) w1.heap.size (startT I).last from heap_alloc_new w1 _)
  have hsz : w.heap.size < w1.heap.size := HX1.out.lt
  change Code.wp _ _ _ _ (w1.alloc (boxS (nth I.l 0)))
  generalize w1.alloc (boxS (nth I.l 0)) = w2 at *
  generalize w1.heap.size = NL at *
  clear c0 c1 c2 c3 t0 t1 t2 t3 t4 t5
  go_loopw [8, 9, 10, 12] (fun i8 i9 i10 i12 wr => ∃ (k : Nat) (s : TS), k ≤ l.length ∧ i12 = .int .i64 k ∧ i9 = .int .i64 s.far ∧ i10 = .int .i64 s.now ∧ goE I (l.take k) = .ok s ∧ OwnT wr w.heap.size i8 s.out ∧ LBox wr NL s.last ∧ YBox wr w.heap.size I (.slice (some ⟨tb, off, none⟩) I.l.length cap) ∧ Below w.heap.size w wr) (fun _ _ _ i _ => l.length - (intOf i).toNat)
  case atStart => exact ⟨0, startT I, Nat.zero_le _, rfl, rfl, rfl, rfl, ownT_nil _ _, HL2.out, HX2.out, HB2.out⟩
  case round =>
    obtain ⟨k, s, hk, rfl, rfl, rfl, hgo, hown, hlb, hyb, hbw⟩ := hrel
    have HGO := Lib.hid hgo
    have HO := Lib.hid hown
    have HLB := Lib.hid hlb
    have HYB := Lib.hid hyb
    have HBW := Lib.hid hbw
    clear hgo hown hlb hyb hbw
    by_cases hlt : k < l.length
    · obtain ⟨i, hi⟩ : ∃ i, l.getD k 0 = i := ⟨_, rfl⟩
      have HI := Lib.hid hi
      have hki : (k : Int) < (l.length : Int) := by omega
      have hkc : k ≤ cap1 := by obtain ⟨_, _, _, hv, hc, _⟩ := HL.out; simp only [ints_len] at hv hc; simp at hv; omega
      have hki2 : (k : Int) ≤ (cap1 : Int) := by omega
      obtain ⟨rb, ro, rfl, hrc, hrb⟩ := row_cell HL.out k (by rw [ints_len]; exact hlt)
      rw [ints_at _ _ hlt, hi] at hrc
      have HRC := Lib.hid (show ∀ w', Below w.heap.size w w' → w'.cell? ⟨rb, ro + k, none⟩ = some (.int .i64 i) from fun w' hb' => (hb'.cell (p := ⟨rb, ro + k, none⟩) hrb).trans hrc)
      have hgd := goE_good _ s HGO.out
      have HIN := Lib.hid (show ∀ i ∈ l.take k, 0 ≤ i ∧ i ≤ 2 * I.p from fun i hi2 => by have := hgd.rng i hi2; omega)
      have hseen := (goE_seen _ s HGO.out).1
      have HNX := Lib.hid (show goE I (l.take (k + 1)) = stepE I s i by rw [go_take_next hlt HGO.out, hi])
      clear hrc hi hgd
      go_wp2_with fail
      have HYd := Lib.hid (HYB.out.later ((Below.refl _ wr).drew))
      have HBd := Lib.hid HBW.out.drew
      have hrbw : rb < wr.drew.heap.size := Nat.lt_of_lt_of_le hrb HBd.out.size
      have HS0 := Lib.hid (show Holds (cellsI w.heap.size I (.slice (some ⟨tb, off, none⟩) I.l.length cap) ++ [(⟨rb, ro + k, none⟩, .int .i64 i)]) wr.drew from Holds.app.2 ⟨⟨HYd.out.cells.1, HYd.out.cells.2.1, HYd.out.cells.2.2.1, HYd.out.cells.2.2.2, trivial⟩, ⟨HRC.out _ HBd.out, trivial⟩⟩)
      have hltt := Lib.hid (show Lows wr.drew.heap.size (cellsI w.heap.size I (.slice (some ⟨tb, off, none⟩) I.l.length cap) ++ [(⟨rb, ro + k, none⟩, .int .i64 i)]) from Lows.app ⟨HYd.out.lt, HYd.out.lt, HYd.out.lt, HYd.out.lt, trivial⟩ ⟨hrbw, trivial⟩)
      refine wp_region_held_drew (S := Holds (cellsI w.heap.size I (.slice (some ⟨tb, off, none⟩) I.l.length cap) ++ [(⟨rb, ro + k, none⟩, .int .i64 i)])) (by kernel_rfl) HS0.out (fun hSn => ?_)
      have Bc := Lib.hid (Below.refl wr.drew.heap.size wr.drew)
      simp only [cellsI, List.cons_append, List.nil_append] at HS0 hltt hSn ⊢
      refine tks [0, 1, 2, 3, 4, 5, 6, 7] 8 rfl (by kernel_rfl) (fun _ _ _ _ h => h) (by assumption) (fun KT hKT => ?_)
      iterate 8 (refine tkT (by (simp only [gA, gB, gC]; rfl)) (by rfl) (by (intro w hSw; (simp only [Holds] at hSw); go_simp <;> with_reducible rfl)) ?_; simp only [Act.put, pA, pB, pC])
      refine hKT _ ?_
      clear KT hKT
      refine wpAnyH_ready (rs := [8]) (by kernel_rfl) (by simp) ?_
      refine AllReadyH.cons (o := ?oz147) ?iz147 (fun K hK => ?kz147) AllReadyH.nil
      case iz147 => (simp only [List.getElem?_toArray, List.getElem?_cons_zero, List.getElem?_cons_succ]; rfl)
      go_simp
      change Calls _ _ #[insV I (.slice (some ⟨tb, off, none⟩) I.l.length cap), .slice (some ⟨rb, ro, none⟩) k cap1, _] _ _
      refine (rwrong_any i HF.out ((HR.out.below HBd.out).below Bc.out) ((row_take (HL.out.below HBd.out) (Nat.le_of_lt hlt)).below Bc.out) HIN.out (by rw [List.length_take]; omega)).mono ?_
      rintro e w7 ⟨rfl, hb⟩
      refine held_more hK HS0.out hltt (Bc.out.trans (hb.mono Bc.out.size)) (fun Bc hSn => ?_)
      clear hb hK
      refine tks [9] 1 rfl (by kernel_rfl) (fun _ _ _ _ h => h) (by assumption) (fun KT hKT => ?_)
      refine tkT (by (simp only [gA, gB, gC]; rfl)) (by rfl) (by (intro w hSw; (simp only [Holds] at hSw); go_simp <;> with_reducible rfl)) ?_
      simp only [Act.put, pA, pB, pC]
      refine hKT _ ?_
      clear KT hKT
      refine wpAnyH_done (by kernel_rfl) ?_ _
      have HB7 := Lib.hid (HBd.out.trans (Bc.out.mono HBd.out.size))
      have HB77 := Lib.hid ((Below.refl wr.heap.size wr).drew.trans Bc.out)
      have HO7 := Lib.hid (HO.out.below HB77.out)
      have HL7 := Lib.hid (HLB.out.later HB77.out)
      have HY7 := Lib.hid (HYB.out.later HB77.out)
      clear HS0 hltt hSn Bc HYd hrbw
      by_cases hz : wrongE I (l.take k) i = 0
      rotate_left
      · have HTE := Lib.hid (show timesE I l = .error (wrongE I (l.take k) i) from times_go_err HMY.out (k := k + 1) (by rw [HNX.out]; unfold stepE; rw [hseen, if_pos hz]))
        have d1 : (wrongE I (l.take k) i != 0) = true := by simp [hz]
        clear hz
        generalize wrongE I (l.take k) i = er at *
        go_wp2
        obtain ⟨k1, k2, k3, _⟩ := err_of HTE.out
        exact bodyPost_ret (v := .tuple #[.slice none 0 0, .int .i64 0, .int .i64 er]) (by simp [results, Tryd.results30, go_sem]) rfl ⟨_, by rw [k1, k3], by rw [k2]; exact ownT_nil _ _, HB7.out⟩
      have HZ := Lib.hid hz
      obtain ⟨z1, z2, _, _, _⟩ := wrongE_zero hz
      rw [hz]
      clear hz
      have hfl := HF.out.len
      obtain ⟨j, rfl⟩ : ∃ j : Nat, i = (j : Int) := ⟨i.toNat, by omega⟩
      have hjl : j < I.l.length := by omega
      have hji : (j : Int) < (I.l.length : Int) := by omega
      have hst := stop_in (HF.out.ok (j : Int) (by omega) z2)
      obtain ⟨⟨bn0, bn1⟩, ⟨bf0, bf1⟩, _, _⟩ := goE_bds HF.out _ s HGO.out
      have hfb := farF_bd s.last (stp I (j : Int))
      have hlen32 := goE_len HF.out HGO.out
      have hol := (goE_seen _ s HGO.out).2
      rw [List.length_take] at hol hlen32 bf1
      have HAJ := Lib.hid (show ∀ w', Below w.heap.size w w' → At w' tb (off + j * 6) (stp I (j : Int)) from fun w' hb' => (srow_here HR.out j hjl).below htb hb')
      have qr := HRC.out w7 HB7.out
      obtain ⟨c0, c1, c2, c3⟩ := HY7.out.cells
      obtain ⟨t0, t1, t2, t3, t4, t5⟩ := HAJ.out w7 HB7.out
      obtain ⟨sj, hsj⟩ : ∃ sj, stp I (j : Int) = sj := ⟨_, rfl⟩
      have HSJ := Lib.hid hsj
      rw [hsj] at hst hfb HAJ t0 t1 t2 t3 t4 t5
      clear hfl z1 z2 hsj
      go_wp2_with fail
      have HYd := Lib.hid (HY7.out.later ((Below.refl _ w7).drew))
      have HLd := Lib.hid (HL7.out.later ((Below.refl _ w7).drew))
      have HOd := Lib.hid (HO7.out.below ((Below.refl _ w7).drew))
      have HBd2 := Lib.hid HB7.out.drew
      have hSn : Holds (cellsI w.heap.size I (.slice (some ⟨tb, off, none⟩) I.l.length cap) ++ ((⟨rb, ro + k, none⟩, .int .i64 (j : Int)) :: cellsF tb (off + j * 6) sj)) w7.drew := Holds.app.2 ⟨⟨HYd.out.cells.1, HYd.out.cells.2.1, HYd.out.cells.2.2.1, HYd.out.cells.2.2.2, trivial⟩, HRC.out _ HBd2.out, holds_at (HAJ.out _ HBd2.out)⟩
      have HHA := Lib.hid (show ∀ w', Below w.heap.size w w' → YBox w' w.heap.size I (.slice (some ⟨tb, off, none⟩) I.l.length cap) → Holds (cellsI w.heap.size I (.slice (some ⟨tb, off, none⟩) I.l.length cap) ++ ((⟨rb, ro + k, none⟩, .int .i64 (j : Int)) :: cellsF tb (off + j * 6) sj)) w' from fun w' hb' hy' => Holds.app.2 ⟨⟨hy'.cells.1, hy'.cells.2.1, hy'.cells.2.2.1, hy'.cells.2.2.2, trivial⟩, HRC.out _ hb', holds_at (HAJ.out _ hb')⟩)
      refine wp_until (S := Holds (cellsI w.heap.size I (.slice (some ⟨tb, off, none⟩) I.l.length cap) ++ ((⟨rb, ro + k, none⟩, .int .i64 (j : Int)) :: cellsF tb (off + j * 6) sj))) (m := 9) (by kernel_rfl) ?_
      generalize w7.drew = w8 at *
      clear qr c0 c1 c2 c3 t0 t1 t2 t3 t4 t5
      simp only [cellsI, cellsF, List.cons_append, List.nil_append] at HHA hSn ⊢
      refine until_take (i := 0) (oi := ?oz149) (v := ?vz149) ?iz149 (by kernel_rfl) (by kernel_rfl) (by kernel_rfl) (by kernel_rfl) (by kernel_rfl) ?qz149 (Or.inl ⟨?gz149, ?hz149⟩) (by assumption) ?rz149
      case iz149 => (simp only [List.getElem?_toArray, List.getElem?_cons_zero]; rfl)
      case qz149 => exact fun _ _ _ h => h
      case gz149 => rfl
      case hz149 => (intro w hSw; (simp only [Holds] at hSw); go_simp <;> with_reducible rfl)
      simp only [Act.put, List.setIfInBounds_toArray, List.set_cons_zero, List.set_cons_succ]
      refine until_take (i := 1) (oi := ?oz150) (v := ?vz150) ?iz150 (by kernel_rfl) (by kernel_rfl) (by kernel_rfl) (by kernel_rfl) (by kernel_rfl) ?qz150 (Or.inl ⟨?gz150, ?hz150⟩) (by assumption) ?rz150
      case iz150 => (simp only [List.getElem?_toArray, List.getElem?_cons_zero, List.getElem?_cons_succ]; rfl)
      case qz150 => exact fun _ _ _ h => h
      case gz150 => rfl
      case hz150 => (intro w hSw; (simp only [Holds] at hSw); go_simp <;> with_reducible rfl)
      simp only [Act.put, List.setIfInBounds_toArray, List.set_cons_zero, List.set_cons_succ]
      refine until_take (i := 2) (oi := ?oz151) (v := ?vz151) ?iz151 (by kernel_rfl) (by kernel_rfl) (by kernel_rfl) (by kernel_rfl) (by kernel_rfl) ?qz151 (Or.inl ⟨?gz151, ?hz151⟩) (by assumption) ?rz151
      case iz151 => (simp only [List.getElem?_toArray, List.getElem?_cons_zero, List.getElem?_cons_succ]; rfl)
      case qz151 => exact fun _ _ _ h => h
      case gz151 => rfl
      case hz151 => (intro w hSw; (simp only [Holds] at hSw); go_simp <;> with_reducible rfl)
      simp only [Act.put, List.setIfInBounds_toArray, List.set_cons_zero, List.set_cons_succ]
      refine until_take (i := 3) (oi := ?oz152) (v := ?vz152) ?iz152 (by kernel_rfl) (by kernel_rfl) (by kernel_rfl) (by kernel_rfl) (by kernel_rfl) ?qz152 (Or.inl ⟨?gz152, ?hz152⟩) (by assumption) ?rz152
      case iz152 => (simp only [List.getElem?_toArray, List.getElem?_cons_zero, List.getElem?_cons_succ]; rfl)
      case qz152 => exact fun _ _ _ h => h
      case gz152 => rfl
      case hz152 => (intro w hSw; (simp only [Holds] at hSw); go_simp <;> with_reducible rfl)
      simp only [Act.put, List.setIfInBounds_toArray, List.set_cons_zero, List.set_cons_succ]
      refine until_take (i := 4) (oi := ?oz153) (v := ?vz153) ?iz153 (by kernel_rfl) (by kernel_rfl) (by kernel_rfl) (by kernel_rfl) (by kernel_rfl) ?qz153 (Or.inl ⟨?gz153, ?hz153⟩) (by assumption) ?rz153
      case iz153 => (simp only [List.getElem?_toArray, List.getElem?_cons_zero, List.getElem?_cons_succ]; rfl)
      case qz153 => exact fun _ _ _ h => h
      case gz153 => rfl
      case hz153 => (intro w hSw; (simp only [Holds] at hSw); go_simp <;> with_reducible rfl)
      simp only [Act.put, List.setIfInBounds_toArray, List.set_cons_zero, List.set_cons_succ]
      refine until_take (i := 5) (oi := ?oz154) (v := ?vz154) ?iz154 (by kernel_rfl) (by kernel_rfl) (by kernel_rfl) (by kernel_rfl) (by kernel_rfl) ?qz154 (Or.inl ⟨?gz154, ?hz154⟩) (by assumption) ?rz154
      case iz154 => (simp only [List.getElem?_toArray, List.getElem?_cons_zero, List.getElem?_cons_succ]; rfl)
      case qz154 => exact fun _ _ _ h => h
      case gz154 => rfl
      case hz154 => (intro w hSw; (simp only [Holds] at hSw); go_simp <;> with_reducible rfl)
      simp only [Act.put, List.setIfInBounds_toArray, List.set_cons_zero, List.set_cons_succ]
      refine until_take (i := 6) (oi := ?oz155) (v := ?vz155) ?iz155 (by kernel_rfl) (by kernel_rfl) (by kernel_rfl) (by kernel_rfl) (by kernel_rfl) ?qz155 (Or.inl ⟨?gz155, ?hz155⟩) (by assumption) ?rz155
      case iz155 => (simp only [List.getElem?_toArray, List.getElem?_cons_zero, List.getElem?_cons_succ]; rfl)
      case qz155 => exact fun _ _ _ h => h
      case gz155 => rfl
      case hz155 => (intro w hSw; (simp only [Holds] at hSw); go_simp <;> with_reducible rfl)
      simp only [Act.put, List.setIfInBounds_toArray, List.set_cons_zero, List.set_cons_succ]
      refine until_take (i := 7) (oi := ?oz156) (v := ?vz156) ?iz156 (by kernel_rfl) (by kernel_rfl) (by kernel_rfl) (by kernel_rfl) (by kernel_rfl) ?qz156 (Or.inl ⟨?gz156, ?hz156⟩) (by assumption) ?rz156
      case iz156 => (simp only [List.getElem?_toArray, List.getElem?_cons_zero, List.getElem?_cons_succ]; rfl)
      case qz156 => exact fun _ _ _ h => h
      case gz156 => rfl
      case hz156 => (intro w hSw; (simp only [Holds] at hSw); go_simp <;> with_reducible rfl)
      simp only [Act.put, List.setIfInBounds_toArray, List.set_cons_zero, List.set_cons_succ]
      refine until_ready (rs := [8]) (by kernel_rfl) (by simp) ?_
      refine (NextU.cons (o := ?oz157) ?iz157 (fun K hK => ?kz157) NextU.nil)
      case iz157 => (simp only [List.getElem?_toArray, List.getElem?_cons_zero, List.getElem?_cons_succ]; rfl)
      go_simp
      have HYe := Lib.hid (HYd.out.later ((Below.refl _ w8).alloc (Nat.le_refl _) (.cells #[.int .i64 0, .int .i64 0, .int .i64 0, .int .i64 0, .int .i64 0, .int .i64 0] 76)))
      refine hK.out _ _ (HHA.out _ (HBd2.out.alloc HBd2.out.size _) HYe.out) (fun hSn => ?_)
      clear hK HYe
      refine until_ready (rs := [9]) (by kernel_rfl) (by simp) ?_
      refine (NextU.late (o := ?oz158) ?iz158 (by first | exact Or.inl rfl | exact Or.inr (by kernel_rfl)) (fun K hK => ?kz158) NextU.nil)
      case iz158 => (simp only [List.getElem?_toArray, List.getElem?_cons_zero, List.getElem?_cons_succ]; rfl)
      go_simp
      refine hK.out _ _ ?_
      clear hK
      refine until_done (by kernel_rfl) ?_ _
      have HB9 := Lib.hid (HBd2.out.alloc HBd2.out.size (boxS sj))
      have HY9 := Lib.hid (HYd.out.later ((Below.refl _ w8).alloc (Nat.le_refl _) (boxS sj)))
      have HL9 := Lib.hid (HLd.out.later ((Below.refl _ w8).alloc (Nat.le_refl _) (boxS sj)))
      have HO9 := Lib.hid (HOd.out.alloc (boxS sj))
      have HS9 := Lib.hid (show LBox (w8.alloc (boxS sj)) w8.heap.size sj from heap_alloc_new w8 _)
      have hNLS := Lib.hid (show NL < w8.heap.size from HLd.out.lt)
      have hNXS := Lib.hid (show w.heap.size < w8.heap.size from HYd.out.lt)
      change Exit.then _ _ _ _ (w8.alloc (boxS sj))
      generalize w8.alloc (boxS sj) = w9 at *
      generalize w8.heap.size = NS at *
      obtain ⟨p0, p1, p2, p3, p4, p5, _⟩ := HL9.out.cells
      obtain ⟨s0, s1, s2, s3, s4, s5, _⟩ := HS9.out.cells
      clear hSn
      go_wp2_with fail
      change Calls _ _ #[stopV s.last, stopV sj] _ _
      refine (rfar_any _ _ _).mono ?_
      rintro e wA ⟨rfl, hb⟩
      have HBA := Lib.hid (HB9.out.trans (hb.mono HB9.out.size))
      have HYA := Lib.hid (HY9.out.later hb)
      have HLA := Lib.hid (HL9.out.later hb)
      have HOA := Lib.hid (HO9.out.below hb)
      have HSA := Lib.hid (HS9.out.later hb)
      clear hb p0 p1 p2 p3 p4 p5 s0 s1 s2 s3 s4 s5
      obtain ⟨d, hd⟩ : ∃ d, farF s.last sj = d := ⟨_, rfl⟩
      have HDD := Lib.hid hd
      rw [hd] at hfb ⊢
      clear hd
      have e1 : IntKind.i64.wrap (s.now + d) = s.now + d := IntWalk.i64_in _ (by omega)
      go_upto_region 17 with fail
      have HR0 := Lib.hid (show RT w w.heap.size NL NS wA.heap.size I (.slice (some ⟨tb, off, none⟩) I.l.length cap) _ s sj ⟨s.now + d, s.now + d, 0⟩ (wA.alloc (.cells #[.int .i64 (s.now + d), .int .i64 (s.now + d), .int .i64 0] 82)) from
        ⟨HOA.out.alloc _, heap_alloc_new wA _, HSA.out.later ((Below.refl _ wA).alloc (Nat.le_refl _) _), HLA.out.later ((Below.refl _ wA).alloc (Nat.le_refl _) _), HYA.out.later ((Below.refl _ wA).alloc (Nat.le_refl _) _), HBA.out.alloc HBA.out.size _⟩)
      have hNT := Lib.hid (show wA.heap.size ≠ NS ∧ wA.heap.size ≠ NL ∧ wA.heap.size ≠ w.heap.size ∧ w.heap.size ≤ wA.heap.size from ⟨by have := HSA.out.lt; omega, by have := HLA.out.lt; omega, by have := HYA.out.lt; omega, HBA.out.size⟩)
      have hOW := Lib.hid (show ∀ v8, OwnT wA w.heap.size v8 s.out → v8.ownBlock ≠ some wA.heap.size from fun v8 ho e => by
        have h2 : wA.ownsRow w.heap.size 82 3 v8 s.out.length (flatT s.out) := ho
        have := (World.ownsRow.lt h2 _ e).2
        omega)
      have hv8 := Lib.hid (hOW.out _ HOA.out)
      generalize wA.alloc (.cells #[.int .i64 (s.now + d), .int .i64 (s.now + d), .int .i64 0] 82) = wB at *
      generalize wA.heap.size = NT at *
      obtain ⟨y0, y1, y2⟩ := HR0.out.tim.cells
      have fy1 := HR0.out.tim.free 1
      obtain ⟨s0, s1, s2, s3, s4, s5, _⟩ := HR0.out.stop.cells
      obtain ⟨beg, hbeg⟩ : ∃ x, max (s.now + d) sj.r = x := ⟨_, rfl⟩
      have hbb : s.now + d ≤ beg ∧ beg ≤ 2100000 := by omega
      have HBG := Lib.hid hbeg
      clear hbeg
      go_upto_if 72 with fail
      go_cut [8] from 32 to 96 (fun v8 wx => v8.ownBlock ≠ some NT ∧ RT w w.heap.size NL NS NT I (.slice (some ⟨tb, off, none⟩) I.l.length cap) v8 s sj ⟨s.now + d, beg, 0⟩ wx)
      case first =>
        by_cases hq : s.now + d < sj.r
        · have hd := decide_eq_true hq
          go_wp2_with fail
          go_meet
          case rel => exact ⟨hv8.out, HR0.out.put 1 _ (by rw [← HBG.out, Int.max_eq_right (Int.le_of_lt hq)]; exact HR0.out.tim.begn _) hv8.out hNT.out.1 hNT.out.2.1 hNT.out.2.2.1 hNT.out.2.2.2⟩
        · have hd := decide_eq_false hq
          go_wp2_with fail
          go_meet
          case rel => exact ⟨hv8.out, by rw [← HBG.out, Int.max_eq_left hq]; exact HR0.out⟩
      case rest =>
        obtain ⟨hv, hrt⟩ := hcut
        have HV := Lib.hid hv
        have HR1 := Lib.hid hrt
        clear y0 y1 y2 fy1 s0 s1 s2 s3 s4 s5 hv hrt e1
        obtain ⟨y0, y1, y2⟩ := HR1.out.tim.cells
        have fy2 := HR1.out.tim.free 2
        obtain ⟨s0, s1, s2, s3, s4, s5, _⟩ := HR1.out.stop.cells
        have e2 : IntKind.i64.wrap (beg + sj.s) = beg + sj.s := IntWalk.i64_in _ (by omega)
        have e3 : IntKind.i64.wrap (s.far + d) = s.far + d := IntWalk.i64_in _ (by omega)
        have HTM := Lib.hid (show tmAt s sj = ⟨s.now + d, beg, beg + sj.s⟩ by unfold tmAt; rw [HDD.out, HBG.out])
        by_cases hdue : sj.u < beg
        · have HTE := Lib.hid (show timesE I l = .error 7 from times_go_err HMY.out (k := k + 1) (by
            rw [HNX.out]; unfold stepE; rw [hseen, if_neg (fun h => h HZ.out), HSJ.out, HTM.out, if_pos hdue]))
          have d1 := decide_eq_true hdue
          clear hdue
          go_wp2
          obtain ⟨k1, k2, k3, _⟩ := err_of HTE.out
          exact bodyPost_ret (v := .tuple #[.slice none 0 0, .int .i64 0, .int .i64 7]) (by simp [results, Tryd.results30, go_sem]) rfl ⟨_, by rw [k1, k3], by rw [k2]; exact ownT_nil _ _, HR1.out.bel⟩
        have HOK := Lib.hid (show goE I (l.take (k + 1)) = .ok (nextT s (j : Int) sj) by
          rw [HNX.out]; unfold stepE; rw [hseen, if_neg (fun h => h HZ.out), HSJ.out, HTM.out, if_neg hdue])
        have d1 := decide_eq_false hdue
        clear hdue
        go_upto_region 22 with fail
        have HR2 := Lib.hid (HR1.out.put 2 _ (HR1.out.tim.leave (beg + sj.s)) HV.out hNT.out.1 hNT.out.2.1 hNT.out.2.2.1 hNT.out.2.2.2)
        generalize wc.setCell ⟨NT, 2, none⟩ (.int .i64 (beg + sj.s)) = wD at *
        clear y0 y1 y2 fy2 s0 s1 s2 s3 s4 s5 d1 e2
        obtain ⟨y0, y1, y2⟩ := HR2.out.tim.cells
        have hout : s.out.length ≤ 1000 := by omega
        go_wp2_with (at_builtin; refine app_times rfl _ _ rfl w.heap.size _ s.out rfl (HR2.out.own.alloc _) _ [⟨s.now + d, beg, beg + sj.s⟩] rfl (trow_new wD ⟨s.now + d, beg, beg + sj.s⟩) (by simp; omega) (by have := HR2.out.bel.size; simp; omega) ?_)
        intro v9 wE own9 grow9 _
        obtain ⟨ht5, hs5, hl5, hy5, hb5⟩ := HR2.out.app HV.out _ grow9
        have HT5 := Lib.hid ht5
        have HS5 := Lib.hid hs5
        have HL5 := Lib.hid hl5
        have HY5 := Lib.hid hy5
        have HB5 := Lib.hid hb5
        have HO5 := Lib.hid own9
        clear ht5 hs5 hl5 hy5 hb5 own9 grow9 y0 y1 y2
        obtain ⟨y0, y1, y2⟩ := HT5.out.cells
        obtain ⟨s0, s1, s2, s3, s4, s5, _⟩ := HS5.out.cells
        obtain ⟨p0, p1, p2, p3, p4, p5, _⟩ := HL5.out.cells
        have f0 := HL5.out.free 0
        have f1 := HL5.out.free 1
        have f2 := HL5.out.free 2
        have f3 := HL5.out.free 3
        have f4 := HL5.out.free 4
        have f5 := HL5.out.free 5
        obtain ⟨x1, x2, x3, x4⟩ := six_last HL5.out HY5.out (by omega) HO5.out HB5.out (Nat.le_of_lt hsz) sj
        have X1 := Lib.hid x1
        have X2 := Lib.hid x2
        have X3 := Lib.hid x3
        have X4 := Lib.hid x4
        clear x1 x2 x3 x4
        go_wp2_with fail
        go_roundw
        case rel => exact ⟨k + 1, _, by omega, by go_num, by rw [← HDD.out]; rfl, by show Value.int .i64 (beg + sj.s) = .int .i64 (tmAt s sj).leave; rw [HTM.out], HOK.out, by show OwnT _ _ _ (s.out ++ [tmAt s sj]); rw [HTM.out]; exact X1.out, X2.out, X3.out, X4.out⟩
        case measure => simp [intOf]; omega
    · obtain rfl : k = l.length := by omega
      have HG2 := Lib.hid (show goE I l = .ok s by have := HGO.out; rwa [List.take_length] at this)
      have hgd := goE_good _ s HG2.out
      have HIN := Lib.hid (show ∀ i ∈ l, 0 ≤ i ∧ i ≤ 2 * I.p from fun i hi2 => by have := hgd.rng i hi2; omega)
      obtain ⟨⟨bn0, bn1⟩, ⟨bf0, bf1⟩, _, _⟩ := goE_bds HF.out _ s HG2.out
      have hlen32 := goE_len HF.out HG2.out
      have hfb := farF_bd s.last (nth I.l 0)
      obtain ⟨c0, c1, c2, c3⟩ := HYB.out.cells
      clear hlt hk hgd
      go_wp2_with fail
      change Calls _ _ #[insV I (.slice (some ⟨tb, off, none⟩) I.l.length cap), _] _ _
      refine (rend_any ⟨HF.out.p0, HF.out.p1⟩ (HR.out.below HBW.out) (HL.out.below HBW.out) HIN.out).mono ?_
      rintro e w7 ⟨rfl, hb⟩
      have HB7 := Lib.hid (HBW.out.trans (hb.mono HBW.out.size))
      have HO7 := Lib.hid (HO.out.below hb)
      have HL7 := Lib.hid (HLB.out.later hb)
      have HY7 := Lib.hid (HYB.out.later hb)
      clear hb c0 c1 c2 c3
      by_cases hz : endE I l = 0
      rotate_left
      · have h8 : endE I l = 8 := by
          unfold endE at hz ⊢
          split
          · rfl
          · next hn => rw [if_neg hn] at hz; exact absurd rfl hz
        have HTE := Lib.hid (show timesE I l = .error 8 by unfold timesE finE; rw [if_pos HMY.out, HG2.out]; simp only [Except.bind]; rw [if_pos hz])
        rw [h8]
        clear hz h8
        go_wp2
        obtain ⟨k1, k2, k3, _⟩ := err_of HTE.out
        exact bodyPost_ret (v := .tuple #[.slice none 0 0, .int .i64 0, .int .i64 8]) (by simp [results, Tryd.results30, go_sem]) rfl ⟨_, by rw [k1, k3], by rw [k2]; exact ownT_nil _ _, HB7.out⟩
      have HZ := Lib.hid hz
      rw [hz]
      clear hz
      go_wp2_with fail
      have HYd := Lib.hid (HY7.out.later ((Below.refl _ w7).drew))
      have HLd := Lib.hid (HL7.out.later ((Below.refl _ w7).drew))
      have HBd := Lib.hid HB7.out.drew
      have htw : tb < w7.drew.heap.size := Nat.lt_of_lt_of_le htb HBd.out.size
      have HS0 := Lib.hid (show Holds ((⟨w.heap.size, 3, none⟩, .slice (some ⟨tb, off, none⟩) I.l.length cap) :: (cellsF tb off (nth I.l 0) ++ cellsP NL s.last)) w7.drew from ⟨HYd.out.cells.2.2.2, Holds.app.2 ⟨holds_at (HA0.out _ HBd.out), HLd.out.cells⟩⟩)
      have hltt := Lib.hid (show Lows w7.drew.heap.size ((⟨w.heap.size, 3, none⟩, .slice (some ⟨tb, off, none⟩) I.l.length cap) :: (cellsF tb off (nth I.l 0) ++ cellsP NL s.last)) from ⟨HYd.out.lt, Lows.app (lows_at htw) (lows_P HLd.out.lt)⟩)
      generalize hyd : nth I.l 0 = Y at *
      have HYY := Lib.hid hyd
      clear hyd
      refine wp_region_held_drew (S := Holds ((⟨w.heap.size, 3, none⟩, .slice (some ⟨tb, off, none⟩) I.l.length cap) :: (cellsF tb off Y ++ cellsP NL s.last))) (by kernel_rfl) HS0.out (fun hSn => ?_)
      have Bc := Lib.hid (Below.refl w7.drew.heap.size w7.drew)
      simp only [cellsF, cellsP, List.cons_append, List.nil_append] at HS0 hltt hSn ⊢
      refine tks [0, 1, 2, 3, 4] 5 rfl (by kernel_rfl) (fun _ _ _ _ h => h) (by assumption) (fun KT hKT => ?_)
      iterate 5 (refine tkT (by (simp only [gA, gB, gC]; rfl)) (by rfl) (by (intro w hSw; (simp only [Holds] at hSw); go_simp <;> with_reducible rfl)) ?_; simp only [Act.put, pA, pB, pC])
      refine hKT _ ?_
      clear KT hKT
      refine wpAnyH_ready (rs := [5]) (by kernel_rfl) (by simp) ?_
      refine AllReadyH.cons (o := ?oz148) ?iz148 (fun K hK => ?kz148) AllReadyH.nil
      case iz148 => (simp only [List.getElem?_toArray, List.getElem?_cons_zero, List.getElem?_cons_succ]; rfl)
      go_simp
      change Calls _ _ #[stopV s.last, stopV Y] _ _
      refine (rfar_any _ _ _).mono ?_
      rintro e w9 ⟨rfl, hb⟩
      refine held_more hK HS0.out hltt (Bc.out.trans (hb.mono Bc.out.size)) (fun Bc hSn => ?_)
      clear hb hK
      refine tks [6] 1 rfl (by kernel_rfl) (fun _ _ _ _ h => h) (by assumption) (fun KT hKT => ?_)
      refine tkT (by (simp only [gA, gB, gC]; rfl)) (by rfl) (by (intro w hSw; (simp only [Holds] at hSw); go_simp <;> with_reducible rfl)) ?_
      simp only [Act.put, pA, pB, pC]
      refine hKT _ ?_
      clear KT hKT
      refine wpAnyH_done (by kernel_rfl) ?_ _
      have HB79 := Lib.hid ((Below.refl w7.heap.size w7).drew.trans Bc.out)
      have HB9 := Lib.hid (HB7.out.trans (HB79.out.mono HB7.out.size))
      have HO9 := Lib.hid (HO7.out.below HB79.out)
      have HY9 := Lib.hid (HY7.out.later HB79.out)
      clear HS0 hltt hSn Bc HYd HLd HBd htw
      obtain ⟨c0, c1, c2, c3⟩ := HY9.out.cells
      obtain ⟨t0, t1, t2, t3, t4, t5⟩ := HA0.out w9 HB9.out
      have HBT := Lib.hid (show backT I s = s.now + farF s.last Y by unfold backT; rw [HYY.out])
      have HFA := Lib.hid (show farF s.last (nth I.l 0) = farF s.last Y by rw [HYY.out])
      generalize farF s.last Y = d at *
      have e1 : IntKind.i64.wrap (s.now + d) = s.now + d := IntWalk.i64_in _ (by omega)
      have e2 : IntKind.i64.wrap (s.far + d) = s.far + d := IntWalk.i64_in _ (by omega)
      by_cases hq : Y.u < s.now + d
      · have HTE := Lib.hid (show timesE I l = .error 7 by
          unfold timesE finE
          rw [if_pos HMY.out, HG2.out]
          simp only [Except.bind]
          rw [if_neg (fun h => h HZ.out), HBT.out, HYY.out, if_pos hq])
        have d1 := decide_eq_true hq
        clear hq
        go_wp2
        obtain ⟨k1, k2, k3, _⟩ := err_of HTE.out
        exact bodyPost_ret (v := .tuple #[.slice none 0 0, .int .i64 0, .int .i64 7]) (by simp [results, Tryd.results30, go_sem]) rfl ⟨_, by rw [k1, k3], by rw [k2]; exact ownT_nil _ _, HB9.out⟩
      · have HTE := Lib.hid (show timesE I l = .ok s by
          unfold timesE finE
          rw [if_pos HMY.out, HG2.out]
          simp only [Except.bind]
          rw [if_neg (fun h => h HZ.out), HBT.out, HYY.out, if_neg hq])
        have d1 := decide_eq_false hq
        clear hq
        go_wp2
        obtain ⟨k1, k2, k3, _⟩ := ok_of HTE.out
        exact bodyPost_ret (v := .tuple #[_, .int .i64 (s.far + d), .int .i64 0]) (by simp [results, Tryd.results30, go_sem]; rfl) rfl ⟨_, by rw [k1, k3, HFA.out], by rw [k2]; exact HO9.out, HB9.out⟩

theorem loadsK_snoc (I : Ins) (l : List Int) {k : Nat} (hk : k < l.length) : loadsL I (l.take (k + 1)) = loadsL I (l.take k) ++ [heldL I (l.take (k + 1))] := by
  rw [take_snoc hk, loadsL_snoc]
end Go.Proofs.YtpdeffpmfbplnaaDoor
