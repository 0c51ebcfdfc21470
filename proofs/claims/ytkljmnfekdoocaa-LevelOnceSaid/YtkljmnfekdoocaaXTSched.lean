/- How the way of a car, as the program goes it, is the document's: bounds, what is wrong with a stop, what is wrong with the yard. -/
import Derived.Test.YtkljmnfekdoocaaXTCar
import Derived.Test.YtkljmnfekdoocaaXTVisit
import Derived.Deep.WholeRow
import Derived.Test.YtkljmnfekdoocaaXIOwn
namespace Go.Proofs.Ytkljmnfekdoocaa

theorem nodup_le : ∀ (m : Nat) (l : List Int), l.Nodup → (∀ i, i ∈ l → 1 ≤ i ∧ i ≤ (m : Int)) → l.length ≤ m
  | 0, l, _, h => by
    match l with
    | [] => simp
    | i :: _ => have := h i (by simp); omega
  | m + 1, l, hn, h => by
    have h1 : (l.erase ((m : Int) + 1)).length ≤ m := nodup_le m _ (hn.erase _) (fun i hi => by
      have h2 := (hn.mem_erase_iff).1 hi
      have := h i h2.2
      have := h2.1
      omega)
    by_cases c : (m : Int) + 1 ∈ l
    · rw [List.length_erase_of_mem c] at h1; omega
    · rw [List.erase_of_not_mem c] at h1; omega
theorem goE_len {I : Ins} (hf : Fine I) {l : List Int} {s : TS} (h : goE I l = .ok s) : l.length ≤ 32 := by
  have hg := goE_good l s h
  have := nodup_le (2 * I.p).toNat l hg.nodup (fun i hi => by have := hg.rng i hi; have := hf.p0; omega)
  have := hf.p1
  omega
/-- The bounds of what a car is at. -/
theorem goE_bds {I : Ins} (hf : Fine I) : ∀ (l : List Int) (s : TS), goE I l = .ok s → (0 ≤ s.now ∧ s.now ≤ 1049576) ∧ (0 ≤ s.far ∧ s.far ≤ 14143 * (l.length : Int)) ∧ (0 ≤ heldL I l ∧ heldL I l ≤ 1000) ∧ ∃ a : Nat, a < I.l.length ∧ atS l = (a : Int) ∧ s.last = stp I a :=
  goE_ind (by
    have h0 := stop_in (hf.ok 0 (Int.le_refl _) (by have := hf.p0; omega))
    have hl := hf.len
    have hp := hf.p0
    refine ⟨?_, by simp [startT], by rw [heldL_nil]; omega, 0, by omega, rfl, rfl⟩
    show 0 ≤ (stp I 0).r ∧ (stp I 0).r ≤ 1049576
    omega) (fun l i s s' hg hp h => by
    obtain ⟨_, ⟨f0, f1⟩, ⟨h0, _⟩, _⟩ := hp
    have hgo : goE I (l ++ [i]) = .ok s' := by rw [goE_snoc, hg]; exact h
    obtain ⟨hw, hb, rfl⟩ := stepE_ok h
    rw [(goE_seen l s hg).1] at hw
    obtain ⟨w1, w2, w3, w4, w5⟩ := wrongE_zero hw
    obtain ⟨_, _, k0, k1, k2⟩ := stop_in (hf.ok i (by omega) w2)
    have hfb := farF_bd s.last (stp I i)
    have hl := hf.len
    have hr := hf.room
    have hh := held_nonneg hf hgo
    have hb2 : (stp I i).r ≤ (tmAt s (stp I i)).begn := Int.le_max_right _ _
    refine ⟨?_, ?_, ⟨hh, by rw [heldL_snoc]; omega⟩, i.toNat, by omega, by rw [atS_snoc]; omega, ?_⟩
    · show 0 ≤ (tmAt s (stp I i)).begn + (stp I i).s ∧ (tmAt s (stp I i)).begn + (stp I i).s ≤ 1049576
      omega
    · show 0 ≤ s.far + farF s.last (stp I i) ∧ s.far + farF s.last (stp I i) ≤ 14143 * ((l ++ [i]).length : Int)
      rw [List.length_append, List.length_singleton]
      omega
    · show stp I i = stp I _
      rw [show ((i.toNat : Nat) : Int) = i by omega])
theorem step_next {I : Ins} {s : TS} {i : Int} : stepE I s i = if nextE I s.seen s.now s.last i ≠ 0 then .error (nextE I s.seen s.now s.last i) else .ok (nextT s i (stp I i)) := by
  unfold stepE nextE
  rw [tmAt_eq]
  by_cases h1 : wrongE I s.seen i = 0 <;> by_cases h2 : (stp I i).u < (tmN s.now s.last (stp I i)).begn <;> simp [h1, h2]
theorem end_held {I : Ins} (hf : Fine I) {l : List Int} {s : TS} (h : goE I l = .ok s) : endE I l = 0 ↔ ¬ 0 < heldL I l := by
  constructor
  · intro he; rw [held_end hf h he]; omega
  · intro hn
    refine endE_of (fun i hi hp => Decidable.byContradiction (fun hc => ?_))
    have h1 := held_ge hf h hi hp hc
    have h2 := (goE_good l s h).rng i hi
    have h3 := hf.take i h2.1 hp
    omega
/-- The whole way, as the program goes it. -/
theorem fin_back {I : Ins} (hf : Fine I) {l : List Int} {s : TS} (h : goE I l = .ok s) : finE I l = if backE (heldL I l) I s.now s.last ≠ 0 then .error (backE (heldL I l) I s.now s.last) else .ok s := by
  unfold finE backE
  rw [h]
  simp only [Except.bind]
  by_cases h1 : 0 < heldL I l
  · have : endE I l ≠ 0 := fun e => ((end_held hf h).1 e) h1
    rw [if_pos this, if_pos h1]; rfl
  · have : endE I l = 0 := (end_held hf h).2 h1
    rw [if_neg (by omega), if_neg h1]
    unfold backT
    by_cases h2 : (nth I.l 0).u < s.now + farF s.last (nth I.l 0)
    · rw [if_pos h2, if_pos h2]; rfl
    · rw [if_neg h2, if_neg h2]; rfl
section
variable {I : Ins} {l : List Int} {e : Int} {s : TS}
theorem err_of (h : timesE I l = .error e) : errT I l = e ∧ outT I l = [] ∧ farT I l = 0 ∧ loadsT I l = [] := by
  have he := timesE_err h
  have h1 : errT I l = e := by unfold errT; rw [h]
  exact ⟨h1, by unfold outT; rw [h], by unfold farT; rw [h], by unfold loadsT; rw [if_neg (by omega)]⟩
theorem ok_of (h : timesE I l = .ok s) : errT I l = 0 ∧ outT I l = s.out ∧ farT I l = s.far + farF s.last (nth I.l 0) ∧ loadsT I l = loadsL I l := by
  exact ⟨by unfold errT; rw [h], by unfold outT; rw [h], by unfold farT; rw [h], loadsT_at h⟩
theorem times_go_err (hm : mayB I = true) {k : Nat} (h : goE I (l.take k) = .error e) : timesE I l = .error e := by
  unfold timesE finE
  rw [if_pos hm]
  have := goE_stays (b := l.drop k) h
  rw [List.take_append_drop] at this
  rw [this]; rfl
end
theorem go_take_next {I : Ins} {l : List Int} {k : Nat} {s : TS} (hk : k < l.length) (h : goE I (l.take k) = .ok s) : goE I (l.take (k + 1)) = stepE I s (l.getD k 0) := by
  rw [take_snoc hk, goE_snoc, h]; rfl
end Go.Proofs.Ytkljmnfekdoocaa
/- What a car's follow answers: the whole way. -/
namespace Go.Proofs.Ytkljmnfekdoocaa
open Go.ChangeShapes Go.WideShapes Go.ChangeAt Go.RowKit

theorem below_cells {M b : Nat} (hb : M ≤ b) : ∀ (vs : List Value) (o : Nat) (w0 w : World), Below M w0 w → Below M w0 (w.setCells b o vs)
  | [], _, _, _, h => h
  | v :: vs, o, w0, _, h => below_cells hb vs (o + 1) w0 _ (h.setCell (p := ⟨b, o, none⟩) hb v)
def carZ : List Value := carC noIns (.slice none 0 0) 0 0 0 0 (List.replicate 33 false) (.slice none 0 0) (.slice none 0 0)
end Go.Proofs.Ytkljmnfekdoocaa
/- What sched's Times and Loads answer. -/
namespace Go.Proofs.Ytkljmnfekdoocaa
open Go.ChangeShapes Go.WideShapes Go.ChangeAt Go.RowKit

/-- A whole struct, into the block that was made last. -/
theorem wpList_store_whole {P : Program} {ops : Array Oper} {rest : List Oper} {op : Oper} {a : Act} {w : World} {Q : Exit → Act → World → Prop} (hgd : op.guard = none) (ty : TypeId) (x y : Operand) (ho : op.op = .store ty x y)
    (W : World) (N : Nat) (c c' : Array Value) (hw : w = W.alloc (.cells c ty)) (hN : W.heap.size = N) (hx : a.eval x = .pointer (some ⟨N, 0, none⟩)) (hy : a.eval y = .agg c')
    (hi : (P.info? ty).map (·.size) = some c'.size) (hs : c.size = c'.size) (h1 : c'.all (·.oneCell') = true)
    (h : wpList P ops Q rest (a.put op.dst undef) (W.alloc (.cells c' ty))) : wpList P ops Q (op :: rest) a w := by
  subst hw hN
  refine wpList_plain hgd fun K hK => ?_
  unfold Oper.wp execOp
  simp only [ho, hx, hy, run_storeAt_new W ty c c' hi hs h1, Sem.run_bind, Sem.run_pure, Result.andThen_ok]
  exact hK _ _ h
end Go.Proofs.Ytkljmnfekdoocaa
/- The chapter's example. -/
namespace Go.Proofs.Ytkljmnfekdoocaa
open Go.ChangeShapes Go.WideShapes Go.ChangeAt Go.RowKit

theorem small_f1 : farF (nth smallI.l 0) (stp smallI 1) = 3 := rootOf_eq 9 3 (by decide) (by decide) ⟨by decide, by decide, by decide⟩
theorem small_f2 : farF (stp smallI 1) (stp smallI 2) = 5 := rootOf_eq 25 5 (by decide) (by decide) ⟨by decide, by decide, by decide⟩
theorem small_f3 : farF (stp smallI 2) (nth smallI.l 0) = 4 := rootOf_eq 16 4 (by decide) (by decide) ⟨by decide, by decide, by decide⟩
theorem small_t1 : tmAt (startT smallI) (stp smallI 1) = ⟨3, 3, 4⟩ := by
  unfold tmAt
  rw [show farF (startT smallI).last (stp smallI 1) = 3 from small_f1]; rfl
theorem small_t2 : tmAt (nextT (startT smallI) 1 (stp smallI 1)) (stp smallI 2) = ⟨9, 9, 10⟩ := by
  unfold tmAt
  rw [show farF (nextT (startT smallI) 1 (stp smallI 1)).last (stp smallI 2) = 5 from small_f2, show (nextT (startT smallI) 1 (stp smallI 1)).now = 4 by unfold nextT; rw [small_t1]]; rfl
theorem small_times : ∃ s, timesE smallI [1, 2] = .ok s ∧ s.out = [⟨3, 3, 4⟩, ⟨9, 9, 10⟩] ∧ s.far + farF s.last (nth smallI.l 0) = 12 := by
  have hs1 : stepE smallI (startT smallI) 1 = .ok (nextT (startT smallI) 1 (stp smallI 1)) := by
    unfold stepE
    rw [small_t1, if_neg (by decide), if_neg (by decide)]
  have hs2 : stepE smallI (nextT (startT smallI) 1 (stp smallI 1)) 2 = .ok (nextT (nextT (startT smallI) 1 (stp smallI 1)) 2 (stp smallI 2)) := by
    unfold stepE
    rw [small_t2, if_neg (by show ¬ wrongE smallI [1] 2 ≠ 0; decide), if_neg (by decide)]
  have hg : goE smallI [1, 2] = .ok (nextT (nextT (startT smallI) 1 (stp smallI 1)) 2 (stp smallI 2)) := by
    show (stepE smallI (startT smallI) 1).bind (fun s => stepE smallI s 2) = _
    rw [hs1]; exact hs2
  refine ⟨_, timesE_of small_ok.2.2.1 hg (by decide) ?_, ?_, ?_⟩
  · unfold backT
    rw [show farF (nextT (nextT (startT smallI) 1 (stp smallI 1)) 2 (stp smallI 2)).last (nth smallI.l 0) = 4 from small_f3]
    show (tmAt (nextT (startT smallI) 1 (stp smallI 1)) (stp smallI 2)).leave + 4 ≤ _
    rw [small_t2]; decide
  · show ((startT smallI).out ++ [tmAt (startT smallI) (stp smallI 1)]) ++ [tmAt (nextT (startT smallI) 1 (stp smallI 1)) (stp smallI 2)] = _
    rw [small_t1, small_t2]; rfl
  · show (startT smallI).far + farF (nth smallI.l 0) (stp smallI 1) + farF (stp smallI 1) (stp smallI 2) + farF (stp smallI 2) (nth smallI.l 0) = 12
    rw [small_f1, small_f2, small_f3]; rfl
theorem small_all : errT smallI [1, 2] = 0 ∧ outT smallI [1, 2] = [⟨3, 3, 4⟩, ⟨9, 9, 10⟩] ∧ farT smallI [1, 2] = 12 := by
  obtain ⟨s, h1, h2, h3⟩ := small_times
  obtain ⟨t1, t2, t3, _⟩ := ok_of h1
  exact ⟨t1, t2.trans h2, t3.trans h3⟩
/-- Two numbers in a list made on the spot. -/
theorem row_two (w : World) (a b : Int) : Row (w.alloc (.cells #[.int .i64 a, .int .i64 b] 3)) (.slice (some ⟨w.heap.size, 0, none⟩) 2 2) (ints [a, b]) := by
  refine ⟨by simp [ints, maxLen], _, _, rfl, by simp [ints], ⟨by simp [maxLen], by simp⟩, .inr ⟨_, _, rfl, fun i hi => ?_⟩⟩
  rw [cell_of_row _ _ _ _ _ _ (heap_alloc_new w _), Nat.zero_add]
  simp [ints]
end Go.Proofs.Ytkljmnfekdoocaa
