/- How the way of a car, as the program goes it, is the document's: bounds, what is wrong with a stop, what is wrong with the yard. -/
import Derived.Test.YtgplajofemencaaGreatXTCar
import Derived.Test.YtgplajofemencaaGreatXTVisit
import Derived.Deep.WholeRow
import Derived.Test.YtgplajofemencaaGreatYB
namespace Go.Proofs.YtgplajofemencaaGreat

theorem nodup_le : ∀ (m : Nat) (l : List Int), l.Nodup → (∀ i, i ∈ l → 1 ≤ i ∧ i ≤ (m : Int)) → l.length ≤ m
  | 0, l, _, h => by
    match l with
    | [] => simp
    | i :: _ => have := h i (by simp); omega
  | m + 1, l, hn, h => by
    have h1 : (l.erase ((m : Int) + 1)).length ≤ m := nodup_le m _ (hn.erase _) (fun i hi => by
      have h2 := (hn.mem_erase_iff).1 hi
      have := h i h2.2
      have := h2.1
      omega)
    by_cases c : (m : Int) + 1 ∈ l
    · rw [List.length_erase_of_mem c] at h1; omega
    · rw [List.erase_of_not_mem c] at h1; omega
theorem goE_len {I : Ins} (hf : Fine I) {l : List Int} {s : TS} (h : goE I l = .ok s) : l.length ≤ 32 := by
  have hg := goE_good l s h
  have := nodup_le (2 * I.p).toNat l hg.nodup (fun i hi => by have := hg.rng i hi; have := hf.p0; omega)
  have := hf.p1
  omega
/-- The bounds of what a car is at. -/
theorem goE_bds {I : Ins} (hf : Fine I) : ∀ (l : List Int) (s : TS), goE I l = .ok s → (0 ≤ s.now ∧ s.now ≤ 1049576) ∧ (0 ≤ s.far ∧ s.far ≤ 14143 * (l.length : Int)) ∧ (0 ≤ heldL I l ∧ heldL I l ≤ 1000) ∧ ∃ a : Nat, a < I.l.length ∧ atS l = (a : Int) ∧ s.last = stp I a :=
  goE_ind (by
    have h0 := stop_in (hf.ok 0 (Int.le_refl _) (by have := hf.p0; omega))
    have hl := hf.len
    have hp := hf.p0
    refine ⟨?_, by simp [startT], by rw [heldL_nil]; omega, 0, by omega, rfl, rfl⟩
    show 0 ≤ (stp I 0).r ∧ (stp I 0).r ≤ 1049576
    omega) (fun l i s s' hg hp h => by
    obtain ⟨_, ⟨f0, f1⟩, ⟨h0, _⟩, _⟩ := hp
    have hgo : goE I (l ++ [i]) = .ok s' := by rw [goE_snoc, hg]; exact h
    obtain ⟨hw, hb, rfl⟩ := stepE_ok h
    rw [(goE_seen l s hg).1] at hw
    obtain ⟨w1, w2, w3, w4, w5⟩ := wrongE_zero hw
    obtain ⟨_, _, k0, k1, k2⟩ := stop_in (hf.ok i (by omega) w2)
    have hfb := farF_bd s.last (stp I i)
    have hl := hf.len
    have hr := hf.room
    have hh := held_nonneg hf hgo
    have hb2 : (stp I i).r ≤ (tmAt s (stp I i)).begn := Int.le_max_right _ _
    refine ⟨?_, ?_, ⟨hh, by rw [heldL_snoc]; omega⟩, i.toNat, by omega, by rw [atS_snoc]; omega, ?_⟩
    · show 0 ≤ (tmAt s (stp I i)).begn + (stp I i).s ∧ (tmAt s (stp I i)).begn + (stp I i).s ≤ 1049576
      omega
    · show 0 ≤ s.far + farF s.last (stp I i) ∧ s.far + farF s.last (stp I i) ≤ 14143 * ((l ++ [i]).length : Int)
      rw [List.length_append, List.length_singleton]
      omega
    · show stp I i = stp I _
      rw [show ((i.toNat : Nat) : Int) = i by omega])
section
variable {I : Ins} {l : List Int} {e : Int} {s : TS}
end
end Go.Proofs.YtgplajofemencaaGreat
/- What a car's follow answers: the whole way. -/
namespace Go.Proofs.YtgplajofemencaaGreat
open Go.ChangeShapes Go.WideShapes Go.ChangeAt Go.RowKit

/-- A car on its way behind some stops. -/
structure OnWay (w0 : World) (b : Nat) (I : Ins) (sv : Value) (s : TS) (w : World) : Prop where
  lies : ∃ (a : Nat) (tv lv : Value), a < I.l.length ∧ s.last = stp I a ∧ CarB w b I sv a s.now s.far (heldL I s.seen) (seenB s.seen) tv lv ∧ OwnT w w0.heap.size tv s.out ∧ OwnI w w0.heap.size lv (loadsL I s.seen)
  bel : Below w0.heap.size w0 w
theorem OnWay.later {w0 w w' : World} {b : Nat} {I : Ins} {sv : Value} {s : TS} (h : OnWay w0 b I sv s w) (hb : Below w.heap.size w w') : OnWay w0 b I sv s w' := by
  obtain ⟨⟨a, tv, lv, h1, h2, h3, h4, h5⟩, h6⟩ := h
  exact ⟨⟨a, tv, lv, h1, h2, h3.later hb, h4.below hb, h5.below hb⟩, h6.trans (hb.mono h6.size)⟩
theorem CarB.there {w : World} {b : Nat} {I : Ins} {sv : Value} {a n g h : Int} {S : List Bool} {tv lv : Value} (k : CarB w b I sv a n g h S tv lv) : w.there b 0 43 := fun j hj => by
  rw [Nat.zero_add]
  refine ⟨?_, k.free j⟩
  rw [k.cell, List.getElem?_eq_getElem (by rw [carC_len k.1]; exact hj)]
  rfl
end Go.Proofs.YtgplajofemencaaGreat
/- What sched's Times and Loads answer. -/
namespace Go.Proofs.YtgplajofemencaaGreat
open Go.ChangeShapes Go.WideShapes Go.ChangeAt Go.RowKit

end Go.Proofs.YtgplajofemencaaGreat
/- The chapter's example. -/
namespace Go.Proofs.YtgplajofemencaaGreat
open Go.ChangeShapes Go.WideShapes Go.ChangeAt Go.RowKit

theorem small_f1 : farF (nth smallI.l 0) (stp smallI 1) = 3 := rootOf_eq 9 3 (by decide) (by decide) ⟨by decide, by decide, by decide⟩
theorem small_f2 : farF (stp smallI 1) (stp smallI 2) = 5 := rootOf_eq 25 5 (by decide) (by decide) ⟨by decide, by decide, by decide⟩
theorem small_f3 : farF (stp smallI 2) (nth smallI.l 0) = 4 := rootOf_eq 16 4 (by decide) (by decide) ⟨by decide, by decide, by decide⟩
/-- Two numbers in a list made on the spot. -/
theorem row_two (w : World) (a b : Int) : Row (w.alloc (.cells #[.int .i64 a, .int .i64 b] 3)) (.slice (some ⟨w.heap.size, 0, none⟩) 2 2) (ints [a, b]) := by
  refine ⟨by simp [ints, maxLen], _, _, rfl, by simp [ints], ⟨by simp [maxLen], by simp⟩, .inr ⟨_, _, rfl, fun i hi => ?_⟩⟩
  rw [cell_of_row _ _ _ _ _ _ (heap_alloc_new w _), Nat.zero_add]
  simp [ints]
end Go.Proofs.YtgplajofemencaaGreat
