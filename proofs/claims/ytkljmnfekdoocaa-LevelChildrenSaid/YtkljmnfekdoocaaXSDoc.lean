/- The document's own answers: may a state go on, all stops, home, a visit. -/
import Derived.Test.YtkljmnfekdoocaaSAwake
import Derived.Test.YtkljmnfekdoocaaXSNext
namespace Go.Proofs.Ytkljmnfekdoocaa
open Go.ChangeShapes Go.WideShapes Go.ChangeAt Go.RowKit

/-- The boxes of a call: the instance, the state, the answer's cells. -/
theorem boxes_ans (w : World) (I : Ins) (v : Value) (s : Sta) : YBox (((w.alloc (boxI I v)).alloc (boxSt s)).alloc (boxSt noughtS)) w.heap.size I v ∧ StB (((w.alloc (boxI I v)).alloc (boxSt s)).alloc (boxSt noughtS)) (w.heap.size + 1) s ∧
    StB (((w.alloc (boxI I v)).alloc (boxSt s)).alloc (boxSt noughtS)) (w.heap.size + 1 + 1) noughtS ∧ Below w.heap.size w (((w.alloc (boxI I v)).alloc (boxSt s)).alloc (boxSt noughtS)) := by
  obtain ⟨h1, h2, h3⟩ := boxes_two w I v s
  have e1 : ((w.alloc (boxI I v)).alloc (boxSt s)).heap.size = w.heap.size + 1 + 1 := by simp
  have a3 := st_new ((w.alloc (boxI I v)).alloc (boxSt s)) noughtS
  rw [e1] at a3
  exact ⟨h1.later ((Below.refl _ _).alloc (Nat.le_refl _) _), h2.later ((Below.refl _ _).alloc (Nat.le_refl _) _), a3, h3.alloc h3.size _⟩
end Go.Proofs.Ytkljmnfekdoocaa
/- The document's own Move. -/
namespace Go.Proofs.Ytkljmnfekdoocaa
open Go.ChangeShapes Go.WideShapes Go.ChangeAt Go.RowKit

end Go.Proofs.Ytkljmnfekdoocaa
/- The document's own Moves, End and Follow. -/
namespace Go.Proofs.Ytkljmnfekdoocaa
open Go.ChangeShapes Go.WideShapes Go.ChangeAt Go.RowKit

theorem movesN_mayD {I : Ins} {s : Sta} {n : Nat} (h : I.l.length ≤ n) : movesN I s n = movesS I s := by
  cases hm : mayB I with
  | true => exact movesN_all (by have := (fine_of hm).len; omega)
  | false =>
    have hg : ¬ GoOn I s := fun h => by have := h.1; rw [hm] at this; cases this
    rw [moves_none hg]
    unfold movesN
    rw [List.filter_eq_nil_iff]
    intro j _
    simp only [decide_eq_true_eq]
    exact fun hc => hg hc.1
theorem movesN_few {I : Ins} {s : Sta} {n : Nat} : (movesN I s n).length ≤ 33 := by
  cases hm : mayB I with
  | false =>
    have : movesN I s n = [] := by
      unfold movesN
      rw [List.filter_eq_nil_iff]
      intro j _
      simp only [decide_eq_true_eq]
      exact fun hc => by have := hc.1.1; rw [hm] at this; cases this
    rw [this]
    exact Nat.zero_le _
  | true =>
    have hp := (fine_of hm).p1
    have hp0 := (fine_of hm).p0
    by_cases h : (2 * I.p + 1).toNat ≤ n
    · rw [movesN_all h]
      have := movesN_len I s (2 * I.p + 1).toNat
      unfold movesS
      omega
    · have := movesN_len I s n
      omega
end Go.Proofs.Ytkljmnfekdoocaa
