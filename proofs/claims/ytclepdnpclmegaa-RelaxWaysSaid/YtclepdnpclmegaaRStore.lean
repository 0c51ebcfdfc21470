/- A whole state stored over another one: what else stays. -/
import Derived.Test.YtclepdnpclmegaaRHold
import Derived.Test.YtclepdnpclmegaaXSDoc
import Derived.Test.YtclepdnpclmegaaXSNext
namespace Go.Proofs.Ytclepdnpclmegaa
open Go.ChangeShapes Go.WideShapes Go.ChangeAt Go.RowKit

theorem put_other {w : World} {r b : Nat} (h : b ≠ r) (s : Sta) : (w.setCells r 0 (stL s)).heap[b]? = w.heap[b]? :=
  (heap_setCell_other _ ⟨r, 7, none⟩ b _ h).trans ((heap_setCell_other _ ⟨r, 6, none⟩ b _ h).trans ((heap_setCell_other _ ⟨r, 5, none⟩ b _ h).trans ((heap_setCell_other _ ⟨r, 4, none⟩ b _ h).trans ((heap_setCell_other _ ⟨r, 3, none⟩ b _ h).trans ((heap_setCell_other _ ⟨r, 2, none⟩ b _ h).trans ((heap_setCell_other _ ⟨r, 1, none⟩ b _ h).trans (heap_setCell_other _ ⟨r, 0, none⟩ b _ h)))))))
theorem wpList_store_over {ops : Array Oper} {rest : List Oper} {op : Oper} {a : Act} {w : World} {Q : Exit → Act → World → Prop} (hgd : op.guard = none) (x y : Operand) (ho : op.op = .store 24 x y)
    (r : Nat) (s0 s : Sta) (hx : a.eval x = .pointer (some ⟨r, 0, none⟩)) (hy : a.eval y = staV s) (k : StB w r s0)
    (h : ∀ w', StB w' r s → (∀ M, M ≤ r → Below M w w') → (∀ b, b ≠ r → w'.heap[b]? = w.heap[b]?) → wpList Try.prog ops Q rest (a.put op.dst undef) w') : wpList Try.prog ops Q (op :: rest) a w := by
  refine wpList_store_mid hgd 24 x y ho r 0 (stL s).toArray hx (hy.trans rfl) (by exact k.there) (by exact infoState) (all_oneCell_toArray (fun v hv => by
    simp only [stL, List.mem_cons, List.not_mem_nil, or_false] at hv
    rcases hv with rfl | rfl | rfl | rfl | rfl | rfl | rfl | rfl <;> rfl)) ?_
  exact h _ (by exact put_state k s) (fun M hM => by exact put_below hM s) (fun b hb => by exact put_other hb s)
theorem StB.same {w w' : World} {b : Nat} {s : Sta} (k : StB w b s) (h : w'.heap[b]? = w.heap[b]?) : StB w' b s := by unfold StB; rw [h]; exact k
end Go.Proofs.Ytclepdnpclmegaa
