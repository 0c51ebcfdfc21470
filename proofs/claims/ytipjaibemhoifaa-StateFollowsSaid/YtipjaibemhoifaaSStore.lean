/- A state stored whole, at a step of a drawn region. -/
import Derived.Test.YtipjaibemhoifaaXSNext
namespace Go.Proofs.Ytipjaibemhoifaa
open Go.ChangeShapes Go.WideShapes Go.ChangeAt Go.RowKit

theorem wp_store_state {op : Oper} {a : Act} {w : World} {K : Act → World → Prop} {Q : Exit → Act → World → Prop} (x y : Operand) (ho : op.op = .store 27 x y)
    (r : Nat) (s0 s : Sta) (hx : a.eval x = .pointer (some ⟨r, 0, none⟩)) (hy : a.eval y = staV s) (k : StB w r s0)
    (h : ∀ w', StB w' r s → (∀ M, M ≤ r → Below M w w') → K (a.put op.dst undef) w') : op.wp Try.prog a w K Q := by
  refine wp_store_mid 27 x y ho r 0 (stL s).toArray hx (hy.trans rfl) (by exact k.there) (by exact infoState) (all_oneCell_toArray (fun v hv => by
    simp only [stL, List.mem_cons, List.not_mem_nil, or_false] at hv
    rcases hv with rfl | rfl | rfl | rfl | rfl | rfl | rfl | rfl <;> rfl)) ?_
  exact h _ (by exact put_state k s) (fun M hM => by exact put_below hM s)
end Go.Proofs.Ytipjaibemhoifaa
