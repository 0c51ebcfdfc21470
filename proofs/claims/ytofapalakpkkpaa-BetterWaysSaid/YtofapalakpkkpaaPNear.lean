/- What plane's Near answers. -/
import Derived.Test.YtofapalakpkkpaaXPMat
namespace Go.Proofs.Ytofapalakpkkpaa
open Go.ChangeShapes Go.WideShapes Go.ChangeAt Go.RowKit

/-- Of each row the least, less the one at its own place. -/
def nearK (M : List (List Int)) (k : Nat) : List Int := (List.range k).map (fun i => leastL ((M.getD i []).eraseIdx i))
def nearM (M : List (List Int)) : List Int := nearK M M.length
theorem nearK_next (M : List (List Int)) (k : Nat) : nearK M (k + 1) = nearK M k ++ [leastL ((M.getD k []).eraseIdx k)] := by
  unfold nearK; rw [List.range_succ, List.map_append]; rfl
theorem nearK_len (M : List (List Int)) (k : Nat) : (nearK M k).length = k := by simp [nearK]
theorem erase_two (l : List Int) (k : Nat) : [l.take k, l.drop (k + 1)].flatten = l.eraseIdx k := by
  rw [List.eraseIdx_eq_take_drop_succ]; simp
/-- One number put behind numbers that a call has made, at a step of a drawn region. -/
theorem wp_app_int {w : World} {o : Oper} {a : Act} {K : Act → World → Prop} {Q : Exit → Act → World → Prop} (s x : Operand)
    (ho : o.op = .call { callee := .builtin .append, args := #[s, x], argTypes := #[25, 25] }) (B : Nat) (v : Value) (ys : List Int) (hs : a.eval s = v) (hown : OwnI w B v ys)
    (g : Nat) (n : Int) (hx : a.eval x = .slice (some ⟨g, 0, none⟩) 1 1) (hg : w.cell? ⟨g, 0, none⟩ = some (.int .i64 n)) (hlen : ys.length ≤ 1000000) (hB : B ≤ w.heap.size)
    (h : ∀ v' w', OwnI w' B v' (ys ++ [n]) → w.grownBy w' v.ownBlock → K (a.put o.dst v') w') : o.wp Try.prog a w K Q := by
  obtain ⟨i0, hi, hz0, hz1, hz2⟩ := info_parts infoInt
  refine wp_append_lies w s x 25 ho B 3 i0 _ 1 8 Try.underlying25 hi hz0 hz1 hz2 rfl (by decide) v ys.length (ints ys) hs hown ⟨g, 0, none⟩ 1 1 [.int .i64 n] hx rfl ?_ (by simp [Value.oneCell']) (by decide) (by unfold maxLen; omega) (by omega) hB _ rfl ?_
  · intro j u hj
    match j with
    | 0 => simp at hj; subst hj; rw [add_off]; exact hg
    | j + 1 => simp at hj
  · intro g' cap w' h1 h2 _ _
    refine h _ w' ?_ h2
    unfold OwnI
    rw [List.length_append, show ints (ys ++ [n]) = ints ys ++ [.int .i64 n] by simp [ints]]
    exact h1
end Go.Proofs.Ytofapalakpkkpaa
