/- The program's own Best: the levels go on by a goto. -/
import Derived.Test.YtgplajofemencaaGreatYM
import Derived.Test.YtgplajofemencaaGreatXN
import Derived.Test.YtgplajofemencaaGreatXK
import Derived.Test.YtgplajofemencaaGreatGProg
import Derived.ScopeJumps
namespace Go.Proofs.YtgplajofemencaaGreat
open Go.ChangeShapes Go.WideShapes Go.ChangeAt Go.RowKit

/-- What is known of a level's nodes, when the program's own functions are to take them. -/
structure LevG (I : Ins) (f : Nat) (l : List Nod) : Prop where
  lev : LevOk I f l
  fit : ∀ n ∈ l, FitSt n.s
  cost : ∀ n ∈ l, Fit n.cost
theorem LevG.nodes {I : Ins} {f : Nat} {l : List Nod} (h : LevG I f l) : NodesOk l := fun n hn => ⟨h.lev.sets n hn, h.fit n hn, h.cost n hn, by have := h.lev.path n hn; omega⟩
theorem levg_first {I : Ins} {n : Nod} (hs : SetsOk n.s) (hp : n.path.length ≤ 1000) (hf : FitSt n.s) (hc : Fit n.cost) : LevG I 44 [n] :=
  ⟨lev_first hs hp, fun x hx => by rw [List.mem_singleton.1 hx]; exact hf, fun x hx => by rw [List.mem_singleton.1 hx]; exact hc⟩
theorem levg_next {I : Ins} {f : Nat} {l : List Nod} {up : Int} (h : LevG I (f + 1) l) {m : List Nod} (hm : ∀ x ∈ m, x ∈ expandL I up l) : LevG I f m := by
  refine ⟨lev_next (up := up) h.lev hm, fun x hx => ?_, fun x hx => ?_⟩
  · obtain ⟨n, hn, j, hc, rfl⟩ := (expand_mem (hm x hx)).1
    exact next_fit hc (h.fit n hn)
  · obtain ⟨n, hn, j, hc, rfl⟩ := (expand_mem (hm x hx)).1
    have := sumOf_bd [n.cost, farS1 I n.s j]
    show Fit (sumOf [n.cost, farS1 I n.s j])
    unfold Fit
    omega
end Go.Proofs.YtgplajofemencaaGreat
