/- slices.IndexFunc, ContainsFunc over numbers, asked by a closure that only makes memory. -/
import Derived.Test.YtgplajofemencaaGreatYC
import Derived.Test.YtgplajofemencaaGreatXN
import Derived.Lib.SliceRun
namespace Go.Proofs.YtgplajofemencaaGreat
open Go.ChangeShapes Go.WideShapes Go.ChangeAt Go.RowKit

/-- What a closure is asked, in each world that differs from w only in block g, and in what is new. -/
def Asks (w : World) (g : Option Nat) (F : Nat) (c1 c2 : Value) (p : Int → Bool) (l : List Int) : Prop :=
  ∀ x ∈ l, ∀ w', w.grownBy w' g → Calls Tryz.prog F #[.int .i64 x, c1, c2] w' fun e w2 => e = .returned (.bool (p x)) ∧ Below w'.heap.size w' w2
theorem grown_from {w w' : World} {g : Option Nat} (h : Below w.heap.size w w') : w.grownBy w' g := ⟨h.os, h.tape, h.output, h.size, fun k hk _ => h.block k hk⟩
theorem grown_thr {a b c : World} {g : Option Nat} (h : a.grownBy b g) (k : b.grownBy c g) : a.grownBy c g :=
  ⟨k.os.trans h.os, k.tape.trans h.tape, k.output.trans h.output, Nat.le_trans h.size k.size, fun i hi hne => (k.block i (Nat.lt_of_lt_of_le hi h.size) hne).trans (h.block i hi hne)⟩
theorem Asks.later {w w' : World} {g : Option Nat} {F : Nat} {c1 c2 : Value} {p : Int → Bool} {l : List Int} (h : Asks w g F c1 c2 p l) (hg : w.grownBy w' g) : Asks w' g F c1 c2 p l :=
  fun x hx w2 h2 => h x hx w2 (grown_thr hg h2)
end Go.Proofs.YtgplajofemencaaGreat
/- slices.DeleteFunc over numbers that the call has made, asked by a closure that only makes memory. -/
namespace Go.Proofs.YtgplajofemencaaGreat
open Go.ChangeShapes Go.WideShapes Go.ChangeAt Go.RowKit

theorem OwnI.len {w : World} {B n cap : Nat} {a : Option Addr} {l : List Int} (h : OwnI w B (.slice a n cap) l) : n = l.length := by
  obtain ⟨_, _, he⟩ := h.shape
  simp at he; exact he.2.1
theorem OwnI.cut {w : World} {B g n cap : Nat} {l : List Int} (h : OwnI w B (.slice (some ⟨g, 0, none⟩) n cap) l) {i : Nat} (hi : i ≤ n) : OwnI w B (.slice (some ⟨g, 0, none⟩) i cap) (l.take i) := by
  have hn := h.len
  subst hn
  obtain ⟨h1, h2⟩ := (show w.ownsRow B 3 1 (.slice (some ⟨g, 0, none⟩) l.length cap) l.length (ints l) from h)
  rcases h2 with ⟨h3, _⟩ | ⟨g', cap', cur, h3, h4, h5, h6, h7, h8, h9⟩
  · cases h3
  · simp only [Value.slice.injEq, Option.some.injEq, Addr.mk.injEq, and_true, true_and] at h3
    obtain ⟨rfl, rfl⟩ := h3
    have e : (l.take i).length = i := by rw [List.length_take]; omega
    refine ⟨by rw [ints_len]; omega, .inr ⟨g, cap, cur, by rw [e], h4, h5, by omega, h7, h8, ?_⟩⟩
    rw [e, ← ints_take, ← h9, List.take_take, Nat.min_eq_left (by omega)]
    simp
end Go.Proofs.YtgplajofemencaaGreat
/- slices.BinarySearch over numbers that rise. -/
namespace Go.Proofs.YtgplajofemencaaGreat
open Go.ChangeShapes Go.WideShapes Go.ChangeAt Go.RowKit

end Go.Proofs.YtgplajofemencaaGreat
