/- What num.Root and the document's own Root answer: for any number the least root from 0 on whose square is not less, as the plain function rootOf has it. -/
import Derived.Test.YtbhgpiohniplbaaRows
import Derived.Test.YtbhgpiohniplbaaXMath
import Derived.WalkKit
import Derived.ProofKit
import Derived.OpenShut
import Derived.IntWalk
import Derived.Lib.Hide
import Derived.WalkMore
import Derived.ScopeJumps
import Derived.WalkLawsBesides
namespace Go.Proofs.Ytbhgpiohniplbaa
open Go.ChangeShapes Go.WideShapes Go.ChangeAt Go.RowKit

theorem or_first : bits .or .i64 0 536870912 = 536870912 := by decide

/-- What the search by halves keeps. -/
def Half (m lo hi : Int) : Prop := 0 ≤ lo ∧ lo < hi ∧ hi ≤ 1073741824 ∧ lo * lo < m ∧ m ≤ hi * hi

theorem half_sq (m lo hi : Int) (h : Half m lo hi) : 0 ≤ (lo + hi) / 2 * ((lo + hi) / 2) ∧ (lo + hi) / 2 * ((lo + hi) / 2) ≤ 1152921504606846976 := by
  obtain ⟨h1, h2, h3, -, -⟩ := h
  have := sq_mono 0 ((lo + hi) / 2) (by omega) (by omega)
  have := sq_mono ((lo + hi) / 2) 1073741824 (by omega) (by omega)
  omega
theorem half_hi (m lo hi : Int) (h : Half m lo hi) (hg : 1 < hi - lo) (ht : m ≤ (lo + hi) / 2 * ((lo + hi) / 2)) : Half m lo ((lo + hi) / 2) := by
  obtain ⟨h1, h2, h3, h4, -⟩ := h
  exact ⟨h1, by omega, by omega, h4, ht⟩
theorem half_lo (m lo hi : Int) (h : Half m lo hi) (hg : 1 < hi - lo) (ht : (lo + hi) / 2 * ((lo + hi) / 2) < m) : Half m ((lo + hi) / 2) hi := by
  obtain ⟨h1, h2, h3, -, h5⟩ := h
  exact ⟨by omega, by omega, h3, ht, h5⟩
theorem half_end (m lo hi : Int) (h : Half m lo hi) (hg : hi - lo ≤ 1) : IsRoot m hi := by
  obtain ⟨h1, h2, h3, h4, h5⟩ := h
  refine ⟨by omega, ?_, h5⟩
  rw [show hi - 1 = lo by omega]; exact h4

end Go.Proofs.Ytbhgpiohniplbaa
