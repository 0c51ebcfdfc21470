/- A plan in its own block. -/
import Derived.Test.YtpdeffpmfbplnaaDoorVParse
import Derived.Test.YtpdeffpmfbplnaaDoorVAwake
import Derived.Test.YtpdeffpmfbplnaaDoorXVB
namespace Go.Proofs.YtpdeffpmfbplnaaDoor
open Go.ChangeShapes Go.WideShapes Go.ChangeAt Go.RowKit

theorem full_self {L : List (List Int)} (h : Full L) : full L = L := by
  unfold full
  rw [List.filter_eq_self]
  intro l hl
  simpa using h l hl
/-- What is printed is parsed. -/
theorem back_text {L : List (List Int)} (hs : ∀ l ∈ L, ∀ n ∈ l, 1 ≤ n ∧ n ≤ 1000000) :
    (4096 < (textOf (ordL L)).length → pErr (textOf (ordL L)) = 6 ∧ pRes (textOf (ordL L)) = []) ∧ (¬ 4096 < (textOf (ordL L)).length → pErr (textOf (ordL L)) = 0 ∧ pRes (textOf (ordL L)) = ordL L) := by
  have hs2 : ∀ l ∈ ordL L, ∀ n ∈ l, 1 ≤ n ∧ n ≤ 1000000 := fun l hl => hs l ((ordL_mem L l).1 hl).1
  have hp := parse_text (ordL L) (fun l hl n hn => by have := hs2 l hl n hn; omega)
  rw [full_self (ord_full L)] at hp
  constructor
  · intro h
    have h1 : errOf (textOf (ordL L)) = 6 := by unfold errOf; rw [if_pos h]
    have := pErr_scan (bs := textOf (ordL L)) (by rw [h1]; simp)
    rw [h1] at this
    exact this
  · intro h
    have h1 : errOf (textOf (ordL L)) = 0 := by unfold errOf; rw [if_neg h, hp]; rfl
    have h2 : resOf (textOf (ordL L)) = ordL L := by unfold resOf; rw [if_neg h, hp]; rfl
    have := pErr_ok h1 (by
      rw [h2]
      unfold lowLL
      rw [List.any_eq_false]
      intro l hl
      unfold lowR
      rw [Bool.not_eq_true, List.any_eq_false]
      intro n hn
      have := hs2 l hl n hn
      simp; omega)
    rw [h2] at this
    exact this
end Go.Proofs.YtpdeffpmfbplnaaDoor
