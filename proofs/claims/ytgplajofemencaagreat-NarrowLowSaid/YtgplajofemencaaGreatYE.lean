/- The plain mathematics of what a plan costs. -/
import Derived.Test.YtgplajofemencaaGreatXTSched
import Derived.Test.YtgplajofemencaaGreatYD
import Derived.Deep.CutRange
namespace Go.Proofs.YtgplajofemencaaGreat

theorem sub_len : ∀ {R D : List Int}, R.Nodup → (∀ x ∈ R, x ∈ D) → R.length ≤ D.length
  | [], _, _, _ => by simp
  | x :: R, D, hn, h => by
    have hx := h x (by simp)
    have hn' := List.nodup_cons.1 hn
    have := sub_len (R := R) (D := D.erase x) hn'.2 (fun y hy => by
      have hne : y ≠ x := fun e => hn'.1 (by rw [← e]; exact hy)
      exact (List.mem_erase_of_ne hne).2 (h y (by simp [hy])))
    rw [List.length_erase_of_mem hx] at this
    have h0 : 0 < D.length := List.length_pos_of_mem hx
    simp; omega
def upTo (n : Nat) : List Int := (List.range n).map (fun (i : Nat) => (i : Int) + 1)
theorem upTo_mem (n : Nat) (i : Int) : i ∈ upTo n ↔ 1 ≤ i ∧ i ≤ n := by
  unfold upTo
  simp only [List.mem_map, List.mem_range]
  constructor
  · rintro ⟨k, hk, rfl⟩; omega
  · rintro ⟨h1, h2⟩; exact ⟨(i - 1).toNat, by omega, by omega⟩
theorem upTo_len (n : Nat) : (upTo n).length = n := by simp [upTo]
/-- Stops that are told once each are no more than there are; if one is missing they are less. -/
theorem rng_len {D : List Int} {n : Nat} (h : D.Nodup) (hr : ∀ i ∈ D, 1 ≤ i ∧ i ≤ (n : Int)) : D.length ≤ n := by
  have := sub_len (R := D) (D := upTo n) h (fun x hx => (upTo_mem n x).2 (hr x hx))
  rwa [upTo_len] at this
/-- What is wrong with a route by itself. -/
def errR (I : Ins) (l : List Int) : Int := if l = [] then 1 else errT I l
def firstE (I : Ins) : List (List Int) → Int
  | [] => 0
  | l :: L => if errR I l = 0 then firstE I L else errR I l
theorem firstE_zero (I : Ins) : ∀ L, firstE I L = 0 ↔ ∀ l ∈ L, errR I l = 0
  | [] => by simp [firstE]
  | m :: L => by
    rw [firstE]
    by_cases h : errR I m = 0
    · rw [if_pos h, firstE_zero I L]; simp [h]
    · rw [if_neg h]; simp [h]
theorem errR_zero {I : Ins} {l : List Int} (h : errR I l = 0) : l ≠ [] ∧ errT I l = 0 := by
  unfold errR at h
  by_cases hl : l = []
  · rw [if_pos hl] at h; simp at h
  · rw [if_neg hl] at h; exact ⟨hl, h⟩
theorem far_bds {I : Ins} {l : List Int} (h : errT I l = 0) : 0 ≤ farT I l ∧ farT I l ≤ 2000000 := by
  obtain ⟨s, hs⟩ := errT_zero h
  obtain ⟨h1, h2, _, _⟩ := timesE_ok hs
  have hb := goE_bds (fine_of h1) _ _ h2
  have hf := farF_bd s.last (nth I.l 0)
  unfold farT
  rw [hs]
  show 0 ≤ s.far + farF s.last (nth I.l 0) ∧ s.far + farF s.last (nth I.l 0) ≤ 2000000
  have := hb.2.1
  have hg := goE_good _ _ h2
  have hp := (fine_of h1).p1
  have hl : l.length ≤ 32 := rng_len hg.nodup (fun i hi => by have := hg.rng i hi; omega)
  omega
/-- How far all go. -/
def farS (I : Ins) : List (List Int) → Int
  | [] => 0
  | l :: L => farT I l + farS I L
theorem farS_snoc (I : Ins) (l : List Int) : ∀ L, farS I (L ++ [l]) = farS I L + farT I l
  | [] => by simp [farS]
  | m :: L => by rw [List.cons_append, farS, farS, farS_snoc I l L]; omega
theorem farS_bds {I : Ins} : ∀ L, firstE I L = 0 → 0 ≤ farS I L ∧ farS I L ≤ 2000000 * L.length
  | [], _ => by simp [farS]
  | l :: L, h => by
    have hz := (firstE_zero I _).1 h
    have h1 := far_bds (errR_zero (hz l (by simp))).2
    have h2 := farS_bds L ((firstE_zero I _).2 (fun m hm => hz m (by simp [hm])))
    simp only [farS, List.length_cons]
    omega
theorem flat_snoc (L : List (List Int)) (l : List Int) : (L ++ [l]).flatten = L.flatten ++ l := by simp
end Go.Proofs.YtgplajofemencaaGreat
/- Plans in another order. -/
namespace Go.Proofs.YtgplajofemencaaGreat
open Go.ChangeShapes Go.WideShapes Go.ChangeAt Go.RowKit

end Go.Proofs.YtgplajofemencaaGreat
/- What a plan costs, and what is wrong with it. -/
namespace Go.Proofs.YtgplajofemencaaGreat
open Go.ChangeShapes Go.WideShapes Go.ChangeAt Go.RowKit

end Go.Proofs.YtgplajofemencaaGreat
/- What Cost answers. -/
namespace Go.Proofs.YtgplajofemencaaGreat
open Go.ChangeShapes Go.WideShapes Go.ChangeAt Go.RowKit

end Go.Proofs.YtgplajofemencaaGreat
