/- What num.Sum and the document's Sum answer. -/
import Derived.Test.YtgplajofemencaaGreatXB
import Derived.Test.YtgplajofemencaaGreatXRead
import Derived.WalkLawsBesides
import Derived.Test.YtgplajofemencaaGreatXN
import Derived.Test.YtgplajofemencaaGreatYH
import Derived.Test.YtgplajofemencaaGreatYG
import Derived.Test.YtgplajofemencaaGreatYF
namespace Go.Proofs.YtgplajofemencaaGreat
open Go.ChangeShapes Go.WideShapes Go.ChangeAt Go.RowKit

theorem sum_none (w : World) (a : Option Addr) (cap : Nat) :
    Calls Tryz.prog 63 #[.slice a 0 cap] w fun e w' => e = .returned (.int .i64 0) ∧ w = w' := by
  go_enter Tryz.func63, Tryz.ntmps63
  go_wp2
  go_loop [3, 8] (fun s i => i = .int .i64 0 ∧ s = .int .i64 0) (fun _ _ => 0)
  case atStart => exact ⟨rfl, rfl⟩
  case round =>
    obtain ⟨rfl, rfl⟩ := hrel
    go_wp2
    go_ret
    exact ⟨rfl, rfl⟩
theorem sum_some (w : World) (b off len cap : Nat) (zs : List Int) (hl : len ≤ 9223372036854775807) (hz : zs.length = len) (hc : ∀ k, k < len → w.cell? ⟨b, off + k, none⟩ = some (.int .i64 (zs.getD k 0))) :
    Calls Tryz.prog 63 #[.slice (some ⟨b, off, none⟩) len cap] w fun e w' => e = .returned (.int .i64 (sumOf zs)) ∧ w = w' := by
  have HC := Lib.hid hc
  have HZ := Lib.hid hz
  clear hc hz
  go_enter Tryz.func63, Tryz.ntmps63
  go_wp2
  go_loop [3, 8] (fun s i => ∃ k : Nat, k ≤ len ∧ i = .int .i64 k ∧ s = .int .i64 (sumOf (zs.take k))) (fun _ i => len - (intOf i).toNat)
  case atStart => exact ⟨0, Nat.zero_le _, rfl, rfl⟩
  case round =>
    obtain ⟨k, hk, rfl, rfl⟩ := hrel
    have hb := sumOf_bd (zs.take k)
    obtain ⟨s1, s2⟩ := hb
    by_cases hlt : k < len
    · have hcell := HC.out k hlt
      have hs : sumOf (zs.take (k + 1)) = min (sumOf (zs.take k) + clamp (zs.getD k 0)) 1152921504606846976 := by
        have hz := HZ.out
        rw [List.take_succ_eq_append_getElem (by omega), sumOf_snoc]
        simp [List.getD, hz, hlt]
      have HS := Lib.hid hs
      clear hs
      generalize zs.getD k 0 = x at *
      go_wp2
      go_round
      case rel =>
        refine ⟨k + 1, by omega, by go_num, ?_⟩
        rw [HS.out]
        unfold clamp
        congr 1
        omega
      case measure => simp [intOf]; omega
    · go_wp2
      go_ret
      obtain rfl : k = len := by omega
      have hz := HZ.out
      rw [List.take_of_length_le (by omega)]
      exact ⟨rfl, rfl⟩
/-- A slice that reads as a list of costs: none, or so many cells behind each other. -/
def Reads (w : World) (a : Option Addr) (zs : List Int) : Prop :=
  zs.length ≤ 9223372036854775807 ∧ (zs = [] ∨ ∃ b off, a = some ⟨b, off, none⟩ ∧ ∀ k, k < zs.length → w.cell? ⟨b, off + k, none⟩ = some (.int .i64 (zs.getD k 0)))
theorem sum_reads (w : World) (a : Option Addr) (len cap : Nat) (zs : List Int) (hz : zs.length = len) (h : Reads w a zs) :
    Calls Tryz.prog 63 #[.slice a len cap] w fun e w' => e = .returned (.int .i64 (sumOf zs)) ∧ w = w' := by
  obtain ⟨h1, h2⟩ := h
  subst hz
  rcases h2 with rfl | ⟨b, off, rfl, h3⟩
  · exact sum_none w a cap
  · exact sum_some w b off zs.length cap zs h1 rfl h3
theorem reads_row {w : World} {a : Option Addr} {n cap : Nat} {l : List Int} (h : Row w (.slice a n cap) (ints l)) : n = l.length ∧ Reads w a l := by
  obtain ⟨hm, a', cap', hv, _, _, hc⟩ := h
  simp only [Value.slice.injEq, ints_len] at hv
  obtain ⟨rfl, rfl, rfl⟩ := hv
  rw [ints_len] at hm hc
  refine ⟨rfl, by unfold maxLen at hm; omega, ?_⟩
  rcases hc with hc | ⟨b, off, rfl, hc⟩
  · left
    have := congrArg List.length hc
    rw [ints_len] at this
    exact List.eq_nil_of_length_eq_zero this
  · exact .inr ⟨b, off, rfl, fun k hk => by rw [hc k hk, ints_at l k hk]⟩
theorem sum_any {w : World} {v : Value} {l : List Int} (h : Row w v (ints l)) : Calls Tryz.prog 63 #[v] w fun e w' => e = .returned (.int .i64 (sumOf l)) ∧ w = w' := by
  obtain ⟨_, a, cap, rfl, _⟩ := id h
  obtain ⟨h1, h2⟩ := reads_row h
  exact sum_reads w a _ cap l h1.symm h2
end Go.Proofs.YtgplajofemencaaGreat
/- What is near has a bound; an instance and a state in two boxes. -/
namespace Go.Proofs.YtgplajofemencaaGreat
open Go.ChangeShapes Go.WideShapes Go.ChangeAt Go.RowKit

theorem bound_no {I : Ins} {s : Sta} (h : mayB I = false ∨ I.p = 0) : boundS I s = 0 := by
  unfold boundS
  rw [if_pos]
  rw [near_len]
  by_cases hm : mayB I = true
  · have hl := (fine_of hm).len
    rw [if_pos hm]
    rcases h with h | h
    · rw [h] at hm; cases hm
    · omega
  · rw [if_neg hm]; omega
theorem boxes_is (w : World) (I : Ins) (v : Value) (s : Sta) : YBox ((w.alloc (boxI I v)).alloc (boxSt s)) w.heap.size I v ∧ StB ((w.alloc (boxI I v)).alloc (boxSt s)) (w.heap.size + 1) s ∧ Below w.heap.size w ((w.alloc (boxI I v)).alloc (boxSt s)) := by
  have h1 : (w.alloc (boxI I v)).heap.size = w.heap.size + 1 := by simp
  have a1 := st_new (w.alloc (boxI I v)) s
  rw [h1] at a1
  exact ⟨(ybox_new w I v).later ((Below.refl _ _).alloc (Nat.le_refl _) _), a1, ((Below.refl w.heap.size w).alloc (Nat.le_refl _) _).alloc (by rw [h1]; omega) _⟩
theorem boxes_in (w : World) (I : Ins) (v : Value) (s : Sta) (c : Int) (u : Value) : YBox ((w.alloc (boxI I v)).alloc (boxN s c u)) w.heap.size I v ∧ NodB ((w.alloc (boxI I v)).alloc (boxN s c u)) (w.heap.size + 1) s c u ∧ Below w.heap.size w ((w.alloc (boxI I v)).alloc (boxN s c u)) := by
  have h1 : (w.alloc (boxI I v)).heap.size = w.heap.size + 1 := by simp
  have a1 := nod_new (w.alloc (boxI I v)) s c u
  rw [h1] at a1
  exact ⟨(ybox_new w I v).later ((Below.refl _ _).alloc (Nat.le_refl _) _), a1, ((Below.refl w.heap.size w).alloc (Nat.le_refl _) _).alloc (by rw [h1]; omega) _⟩
/-- The cells of numbers that a call has made, wherever something is told of them. -/
theorem own_cells {w : World} {B : Nat} {v : Value} {l : List Int} (h : OwnI w B v l) (h0 : 0 < l.length) : ∃ g cap, v = .slice (some ⟨g, 0, none⟩) l.length cap ∧ l.length ≤ cap ∧ g < w.heap.size ∧ ∀ i, i < l.length → w.cell? ⟨g, i, none⟩ = some (.int .i64 (l.getD i 0)) := by
  obtain ⟨a, cap, rfl⟩ := h.shape
  have hr := h.row
  obtain ⟨_, a', cap', hv, hc, _, _⟩ := id hr
  simp only [Value.slice.injEq] at hv
  obtain ⟨rfl, hl, rfl⟩ := hv
  rw [ints_len] at hc
  rcases h.2 with ⟨he, hz⟩ | ⟨g, cap2, cur, he, _, hg, _⟩
  · omega
  · simp only [Value.slice.injEq] at he
    obtain ⟨rfl, -, rfl⟩ := he
    exact ⟨g, _, rfl, hc, (Array.getElem?_eq_some_iff.1 hg).1, fun i hi => h.cell i hi⟩
end Go.Proofs.YtgplajofemencaaGreat
/- What the document's At answers. -/
namespace Go.Proofs.YtgplajofemencaaGreat
open Go.ChangeShapes Go.WideShapes Go.ChangeAt Go.RowKit

end Go.Proofs.YtgplajofemencaaGreat
/- What a node costs at least in the end: the document's own Of. -/
namespace Go.Proofs.YtgplajofemencaaGreat
open Go.ChangeShapes Go.WideShapes Go.ChangeAt Go.RowKit

end Go.Proofs.YtgplajofemencaaGreat
