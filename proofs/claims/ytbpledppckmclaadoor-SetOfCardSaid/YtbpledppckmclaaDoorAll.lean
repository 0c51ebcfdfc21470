/- What the document's own answers All and Shift are: all stops of a set in a new list, and a set shifted stop by stop. -/
import Derived.Test.YtbpledppckmclaaDoorLists
import Derived.WalkSpells
import Derived.ChangeOld
import Derived.Below
namespace Go.Proofs.YtbpledppckmclaaDoor
open Go.ChangeShapes Go.WideShapes Go.ChangeAt Go.RowKit

theorem info3 : (Tryd.prog.info? 3).map (fun i => (i.zero, i.size, i.bytes)) = some (some (.int .i64 0), 1, 8) := by kernel_rfl
def someN (s k : Nat) : List Int := ((List.range k).filter (fun i : Nat => s.testBit i)).map (fun i : Nat => (i : Int))
theorem someN_yes (s k : Nat) (h : s.testBit k = true) : someN s (k + 1) = someN s k ++ [(k : Int)] := by
  unfold someN; rw [List.range_succ, List.filter_append, List.map_append]; simp [h]
theorem someN_no (s k : Nat) (h : s.testBit k = false) : someN s (k + 1) = someN s k := by
  unfold someN; rw [List.range_succ, List.filter_append, List.map_append]; simp [h]
theorem someN_len (s k : Nat) : (someN s k).length ≤ k := by
  unfold someN
  rw [List.length_map]
  have := List.length_filter_le (fun i : Nat => s.testBit i) (List.range k)
  simp only [List.length_range] at this
  exact this
def vals (l : List Int) : List Value := l.map (Value.int .i64)
theorem own_block {w : World} {B : Nat} {v : Value} {n : Nat} {xs : List Value} (h : w.ownsRow B 3 1 v n xs) : ∀ k, v.ownBlock = some k → B ≤ k := by
  intro k hk
  rcases h.2 with ⟨rfl, -⟩ | ⟨g, cap, cur, rfl, hg, -⟩
  · simp [Value.ownBlock] at hk
  · simp [Value.ownBlock] at hk; omega
def Gath (w wr : World) (v : Value) (l : List Int) : Prop := wr.ownsRow w.heap.size 3 1 v l.length (vals l) ∧ Below w.heap.size w wr
theorem gath_step {w wr w1 : World} {v v' : Value} {l l' : List Int} {y : Int} (h : Gath w wr v l) (hl : l' = l ++ [y]) (ho : w1.ownsRow w.heap.size 3 1 v' (l.length + 1) (vals l ++ [.int .i64 y])) (hg : (wr.alloc (.cells #[.int .i64 y] 3)).grownBy w1 v.ownBlock) : Gath w w1 v' l' := by
  obtain ⟨h1, h2⟩ := h
  have hs := h2.size
  subst hl
  exact ⟨by unfold vals at *; simpa using ho, (h2.alloc hs _).grown hg (by simp; omega) (own_block h1)⟩
theorem cell_later {w w' : World} {b o : Nat} {v : Value} (hb : Below w.heap.size w w') (h : w.cell? ⟨b, o, none⟩ = some v) : w'.cell? ⟨b, o, none⟩ = some v := by
  by_cases hlt : b < w.heap.size
  · rw [hb.cell (p := ⟨b, o, none⟩) hlt]; exact h
  · have : w.heap[b]? = none := by simp; omega
    simp [World.cell?, this] at h
theorem reads_later {w w' : World} {a : Option Addr} {zs : List Int} (hb : Below w.heap.size w w') (h : Reads w a zs) : Reads w' a zs := by
  obtain ⟨h1, h2⟩ := h
  refine ⟨h1, ?_⟩
  rcases h2 with rfl | ⟨b, off, rfl, h3⟩
  · exact Or.inl rfl
  · exact Or.inr ⟨b, off, rfl, fun k hk => cell_later hb (h3 k hk)⟩
theorem reads_own {w : World} {B : Nat} {v : Value} {n : Nat} {ys : List Int} (h : w.ownsRow B 3 1 v n (vals ys)) :
    ys.length = n ∧ ∃ a cap, v = .slice a n cap ∧ Reads w a ys := by
  unfold vals at h
  obtain ⟨h1, h2⟩ := id h
  have hn : ys.length = n := by simpa using h1
  refine ⟨hn, ?_⟩
  rcases h2 with ⟨rfl, rfl⟩ | ⟨g, cap, cur, rfl, -, -, hnc, hcm, -, -⟩
  · exact ⟨none, 0, rfl, by omega, Or.inl (List.length_eq_zero_iff.1 hn)⟩
  · refine ⟨_, cap, rfl, by unfold maxLen at hcm; omega, Or.inr ⟨g, 0, rfl, fun k hk => ?_⟩⟩
    have := h.cellAt k (by omega)
    rw [Nat.zero_add, this]
    simp [List.getD, hk]

/-- A new list that reads as l. -/
def NewList (l : List Int) (w : World) (e : Ending) (w' : World) : Prop := ∃ v, e = .returned v ∧ Gath w w' v l

set_option maxHeartbeats 800000 in
theorem rall_any (s : Nat) (w : World) (hs : s < 18446744073709551616) : Calls Tryd.prog 6 #[.int .u64 s] w (NewList (allN s) w) := by
  obtain ⟨i0, hi, hz0, hz1, hz2⟩ := info_parts info3
  go_enter Tryd.func6, Tryd.ntmps6
  go_wp2
  go_loopw [3, 4] (fun v i wr => ∃ k : Nat, k ≤ 64 ∧ i = .int .i64 k ∧ Gath w wr v (someN s k)) (fun _ i _ => 64 - (intOf i).toNat)
  case atStart => exact ⟨0, Nat.zero_le _, rfl, World.ownsRow_nil _ _ _ _, Below.refl _ _⟩
  case round =>
    obtain ⟨k, hk, rfl, hg⟩ := hrel
    have HG := Lib.hid hg
    have hsz := hg.2.size
    have hlen := someN_len s k
    clear hg
    by_cases hlt : k < 64
    · have hh := has_nat s k hlt
      cases hb : s.testBit k with
      | true =>
        rw [hb] at hh
        have HH := Lib.hid hh
        have HS := Lib.hid (someN_yes s k hb)
        clear hh hb
        go_wp2_with fail
        refine (rhas_any _ _ _ hs).mono ?_
        rw [HH.out]
        rintro e w' ⟨rfl, rfl⟩
        go_wp2_with (first | (at_builtin; refine wpList_append_own _ rfl _ _ 24 rfl w.heap.size 3 i0 (.int .i64 0) 1 8 Tryd.underlying24 hi hz0 hz1 hz2 rfl (by decide) _ _ _ rfl (HG.out.1.alloc _) ⟨wr.heap.size, 0, none⟩ 1 1 [.int .i64 k] rfl rfl ?c1 ?c2 ?c3 ?c4 ?c5 ?_))
        case c1 => exact cell_one_new _ _ _
        case c2 => intro u hu; simp at hu; subst hu; rfl
        case c3 => unfold maxLen; omega
        case c4 => omega
        case c5 => simp; omega
        · intro v' w1 hown' hgrow _
          have HN := Lib.hid (gath_step HG.out HS.out hown' hgrow)
          clear hown' hgrow
          go_wp2
          go_roundw
          case rel => exact ⟨k + 1, by omega, by go_num, HN.out⟩
          case measure => simp [intOf]; omega
      | false =>
        rw [hb] at hh
        have HH := Lib.hid hh
        have HS := Lib.hid (someN_no s k hb)
        clear hh hb
        go_wp2_with fail
        refine (rhas_any _ _ _ hs).mono ?_
        rw [HH.out]
        rintro e w' ⟨rfl, rfl⟩
        go_wp2
        go_roundw
        case rel => exact ⟨k + 1, by omega, by go_num, by rw [HS.out]; exact HG.out⟩
        case measure => simp [intOf]; omega
    · obtain rfl : k = 64 := by omega
      go_wp2
      go_ret
      exact ⟨_, rfl, HG.out⟩

theorem allN_bd (s : Nat) (k : Nat) (h : k < (allN s).length) : 0 ≤ (allN s).getD k 0 ∧ (allN s).getD k 0 ≤ 63 := by
  have hm : (allN s).getD k 0 ∈ allN s := by
    rw [List.getD_eq_getElem?_getD, List.getElem?_eq_getElem h]
    exact List.getElem_mem h
  have := (mem_allN s _).1 hm
  generalize (allN s).getD k 0 = x at *
  rcases Decidable.em (0 ≤ x ∧ x ≤ 63) with h' | h'
  · exact h'
  · rw [has_no s x h'] at this; cases this
theorem allN_len (s : Nat) : (allN s).length ≤ 64 := someN_len s 64
theorem ofN_map_take (l : List Int) (b : Int) (k : Nat) (h : k < l.length) : ofN ((l.map (· + b)).take (k + 1)) = ofN ((l.map (· + b)).take k) ||| bitN (l.getD k 0 + b) := by
  rw [ofN_take _ k (by simpa using h)]
  simp [List.getD, h]

end Go.Proofs.YtbpledppckmclaaDoor
