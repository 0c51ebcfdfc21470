/- A drawn region under a held condition: several operations taken first, one behind the other. -/
import Derived.Deep.RegionHeld3
import Derived.Test.YtgplajofemencaaGreatXMath
import Derived.Test.YtgplajofemencaaGreatYA
import Derived.Laws.StructEq
import Derived.ChangeKeysEq
import Derived.StillTailTactics
namespace Go.Proofs.YtgplajofemencaaGreat

theorem gA {α : Type} (l : List α) (i : Nat) : l.toArray[i]? = l[i]? := List.getElem?_toArray
theorem gB {α : Type} (x : α) (l : List α) : (x :: l)[0]? = some x := List.getElem?_cons_zero
theorem gC {α : Type} (x : α) (l : List α) (i : Nat) : (x :: l)[i + 1]? = l[i]? := List.getElem?_cons_succ
theorem pA {α : Type} (l : List α) (i : Nat) (x : α) : l.toArray.setIfInBounds i x = (l.set i x).toArray := List.setIfInBounds_toArray _ _ _
theorem pB {α : Type} (x y : α) (l : List α) : (x :: l).set 0 y = y :: l := List.set_cons_zero
theorem pC {α : Type} (x y : α) (l : List α) (i : Nat) : (x :: l).set (i + 1) y = x :: l.set i y := List.set_cons_succ
section
variable {P : Program} {ops : Array Oper} {Q : Exit → Act → World → Prop} {md : Region.Mode} {S : World → Prop}
/-- Each may come up next, and nobody who could come ahead of it touches what it does. -/
def takesOk (md : Region.Mode) (ops : Array Oper) : Array Bool → List Nat → Bool
  | _, [] => true
  | l, i :: is => Region.free md ops l i && ((Region.ready md ops l).contains i && takesOk md ops (l.setIfInBounds i true) is)
def tkL (l : Array Bool) : List Nat → Array Bool
  | [] => l
  | i :: is => tkL (l.setIfInBounds i true) is
/-- Each leaves its value, one behind the other, and then K. -/
def Takes (P : Program) (ops : Array Oper) (S : World → Prop) : List Nat → Act → (Act → Prop) → Prop
  | [], a, K => K a
  | i :: is, a, K => ∃ oi, ops[i]? = some oi ∧ ∃ v, YieldsIf P ops S oi v a ∧ Takes P ops S is (a.put oi.dst v) K
theorem put_panic (hQ : ∀ (t : Array Value) (c : List PanicEntry) (a : Act) (w : World), Q (.panic c) { a with tmps := t } w → Q (.panic c) a w) (d : Option Nat) (v : Value) (c : List PanicEntry) (a : Act) (w : World) (h : Q (.panic c) (a.put d v) w) : Q (.panic c) a w := by
  cases d with
  | none => exact h
  | some k => exact hQ _ c a w h
theorem takes_all (hs : Region.noSelect ops = true) (hQ : ∀ (t : Array Value) (c : List PanicEntry) (a : Act) (w : World), Q (.panic c) { a with tmps := t } w → Q (.panic c) a w) {w : World} (hS : S w) :
    ∀ (is : List Nat) (fuel : Nat) (listed : Array Bool) (a : Act), takesOk md ops listed is = true → Takes P ops S is a (fun a' => wpAnyH P md ops Q S fuel (tkL listed is) a' w) → wpAnyH P md ops Q S (fuel + is.length) listed a w
  | [], _, _, _, _, h => h
  | i :: is, fuel, listed, a, hk, ⟨oi, hi, v, hy, h⟩ => by
    simp only [takesOk, Bool.and_eq_true] at hk
    exact wpAnyH_take hi hs hk.1 hk.2.1 (put_panic hQ _ _) hy hS (takes_all hs hQ hS is fuel _ _ hk.2.2 h)
theorem tks (is : List Nat) (n : Nat) (hn : is.length = n) {fuel : Nat} {listed : Array Bool} {a : Act} {w : World} (hk : (Region.noSelect ops && takesOk md ops listed is) = true)
    (hQ : ∀ (t : Array Value) (c : List PanicEntry) (a : Act) (w : World), Q (.panic c) { a with tmps := t } w → Q (.panic c) a w) (hS : S w)
    (h : ∀ K : Act → Prop, (∀ a', wpAnyH P md ops Q S fuel (tkL listed is) a' w → K a') → Takes P ops S is a K) : wpAnyH P md ops Q S (fuel + n) listed a w := by
  subst hn
  rw [Bool.and_eq_true] at hk
  exact takes_all hk.1 hQ hS is fuel listed a hk.2 (h _ (fun _ h => h))
theorem tkT {i : Nat} {is : List Nat} {a : Act} {K : Act → Prop} {oi : Oper} {v : Value} (hi : ops[i]? = some oi) (hw : Region.wanted oi (yielded ops a.tmps) = true)
    (hy : ∀ w, S w → (execOp a.eval oi).run P w = .ok (.value v) w) (h : Takes P ops S is (a.put oi.dst v) K) : Takes P ops S (i :: is) a K := ⟨oi, hi, v, .inl ⟨hw, hy⟩, h⟩
theorem tkS {i : Nat} {is : List Nat} {a : Act} {K : Act → Prop} {oi : Oper} (hi : ops[i]? = some oi) (hw : Region.wanted oi (yielded ops a.tmps) = false)
    (h : Takes P ops S is (a.put oi.dst undef) K) : Takes P ops S (i :: is) a K := ⟨oi, hi, undef, .inr ⟨hw, rfl⟩, h⟩
end
end Go.Proofs.YtgplajofemencaaGreat
/- How stops and instances lie in memory. -/
namespace Go.Proofs.YtgplajofemencaaGreat
open Go.ChangeShapes Go.WideShapes Go.ChangeAt Go.RowKit

def rowV (t : Stp) : List Value := [.int .i64 t.x, .int .i64 t.y, .int .i64 t.d, .int .i64 t.r, .int .i64 t.u, .int .i64 t.s]
def stopV (t : Stp) : Value := .agg #[.int .i64 t.x, .int .i64 t.y, .int .i64 t.d, .int .i64 t.r, .int .i64 t.u, .int .i64 t.s]
def insV (I : Ins) (v : Value) : Value := .agg #[.int .i64 I.p, .int .i64 I.c, .int .i64 I.r, v]
def flat : List Stp → List Value
  | [] => []
  | t :: l => rowV t ++ flat l
theorem flat_append : ∀ (a b : List Stp), flat (a ++ b) = flat a ++ flat b
  | [], _ => rfl
  | t :: a, b => by rw [List.cons_append, flat, flat, flat_append a b, List.append_assoc]
theorem flat_at : ∀ (l : List Stp) (i k : Nat), i < l.length → k < 6 → (flat l)[i * 6 + k]? = (rowV (nth l i))[k]?
  | [], i, k, h, _ => by simp at h
  | t :: l, 0, k, _, hk => by rw [flat, Nat.zero_mul, Nat.zero_add, List.getElem?_append_left (by simp [rowV]; omega)]; rfl
  | t :: l, i + 1, k, h, hk => by
    rw [flat, List.getElem?_append_right (by simp [rowV]; omega), show (i + 1) * 6 + k - (rowV t).length = i * 6 + k by simp [rowV]; omega, flat_at l i k (by simpa using h) hk]
    rfl
theorem flat_one : ∀ (l : List Stp), ∀ u ∈ flat l, u.oneCell' = true
  | [], u, hu => by simp [flat] at hu
  | t :: l, u, hu => by
    rw [flat, List.mem_append] at hu
    rcases hu with hu | hu
    · simp [rowV] at hu
      rcases hu with rfl | rfl | rfl | rfl | rfl | rfl <;> rfl
    · exact flat_one l u hu

/-- A stop's six cells. -/
def At (w : World) (b o : Nat) (t : Stp) : Prop :=
  w.cell? ⟨b, o, none⟩ = some (.int .i64 t.x) ∧ w.cell? ⟨b, o + 1, none⟩ = some (.int .i64 t.y) ∧ w.cell? ⟨b, o + 2, none⟩ = some (.int .i64 t.d) ∧ w.cell? ⟨b, o + 3, none⟩ = some (.int .i64 t.r) ∧ w.cell? ⟨b, o + 4, none⟩ = some (.int .i64 t.u) ∧ w.cell? ⟨b, o + 5, none⟩ = some (.int .i64 t.s)
theorem At.lt {w : World} {b o : Nat} {t : Stp} (h : At w b o t) : b < w.heap.size := World.block_lt_of_cell? w _ h.1
theorem At.below {w w' : World} {b o : Nat} {t : Stp} (h : At w b o t) {B : Nat} (hlt : b < B) (hb : Below B w w') : At w' b o t := by
  obtain ⟨h0, h1, h2, h3, h4, h5⟩ := h
  exact ⟨(hb.cell (p := ⟨b, o, none⟩) hlt).trans h0, (hb.cell (p := ⟨b, o + 1, none⟩) hlt).trans h1, (hb.cell (p := ⟨b, o + 2, none⟩) hlt).trans h2, (hb.cell (p := ⟨b, o + 3, none⟩) hlt).trans h3, (hb.cell (p := ⟨b, o + 4, none⟩) hlt).trans h4, (hb.cell (p := ⟨b, o + 5, none⟩) hlt).trans h5⟩
theorem at_of {w : World} {b o : Nat} {t : Stp} (h : ∀ k, k < 6 → w.cell? ⟨b, o + k, none⟩ = (rowV t)[k]?) : At w b o t :=
  ⟨h 0 (by omega), h 1 (by omega), h 2 (by omega), h 3 (by omega), h 4 (by omega), h 5 (by omega)⟩
theorem At.of {w : World} {b o : Nat} {t : Stp} (h : At w b o t) (k : Nat) (hk : k < 6) : w.cell? ⟨b, o + k, none⟩ = (rowV t)[k]? := by
  obtain ⟨h0, h1, h2, h3, h4, h5⟩ := h
  match k, hk with
  | 0, _ => exact h0
  | 1, _ => exact h1
  | 2, _ => exact h2
  | 3, _ => exact h3
  | 4, _ => exact h4
  | 5, _ => exact h5
/-- Stops that may be read. -/
def SRow (w : World) (v : Value) (l : List Stp) : Prop :=
  l.length ≤ maxLen ∧ ∃ a cap, v = .slice a l.length cap ∧ l.length ≤ cap ∧ (cap ≤ maxLen ∧ (a = none → cap = 0)) ∧ (l = [] ∨ ∃ b off, a = some ⟨b, off, none⟩ ∧ ∀ i, i < l.length → At w b (off + i * 6) (nth l i))
theorem SRow.below {w w' : World} {v : Value} {l : List Stp} (h : SRow w v l) (hb : Below w.heap.size w w') : SRow w' v l := by
  obtain ⟨hm, a, cap, hv, hc, hc2, h⟩ := h
  refine ⟨hm, a, cap, hv, hc, hc2, ?_⟩
  rcases h with h | ⟨b, off, ha, hc⟩
  · exact .inl h
  · exact .inr ⟨b, off, ha, fun i hi => (hc i hi).below (hc i hi).lt hb⟩
theorem srow_nil (w : World) : SRow w (.slice none 0 0) [] := ⟨by simp, none, 0, rfl, by simp, ⟨by simp, fun _ => rfl⟩, .inl rfl⟩
theorem SRow.form {w : World} {v : Value} {l : List Stp} (h : SRow w v l) : ∃ a cap, v = .slice a l.length cap ∧ l.length ≤ maxLen ∧ l.length ≤ cap ∧ cap ≤ maxLen := by
  obtain ⟨hm, a, cap, rfl, hc, hc2, _⟩ := h
  exact ⟨a, cap, rfl, hm, hc, hc2.1⟩
theorem srow_at {w : World} {a : Option Addr} {n cap : Nat} {l : List Stp} (h : SRow w (.slice a n cap) l) (i : Nat) (hi : i < l.length) : ∃ b off, a = some ⟨b, off, none⟩ ∧ At w b (off + i * 6) (nth l i) ∧ b < w.heap.size := by
  obtain ⟨_, a', cap', hv, _, _, h⟩ := h
  simp at hv
  rcases h with h | ⟨b, off, ha, hc⟩
  · subst h; simp at hi
  · exact ⟨b, off, by rw [hv.1, ha], hc i hi, (hc i hi).lt⟩
theorem srow_here {w : World} {b off n cap : Nat} {l : List Stp} (h : SRow w (.slice (some ⟨b, off, none⟩) n cap) l) (i : Nat) (hi : i < l.length) : At w b (off + i * 6) (nth l i) := by
  obtain ⟨b', off', he, hc, _⟩ := srow_at h i hi
  simp only [Option.some.injEq, Addr.mk.injEq, and_true] at he
  obtain ⟨rfl, rfl⟩ := he
  exact hc
/-- Stops that a call has made. -/
def OwnS (w : World) (B : Nat) (v : Value) (l : List Stp) : Prop := w.ownsRow B 65 6 v l.length (flat l)
theorem OwnS.row {w : World} {B : Nat} {v : Value} {l : List Stp} (h : OwnS w B v l) : SRow w v l := by
  have h' : w.ownsRow B 65 6 v l.length (flat l) := h
  rcases h'.2 with ⟨rfl, hn⟩ | ⟨g, cap, cur, rfl, hb, hg, hc, hm, hs, ht⟩
  · have : l = [] := List.eq_nil_of_length_eq_zero hn
    subst this
    exact srow_nil _
  · refine ⟨by omega, _, _, rfl, hc, ⟨hm, fun h => by simp at h⟩, .inr ⟨g, 0, rfl, fun i hi => ?_⟩⟩
    refine at_of (fun k hk => ?_)
    rw [Nat.zero_add, h'.cellAt _ (by omega), flat_at l i k hi hk]
theorem OwnS.below {w w' : World} {B : Nat} {v : Value} {l : List Stp} (h : OwnS w B v l) (hb : Below w.heap.size w w') : OwnS w' B v l := own_below h hb
theorem OwnS.alloc {w : World} {B : Nat} {v : Value} {l : List Stp} (h : OwnS w B v l) (O : Obj) : OwnS (w.alloc O) B v l := World.ownsRow.alloc h O
theorem ownS_nil (w : World) (B : Nat) : OwnS w B (.slice none 0 0) [] := World.ownsRow_nil _ _ _ _
theorem OwnS.less {w : World} {B B' : Nat} {v : Value} {l : List Stp} (h : OwnS w B v l) (hB : B' ≤ B) : OwnS w B' v l := own_less (show w.ownsRow B 65 6 v l.length (flat l) from h) hB
theorem OwnS.kept {w w' : World} {B : Nat} {v : Value} {l : List Stp} {row : Option Nat} (h : OwnS w B v l) (hg : w.grownBy w' row) (hne : v.ownBlock = none ∨ v.ownBlock ≠ row) : OwnS w' B v l := World.ownsRow.kept h hg hne
theorem OwnS.shape {w : World} {B : Nat} {v : Value} {l : List Stp} (h : OwnS w B v l) : ∃ a cap, v = .slice a l.length cap := own_shape (show w.ownsRow B 65 6 v l.length (flat l) from h)
theorem infoStop : (Tryz.prog.info? 65).map (fun i => (i.zero, i.size, i.bytes)) = some (some (.agg #[.int .i64 0, .int .i64 0, .int .i64 0, .int .i64 0, .int .i64 0, .int .i64 0]), 6, 48) := by kernel_rfl
/-! ### Parts of a list -/
/-- The part from k on, up to h. -/
theorem SRow.part {w : World} {b off n cap : Nat} {l : List Stp} (hs : SRow w (.slice (some ⟨b, off, none⟩) n cap) l) (k h : Nat) (hk : k ≤ h) (hh : h ≤ l.length) (a : Option Addr) (ha : a = (if cap = k then some ⟨b, off, none⟩ else some ⟨b, off + k * 6, none⟩)) :
    SRow w (.slice a (h - k) (cap - k)) ((l.drop k).take (h - k)) := by
  obtain ⟨hm, a', cap', hv, hc, ⟨hc2, _⟩, hcell⟩ := hs
  simp at hv
  obtain ⟨rfl, rfl, rfl⟩ := hv
  have hl : ((l.drop k).take (h - k)).length = h - k := by simp; omega
  refine ⟨by omega, a, cap - k, by rw [hl], by omega, ⟨by omega, fun h0 => by rw [h0] at ha; split at ha <;> simp at ha⟩, ?_⟩
  by_cases h0 : h = k
  · left
    subst h0
    simp
  · right
    rw [if_neg (by omega)] at ha
    refine ⟨b, off + k * 6, ha, fun i hi => ?_⟩
    rw [hl] at hi
    rcases hcell with hn | ⟨b', off', he, hcc⟩
    · subst hn; simp at hh; omega
    · simp at he
      obtain ⟨rfl, rfl⟩ := he
      rw [nth_take _ _ _ hi, nth_drop]
      have := hcc (k + i) (by omega)
      rw [show off + (k + i) * 6 = off + k * 6 + i * 6 by omega] at this
      exact this
/-! ### Two values held against each other -/
theorem cells_int : Tryz.prog.cellsOf 3 = 1 := by kernel_rfl
/-! ### A drawn region in which some cells are held -/
/-- These cells read so. -/
def Holds : List (Addr × Value) → World → Prop
  | [], _ => True
  | x :: cs, w => w.cell? x.1 = some x.2 ∧ Holds cs w
/-- They lie below M. -/
def Lows (M : Nat) : List (Addr × Value) → Prop
  | [] => True
  | x :: cs => x.1.block < M ∧ Lows M cs
theorem Holds.below {w w' : World} {M : Nat} (hb : Below M w w') : ∀ {cs : List (Addr × Value)}, Holds cs w → Lows M cs → Holds cs w'
  | [], _, _ => trivial
  | x :: _, h, k => ⟨(hb.cell (p := x.1) k.1).trans h.1, Holds.below hb h.2 k.2⟩
theorem held_more {cs : List (Addr × Value)} {X K : Act → World → Prop} {a : Act} {W w' : World} {M : Nat} (hK : Shut (∀ a w, Holds cs w → (Holds cs w → X a w) → K a w)) (h0 : Holds cs W) (hlt : Hid (Lows M cs)) (hb : Below M W w')
    (h : Hid (Below M W w') → Holds cs w' → X a w') : K a w' := hK.out a w' (Holds.below hb h0 hlt.out) (fun hs => h (Lib.hid hb) hs)
end Go.Proofs.YtgplajofemencaaGreat
/- What the small functions answer: within, yardMay, stopsMay, demandsMay; the document's in and stop. -/
namespace Go.Proofs.YtgplajofemencaaGreat
open Go.ChangeShapes Go.WideShapes Go.ChangeAt Go.RowKit

def inAll (a b : Int) (l : List Int) : Bool := decide (∀ n ∈ l, inb a b n = true)
theorem inAll_take {a b : Int} {l : List Int} {k : Nat} (hk : k < l.length) (h : inAll a b (l.take k) = true) (hx : inb a b (l.getD k 0) = true) : inAll a b (l.take (k + 1)) = true := by
  unfold inAll at *
  rw [decide_eq_true_iff] at *
  intro n hn
  rw [List.take_add_one, List.getElem?_eq_getElem hk] at hn
  simp only [List.mem_append, Option.toList_some, List.mem_singleton] at hn
  rcases hn with hn | rfl
  · exact h n hn
  · rw [List.getD_eq_getElem?_getD, List.getElem?_eq_getElem hk] at hx; exact hx
theorem inAll_not {a b : Int} {l : List Int} {k : Nat} (hk : k < l.length) (hx : inb a b (l.getD k 0) = false) : inAll a b l = false := by
  unfold inAll
  rw [decide_eq_false_iff_not]
  intro h
  have := h (l.getD k 0) (by rw [List.getD_eq_getElem?_getD, List.getElem?_eq_getElem hk]; simp)
  rw [hx] at this; simp at this
set_option maxRecDepth 100000 in
theorem within_any {w : World} {v : Value} (a b : Int) (l : List Int) (h : Row w v (ints l)) :
    Calls Tryz.prog 26 #[.int .i64 a, .int .i64 b, v] w fun e w' => e = .returned (.bool (inAll a b l)) ∧ w' = w := by
  have H := Lib.hid h
  obtain ⟨ad, cap, rfl, hm⟩ := h.form
  simp only [ints_len] at *
  have hm1 : l.length ≤ 9223372036854775807 := by unfold maxLen at hm; omega
  clear h hm
  go_enter Tryz.func26, Tryz.ntmps26
  go_wp2
  go_loop [8, 11] (fun _ i => ∃ k : Nat, k ≤ l.length ∧ i = .int .i64 k ∧ inAll a b (l.take k) = true) (fun _ i => l.length - (intOf i).toNat)
  case atStart => exact ⟨0, Nat.zero_le _, rfl, by simp [inAll]⟩
  case round =>
    obtain ⟨k, hk, rfl, hall⟩ := hrel
    have HA := Lib.hid hall
    clear hall
    by_cases hlt : k < l.length
    · obtain ⟨tb, off, rfl, hc, _⟩ := row_cell H.out k (by rw [ints_len]; exact hlt)
      rw [ints_at _ _ hlt] at hc
      obtain ⟨n, hn⟩ : ∃ n, l.getD k 0 = n := ⟨_, rfl⟩
      rw [hn] at hc
      by_cases hin : a ≤ n ∧ n ≤ b
      · have d1 : decide (n < a) = false := decide_eq_false (by omega)
        have d2 : decide (b < n) = false := decide_eq_false (by omega)
        have HS := Lib.hid (inAll_take hlt HA.out (by rw [hn]; exact (inb_iff _ _ _).2 hin))
        clear hn hin
        go_wp2
        go_round
        case rel => exact ⟨k + 1, by omega, by go_num, HS.out⟩
        case measure => simp [intOf]; omega
      · have HD := Lib.hid (inAll_not (a := a) (b := b) hlt (by rw [hn]; unfold inb; exact decide_eq_false hin))
        have key : decide (n < a) = true ∨ (decide (n < a) = false ∧ decide (b < n) = true) := by simp only [decide_eq_true_eq, decide_eq_false_iff_not]; omega
        clear hn hin
        rcases key with d1 | ⟨d1, d2⟩
        all_goals
          go_wp2
          go_ret
          exact ⟨ret_bool HD.out.symm, rfl⟩
    · obtain rfl : k = l.length := by omega
      rw [List.take_length] at HA
      clear hlt hk
      go_wp2
      go_ret
      exact ⟨ret_bool HA.out.symm, rfl⟩
theorem inAll_one (a b n : Int) : inAll a b [n] = inb a b n := by unfold inAll; simp
theorem inAll_two (a b n m : Int) : inAll a b [n, m] = (inb a b n && inb a b m) := by
  unfold inAll
  by_cases h1 : inb a b n = true <;> by_cases h2 : inb a b m = true <;> simp [h1, h2]
/-- Of one number, of two, in a list that has just been made. -/
theorem within1 {w : World} (g : Nat) (a b n : Int) (h : w.cell? ⟨g, 0, none⟩ = some (.int .i64 n)) :
    Calls Tryz.prog 26 #[.int .i64 a, .int .i64 b, .slice (some ⟨g, 0, none⟩) 1 1] w fun e w' => e = .returned (.bool (inb a b n)) ∧ w' = w := by
  rw [← inAll_one]
  refine within_any a b [n] ⟨by simp [ints, maxLen], _, _, rfl, by simp [ints], ⟨by simp [maxLen], by simp⟩, .inr ⟨g, 0, rfl, fun i hi => ?_⟩⟩
  have : i = 0 := by simp [ints] at hi; omega
  subst this
  exact h
theorem within2 {w : World} (g : Nat) (a b n m : Int) (h : w.cell? ⟨g, 0, none⟩ = some (.int .i64 n)) (h1 : w.cell? ⟨g, 1, none⟩ = some (.int .i64 m)) :
    Calls Tryz.prog 26 #[.int .i64 a, .int .i64 b, .slice (some ⟨g, 0, none⟩) 2 2] w fun e w' => e = .returned (.bool (inb a b n && inb a b m)) ∧ w' = w := by
  rw [← inAll_two]
  refine within_any a b [n, m] ⟨by simp [ints, maxLen], _, _, rfl, by simp [ints], ⟨by simp [maxLen], by simp⟩, .inr ⟨g, 0, rfl, fun i hi => ?_⟩⟩
  have : i = 0 ∨ i = 1 := by simp [ints] at hi; omega
  rcases this with rfl | rfl
  · exact h
  · exact h1
set_option maxRecDepth 100000 in
theorem yard_any (t : Stp) (w : World) : Calls Tryz.prog 28 #[stopV t] w fun e w' => e = .returned (.bool (yardOk t)) ∧ Below w.heap.size w w' := by
  unfold stopV
  go_enter Tryz.func28, Tryz.ntmps28
  go_wp2_with fail
  refine (within2 _ 0 0 t.d t.s (by go_simp) (by go_simp)).mono ?_
  rintro e w' ⟨rfl, rfl⟩
  go_wp2
  go_ret
  exact ⟨rfl, ((Below.refl _ w).alloc (Nat.le_refl _) _).alloc (by simp) _⟩
end Go.Proofs.YtgplajofemencaaGreat
/- What stopsMay and demandsMay answer. -/
namespace Go.Proofs.YtgplajofemencaaGreat
open Go.ChangeShapes Go.WideShapes Go.ChangeAt Go.RowKit

theorem stops_take {l : List Stp} {k : Nat} (hk : k < l.length) (h : stopsOk (l.take k) = true) (hx : stopOk (nth l k) = true) : stopsOk (l.take (k + 1)) = true := by
  rw [stops_iff] at *
  intro i hi
  have hi' : i < k + 1 := by simp at hi; omega
  rw [nth_take _ _ _ hi']
  by_cases c : i < k
  · have := h i (by simp; omega)
    rw [nth_take _ _ _ c] at this
    exact this
  · obtain rfl : i = k := by omega
    exact hx
theorem stops_not {l : List Stp} {k : Nat} (hk : k < l.length) (hx : stopOk (nth l k) = false) : stopsOk l = false := by
  cases h : stopsOk l with
  | false => rfl
  | true => rw [(stops_iff l).1 h k hk] at hx; simp at hx
set_option maxRecDepth 1000000 in
set_option maxHeartbeats 1000000 in
theorem stopsMay_any {w : World} {v : Value} {l : List Stp} (h : SRow w v l) :
    Calls Tryz.prog 27 #[v] w fun e w' => e = .returned (.bool (stopsOk l)) ∧ Below w.heap.size w w' := by
  have H := Lib.hid h
  obtain ⟨ad, cap, rfl, hm, _⟩ := h.form
  have hm1 : l.length ≤ 9223372036854775807 := by unfold maxLen at hm; omega
  clear h hm
  go_enter Tryz.func27, Tryz.ntmps27
  go_wp2_with fail
  go_loopw [8] (fun i wr => ∃ k : Nat, k ≤ l.length ∧ i = .int .i64 k ∧ stopsOk (l.take k) = true ∧ Below w.heap.size w wr) (fun i _ => l.length - (intOf i).toNat)
  case atStart => exact ⟨0, Nat.zero_le _, rfl, by simp [stopsOk], Below.refl _ _⟩
  case round =>
    obtain ⟨k, hk, rfl, hall, hbw⟩ := hrel
    have HA := Lib.hid hall
    have HBW := Lib.hid hbw
    have hsz := hbw.size
    clear hall hbw
    by_cases hlt : k < l.length
    · obtain ⟨tb, off, rfl, hat, htb⟩ := srow_at H.out k hlt
      obtain ⟨c0, c1, c2, c3, c4, c5⟩ := hat.below htb HBW.out
      have HST := Lib.hid (fun hx => stops_take hlt HA.out hx)
      have HSN := Lib.hid (fun hx => stops_not (k := k) hlt hx)
      generalize nth l k = t at *
      have HSO := Lib.hid (show stopOk t = ((inb 0 10000 t.x && inb 0 10000 t.y) && (inb 0 1048576 t.r && (inb t.r 1048576 t.u && inb 0 1000 t.s))) by unfold stopOk; rw [Bool.and_assoc])
      clear hat
      go_wp2_with fail
      refine (within2 _ 0 10000 t.x t.y (by go_simp) (by go_simp)).mono ?_
      rintro e w2 ⟨rfl, rfl⟩
      generalize (inb 0 10000 t.x && inb 0 10000 t.y) = b1 at HSO ⊢
      cases b1
      · have HD := Lib.hid (HSN.out HSO.out)
        go_wp2
        go_ret
        refine ⟨ret_bool HD.out.symm, ?_⟩
        repeat' (first | exact HBW.out | (refine Below.alloc ?_ ?_ _) | assumption | (simp; omega))
      go_wp2_with fail
      refine (within1 _ 0 1048576 t.r (by go_simp)).mono ?_
      rintro e w2 ⟨rfl, rfl⟩
      generalize inb 0 1048576 t.r = b2 at HSO ⊢
      cases b2
      · have HD := Lib.hid (HSN.out HSO.out)
        go_wp2
        go_ret
        refine ⟨ret_bool HD.out.symm, ?_⟩
        repeat' (first | exact HBW.out | (refine Below.alloc ?_ ?_ _) | assumption | (simp; omega))
      go_wp2_with fail
      refine (within1 _ t.r 1048576 t.u (by go_simp)).mono ?_
      rintro e w2 ⟨rfl, rfl⟩
      generalize inb t.r 1048576 t.u = b3 at HSO ⊢
      cases b3
      · have HD := Lib.hid (HSN.out HSO.out)
        go_wp2
        go_ret
        refine ⟨ret_bool HD.out.symm, ?_⟩
        repeat' (first | exact HBW.out | (refine Below.alloc ?_ ?_ _) | assumption | (simp; omega))
      go_wp2_with fail
      refine (within1 _ 0 1000 t.s (by go_simp)).mono ?_
      rintro e w2 ⟨rfl, rfl⟩
      generalize inb 0 1000 t.s = b4 at HSO ⊢
      cases b4
      · have HD := Lib.hid (HSN.out HSO.out)
        go_wp2
        go_ret
        refine ⟨ret_bool HD.out.symm, ?_⟩
        repeat' (first | exact HBW.out | (refine Below.alloc ?_ ?_ _) | assumption | (simp; omega))
      have HS := Lib.hid (HST.out HSO.out)
      go_wp2
      go_roundw
      case rel =>
        refine ⟨k + 1, by omega, by go_num, HS.out, ?_⟩
        repeat' (first | exact HBW.out | (refine Below.alloc ?_ ?_ _) | assumption | (simp; omega))
      case measure => simp [intOf]; omega
    · obtain rfl : k = l.length := by omega
      rw [List.take_length] at HA
      clear hlt hk
      go_wp2
      go_ret
      exact ⟨ret_bool HA.out.symm, HBW.out⟩

theorem dem_take {T B : List Stp} {k : Nat} (h : ∀ i, i < k → demAt T B i) (hx : demAt T B k) : ∀ i, i < k + 1 → demAt T B i := by
  intro i hi
  by_cases c : i < k
  · exact h i c
  · obtain rfl : i = k := by omega
    exact hx
theorem dem_not {T B : List Stp} {k : Nat} (hk : k < T.length) (hx : ¬ demAt T B k) : demOk T B = false := decide_eq_false (fun h => hx (h k hk))
set_option maxRecDepth 1000000 in
set_option maxHeartbeats 1000000 in
theorem demands_any {w : World} {v u : Value} {T B : List Stp} (h : SRow w v T) (h2 : SRow w u B) (hl : T.length ≤ B.length) :
    Calls Tryz.prog 29 #[v, u] w fun e w' => e = .returned (.bool (demOk T B)) ∧ Below w.heap.size w w' := by
  have H := Lib.hid h
  have H2 := Lib.hid h2
  obtain ⟨ad, cap, rfl, hm, _⟩ := h.form
  obtain ⟨ad2, cap2, rfl, hm2, _⟩ := h2.form
  have hm1 : T.length ≤ 9223372036854775807 := by unfold maxLen at hm; omega
  have hm3 : B.length ≤ 9223372036854775807 := by unfold maxLen at hm2; omega
  clear h h2 hm hm2
  go_enter Tryz.func29, Tryz.ntmps29
  go_wp2_with fail
  go_loopw [9] (fun i wr => ∃ k : Nat, k ≤ T.length ∧ i = .int .i64 k ∧ (∀ i, i < k → demAt T B i) ∧ Below w.heap.size w wr) (fun i _ => T.length - (intOf i).toNat)
  case atStart => exact ⟨0, Nat.zero_le _, rfl, fun i hi => by omega, Below.refl _ _⟩
  case round =>
    obtain ⟨k, hk, rfl, hall, hbw⟩ := hrel
    have HA := Lib.hid hall
    have HBW := Lib.hid hbw
    have hsz := hbw.size
    clear hall hbw
    by_cases hlt : k < T.length
    · obtain ⟨tb, off, rfl, hat, htb⟩ := srow_at H.out k hlt
      obtain ⟨tb2, off2, rfl, hat2, htb2⟩ := srow_at H2.out k (by omega)
      obtain ⟨c0, c1, c2, c3, c4, c5⟩ := hat.below htb HBW.out
      obtain ⟨_, _, e2, _⟩ := hat2.below htb2 HBW.out
      have hb1 : (k : Int) < (T.length : Int) := by omega
      have hb2 : (k : Int) < (B.length : Int) := by omega
      have hb3 : k < B.length := by omega
      have hne : ¬ tb2 = wr.heap.size := by omega
      have HST := Lib.hid (fun hx => dem_take HA.out (k := k) (T := T) (B := B) hx)
      have HSN := Lib.hid (fun hx => dem_not (k := k) (B := B) hlt hx)
      have HDA := Lib.hid (show demAt T B k ↔ inb 1 1000 (nth T k).d = true ∧ (nth B k).d = -(nth T k).d from Iff.rfl)
      generalize nth T k = t at *
      generalize nth B k = s at *
      clear hat hat2
      go_wp2_with fail
      have m2 : (wr.alloc (.cells #[.int .i64 t.x, .int .i64 t.y, .int .i64 t.d, .int .i64 t.r, .int .i64 t.u, .int .i64 t.s] 65)).cell? ⟨wr.heap.size, 2, none⟩ = some (.int .i64 t.d) := by go_simp
      have n2 : (wr.alloc (.cells #[.int .i64 t.x, .int .i64 t.y, .int .i64 t.d, .int .i64 t.r, .int .i64 t.u, .int .i64 t.s] 65)).cell? ⟨tb2, off2 + k * 6 + 2, none⟩ = some (.int .i64 s.d) := by rw [((Below.refl _ wr).alloc (Nat.le_refl _) _).cell (p := ⟨tb2, off2 + k * 6 + 2, none⟩) (by have := hsz; simp; omega)]; exact e2
      have HB1 := Lib.hid (HBW.out.alloc hsz (.cells #[.int .i64 t.x, .int .i64 t.y, .int .i64 t.d, .int .i64 t.r, .int .i64 t.u, .int .i64 t.s] 65))
      have hN : wr.heap.size < (wr.alloc (.cells #[.int .i64 t.x, .int .i64 t.y, .int .i64 t.d, .int .i64 t.r, .int .i64 t.u, .int .i64 t.s] 65)).heap.size := by simp
      generalize wr.alloc (.cells #[.int .i64 t.x, .int .i64 t.y, .int .i64 t.d, .int .i64 t.r, .int .i64 t.u, .int .i64 t.s] 65) = W at *
      have hW2 : tb2 < W.heap.size := by omega
      have hszW := HB1.out.size
      clear c0 c1 c2 c3 c4 c5 e2
      generalize wr.heap.size = N at *
      have key : (inb 1 1000 t.d = false) ∨ (inb 1 1000 t.d = true ∧ (s.d != -t.d) = true ∧ IntKind.i64.wrap (-t.d) = -t.d) ∨ (inb 1 1000 t.d = true ∧ (s.d != -t.d) = false ∧ IntKind.i64.wrap (-t.d) = -t.d) := by
        cases hi : inb 1 1000 t.d with
        | false => exact .inl rfl
        | true =>
          have := (inb_iff _ _ _).1 hi
          have hw : IntKind.i64.wrap (-t.d) = -t.d := IntWalk.i64_in _ (by omega)
          cases hq : (s.d != -t.d) with
          | false => exact .inr (.inr ⟨rfl, rfl, hw⟩)
          | true => exact .inr (.inl ⟨rfl, rfl, hw⟩)
      rcases key with hi | ⟨hi, hq, hw⟩ | ⟨hi, hq, hw⟩
      all_goals
        have HS0 := Lib.hid (show Holds [(⟨N, 2, none⟩, .int .i64 t.d), (⟨tb2, off2 + k * 6 + 2, none⟩, .int .i64 s.d)] W.drew from ⟨m2, n2, trivial⟩)
        have hlt := Lib.hid (show Lows W.drew.heap.size [((⟨N, 2, none⟩ : Addr), (.int .i64 t.d : Value)), (⟨tb2, off2 + k * 6 + 2, none⟩, .int .i64 s.d)] from ⟨hN, hW2, trivial⟩)
        have HB2 := Lib.hid HB1.out.drew
        clear m2 n2
      · have HD := Lib.hid (HSN.out (fun h => by have := (HDA.out.1 h).1; rw [hi] at this; simp at this))
        refine wp_region_held_drew (S := Holds [(⟨N, 2, none⟩, .int .i64 t.d), (⟨tb2, off2 + k * 6 + 2, none⟩, .int .i64 s.d)]) (by kernel_rfl) HS0.out (fun hSn => ?_)
        have Bc := Lib.hid (Below.refl W.drew.heap.size W.drew)
        refine tks [0, 1] 2 rfl (by kernel_rfl) (fun _ _ _ _ h => h) (by assumption) (fun KT hKT => ?_)
        iterate 2 (refine tkT (by (simp only [gA, gB, gC]; rfl)) (by rfl) (by (intro w hSw; (simp only [Holds] at hSw); go_simp <;> with_reducible rfl)) ?_; simp only [Act.put, pA, pB, pC])
        refine hKT _ ?_
        clear KT hKT
        refine wpAnyH_ready (rs := [2]) (by kernel_rfl) (by simp) ?_
        refine AllReadyH.cons (o := ?oz1) ?iz1 (fun K hK => ?kz1) AllReadyH.nil
        case iz1 => (simp only [List.getElem?_toArray, List.getElem?_cons_zero, List.getElem?_cons_succ]; rfl)
        go_simp
        refine held_more hK HS0.out hlt (Bc.out.alloc Bc.out.size _) (fun Bc hSn => ?_)
        refine wpAnyH_ready (rs := [3]) (by kernel_rfl) (by simp) ?_
        refine AllReadyH.cons (o := ?oz2) ?iz2 (fun K hK => ?kz2) AllReadyH.nil
        case iz2 => (simp only [List.getElem?_toArray, List.getElem?_cons_zero, List.getElem?_cons_succ]; rfl)
        go_simp
        refine (within1 _ 1 1000 t.d (by go_simp)).mono ?_
        rw [hi]
        rintro e w' ⟨rfl, rfl⟩
        refine held_more hK HS0.out hlt Bc.out (fun Bc hSn => ?_)
        refine tks [4, 5] 2 rfl (by kernel_rfl) (fun _ _ _ _ h => h) (by assumption) (fun KT hKT => ?_)
        iterate 2 (refine tkT (by (simp only [gA, gB, gC]; rfl)) (by rfl) (by (intro w hSw; (simp only [Holds] at hSw); go_simp <;> with_reducible rfl)) ?_; simp only [Act.put, pA, pB, pC])
        refine hKT _ ?_
        clear KT hKT
        refine tks [6, 7, 8, 9, 10, 11, 12, 13, 14] 9 rfl (by kernel_rfl) (fun _ _ _ _ h => h) (by assumption) (fun KT hKT => ?_)
        iterate 9 (refine tkS (by (simp only [gA, gB, gC]; rfl)) (by rfl) ?_; simp only [Act.put, pA, pB, pC])
        refine hKT _ ?_
        clear KT hKT
        refine tks [15] 1 rfl (by kernel_rfl) (fun _ _ _ _ h => h) (by assumption) (fun KT hKT => ?_)
        refine tkT (by (simp only [gA, gB, gC]; rfl)) (by rfl) (by (intro w hSw; (simp only [Holds] at hSw); go_simp <;> with_reducible rfl)) ?_
        simp only [Act.put, pA, pB, pC]
        refine hKT _ ?_
        clear KT hKT
        refine wpAnyH_done (by kernel_rfl) ?_ _
        go_wp2
        go_ret
        exact ⟨ret_bool HD.out.symm, HB2.out.trans (Bc.out.mono HB2.out.size)⟩
      · have HD := Lib.hid (HSN.out (fun h => by have := (HDA.out.1 h).2; simp [this] at hq))
        refine wp_region_held_drew (S := Holds [(⟨N, 2, none⟩, .int .i64 t.d), (⟨tb2, off2 + k * 6 + 2, none⟩, .int .i64 s.d)]) (by kernel_rfl) HS0.out (fun hSn => ?_)
        have Bc := Lib.hid (Below.refl W.drew.heap.size W.drew)
        refine tks [0, 1] 2 rfl (by kernel_rfl) (fun _ _ _ _ h => h) (by assumption) (fun KT hKT => ?_)
        iterate 2 (refine tkT (by (simp only [gA, gB, gC]; rfl)) (by rfl) (by (intro w hSw; (simp only [Holds] at hSw); go_simp <;> with_reducible rfl)) ?_; simp only [Act.put, pA, pB, pC])
        refine hKT _ ?_
        clear KT hKT
        refine wpAnyH_ready (rs := [2]) (by kernel_rfl) (by simp) ?_
        refine AllReadyH.cons (o := ?oz3) ?iz3 (fun K hK => ?kz3) AllReadyH.nil
        case iz3 => (simp only [List.getElem?_toArray, List.getElem?_cons_zero, List.getElem?_cons_succ]; rfl)
        go_simp
        refine held_more hK HS0.out hlt (Bc.out.alloc Bc.out.size _) (fun Bc hSn => ?_)
        refine wpAnyH_ready (rs := [3]) (by kernel_rfl) (by simp) ?_
        refine AllReadyH.cons (o := ?oz4) ?iz4 (fun K hK => ?kz4) AllReadyH.nil
        case iz4 => (simp only [List.getElem?_toArray, List.getElem?_cons_zero, List.getElem?_cons_succ]; rfl)
        go_simp
        refine (within1 _ 1 1000 t.d (by go_simp)).mono ?_
        rw [hi]
        rintro e w' ⟨rfl, rfl⟩
        refine held_more hK HS0.out hlt Bc.out (fun Bc hSn => ?_)
        refine tks [4, 5, 6, 7, 8, 9, 10, 11, 12, 13, 14, 15] 12 rfl (by kernel_rfl) (fun _ _ _ _ h => h) (by assumption) (fun KT hKT => ?_)
        iterate 12 (refine tkT (by (simp only [gA, gB, gC]; rfl)) (by rfl) (by (intro w hSw; (simp only [Holds] at hSw); go_simp <;> with_reducible rfl)) ?_; simp only [Act.put, pA, pB, pC])
        refine hKT _ ?_
        clear KT hKT
        refine wpAnyH_done (by kernel_rfl) ?_ _
        go_wp2
        go_ret
        exact ⟨ret_bool HD.out.symm, HB2.out.trans (Bc.out.mono HB2.out.size)⟩
      · have HS := Lib.hid (HST.out (HDA.out.2 ⟨hi, by simpa using hq⟩))
        refine wp_region_held_drew (S := Holds [(⟨N, 2, none⟩, .int .i64 t.d), (⟨tb2, off2 + k * 6 + 2, none⟩, .int .i64 s.d)]) (by kernel_rfl) HS0.out (fun hSn => ?_)
        have Bc := Lib.hid (Below.refl W.drew.heap.size W.drew)
        refine tks [0, 1] 2 rfl (by kernel_rfl) (fun _ _ _ _ h => h) (by assumption) (fun KT hKT => ?_)
        iterate 2 (refine tkT (by (simp only [gA, gB, gC]; rfl)) (by rfl) (by (intro w hSw; (simp only [Holds] at hSw); go_simp <;> with_reducible rfl)) ?_; simp only [Act.put, pA, pB, pC])
        refine hKT _ ?_
        clear KT hKT
        refine wpAnyH_ready (rs := [2]) (by kernel_rfl) (by simp) ?_
        refine AllReadyH.cons (o := ?oz5) ?iz5 (fun K hK => ?kz5) AllReadyH.nil
        case iz5 => (simp only [List.getElem?_toArray, List.getElem?_cons_zero, List.getElem?_cons_succ]; rfl)
        go_simp
        refine held_more hK HS0.out hlt (Bc.out.alloc Bc.out.size _) (fun Bc hSn => ?_)
        refine wpAnyH_ready (rs := [3]) (by kernel_rfl) (by simp) ?_
        refine AllReadyH.cons (o := ?oz6) ?iz6 (fun K hK => ?kz6) AllReadyH.nil
        case iz6 => (simp only [List.getElem?_toArray, List.getElem?_cons_zero, List.getElem?_cons_succ]; rfl)
        go_simp
        refine (within1 _ 1 1000 t.d (by go_simp)).mono ?_
        rw [hi]
        rintro e w' ⟨rfl, rfl⟩
        refine held_more hK HS0.out hlt Bc.out (fun Bc hSn => ?_)
        refine tks [4, 5, 6, 7, 8, 9, 10, 11, 12, 13, 14, 15] 12 rfl (by kernel_rfl) (fun _ _ _ _ h => h) (by assumption) (fun KT hKT => ?_)
        iterate 12 (refine tkT (by (simp only [gA, gB, gC]; rfl)) (by rfl) (by (intro w hSw; (simp only [Holds] at hSw); go_simp <;> with_reducible rfl)) ?_; simp only [Act.put, pA, pB, pC])
        refine hKT _ ?_
        clear KT hKT
        refine wpAnyH_done (by kernel_rfl) ?_ _
        go_wp2
        go_roundw
        case rel => exact ⟨k + 1, by omega, by go_num, HS.out, HB2.out.trans (Bc.out.mono HB2.out.size)⟩
        case measure => simp [intOf]; omega
    · obtain rfl : k = T.length := by omega
      have HD := Lib.hid (show demOk T B = true from decide_eq_true HA.out)
      clear hlt hk
      go_wp2
      go_ret
      exact ⟨ret_bool HD.out.symm, HBW.out⟩
end Go.Proofs.YtgplajofemencaaGreat
