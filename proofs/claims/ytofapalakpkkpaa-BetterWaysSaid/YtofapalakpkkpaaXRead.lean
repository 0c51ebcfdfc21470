/- How bytes, numbers and lines lie in memory, and how a reader does. -/
import Derived.Test.YtofapalakpkkpaaRows
import Derived.Test.YtofapalakpkkpaaXMath
import Derived.WalkKit
import Derived.ProofKit
import Derived.OpenShut
import Derived.IntWalk
import Derived.Below
import Derived.Lib.Hide
import Derived.Deep.QuietTactic
import Derived.BigQuiet
import Derived.Deep.AppendLies
import Derived.Laws.OwnMore
import Derived.Maps.AppendAt
import Derived.Deep.RegionLaw
import Derived.OwnWalk
import Derived.BigRegion
namespace Go.Proofs.Ytofapalakpkkpaa
open Go.ChangeShapes Go.WideShapes Go.ChangeAt Go.RowKit

theorem ret_int {k : IntKind} {a b : Int} (h : a = b) : Ending.returned (.int k a) = .returned (.int k b) := by rw [h]
theorem ret_bool {a b : Bool} (h : a = b) : Ending.returned (.bool a) = .returned (.bool b) := by rw [h]

def ints (l : List Int) : List Value := l.map (Value.int .i64)
def byts (l : List Int) : List Value := l.map (Value.int .u8)
theorem ints_len (l : List Int) : (ints l).length = l.length := by simp [ints]
theorem byts_len (l : List Int) : (byts l).length = l.length := by simp [byts]
theorem ints_at (l : List Int) (i : Nat) (h : i < l.length) : (ints l)[i]? = some (.int .i64 (l.getD i 0)) := by
  simp [ints, List.getD_eq_getElem?_getD, h]
theorem byts_at (l : List Int) (i : Nat) (h : i < l.length) : (byts l)[i]? = some (.int .u8 (l.getD i 0)) := by
  simp [byts, List.getD_eq_getElem?_getD, h]

/-- A slice whose cells read so. -/
def Row (w : World) (v : Value) (xs : List Value) : Prop :=
  xs.length ≤ maxLen ∧ ∃ a cap, v = .slice a xs.length cap ∧ xs.length ≤ cap ∧ (cap ≤ maxLen ∧ (a = none → cap = 0)) ∧ (xs = [] ∨ ∃ b off, a = some ⟨b, off, none⟩ ∧ ∀ i, i < xs.length → w.cell? ⟨b, off + i, none⟩ = xs[i]?)
theorem Row.below {w w' : World} {v : Value} {xs : List Value} (h : Row w v xs) (hb : Below w.heap.size w w') : Row w' v xs := by
  obtain ⟨hm, a, cap, hv, hc, hc2, h⟩ := h
  refine ⟨hm, a, cap, hv, hc, hc2, ?_⟩
  rcases h with h | ⟨b, off, ha, hc⟩
  · exact .inl h
  · refine .inr ⟨b, off, ha, fun i hi => ?_⟩
    have h1 := hc i hi
    rw [List.getElem?_eq_getElem hi] at h1
    have hlt : b < w.heap.size := World.block_lt_of_cell? w _ h1
    rw [hb.cell (p := ⟨b, off + i, none⟩) hlt]
    exact hc i hi
theorem own_row {w : World} {B : Nat} {e : TypeId} {v : Value} {n : Nat} {xs : List Value} (h : w.ownsRow B e 1 v n xs) : Row w v xs := by
  have hl : xs.length = n := by simpa using h.1
  subst hl
  rcases h.2 with ⟨rfl, hn⟩ | ⟨g, cap, cur, rfl, hb, hg, hc, hm, hs, ht⟩
  · have : xs = [] := List.eq_nil_of_length_eq_zero hn
    subst this
    exact ⟨by simp, none, 0, rfl, by simp, ⟨by simp, fun _ => rfl⟩, .inl rfl⟩
  · refine ⟨by omega, _, _, rfl, hc, ⟨hm, fun h => by simp at h⟩, .inr ⟨g, 0, rfl, fun i hi => ?_⟩⟩
    rw [Nat.zero_add, h.cellAt _ (by omega)]
theorem own_less {w : World} {B B' : Nat} {e : TypeId} {s : Nat} {v : Value} {n : Nat} {xs : List Value} (h : w.ownsRow B e s v n xs) (hB : B' ≤ B) : w.ownsRow B' e s v n xs := by
  refine ⟨h.1, ?_⟩
  rcases h.2 with h0 | ⟨g, cap, cur, hv, hb, r⟩
  · exact .inl h0
  · exact .inr ⟨g, cap, cur, hv, by omega, r⟩
theorem own_ne {w : World} {B b : Nat} {e e' : TypeId} {s : Nat} {v : Value} {n : Nat} {xs : List Value} {c : Array Value} {fr : Nat × Nat} (h : w.ownsRow B e s v n xs) (hb : w.heap[b]? = some (.cells c e' fr)) (he : e ≠ e') : v.ownBlock ≠ some b := by
  rcases h.2 with ⟨rfl, _⟩ | ⟨g, cap, cur, rfl, _, hg, _⟩
  · simp [Value.ownBlock]
  · simp only [Value.ownBlock, ne_eq, Option.some.injEq]
    rintro rfl
    rw [hg] at hb
    simp at hb
    exact he hb.2.1
theorem own_below {w w' : World} {B : Nat} {e : TypeId} {s : Nat} {v : Value} {n : Nat} {xs : List Value} (h : w.ownsRow B e s v n xs) (hb : Below w.heap.size w w') : w'.ownsRow B e s v n xs :=
  h.kept (row := none) ⟨hb.os, hb.tape, hb.output, hb.size, fun k hk _ => hb.block k hk⟩ (by cases v.ownBlock <;> simp)

/-! ### Lines -/
/-- Each line lies where its slice says. -/
def In (w : World) : List Value → List (List Int) → Prop
  | [], [] => True
  | v :: vs, l :: L => Row w v (ints l) ∧ In w vs L
  | _, _ => False
def OwnIn (w : World) (B : Nat) : List Value → List (List Int) → Prop
  | [], [] => True
  | v :: vs, l :: L => w.ownsRow B 3 1 v l.length (ints l) ∧ OwnIn w B vs L
  | _, _ => False
theorem In.len {w : World} : ∀ {vs : List Value} {L : List (List Int)}, In w vs L → vs.length = L.length
  | [], [], _ => rfl
  | _ :: _, _ :: _, h => by simp [In.len h.2]
  | [], _ :: _, h => h.elim
  | _ :: _, [], h => h.elim
theorem In.at {w : World} : ∀ {vs : List Value} {L : List (List Int)}, In w vs L → ∀ i, i < L.length → ∃ v, vs[i]? = some v ∧ Row w v (ints (L.getD i []))
  | [], [], _, i, h => by simp at h
  | v :: _, l :: _, h, 0, _ => ⟨v, rfl, h.1⟩
  | _ :: vs, _ :: L, h, i + 1, hi => by
    obtain ⟨v, h1, h2⟩ := In.at h.2 i (by simpa using hi)
    exact ⟨v, by simpa using h1, by simpa using h2⟩
  | [], _ :: _, h, _, _ => h.elim
  | _ :: _, [], h, _, _ => h.elim
theorem In.below {w w' : World} (hb : Below w.heap.size w w') : ∀ {vs : List Value} {L : List (List Int)}, In w vs L → In w' vs L
  | [], [], _ => trivial
  | _ :: _, _ :: _, h => ⟨h.1.below hb, In.below hb h.2⟩
  | [], _ :: _, h => h.elim
  | _ :: _, [], h => h.elim
theorem In.append {w : World} : ∀ {vs : List Value} {L : List (List Int)} {us : List Value} {K : List (List Int)}, In w vs L → In w us K → In w (vs ++ us) (L ++ K)
  | [], [], _, _, _, k => k
  | _ :: _, _ :: _, _, _, h, k => ⟨h.1, In.append h.2 k⟩
  | [], _ :: _, _, _, h, _ => h.elim
  | _ :: _, [], _, _, h, _ => h.elim
theorem OwnIn.in {w : World} {B : Nat} : ∀ {vs : List Value} {L : List (List Int)}, OwnIn w B vs L → In w vs L
  | [], [], _ => trivial
  | _ :: _, _ :: _, h => ⟨own_row h.1, OwnIn.in h.2⟩
  | [], _ :: _, h => h.elim
  | _ :: _, [], h => h.elim
theorem OwnIn.less {w : World} {B B' : Nat} (hB : B' ≤ B) : ∀ {vs : List Value} {L : List (List Int)}, OwnIn w B vs L → OwnIn w B' vs L
  | [], [], _ => trivial
  | _ :: _, _ :: _, h => ⟨own_less h.1 hB, OwnIn.less hB h.2⟩
  | [], _ :: _, h => h.elim
  | _ :: _, [], h => h.elim
theorem OwnIn.append {w : World} {B : Nat} : ∀ {vs : List Value} {L : List (List Int)} {us : List Value} {K : List (List Int)}, OwnIn w B vs L → OwnIn w B us K → OwnIn w B (vs ++ us) (L ++ K)
  | [], [], _, _, _, k => k
  | _ :: _, _ :: _, _, _, h, k => ⟨h.1, OwnIn.append h.2 k⟩
  | [], _ :: _, _, _, h, _ => h.elim
  | _ :: _, [], _, _, h, _ => h.elim
/-- What grows elsewhere leaves them. -/
theorem OwnIn.kept {w w' : World} {B : Nat} {row : Option Nat} (hg : w.grownBy w' row) : ∀ {vs : List Value} {L : List (List Int)}, OwnIn w B vs L → (∀ u ∈ vs, u.ownBlock = none ∨ u.ownBlock ≠ row) → OwnIn w' B vs L
  | [], [], _, _ => trivial
  | v :: _, _ :: _, h, k => ⟨h.1.kept hg (k v (by simp)), OwnIn.kept hg h.2 (fun u hu => k u (by simp [hu]))⟩
  | [], _ :: _, h, _ => h.elim
  | _ :: _, [], h, _ => h.elim
theorem OwnIn.ne {w : World} {B b : Nat} {e : TypeId} {c : Array Value} {fr : Nat × Nat} (hb : w.heap[b]? = some (.cells c e fr)) (he : (3 : TypeId) ≠ e) : ∀ {vs : List Value} {L : List (List Int)}, OwnIn w B vs L → ∀ u ∈ vs, u.ownBlock ≠ some b
  | [], [], _, u, hu => by simp at hu
  | v :: _, _ :: _, h, u, hu => by
    simp only [List.mem_cons] at hu
    rcases hu with rfl | hu
    · exact own_ne h.1 hb he
    · exact OwnIn.ne hb he h.2 u hu
  | [], _ :: _, h, _, _ => h.elim
  | _ :: _, [], h, _, _ => h.elim
theorem OwnIn.one {w : World} {B : Nat} : ∀ {vs : List Value} {L : List (List Int)}, OwnIn w B vs L → ∀ u ∈ vs, u.oneCell' = true
  | [], [], _, u, hu => by simp at hu
  | v :: _, _ :: _, h, u, hu => by
    simp only [List.mem_cons] at hu
    rcases hu with rfl | hu
    · rcases h.1.2 with ⟨rfl, _⟩ | ⟨g, cap, cur, rfl, _⟩ <;> rfl
    · exact OwnIn.one h.2 u hu
  | [], _ :: _, h, _, _ => h.elim
  | _ :: _, [], h, _, _ => h.elim
/-- Lines that may be read. -/
def IsLL (w : World) (v : Value) (L : List (List Int)) : Prop := ∃ vs, Row w v vs ∧ In w vs L
theorem IsLL.below {w w' : World} {v : Value} {L : List (List Int)} (h : IsLL w v L) (hb : Below w.heap.size w w') : IsLL w' v L := by
  obtain ⟨vs, h1, h2⟩ := h
  exact ⟨vs, h1.below hb, h2.below hb⟩
/-- Lines that a call has made. -/
def OwnLL (w : World) (B : Nat) (v : Value) (L : List (List Int)) : Prop := ∃ vs, w.ownsRow B 25 1 v vs.length vs ∧ OwnIn w B vs L
theorem OwnLL.is {w : World} {B : Nat} {v : Value} {L : List (List Int)} (h : OwnLL w B v L) : IsLL w v L := by
  obtain ⟨vs, h1, h2⟩ := h
  exact ⟨vs, own_row h1, h2.in⟩
theorem OwnLL.less {w : World} {B B' : Nat} {v : Value} {L : List (List Int)} (h : OwnLL w B v L) (hB : B' ≤ B) : OwnLL w B' v L := by
  obtain ⟨vs, h1, h2⟩ := h
  exact ⟨vs, own_less h1 hB, h2.less hB⟩
theorem OwnLL.below {w w' : World} {B : Nat} {v : Value} {L : List (List Int)} (h : OwnLL w B v L) (hb : Below w.heap.size w w') : OwnLL w' B v L := by
  obtain ⟨vs, h1, h2⟩ := h
  exact ⟨vs, own_below h1 hb, h2.kept (row := none) ⟨hb.os, hb.tape, hb.output, hb.size, fun k hk _ => hb.block k hk⟩ (fun u _ => by cases u.ownBlock <;> simp)⟩
theorem ownLL_nil (w : World) (B : Nat) : OwnLL w B (.slice none 0 0) [] := ⟨[], World.ownsRow_nil _ _ _ _, trivial⟩

/-! ### The reader -/
section
variable {w : World} {B b : Nat} {tv : Value} {p : Nat} {L : List (List Int)} {l : List Int} {sz dg : Nat} {neg : Bool} {lv v : Value} {vs : List Value}
end
end Go.Proofs.Ytofapalakpkkpaa
/- What a reader's steps do: a byte's kind, the next byte, a digit taken, a number ended, a line ended. -/
namespace Go.Proofs.Ytofapalakpkkpaa
open Go.ChangeShapes Go.WideShapes Go.ChangeAt Go.RowKit

theorem kd_1 : (1 : Int) = kd 32 := by decide
theorem kd_2 : (2 : Int) = kd 45 := by decide
theorem kd_4 : (4 : Int) = kd 35 := by decide
theorem kd_5 : (5 : Int) = kd 10 := by decide
theorem kd_3 {c : Int} (h1 : 48 ≤ c) (h2 : c ≤ 57) : 3 = kd c := by have := kd_cases c; omega
theorem kd_0 {c : Int} (a1 : c ≠ 32) (a2 : c ≠ 45) (a3 : c ≠ 35) (a4 : c ≠ 10) (h : ¬ (48 ≤ c ∧ c ≤ 57)) : 0 = kd c := by have := kd_cases c; omega
theorem own_each {w : World} {B : Nat} (n : Nat) : ∀ {vs : List Value} {L : List (List Int)}, OwnIn w B vs L → OwnIn (w.drewN n) B vs L
  | [], [], _ => trivial
  | _ :: _, _ :: _, h => ⟨h.1, own_each n h.2⟩
  | [], _ :: _, h => h.elim
  | _ :: _, [], h => h.elim
section
variable {w : World} {B b : Nat} {tv : Value} {p : Nat} {L : List (List Int)} {l : List Int} {sz dg : Nat} {neg : Bool} {bs : List Int}
theorem below_drewN {B : Nat} {a w : World} (h : Below B a w) (n : Nat) : Below B a (w.drewN n) := ⟨h.os, h.tape, h.output, h.size, h.block⟩
theorem row_at {xs : List Value} (ht : Row w tv xs) (hp : p < xs.length) : ∃ tb off cap, tv = .slice (some ⟨tb, off, none⟩) xs.length cap ∧ w.cell? ⟨tb, off + p, none⟩ = xs[p]? ∧ xs.length ≤ maxLen ∧ tb < w.heap.size := by
  obtain ⟨hm, a, cap, rfl, _, _, h | ⟨tb, off, rfl, hc⟩⟩ := ht
  · rw [h] at hp; simp at hp
  · have h1 := hc p hp
    have h2 := h1
    rw [List.getElem?_eq_getElem hp] at h2
    exact ⟨tb, off, cap, rfl, h1, hm, World.block_lt_of_cell? w _ h2⟩
end
end Go.Proofs.Ytofapalakpkkpaa
/- What a reader does with a digit, at a number's end, and at a line's end. -/
namespace Go.Proofs.Ytofapalakpkkpaa
open Go.ChangeShapes Go.WideShapes Go.ChangeAt Go.RowKit

theorem infoInt : (Try.prog.info? 3).map (fun i => (i.zero, i.size, i.bytes)) = some (some (.int .i64 0), 1, 8) := by kernel_rfl
theorem infoInts : (Try.prog.info? 25).map (fun i => (i.zero, i.size, i.bytes)) = some (some (.slice none 0 0), 1, 24) := by kernel_rfl
theorem infoByte : (Try.prog.info? 5).map (fun i => (i.zero, i.size, i.bytes)) = some (some (.int .u8 0), 1, 1) := by kernel_rfl

theorem own_diff {w : World} {B C : Nat} {e e' : TypeId} {s s' : Nat} {v u : Value} {n m : Nat} {xs ys : List Value} (h : w.ownsRow B e s v n xs) (k : w.ownsRow C e' s' u m ys) (he : e ≠ e') : v.ownBlock = none ∨ v.ownBlock ≠ u.ownBlock := by
  rcases k.2 with ⟨rfl, _⟩ | ⟨g, cap, cur, rfl, _, hg, _⟩
  · cases v.ownBlock <;> simp [Value.ownBlock]
  · exact .inr (own_ne h hg he)
theorem OwnIn.lt {w : World} {B : Nat} : ∀ {vs : List Value} {L : List (List Int)}, OwnIn w B vs L → ∀ u ∈ vs, ∀ g, u.ownBlock = some g → B ≤ g ∧ g < w.heap.size
  | [], [], _, u, hu, _, _ => by simp at hu
  | v :: _, _ :: _, h, u, hu, g, hg => by
    simp only [List.mem_cons] at hu
    rcases hu with rfl | hu
    · exact h.1.lt g hg
    · exact OwnIn.lt h.2 u hu g hg
  | [], _ :: _, h, _, _, _, _ => h.elim
  | _ :: _, [], h, _, _, _, _ => h.elim
theorem grown_alloc {w w1 : World} {O : Obj} {row : Option Nat} (h : (w.alloc O).grownBy w1 row) : w.grownBy w1 row := (World.grownBy_alloc w O row).trans h
theorem grown_drew {w w1 : World} {row : Option Nat} (h : w.drew.grownBy w1 row) : w.grownBy w1 row := ⟨h.os, h.tape, h.output, h.size, h.block⟩
theorem grown_below {B : Nat} {w w1 : World} {row : Option Nat} (h : w.grownBy w1 row) (hB : B ≤ w.heap.size) (hr : ∀ k, row = some k → B ≤ k) : Below B w w1 :=
  ⟨h.os, h.tape, h.output, h.size, fun k hk => h.block k (by omega) (fun e => by have := hr k e.symm; omega)⟩
theorem own_shape {w : World} {B : Nat} {e : TypeId} {s : Nat} {v : Value} {n : Nat} {xs : List Value} (h : w.ownsRow B e s v n xs) : ∃ a cap, v = .slice a n cap := by
  rcases h.2 with ⟨rfl, rfl⟩ | ⟨g, cap, cur, rfl, _⟩
  · exact ⟨_, _, rfl⟩
  · exact ⟨_, _, rfl⟩
theorem ints_snoc (l : List Int) (x : Int) : ints (l ++ [x]) = ints l ++ [.int .i64 x] := by simp [ints]
theorem byts_snoc (l : List Int) (x : Int) : byts (l ++ [x]) = byts l ++ [.int .u8 x] := by simp [byts]

section
variable {w : World} {B b : Nat} {tv : Value} {p : Nat} {L : List (List Int)} {l : List Int} {sz dg : Nat} {neg : Bool} {lv v : Value} {vs : List Value} {bs : List Int}
theorem addL_nil (L : List (List Int)) : addL L [] = L := by simp [addL]
theorem addL_some (L : List (List Int)) (l : List Int) (h : l ≠ []) : addL L l = L ++ [l] := by simp [addL, h]
end
end Go.Proofs.Ytofapalakpkkpaa
