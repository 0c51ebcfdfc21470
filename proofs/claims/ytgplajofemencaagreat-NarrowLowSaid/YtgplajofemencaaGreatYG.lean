/- States thrown together, and states that cover others: plain mathematics. -/
import Derived.Test.YtgplajofemencaaGreatXSPlan
import Derived.Test.YtgplajofemencaaGreatXIMem
import Derived.Test.YtgplajofemencaaGreatYF
import Derived.Test.YtgplajofemencaaGreatXE
import Derived.BigRegion
import Derived.Test.YtgplajofemencaaGreatYA
import Derived.Test.YtgplajofemencaaGreatXTCar
import Derived.Test.YtgplajofemencaaGreatXSDoc
import Derived.Test.YtgplajofemencaaGreatXTSched
namespace Go.Proofs.YtgplajofemencaaGreat

/-- Its sets are such. -/
structure Fits64 (s : Sta) : Prop where
  must : s.must < 18446744073709551616
  may : s.may < 18446744073709551616
  on : s.on < 18446744073709551616
def Covers (a b : Sta) : Prop := a.pos = b.pos ∧ a.car ≤ b.car ∧ a.time ≤ b.time ∧ a.load ≤ b.load ∧ a.first ≤ b.first ∧ within a.must b.must = true ∧ within a.on b.on = true ∧ within b.may a.may = true
instance (a b : Sta) : Decidable (Covers a b) := by unfold Covers; infer_instance
theorem fits_next {I : Ins} {s : Sta} (h : Fits64 s) (j : Int) : Fits64 (nextS I s j) := by
  unfold nextS
  by_cases hj : j = 0
  · rw [if_pos hj]; exact ⟨h.must, h.may, h.on⟩
  · rw [if_neg hj]
    refine ⟨or_lt h.must (bitN_lt j), or_lt h.may (bitN_lt j), ?_⟩
    show (if j ≤ I.p then s.on ||| bitN j else minus s.on (bitN (j - I.p))) < _
    split
    · exact or_lt h.on (bitN_lt j)
    · exact minus_lt h.on

/-! ### What covers can do as much -/
/-! ### Thrown together -/
end Go.Proofs.YtgplajofemencaaGreat
/- Rows of structs of several cells, of any kind. -/
namespace Go.Proofs.YtgplajofemencaaGreat
open Go.ChangeShapes Go.WideShapes Go.ChangeAt Go.RowKit

/-- Each of these is so many cells. -/
structure Enc {α : Type} (f : α → List Value) (k : Nat) : Prop where
  len : ∀ x, (f x).length = k
  pos : 0 < k
  one : ∀ x, ∀ u ∈ f x, u.oneCell' = true
section
variable {α : Type} {f : α → List Value} {k : Nat}
def GAt (f : α → List Value) (k : Nat) (w : World) (b o : Nat) (x : α) : Prop := ∀ j, j < k → w.cell? ⟨b, o + j, none⟩ = (f x)[j]?
theorem GAt.lt {w : World} {b o : Nat} {x : α} (E : Enc f k) (h : GAt f k w b o x) : b < w.heap.size := by
  have h0 := h 0 E.pos
  rw [List.getElem?_eq_getElem (by rw [E.len]; exact E.pos)] at h0
  exact World.block_lt_of_cell? w _ h0
theorem GAt.below {w w' : World} {b o : Nat} {x : α} (h : GAt f k w b o x) {B : Nat} (hlt : b < B) (hb : Below B w w') : GAt f k w' b o x := fun j hj => (hb.cell (p := ⟨b, o + j, none⟩) hlt).trans (h j hj)
/-- Such ones that may be read. -/
def GRow (f : α → List Value) (k : Nat) (w : World) (v : Value) (l : List α) : Prop :=
  l.length ≤ maxLen ∧ ∃ a cap, v = .slice a l.length cap ∧ l.length ≤ cap ∧ (cap ≤ maxLen ∧ (a = none → cap = 0)) ∧ (l = [] ∨ ∃ b off, a = some ⟨b, off, none⟩ ∧ ∀ i x, l[i]? = some x → GAt f k w b (off + i * k) x)
theorem GRow.below {w w' : World} {v : Value} {l : List α} (E : Enc f k) (h : GRow f k w v l) (hb : Below w.heap.size w w') : GRow f k w' v l := by
  obtain ⟨hm, a, cap, hv, hc, hc2, h⟩ := h
  refine ⟨hm, a, cap, hv, hc, hc2, ?_⟩
  rcases h with h | ⟨b, off, ha, hc⟩
  · exact .inl h
  · exact .inr ⟨b, off, ha, fun i x hi => (hc i x hi).below ((hc i x hi).lt E) hb⟩
theorem grow_nil (w : World) : GRow f k w (.slice none 0 0) [] := ⟨by simp, none, 0, rfl, by simp, ⟨by simp, fun _ => rfl⟩, .inl rfl⟩
theorem GRow.form {w : World} {v : Value} {l : List α} (h : GRow f k w v l) : ∃ a cap, v = .slice a l.length cap ∧ l.length ≤ maxLen ∧ l.length ≤ cap ∧ cap ≤ maxLen := by
  obtain ⟨hm, a, cap, rfl, hc, hc2, _⟩ := h
  exact ⟨a, cap, rfl, hm, hc, hc2.1⟩
theorem grow_at {w : World} {a : Option Addr} {n cap : Nat} {l : List α} (E : Enc f k) (h : GRow f k w (.slice a n cap) l) (i : Nat) (x : α) (hi : l[i]? = some x) : ∃ b off, a = some ⟨b, off, none⟩ ∧ GAt f k w b (off + i * k) x ∧ b < w.heap.size := by
  obtain ⟨_, a', cap', hv, _, _, h⟩ := h
  simp at hv
  rcases h with h | ⟨b, off, ha, hc⟩
  · subst h; simp at hi
  · exact ⟨b, off, by rw [hv.1, ha], hc i x hi, (hc i x hi).lt E⟩
theorem grow_here {w : World} {b off n cap : Nat} {l : List α} (E : Enc f k) (h : GRow f k w (.slice (some ⟨b, off, none⟩) n cap) l) (i : Nat) (x : α) (hi : l[i]? = some x) : GAt f k w b (off + i * k) x := by
  obtain ⟨b', off', he, hc, _⟩ := grow_at E h i x hi
  simp only [Option.some.injEq, Addr.mk.injEq, and_true] at he
  obtain ⟨rfl, rfl⟩ := he
  exact hc
/-- The part from p on, up to h. -/
theorem GRow.part {w : World} {b off n cap : Nat} {l : List α} (hs : GRow f k w (.slice (some ⟨b, off, none⟩) n cap) l) (p h : Nat) (hp : p ≤ h) (hh : h ≤ l.length) (a : Option Addr) (ha : a = (if cap = p then some ⟨b, off, none⟩ else some ⟨b, off + p * k, none⟩)) :
    GRow f k w (.slice a (h - p) (cap - p)) ((l.drop p).take (h - p)) := by
  obtain ⟨hm, a', cap', hv, hc, ⟨hc2, _⟩, hcell⟩ := hs
  simp at hv
  obtain ⟨rfl, rfl, rfl⟩ := hv
  have hl : ((l.drop p).take (h - p)).length = h - p := by simp; omega
  refine ⟨by omega, a, cap - p, by rw [hl], by omega, ⟨by omega, fun h0 => by rw [h0] at ha; split at ha <;> simp at ha⟩, ?_⟩
  by_cases h0 : h = p
  · left
    subst h0
    simp
  · right
    rw [if_neg (by omega)] at ha
    refine ⟨b, off + p * k, ha, fun i x hi => ?_⟩
    have hil : i < h - p := by have := (List.getElem?_eq_some_iff.1 hi).1; omega
    rcases hcell with hn | ⟨b', off', he, hcc⟩
    · subst hn; simp at hh; omega
    · simp at he
      obtain ⟨rfl, rfl⟩ := he
      rw [List.getElem?_take_of_lt hil, List.getElem?_drop] at hi
      have := hcc (p + i) x hi
      rw [show off + (p + i) * k = off + p * k + i * k by rw [Nat.add_mul]; omega] at this
      exact this
/-- All their cells. -/
def gflat (f : α → List Value) : List α → List Value
  | [] => []
  | x :: l => f x ++ gflat f l
theorem gflat_append : ∀ (a b : List α), gflat f (a ++ b) = gflat f a ++ gflat f b
  | [], _ => rfl
  | x :: a, b => by rw [List.cons_append, gflat, gflat, gflat_append a b, List.append_assoc]
theorem gflat_len (E : Enc f k) : ∀ (l : List α), (gflat f l).length = l.length * k
  | [] => by simp [gflat]
  | x :: l => by rw [gflat, List.length_append, gflat_len E l, E.len, List.length_cons, Nat.add_mul, Nat.one_mul, Nat.add_comm]
theorem gflat_at (E : Enc f k) : ∀ (l : List α) (i j : Nat) (x : α), l[i]? = some x → j < k → (gflat f l)[i * k + j]? = (f x)[j]?
  | [], i, j, x, h, _ => by simp at h
  | y :: l, 0, j, x, h, hj => by
    simp at h
    subst h
    rw [gflat, Nat.zero_mul, Nat.zero_add, List.getElem?_append_left (by rw [E.len]; exact hj)]
  | y :: l, i + 1, j, x, h, hj => by
    rw [gflat, List.getElem?_append_right (by rw [E.len, Nat.add_mul]; omega), show (i + 1) * k + j - (f y).length = i * k + j by rw [E.len, Nat.add_mul]; omega]
    exact gflat_at E l i j x (by simpa using h) hj
theorem gflat_one (E : Enc f k) : ∀ (l : List α), ∀ u ∈ gflat f l, u.oneCell' = true
  | [], u, hu => by simp [gflat] at hu
  | x :: l, u, hu => by
    rw [gflat, List.mem_append] at hu
    exact hu.elim (E.one x u) (gflat_one E l u)
/-- Such ones that a call has made. -/
def OwnG (f : α → List Value) (k : Nat) (t : TypeId) (w : World) (B : Nat) (v : Value) (l : List α) : Prop := w.ownsRow B t k v l.length (gflat f l)
theorem OwnG.row {t : TypeId} {w : World} {B : Nat} {v : Value} {l : List α} (E : Enc f k) (h : OwnG f k t w B v l) : GRow f k w v l := by
  have h' : w.ownsRow B t k v l.length (gflat f l) := h
  rcases h'.2 with ⟨rfl, hn⟩ | ⟨g, cap, cur, rfl, hb, hg, hc, hm, hs, ht⟩
  · have : l = [] := List.eq_nil_of_length_eq_zero hn
    subst this
    exact grow_nil _
  · refine ⟨by omega, _, _, rfl, hc, ⟨hm, fun h => by simp at h⟩, .inr ⟨g, 0, rfl, fun i x hi j hj => ?_⟩⟩
    have hil := (List.getElem?_eq_some_iff.1 hi).1
    have hb : i * k + j < l.length * k := by
      have : (i + 1) * k ≤ l.length * k := Nat.mul_le_mul_right k (by omega)
      rw [Nat.add_mul] at this
      omega
    rw [Nat.zero_add, h'.cellAt _ hb, gflat_at E l i j x hi hj]
theorem OwnG.below {t : TypeId} {w w' : World} {B : Nat} {v : Value} {l : List α} (h : OwnG f k t w B v l) (hb : Below w.heap.size w w') : OwnG f k t w' B v l := own_below h hb
theorem OwnG.alloc {t : TypeId} {w : World} {B : Nat} {v : Value} {l : List α} (h : OwnG f k t w B v l) (O : Obj) : OwnG f k t (w.alloc O) B v l := World.ownsRow.alloc h O
theorem ownG_nil {t : TypeId} (w : World) (B : Nat) : OwnG f k t w B (.slice none 0 0) [] := by
  unfold OwnG gflat
  exact World.ownsRow_nil _ _ _ _
theorem OwnG.less {t : TypeId} {w : World} {B B' : Nat} {v : Value} {l : List α} (h : OwnG f k t w B v l) (hB : B' ≤ B) : OwnG f k t w B' v l := own_less (show w.ownsRow B t k v l.length (gflat f l) from h) hB
theorem OwnG.kept {t : TypeId} {w w' : World} {B : Nat} {v : Value} {l : List α} {row : Option Nat} (h : OwnG f k t w B v l) (hg : w.grownBy w' row) (hne : v.ownBlock = none ∨ v.ownBlock ≠ row) : OwnG f k t w' B v l := World.ownsRow.kept h hg hne
theorem OwnG.shape {t : TypeId} {w : World} {B : Nat} {v : Value} {l : List α} (h : OwnG f k t w B v l) : ∃ a cap, v = .slice a l.length cap := own_shape (show w.ownsRow B t k v l.length (gflat f l) from h)
theorem grow_cells {w : World} {b off n cap : Nat} {l : List α} (E : Enc f k) (h : GRow f k w (.slice (some ⟨b, off, none⟩) n cap) l) : ∀ j u, (gflat f l)[j]? = some u → w.cell? ((⟨b, off, none⟩ : Addr).add j) = some u := by
  intro j u hj
  have hjl : j < (gflat f l).length := (List.getElem?_eq_some_iff.1 hj).1
  rw [gflat_len E] at hjl
  have hk := E.pos
  have hd : j / k < l.length := Nat.div_lt_of_lt_mul (by rw [Nat.mul_comm]; exact hjl)
  have hm : j % k < k := Nat.mod_lt _ hk
  have hx : l[j / k]? = some l[j / k] := List.getElem?_eq_getElem hd
  have hc := grow_here E h (j / k) _ hx (j % k) hm
  have hjj : j / k * k + j % k = j := by rw [Nat.mul_comm]; exact Nat.div_add_mod j k
  rw [← gflat_at E l (j / k) (j % k) _ hx hm, hjj, hj] at hc
  rw [add_off, ← hc]
  congr 2
  omega
/-- Such ones put behind ones that the call has made. -/
theorem app_rows {tS t : TypeId} {z : Value} {bytes : Nat} (E : Enc f k) (hU : Tryz.prog.underlying tS = some (.slice t)) (hI : (Tryz.prog.info? t).map (fun i => (i.zero, i.size, i.bytes)) = some (some z, k, bytes)) (hz : z.cells.size = k) (hby : bytes ≤ 1024)
    {w : World} {ops : Array Oper} {rest : List Oper} {o : Oper} {a : Act} {Q : Exit → Act → World → Prop} (hgd : o.guard = none) (s x : Operand)
    (ho : o.op = .call { callee := .builtin .append, args := #[s, x], argTypes := #[tS, tS] }) (B : Nat) (v : Value) (l : List α) (hs : a.eval s = v) (hown : OwnG f k t w B v l)
    (u : Value) (m : List α) (hx : a.eval x = u) (hr : GRow f k w u m) (hlen : l.length + m.length ≤ 1000000) (hB : B ≤ w.heap.size)
    (h : ∀ v' w', OwnG f k t w' B v' (l ++ m) → w.grownBy w' v.ownBlock → (v'.ownBlock = v.ownBlock ∨ v'.ownBlock = some w.heap.size) → wpList Tryz.prog ops Q rest (a.put o.dst v') w') : wpList Tryz.prog ops Q (o :: rest) a w := by
  obtain ⟨i0, hi, hz0, hz1, hz2⟩ := info_parts hI
  have hr' := hr
  obtain ⟨hm, ad, cap, rfl, hc, ⟨hc2, hn⟩, hcell⟩ := hr
  cases ad with
  | none =>
    have hc0 : cap = 0 := hn rfl
    subst hc0
    have hms : m = [] := List.eq_nil_of_length_eq_zero (by omega)
    subst hms
    refine wpList_append_own_none hgd s x tS ho B t i0 k hU hi v l.length (gflat f l) hs hown hx (h v w ?_ ⟨rfl, rfl, rfl, Nat.le_refl _, fun _ _ _ => rfl⟩ (.inl rfl))
    rw [List.append_nil]; exact hown
  | some ad =>
    refine wpList_append_own_at w hgd s x tS ho B t i0 _ k bytes hU hi hz0 hz1 hz2 hz E.pos v l.length (gflat f l) hs hown ad m.length cap (gflat f m) hx (gflat_len E m) ?_ (gflat_one E m) (by unfold maxLen; omega) ?_ hB ?_
    · intro j u hj
      rcases hcell with h0 | ⟨b, off, he, hcc⟩
      · rw [h0] at hj; simp [gflat] at hj
      · simp at he
        subst he
        exact grow_cells E hr' j u hj
    · exact Nat.le_trans (Nat.mul_le_mul hlen hby) (by decide)
    · intro v' w' h1 h2 _ h4
      refine h v' w' ?_ h2 h4
      unfold OwnG
      rw [List.length_append, gflat_append]
      exact h1
/-- A list of such ones in a block of its own, new. -/
theorem grow_block {w : World} {b : Nat} {l : List α} {t : TypeId} {fr : Nat × Nat} (E : Enc f k) (h : w.heap[b]? = some (.cells (gflat f l).toArray t fr)) (hl : l.length ≤ maxLen) : GRow f k w (.slice (some ⟨b, 0, none⟩) l.length l.length) l := by
  refine ⟨hl, _, _, rfl, Nat.le_refl _, ⟨hl, by simp⟩, .inr ⟨b, 0, rfl, fun i x hi j hj => ?_⟩⟩
  rw [cell_of_row _ _ _ _ _ _ h, Nat.zero_add, List.getElem?_toArray]
  exact gflat_at E l i j x hi hj
end
end Go.Proofs.YtgplajofemencaaGreat
/- Rows of states, and a state that is added to, in memory. -/
namespace Go.Proofs.YtgplajofemencaaGreat
open Go.ChangeShapes Go.WideShapes Go.ChangeAt Go.RowKit

section
variable {w w' : World} {b : Nat} {s : Sta}
end
theorem fits_of {s : Sta} (h : SetsOk s) : Fits64 s := ⟨h.1, h.2.1, h.2.2⟩
theorem of_fits {s : Sta} (h : Fits64 s) : SetsOk s := ⟨h.must, h.may, h.on⟩
theorem encSta : Enc stL 8 := ⟨fun _ => rfl, by decide, fun s u hu => by
  simp only [stL, List.mem_cons, List.not_mem_nil, or_false] at hu
  rcases hu with rfl | rfl | rfl | rfl | rfl | rfl | rfl | rfl <;> rfl⟩
/-- A row of states. -/
def ARow (w : World) (v : Value) (l : List Sta) : Prop := GRow stL 8 w v l
theorem ARow.below {w w' : World} {v : Value} {l : List Sta} (h : ARow w v l) (hb : Below w.heap.size w w') : ARow w' v l := GRow.below encSta h hb
theorem ARow.form {w : World} {v : Value} {l : List Sta} (h : ARow w v l) : ∃ a cap, v = .slice a l.length cap ∧ l.length ≤ maxLen ∧ l.length ≤ cap ∧ cap ≤ maxLen := GRow.form h
/-- States that a call has made. -/
def OwnA (w : World) (B : Nat) (v : Value) (l : List Sta) : Prop := OwnG stL 8 27 w B v l
theorem OwnA.row {w : World} {B : Nat} {v : Value} {l : List Sta} (h : OwnA w B v l) : ARow w v l := OwnG.row encSta h
section
variable {H : Type} {enc : TypeId × Value → H} {w : World} {base : Nat} {spare : Nat → Bool} {held : Bool}
end
end Go.Proofs.YtgplajofemencaaGreat
/- Whether a state covers another one: the program's answer, and the document's. -/
namespace Go.Proofs.YtgplajofemencaaGreat
open Go.ChangeShapes Go.WideShapes Go.ChangeAt Go.RowKit

end Go.Proofs.YtgplajofemencaaGreat
/- A state is added to what was thrown together. -/
namespace Go.Proofs.YtgplajofemencaaGreat
open Go.ChangeShapes Go.WideShapes Go.ChangeAt Go.RowKit

end Go.Proofs.YtgplajofemencaaGreat
/- States thrown together: the program's answer. -/
namespace Go.Proofs.YtgplajofemencaaGreat
open Go.ChangeShapes Go.WideShapes Go.ChangeAt Go.RowKit

end Go.Proofs.YtgplajofemencaaGreat
/- The document's sets of what both have, of what one has, and all of a set. -/
namespace Go.Proofs.YtgplajofemencaaGreat
open Go.ChangeShapes Go.WideShapes Go.ChangeAt Go.RowKit

end Go.Proofs.YtgplajofemencaaGreat
/- States thrown together: the document's answer. -/
namespace Go.Proofs.YtgplajofemencaaGreat
open Go.ChangeShapes Go.WideShapes Go.ChangeAt Go.RowKit

end Go.Proofs.YtgplajofemencaaGreat
/- The chapter's example. -/
namespace Go.Proofs.YtgplajofemencaaGreat
open Go.ChangeShapes Go.WideShapes Go.ChangeAt Go.RowKit

end Go.Proofs.YtgplajofemencaaGreat
/- A row's state, as a drawn region holds it. -/
namespace Go.Proofs.YtgplajofemencaaGreat
open Go.ChangeShapes Go.WideShapes Go.ChangeAt Go.RowKit

end Go.Proofs.YtgplajofemencaaGreat
/- A whole state stored over another one: what else stays. -/
namespace Go.Proofs.YtgplajofemencaaGreat
open Go.ChangeShapes Go.WideShapes Go.ChangeAt Go.RowKit

theorem StB.same {w w' : World} {b : Nat} {s : Sta} (k : StB w b s) (h : w'.heap[b]? = w.heap[b]?) : StB w' b s := by unfold StB; rw [h]; exact k
end Go.Proofs.YtgplajofemencaaGreat
/- Rows of structs put behind a row that a call has made, at a step of a drawn region; parts of a row of states. -/
namespace Go.Proofs.YtgplajofemencaaGreat
open Go.ChangeShapes Go.WideShapes Go.ChangeAt Go.RowKit

theorem ARow.head {w : World} {b off n cap : Nat} {l : List Sta} (h : ARow w (.slice (some ⟨b, off, none⟩) n cap) l) (c : Nat) (hc : c ≤ l.length) : ARow w (.slice (some ⟨b, off, none⟩) c cap) (l.take c) := by
  have := GRow.part h 0 c (Nat.zero_le _) hc (some ⟨b, off, none⟩) (by split <;> simp)
  rw [List.drop_zero, Nat.sub_zero, Nat.sub_zero] at this
  exact this
theorem ARow.tail {w : World} {b off n cap : Nat} {l : List Sta} (h : ARow w (.slice (some ⟨b, off, none⟩) n cap) l) (c : Nat) (hc : c ≤ l.length) (a : Option Addr) (ha : a = (if cap = c then some ⟨b, off, none⟩ else some ⟨b, off + c * 8, none⟩)) : ARow w (.slice a (l.length - c) (cap - c)) (l.drop c) := by
  have := GRow.part h c l.length hc (Nat.le_refl _) a ha
  rw [List.take_of_length_le (by simp)] at this
  exact this
end Go.Proofs.YtgplajofemencaaGreat
