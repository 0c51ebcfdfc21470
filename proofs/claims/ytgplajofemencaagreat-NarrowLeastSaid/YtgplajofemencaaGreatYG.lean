/- States thrown together, and states that cover others: plain mathematics. -/
import Derived.Test.YtgplajofemencaaGreatXSPlan
import Derived.Test.YtgplajofemencaaGreatXIMem
import Derived.Test.YtgplajofemencaaGreatYF
import Derived.Test.YtgplajofemencaaGreatXE
import Derived.BigRegion
import Derived.Test.YtgplajofemencaaGreatYA
import Derived.Test.YtgplajofemencaaGreatXTCar
import Derived.Test.YtgplajofemencaaGreatXSDoc
import Derived.Test.YtgplajofemencaaGreatXTSched
namespace Go.Proofs.YtgplajofemencaaGreat

/-- Its sets are such. -/
structure Fits64 (s : Sta) : Prop where
  must : s.must < 18446744073709551616
  may : s.may < 18446744073709551616
  on : s.on < 18446744073709551616
def Covers (a b : Sta) : Prop := a.pos = b.pos ∧ a.car ≤ b.car ∧ a.time ≤ b.time ∧ a.load ≤ b.load ∧ a.first ≤ b.first ∧ within a.must b.must = true ∧ within a.on b.on = true ∧ within b.may a.may = true
instance (a b : Sta) : Decidable (Covers a b) := by unfold Covers; infer_instance
theorem covers_refl {a : Sta} (h : Fits64 a) : Covers a a := ⟨rfl, Int.le_refl _, Int.le_refl _, Int.le_refl _, Int.le_refl _, within_refl _ h.must, within_refl _ h.on, within_refl _ h.may⟩
theorem covers_trans {a b c : Sta} (ha : Fits64 a) (hb : Fits64 b) (hc : Fits64 c) (h : Covers a b) (k : Covers b c) : Covers a c := by
  obtain ⟨h1, h2, h3, h4, h5, h6, h7, h8⟩ := h
  obtain ⟨k1, k2, k3, k4, k5, k6, k7, k8⟩ := k
  exact ⟨h1.trans k1, by omega, by omega, by omega, by omega, within_trans _ _ _ ha.must hb.must h6 k6, within_trans _ _ _ ha.on hb.on h7 k7, within_trans _ _ _ hc.may hb.may k8 h8⟩
theorem within_has {s t : Nat} (hs : s < 18446744073709551616) (h : within s t = true) {i : Int} (hi : has s i = true) : has t i = true := by
  have hr : 0 ≤ i ∧ i ≤ 63 := Decidable.byContradiction (fun hn => by rw [has_no s i hn] at hi; cases hi)
  obtain ⟨k, rfl⟩ : ∃ k : Nat, i = k := ⟨i.toNat, by omega⟩
  exact (within_iff s t hs).1 h k (by omega) hi
theorem within_or_both {s t u v : Nat} (hs : s < 18446744073709551616) (hu : u < 18446744073709551616) (h : within s t = true) (k : within u v = true) : within (s ||| u) (t ||| v) = true := by
  rw [within_iff _ _ (or_lt hs hu)]
  intro i hi h1
  rw [has_or, Bool.or_eq_true] at h1 ⊢
  exact h1.imp (within_has hs h) (within_has hu k)
theorem within_minus {s t u : Nat} (hs : s < 18446744073709551616) (ht : t < 18446744073709551616) (h : within s t = true) : within (minus s u) (minus t u) = true := by
  rw [within_iff _ _ (minus_lt hs)]
  intro i hi h1
  rw [has_minus _ _ _ hs, Bool.and_eq_true] at h1
  rw [has_minus _ _ _ ht, Bool.and_eq_true]
  exact ⟨within_has hs h h1.1, h1.2⟩
theorem fits_next {I : Ins} {s : Sta} (h : Fits64 s) (j : Int) : Fits64 (nextS I s j) := by
  unfold nextS
  by_cases hj : j = 0
  · rw [if_pos hj]; exact ⟨h.must, h.may, h.on⟩
  · rw [if_neg hj]
    refine ⟨or_lt h.must (bitN_lt j), or_lt h.may (bitN_lt j), ?_⟩
    show (if j ≤ I.p then s.on ||| bitN j else minus s.on (bitN (j - I.p))) < _
    split
    · exact or_lt h.on (bitN_lt j)
    · exact minus_lt h.on

/-! ### What covers can do as much -/
/-- Its numbers may be. -/
def NumOk (a : Sta) : Prop := 1 ≤ a.car ∧ 0 ≤ a.time ∧ 0 ≤ a.load
theorem covers_beg {I : Ins} {a b : Sta} (h : Covers a b) (j : Int) : begS I a j ≤ begS I b j ∧ comeS I a j ≤ comeS I b j ∧ farS1 I a j = farS1 I b j := by
  obtain ⟨h1, _, h3, _⟩ := h
  unfold begS comeS farS1
  rw [h1]
  omega
theorem covers_on {a b : Sta} (ha : Fits64 a) (h : Covers a b) (hb : b.on = 0) : a.on = 0 := by
  obtain ⟨_, _, _, _, _, _, h7, _⟩ := h
  refine ext_has ha.on (by decide) (fun k _ => ?_)
  rw [has_zero]
  cases hh : has a.on k with
  | false => rfl
  | true => have := within_has ha.on h7 hh; rw [hb, has_zero] at this; cases this
theorem covers_goOn {I : Ins} {a b : Sta} (h : Covers a b) (hn : NumOk a) (hg : GoOn I b) : GoOn I a := by
  obtain ⟨h1, h2, h3, h4, _⟩ := h
  obtain ⟨g1, g2, g3, g4, g5⟩ := hg
  obtain ⟨n1, n2, n3⟩ := hn
  exact ⟨g1, by rw [h1]; exact g2, by omega, by omega, by omega⟩
/-- Each move of what is covered can be made. -/
theorem covers_can {I : Ins} {a b : Sta} (ha : Fits64 a) (hb : Fits64 b) (h : Covers a b) (hn : NumOk a) {j : Int} (hc : Can I b j) : Can I a j := by
  have hgo := covers_goOn h hn hc.1
  obtain ⟨k1, k2, k3⟩ := covers_beg (I := I) h j
  have k4 := (covers_beg (I := I) h 0).2.1
  have hon := fun e => covers_on ha h e
  obtain ⟨h1, h2, h3, h4, h5, h6, h7, h8⟩ := h
  have hm : ∀ i : Int, has b.must i = false → has a.must i = false := fun i hi => by
    cases hh : has a.must i with
    | false => rfl
    | true => rw [within_has ha.must h6 hh] at hi; cases hi
  refine ⟨hgo, ?_⟩
  rcases hc.2 with ⟨c1, c2, c3, c4, c5⟩ | ⟨c1, c2, c3, c4, c5⟩ | ⟨c1, c2, c3, c4, c5, c6⟩
  · exact .inl ⟨c1, hm j c2, by omega, by omega, fun e => by have := c5 (by rw [← h1]; exact e); omega⟩
  · exact .inr (.inl ⟨c1, by rw [h1]; exact c2, hm j c3, within_has hb.may h8 c4, by omega⟩)
  · refine .inr (.inr ⟨c1, by rw [h1]; exact c2, hon c3, by omega, ?_, by omega⟩)
    cases hh : within (allS I) a.must with
    | false => rfl
    | true => rw [within_trans (allS I) _ _ (upto_lt _) ha.must hh h6] at c5; cases c5
/-- What is behind it covers what is behind the other one's. -/
theorem covers_next {I : Ins} {a b : Sta} (ha : Fits64 a) (hb : Fits64 b) (h : Covers a b) (j : Int) : Covers (nextS I a j) (nextS I b j) := by
  obtain ⟨k1, k2, k3⟩ := covers_beg (I := I) h j
  obtain ⟨h1, h2, h3, h4, h5, h6, h7, h8⟩ := h
  unfold nextS
  by_cases hj : j = 0
  · rw [if_pos hj, if_pos hj]
    exact ⟨rfl, by show a.car + 1 ≤ b.car + 1; omega, Int.le_refl _, Int.le_refl _, h5, h6, h7, h8⟩
  · rw [if_neg hj, if_neg hj]
    have hbl := bitN_lt j
    refine ⟨rfl, h2, ?_, ?_, ?_, within_or_both ha.must hbl h6 (within_refl _ hbl), ?_, within_or_both hb.may hbl h8 (within_refl _ hbl)⟩
    · show begS I a j + (stp I j).s ≤ begS I b j + (stp I j).s
      omega
    · show max (a.load + (stp I j).d) 0 ≤ max (b.load + (stp I j).d) 0
      omega
    · show (if a.pos = 0 then j else a.first) ≤ (if b.pos = 0 then j else b.first)
      rw [h1]
      split
      · exact Int.le_refl _
      · exact h5
    · show within (if j ≤ I.p then a.on ||| bitN j else minus a.on (bitN (j - I.p))) (if j ≤ I.p then b.on ||| bitN j else minus b.on (bitN (j - I.p))) = true
      split
      · exact within_or_both ha.on hbl h7 (within_refl _ hbl)
      · exact within_minus ha.on hb.on h7
/-- Where the other one can be ended it can, for as much, if there are pairs. -/
theorem covers_end {I : Ins} {a b : Sta} (ha : Fits64 a) (hb : Fits64 b) (h : Covers a b) (hn : NumOk a) (hp : I.p ≠ 0) (he : EndS I b) : EndS I a ∧ endC I a = endC I b := by
  have he' := he
  rcases he with ⟨_, h0, _⟩ | ⟨g, e1, e2, e3, e4⟩
  · exact absurd h0 hp
  · have hk := covers_beg (I := I) h 0
    have hE : EndS I a := .inr ⟨covers_goOn h hn g, by rw [h.1]; exact e1, covers_on ha h e2, within_trans (allS I) _ _ (upto_lt _) hb.may e3 h.2.2.2.2.2.2.2, by omega⟩
    refine ⟨hE, ?_⟩
    rw [endC_is hE, endC_is he', hk.2.2]

/-! ### Thrown together -/
end Go.Proofs.YtgplajofemencaaGreat
/- Rows of structs of several cells, of any kind. -/
namespace Go.Proofs.YtgplajofemencaaGreat
open Go.ChangeShapes Go.WideShapes Go.ChangeAt Go.RowKit

/-- Each of these is so many cells. -/
structure Enc {α : Type} (f : α → List Value) (k : Nat) : Prop where
  len : ∀ x, (f x).length = k
  pos : 0 < k
  one : ∀ x, ∀ u ∈ f x, u.oneCell' = true
section
variable {α : Type} {f : α → List Value} {k : Nat}
def GAt (f : α → List Value) (k : Nat) (w : World) (b o : Nat) (x : α) : Prop := ∀ j, j < k → w.cell? ⟨b, o + j, none⟩ = (f x)[j]?
theorem GAt.lt {w : World} {b o : Nat} {x : α} (E : Enc f k) (h : GAt f k w b o x) : b < w.heap.size := by
  have h0 := h 0 E.pos
  rw [List.getElem?_eq_getElem (by rw [E.len]; exact E.pos)] at h0
  exact World.block_lt_of_cell? w _ h0
theorem GAt.below {w w' : World} {b o : Nat} {x : α} (h : GAt f k w b o x) {B : Nat} (hlt : b < B) (hb : Below B w w') : GAt f k w' b o x := fun j hj => (hb.cell (p := ⟨b, o + j, none⟩) hlt).trans (h j hj)
/-- Such ones that may be read. -/
def GRow (f : α → List Value) (k : Nat) (w : World) (v : Value) (l : List α) : Prop :=
  l.length ≤ maxLen ∧ ∃ a cap, v = .slice a l.length cap ∧ l.length ≤ cap ∧ (cap ≤ maxLen ∧ (a = none → cap = 0)) ∧ (l = [] ∨ ∃ b off, a = some ⟨b, off, none⟩ ∧ ∀ i x, l[i]? = some x → GAt f k w b (off + i * k) x)
theorem GRow.below {w w' : World} {v : Value} {l : List α} (E : Enc f k) (h : GRow f k w v l) (hb : Below w.heap.size w w') : GRow f k w' v l := by
  obtain ⟨hm, a, cap, hv, hc, hc2, h⟩ := h
  refine ⟨hm, a, cap, hv, hc, hc2, ?_⟩
  rcases h with h | ⟨b, off, ha, hc⟩
  · exact .inl h
  · exact .inr ⟨b, off, ha, fun i x hi => (hc i x hi).below ((hc i x hi).lt E) hb⟩
theorem grow_nil (w : World) : GRow f k w (.slice none 0 0) [] := ⟨by simp, none, 0, rfl, by simp, ⟨by simp, fun _ => rfl⟩, .inl rfl⟩
theorem GRow.form {w : World} {v : Value} {l : List α} (h : GRow f k w v l) : ∃ a cap, v = .slice a l.length cap ∧ l.length ≤ maxLen ∧ l.length ≤ cap ∧ cap ≤ maxLen := by
  obtain ⟨hm, a, cap, rfl, hc, hc2, _⟩ := h
  exact ⟨a, cap, rfl, hm, hc, hc2.1⟩
theorem grow_at {w : World} {a : Option Addr} {n cap : Nat} {l : List α} (E : Enc f k) (h : GRow f k w (.slice a n cap) l) (i : Nat) (x : α) (hi : l[i]? = some x) : ∃ b off, a = some ⟨b, off, none⟩ ∧ GAt f k w b (off + i * k) x ∧ b < w.heap.size := by
  obtain ⟨_, a', cap', hv, _, _, h⟩ := h
  simp at hv
  rcases h with h | ⟨b, off, ha, hc⟩
  · subst h; simp at hi
  · exact ⟨b, off, by rw [hv.1, ha], hc i x hi, (hc i x hi).lt E⟩
theorem grow_here {w : World} {b off n cap : Nat} {l : List α} (E : Enc f k) (h : GRow f k w (.slice (some ⟨b, off, none⟩) n cap) l) (i : Nat) (x : α) (hi : l[i]? = some x) : GAt f k w b (off + i * k) x := by
  obtain ⟨b', off', he, hc, _⟩ := grow_at E h i x hi
  simp only [Option.some.injEq, Addr.mk.injEq, and_true] at he
  obtain ⟨rfl, rfl⟩ := he
  exact hc
/-- The part from p on, up to h. -/
theorem GRow.part {w : World} {b off n cap : Nat} {l : List α} (hs : GRow f k w (.slice (some ⟨b, off, none⟩) n cap) l) (p h : Nat) (hp : p ≤ h) (hh : h ≤ l.length) (a : Option Addr) (ha : a = (if cap = p then some ⟨b, off, none⟩ else some ⟨b, off + p * k, none⟩)) :
    GRow f k w (.slice a (h - p) (cap - p)) ((l.drop p).take (h - p)) := by
  obtain ⟨hm, a', cap', hv, hc, ⟨hc2, _⟩, hcell⟩ := hs
  simp at hv
  obtain ⟨rfl, rfl, rfl⟩ := hv
  have hl : ((l.drop p).take (h - p)).length = h - p := by simp; omega
  refine ⟨by omega, a, cap - p, by rw [hl], by omega, ⟨by omega, fun h0 => by rw [h0] at ha; split at ha <;> simp at ha⟩, ?_⟩
  by_cases h0 : h = p
  · left
    subst h0
    simp
  · right
    rw [if_neg (by omega)] at ha
    refine ⟨b, off + p * k, ha, fun i x hi => ?_⟩
    have hil : i < h - p := by have := (List.getElem?_eq_some_iff.1 hi).1; omega
    rcases hcell with hn | ⟨b', off', he, hcc⟩
    · subst hn; simp at hh; omega
    · simp at he
      obtain ⟨rfl, rfl⟩ := he
      rw [List.getElem?_take_of_lt hil, List.getElem?_drop] at hi
      have := hcc (p + i) x hi
      rw [show off + (p + i) * k = off + p * k + i * k by rw [Nat.add_mul]; omega] at this
      exact this
/-- All their cells. -/
def gflat (f : α → List Value) : List α → List Value
  | [] => []
  | x :: l => f x ++ gflat f l
theorem gflat_append : ∀ (a b : List α), gflat f (a ++ b) = gflat f a ++ gflat f b
  | [], _ => rfl
  | x :: a, b => by rw [List.cons_append, gflat, gflat, gflat_append a b, List.append_assoc]
theorem gflat_len (E : Enc f k) : ∀ (l : List α), (gflat f l).length = l.length * k
  | [] => by simp [gflat]
  | x :: l => by rw [gflat, List.length_append, gflat_len E l, E.len, List.length_cons, Nat.add_mul, Nat.one_mul, Nat.add_comm]
theorem gflat_at (E : Enc f k) : ∀ (l : List α) (i j : Nat) (x : α), l[i]? = some x → j < k → (gflat f l)[i * k + j]? = (f x)[j]?
  | [], i, j, x, h, _ => by simp at h
  | y :: l, 0, j, x, h, hj => by
    simp at h
    subst h
    rw [gflat, Nat.zero_mul, Nat.zero_add, List.getElem?_append_left (by rw [E.len]; exact hj)]
  | y :: l, i + 1, j, x, h, hj => by
    rw [gflat, List.getElem?_append_right (by rw [E.len, Nat.add_mul]; omega), show (i + 1) * k + j - (f y).length = i * k + j by rw [E.len, Nat.add_mul]; omega]
    exact gflat_at E l i j x (by simpa using h) hj
theorem gflat_one (E : Enc f k) : ∀ (l : List α), ∀ u ∈ gflat f l, u.oneCell' = true
  | [], u, hu => by simp [gflat] at hu
  | x :: l, u, hu => by
    rw [gflat, List.mem_append] at hu
    exact hu.elim (E.one x u) (gflat_one E l u)
/-- Such ones that a call has made. -/
def OwnG (f : α → List Value) (k : Nat) (t : TypeId) (w : World) (B : Nat) (v : Value) (l : List α) : Prop := w.ownsRow B t k v l.length (gflat f l)
theorem OwnG.row {t : TypeId} {w : World} {B : Nat} {v : Value} {l : List α} (E : Enc f k) (h : OwnG f k t w B v l) : GRow f k w v l := by
  have h' : w.ownsRow B t k v l.length (gflat f l) := h
  rcases h'.2 with ⟨rfl, hn⟩ | ⟨g, cap, cur, rfl, hb, hg, hc, hm, hs, ht⟩
  · have : l = [] := List.eq_nil_of_length_eq_zero hn
    subst this
    exact grow_nil _
  · refine ⟨by omega, _, _, rfl, hc, ⟨hm, fun h => by simp at h⟩, .inr ⟨g, 0, rfl, fun i x hi j hj => ?_⟩⟩
    have hil := (List.getElem?_eq_some_iff.1 hi).1
    have hb : i * k + j < l.length * k := by
      have : (i + 1) * k ≤ l.length * k := Nat.mul_le_mul_right k (by omega)
      rw [Nat.add_mul] at this
      omega
    rw [Nat.zero_add, h'.cellAt _ hb, gflat_at E l i j x hi hj]
theorem OwnG.below {t : TypeId} {w w' : World} {B : Nat} {v : Value} {l : List α} (h : OwnG f k t w B v l) (hb : Below w.heap.size w w') : OwnG f k t w' B v l := own_below h hb
theorem OwnG.alloc {t : TypeId} {w : World} {B : Nat} {v : Value} {l : List α} (h : OwnG f k t w B v l) (O : Obj) : OwnG f k t (w.alloc O) B v l := World.ownsRow.alloc h O
theorem ownG_nil {t : TypeId} (w : World) (B : Nat) : OwnG f k t w B (.slice none 0 0) [] := by
  unfold OwnG gflat
  exact World.ownsRow_nil _ _ _ _
theorem OwnG.less {t : TypeId} {w : World} {B B' : Nat} {v : Value} {l : List α} (h : OwnG f k t w B v l) (hB : B' ≤ B) : OwnG f k t w B' v l := own_less (show w.ownsRow B t k v l.length (gflat f l) from h) hB
theorem OwnG.kept {t : TypeId} {w w' : World} {B : Nat} {v : Value} {l : List α} {row : Option Nat} (h : OwnG f k t w B v l) (hg : w.grownBy w' row) (hne : v.ownBlock = none ∨ v.ownBlock ≠ row) : OwnG f k t w' B v l := World.ownsRow.kept h hg hne
theorem OwnG.shape {t : TypeId} {w : World} {B : Nat} {v : Value} {l : List α} (h : OwnG f k t w B v l) : ∃ a cap, v = .slice a l.length cap := own_shape (show w.ownsRow B t k v l.length (gflat f l) from h)
theorem grow_cells {w : World} {b off n cap : Nat} {l : List α} (E : Enc f k) (h : GRow f k w (.slice (some ⟨b, off, none⟩) n cap) l) : ∀ j u, (gflat f l)[j]? = some u → w.cell? ((⟨b, off, none⟩ : Addr).add j) = some u := by
  intro j u hj
  have hjl : j < (gflat f l).length := (List.getElem?_eq_some_iff.1 hj).1
  rw [gflat_len E] at hjl
  have hk := E.pos
  have hd : j / k < l.length := Nat.div_lt_of_lt_mul (by rw [Nat.mul_comm]; exact hjl)
  have hm : j % k < k := Nat.mod_lt _ hk
  have hx : l[j / k]? = some l[j / k] := List.getElem?_eq_getElem hd
  have hc := grow_here E h (j / k) _ hx (j % k) hm
  have hjj : j / k * k + j % k = j := by rw [Nat.mul_comm]; exact Nat.div_add_mod j k
  rw [← gflat_at E l (j / k) (j % k) _ hx hm, hjj, hj] at hc
  rw [add_off, ← hc]
  congr 2
  omega
/-- Such ones put behind ones that the call has made. -/
theorem app_rows {tS t : TypeId} {z : Value} {bytes : Nat} (E : Enc f k) (hU : Tryz.prog.underlying tS = some (.slice t)) (hI : (Tryz.prog.info? t).map (fun i => (i.zero, i.size, i.bytes)) = some (some z, k, bytes)) (hz : z.cells.size = k) (hby : bytes ≤ 1024)
    {w : World} {ops : Array Oper} {rest : List Oper} {o : Oper} {a : Act} {Q : Exit → Act → World → Prop} (hgd : o.guard = none) (s x : Operand)
    (ho : o.op = .call { callee := .builtin .append, args := #[s, x], argTypes := #[tS, tS] }) (B : Nat) (v : Value) (l : List α) (hs : a.eval s = v) (hown : OwnG f k t w B v l)
    (u : Value) (m : List α) (hx : a.eval x = u) (hr : GRow f k w u m) (hlen : l.length + m.length ≤ 1000000) (hB : B ≤ w.heap.size)
    (h : ∀ v' w', OwnG f k t w' B v' (l ++ m) → w.grownBy w' v.ownBlock → (v'.ownBlock = v.ownBlock ∨ v'.ownBlock = some w.heap.size) → wpList Tryz.prog ops Q rest (a.put o.dst v') w') : wpList Tryz.prog ops Q (o :: rest) a w := by
  obtain ⟨i0, hi, hz0, hz1, hz2⟩ := info_parts hI
  have hr' := hr
  obtain ⟨hm, ad, cap, rfl, hc, ⟨hc2, hn⟩, hcell⟩ := hr
  cases ad with
  | none =>
    have hc0 : cap = 0 := hn rfl
    subst hc0
    have hms : m = [] := List.eq_nil_of_length_eq_zero (by omega)
    subst hms
    refine wpList_append_own_none hgd s x tS ho B t i0 k hU hi v l.length (gflat f l) hs hown hx (h v w ?_ ⟨rfl, rfl, rfl, Nat.le_refl _, fun _ _ _ => rfl⟩ (.inl rfl))
    rw [List.append_nil]; exact hown
  | some ad =>
    refine wpList_append_own_at w hgd s x tS ho B t i0 _ k bytes hU hi hz0 hz1 hz2 hz E.pos v l.length (gflat f l) hs hown ad m.length cap (gflat f m) hx (gflat_len E m) ?_ (gflat_one E m) (by unfold maxLen; omega) ?_ hB ?_
    · intro j u hj
      rcases hcell with h0 | ⟨b, off, he, hcc⟩
      · rw [h0] at hj; simp [gflat] at hj
      · simp at he
        subst he
        exact grow_cells E hr' j u hj
    · exact Nat.le_trans (Nat.mul_le_mul hlen hby) (by decide)
    · intro v' w' h1 h2 _ h4
      refine h v' w' ?_ h2 h4
      unfold OwnG
      rw [List.length_append, gflat_append]
      exact h1
/-- A list of such ones in a block of its own, new. -/
theorem grow_block {w : World} {b : Nat} {l : List α} {t : TypeId} {fr : Nat × Nat} (E : Enc f k) (h : w.heap[b]? = some (.cells (gflat f l).toArray t fr)) (hl : l.length ≤ maxLen) : GRow f k w (.slice (some ⟨b, 0, none⟩) l.length l.length) l := by
  refine ⟨hl, _, _, rfl, Nat.le_refl _, ⟨hl, by simp⟩, .inr ⟨b, 0, rfl, fun i x hi j hj => ?_⟩⟩
  rw [cell_of_row _ _ _ _ _ _ h, Nat.zero_add, List.getElem?_toArray]
  exact gflat_at E l i j x hi hj
end
end Go.Proofs.YtgplajofemencaaGreat
/- Rows of states, and a state that is added to, in memory. -/
namespace Go.Proofs.YtgplajofemencaaGreat
open Go.ChangeShapes Go.WideShapes Go.ChangeAt Go.RowKit

section
variable {w w' : World} {b : Nat} {s : Sta}
end
theorem fits_of {s : Sta} (h : SetsOk s) : Fits64 s := ⟨h.1, h.2.1, h.2.2⟩
theorem of_fits {s : Sta} (h : Fits64 s) : SetsOk s := ⟨h.must, h.may, h.on⟩
theorem encSta : Enc stL 8 := ⟨fun _ => rfl, by decide, fun s u hu => by
  simp only [stL, List.mem_cons, List.not_mem_nil, or_false] at hu
  rcases hu with rfl | rfl | rfl | rfl | rfl | rfl | rfl | rfl <;> rfl⟩
/-- A row of states. -/
def ARow (w : World) (v : Value) (l : List Sta) : Prop := GRow stL 8 w v l
theorem ARow.below {w w' : World} {v : Value} {l : List Sta} (h : ARow w v l) (hb : Below w.heap.size w w') : ARow w' v l := GRow.below encSta h hb
theorem ARow.form {w : World} {v : Value} {l : List Sta} (h : ARow w v l) : ∃ a cap, v = .slice a l.length cap ∧ l.length ≤ maxLen ∧ l.length ≤ cap ∧ cap ≤ maxLen := GRow.form h
/-- States that a call has made. -/
def OwnA (w : World) (B : Nat) (v : Value) (l : List Sta) : Prop := OwnG stL 8 27 w B v l
theorem OwnA.row {w : World} {B : Nat} {v : Value} {l : List Sta} (h : OwnA w B v l) : ARow w v l := OwnG.row encSta h
section
variable {H : Type} {enc : TypeId × Value → H} {w : World} {base : Nat} {spare : Nat → Bool} {held : Bool}
end
/-- Boxes of two states. -/
theorem boxes_st (w : World) (s t : Sta) : StB ((w.alloc (boxSt s)).alloc (boxSt t)) w.heap.size s ∧ StB ((w.alloc (boxSt s)).alloc (boxSt t)) (w.heap.size + 1) t ∧ Below w.heap.size w ((w.alloc (boxSt s)).alloc (boxSt t)) := by
  have h1 : (w.alloc (boxSt s)).heap.size = w.heap.size + 1 := by simp
  have a1 := st_new (w.alloc (boxSt s)) t
  rw [h1] at a1
  exact ⟨(st_new w s).later ((Below.refl _ _).alloc (Nat.le_refl _) _), a1, ((Below.refl w.heap.size w).alloc (Nat.le_refl _) _).alloc (by rw [h1]; omega) _⟩
end Go.Proofs.YtgplajofemencaaGreat
/- Whether a state covers another one: the program's answer, and the document's. -/
namespace Go.Proofs.YtgplajofemencaaGreat
open Go.ChangeShapes Go.WideShapes Go.ChangeAt Go.RowKit

theorem covers_eq (a b : Sta) : decide (Covers a b) = (decide (a.pos = b.pos) && (decide (a.car ≤ b.car) && (decide (a.time ≤ b.time) && (decide (a.load ≤ b.load) && (decide (a.first ≤ b.first) && (within a.must b.must && (within a.on b.on && within b.may a.may))))))) := by
  rw [Bool.eq_iff_iff]
  simp only [decide_eq_true_eq, Bool.and_eq_true]
  rfl
set_option maxRecDepth 1000000 in
set_option maxHeartbeats 4000000 in
theorem covers_any {a b : Sta} (w : World) (ha : SetsOk a) (hb : SetsOk b) : Calls Tryz.prog 117 #[staV a, staV b] w fun e w' => e = .returned (.bool (decide (Covers a b))) ∧ Below w.heap.size w w' := by
  have HA := Lib.hid ha
  have HB := Lib.hid hb
  have HE := Lib.hid (covers_eq a b)
  clear ha hb
  unfold staV
  go_enter Tryz.func117, Tryz.ntmps117
  go_upto_region 1 with fail
  obtain ⟨k1, k2, k3⟩ := boxes_st w a b
  have HBL := Lib.hid k3
  change Code.wp _ _ _ _ ((w.alloc (boxSt a)).alloc (boxSt b))
  generalize (w.alloc (boxSt a)).alloc (boxSt b) = V at *
  have x0 := k1.c0
  have x1 := k1.c1
  have x2 := k1.c2
  have x3 := k1.c3
  have x4 := k1.c4
  have x5 := k1.c5
  have x6 := k1.c6
  have x7 := k1.c7
  have z0 := k2.c0
  have z1 := k2.c1
  have z2 := k2.c2
  have z3 := k2.c3
  have z4 := k2.c4
  have z5 := k2.c5
  have z6 := k2.c6
  have z7 := k2.c7
  clear k1 k2 k3
  by_cases g0 : a.pos = b.pos
  rotate_left
  · have e0 := decide_eq_false g0
    have b0 : (a.pos == b.pos) = false := by simp [g0]
    have E0 := Lib.hid e0
    clear g0
    go_wp2
    go_ret
    exact ⟨ret_bool (by rw [HE.out, E0.out]; rfl), HBL.out⟩
  have E0 := Lib.hid (decide_eq_true g0)
  have b0 : (a.pos == b.pos) = true := by simp [g0]
  clear g0
  by_cases g1 : a.car ≤ b.car
  rotate_left
  · have e1 := decide_eq_false g1
    have E1 := Lib.hid e1
    clear g1
    go_wp2
    go_ret
    exact ⟨ret_bool (by rw [HE.out, E0.out, E1.out]; rfl), HBL.out⟩
  have e1 := decide_eq_true g1
  have E1 := Lib.hid e1
  by_cases g2 : a.time ≤ b.time
  rotate_left
  · have e2 := decide_eq_false g2
    have E2 := Lib.hid e2
    clear g2
    go_wp2
    go_ret
    exact ⟨ret_bool (by rw [HE.out, E0.out, E1.out, E2.out]; rfl), HBL.out⟩
  have e2 := decide_eq_true g2
  have E2 := Lib.hid e2
  by_cases g3 : a.load ≤ b.load
  rotate_left
  · have e3 := decide_eq_false g3
    have E3 := Lib.hid e3
    clear g3
    go_wp2
    go_ret
    exact ⟨ret_bool (by rw [HE.out, E0.out, E1.out, E2.out, E3.out]; rfl), HBL.out⟩
  have e3 := decide_eq_true g3
  have E3 := Lib.hid e3
  by_cases g4 : a.first ≤ b.first
  rotate_left
  · have e4 := decide_eq_false g4
    have E4 := Lib.hid e4
    clear g4
    go_wp2
    go_ret
    exact ⟨ret_bool (by rw [HE.out, E0.out, E1.out, E2.out, E3.out, E4.out]; rfl), HBL.out⟩
  have e4 := decide_eq_true g4
  have E4 := Lib.hid e4
  go_wp2_with fail
  refine (ewithin_any _ _ _ HA.out.1 HB.out.1).mono ?_
  rintro e w' ⟨rfl, rfl⟩
  cases h5 : within a.must b.must
  · have E5 := Lib.hid h5
    clear h5
    go_wp2
    go_ret
    exact ⟨ret_bool (by rw [HE.out, E0.out, E1.out, E2.out, E3.out, E4.out, E5.out]; rfl), HBL.out⟩
  have E5 := Lib.hid h5
  clear h5
  go_wp2_with fail
  refine (ewithin_any _ _ _ HA.out.2.2 HB.out.2.2).mono ?_
  rintro e w' ⟨rfl, rfl⟩
  cases h6 : within a.on b.on
  · have E6 := Lib.hid h6
    clear h6
    go_wp2
    go_ret
    exact ⟨ret_bool (by rw [HE.out, E0.out, E1.out, E2.out, E3.out, E4.out, E5.out, E6.out]; rfl), HBL.out⟩
  have E6 := Lib.hid h6
  clear h6
  go_wp2_with fail
  refine (ewithin_any _ _ _ HB.out.2.1 HA.out.2.1).mono ?_
  rintro e w' ⟨rfl, rfl⟩
  go_wp2
  go_ret
  exact ⟨ret_bool (by rw [HE.out, E0.out, E1.out, E2.out, E3.out, E4.out, E5.out, E6.out]; rfl), HBL.out⟩
end Go.Proofs.YtgplajofemencaaGreat
/- A state is added to what was thrown together. -/
namespace Go.Proofs.YtgplajofemencaaGreat
open Go.ChangeShapes Go.WideShapes Go.ChangeAt Go.RowKit

end Go.Proofs.YtgplajofemencaaGreat
/- States thrown together: the program's answer. -/
namespace Go.Proofs.YtgplajofemencaaGreat
open Go.ChangeShapes Go.WideShapes Go.ChangeAt Go.RowKit

end Go.Proofs.YtgplajofemencaaGreat
/- The document's sets of what both have, of what one has, and all of a set. -/
namespace Go.Proofs.YtgplajofemencaaGreat
open Go.ChangeShapes Go.WideShapes Go.ChangeAt Go.RowKit

end Go.Proofs.YtgplajofemencaaGreat
/- States thrown together: the document's answer. -/
namespace Go.Proofs.YtgplajofemencaaGreat
open Go.ChangeShapes Go.WideShapes Go.ChangeAt Go.RowKit

end Go.Proofs.YtgplajofemencaaGreat
/- The chapter's example. -/
namespace Go.Proofs.YtgplajofemencaaGreat
open Go.ChangeShapes Go.WideShapes Go.ChangeAt Go.RowKit

end Go.Proofs.YtgplajofemencaaGreat
/- A row's state, as a drawn region holds it. -/
namespace Go.Proofs.YtgplajofemencaaGreat
open Go.ChangeShapes Go.WideShapes Go.ChangeAt Go.RowKit

end Go.Proofs.YtgplajofemencaaGreat
/- A whole state stored over another one: what else stays. -/
namespace Go.Proofs.YtgplajofemencaaGreat
open Go.ChangeShapes Go.WideShapes Go.ChangeAt Go.RowKit

theorem StB.same {w w' : World} {b : Nat} {s : Sta} (k : StB w b s) (h : w'.heap[b]? = w.heap[b]?) : StB w' b s := by unfold StB; rw [h]; exact k
end Go.Proofs.YtgplajofemencaaGreat
/- Rows of structs put behind a row that a call has made, at a step of a drawn region; parts of a row of states. -/
namespace Go.Proofs.YtgplajofemencaaGreat
open Go.ChangeShapes Go.WideShapes Go.ChangeAt Go.RowKit

theorem ARow.head {w : World} {b off n cap : Nat} {l : List Sta} (h : ARow w (.slice (some ⟨b, off, none⟩) n cap) l) (c : Nat) (hc : c ≤ l.length) : ARow w (.slice (some ⟨b, off, none⟩) c cap) (l.take c) := by
  have := GRow.part h 0 c (Nat.zero_le _) hc (some ⟨b, off, none⟩) (by split <;> simp)
  rw [List.drop_zero, Nat.sub_zero, Nat.sub_zero] at this
  exact this
theorem ARow.tail {w : World} {b off n cap : Nat} {l : List Sta} (h : ARow w (.slice (some ⟨b, off, none⟩) n cap) l) (c : Nat) (hc : c ≤ l.length) (a : Option Addr) (ha : a = (if cap = c then some ⟨b, off, none⟩ else some ⟨b, off + c * 8, none⟩)) : ARow w (.slice a (l.length - c) (cap - c)) (l.drop c) := by
  have := GRow.part h c l.length hc (Nat.le_refl _) a ha
  rw [List.take_of_length_le (by simp)] at this
  exact this
end Go.Proofs.YtgplajofemencaaGreat
