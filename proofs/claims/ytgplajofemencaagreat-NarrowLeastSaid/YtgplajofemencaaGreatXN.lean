/- How a node lies in memory, and nodes that a law is handed. -/
import Derived.Test.YtgplajofemencaaGreatYF
import Derived.Test.YtgplajofemencaaGreatYA
import Derived.Test.YtgplajofemencaaGreatYG
import Derived.Test.YtgplajofemencaaGreatXB
import Derived.Deep.MidRow
namespace Go.Proofs.YtgplajofemencaaGreat
open Go.ChangeShapes Go.WideShapes Go.ChangeAt Go.RowKit

def nodeV (s : Sta) (c : Int) (v : Value) : Value := .agg #[.int .i64 s.pos, .int .i64 s.car, .int .i64 s.time, .int .i64 s.load, .int .i64 s.first, .int .u64 s.must, .int .u64 s.may, .int .u64 s.on, .int .i64 c, v]
def boxN (s : Sta) (c : Int) (v : Value) : Obj := .cells #[.int .i64 s.pos, .int .i64 s.car, .int .i64 s.time, .int .i64 s.load, .int .i64 s.first, .int .u64 s.must, .int .u64 s.may, .int .u64 s.on, .int .i64 c, v] 30
/-- A node in a block of its own. -/
def NodB (w : World) (b : Nat) (s : Sta) (c : Int) (v : Value) : Prop := w.heap[b]? = some (.cells #[.int .i64 s.pos, .int .i64 s.car, .int .i64 s.time, .int .i64 s.load, .int .i64 s.first, .int .u64 s.must, .int .u64 s.may, .int .u64 s.on, .int .i64 c, v] 30 (0, 0))
def cellsN (b : Nat) (s : Sta) (c : Int) (v : Value) : List (Addr × Value) := [(⟨b, 0, none⟩, .int .i64 s.pos), (⟨b, 1, none⟩, .int .i64 s.car), (⟨b, 2, none⟩, .int .i64 s.time), (⟨b, 3, none⟩, .int .i64 s.load), (⟨b, 4, none⟩, .int .i64 s.first), (⟨b, 5, none⟩, .int .u64 s.must), (⟨b, 6, none⟩, .int .u64 s.may), (⟨b, 7, none⟩, .int .u64 s.on), (⟨b, 8, none⟩, .int .i64 c), (⟨b, 9, none⟩, v)]
section
variable {w w' : World} {b : Nat} {s : Sta} {c : Int} {v : Value}
theorem nod_new (w : World) (s : Sta) (c : Int) (v : Value) : NodB (w.alloc (boxN s c v)) w.heap.size s c v := heap_alloc_new w _
theorem NodB.lt (k : NodB w b s c v) : b < w.heap.size := (Array.getElem?_eq_some_iff.1 k).1
theorem NodB.below {M : Nat} (k : NodB w b s c v) (hb : b < M) (hw : Below M w w') : NodB w' b s c v := by unfold NodB; rw [hw.block b hb]; exact k
theorem NodB.later (k : NodB w b s c v) (hw : Below w.heap.size w w') : NodB w' b s c v := k.below k.lt hw
theorem NodB.cell (k : NodB w b s c v) (i : Nat) : w.cell? ⟨b, i, none⟩ = (#[.int .i64 s.pos, .int .i64 s.car, .int .i64 s.time, .int .i64 s.load, .int .i64 s.first, .int .u64 s.must, .int .u64 s.may, .int .u64 s.on, .int .i64 c, v] : Array Value)[i]? := cell_of_row w b i _ _ _ k
theorem NodB.free (k : NodB w b s c v) (i : Nat) : w.frozen? ⟨b, i, none⟩ = false := frozen_of_row w b i _ _ k
theorem NodB.other (k : NodB w b s c v) (p : Addr) (x : Value) (hp : p.block ≠ b) : NodB (w.setCell p x) b s c v := by unfold NodB; rw [heap_setCell_other w p b x (fun e => hp e.symm)]; exact k
theorem NodB.c0 (k : NodB w b s c v) : w.cell? ⟨b, 0, none⟩ = some (.int .i64 s.pos) := k.cell 0
theorem NodB.c1 (k : NodB w b s c v) : w.cell? ⟨b, 1, none⟩ = some (.int .i64 s.car) := k.cell 1
theorem NodB.c2 (k : NodB w b s c v) : w.cell? ⟨b, 2, none⟩ = some (.int .i64 s.time) := k.cell 2
theorem NodB.c3 (k : NodB w b s c v) : w.cell? ⟨b, 3, none⟩ = some (.int .i64 s.load) := k.cell 3
theorem NodB.c4 (k : NodB w b s c v) : w.cell? ⟨b, 4, none⟩ = some (.int .i64 s.first) := k.cell 4
theorem NodB.c5 (k : NodB w b s c v) : w.cell? ⟨b, 5, none⟩ = some (.int .u64 s.must) := k.cell 5
theorem NodB.c6 (k : NodB w b s c v) : w.cell? ⟨b, 6, none⟩ = some (.int .u64 s.may) := k.cell 6
theorem NodB.c7 (k : NodB w b s c v) : w.cell? ⟨b, 7, none⟩ = some (.int .u64 s.on) := k.cell 7
theorem NodB.c8 (k : NodB w b s c v) : w.cell? ⟨b, 8, none⟩ = some (.int .i64 c) := k.cell 8
theorem NodB.c9 (k : NodB w b s c v) : w.cell? ⟨b, 9, none⟩ = some (v) := k.cell 9
theorem NodB.holds (k : NodB w b s c v) : Holds (cellsN b s c v) w := ⟨k.c0, k.c1, k.c2, k.c3, k.c4, k.c5, k.c6, k.c7, k.c8, k.c9, trivial⟩
theorem lows_N {M : Nat} (hb : b < M) : Lows M (cellsN b s c v) := ⟨hb, hb, hb, hb, hb, hb, hb, hb, hb, hb, trivial⟩
end
theorem row_nil (w : World) : Row w (.slice none 0 0) (ints []) := ⟨by simp [ints, maxLen], _, _, rfl, by simp [ints], ⟨by simp [maxLen], by simp⟩, .inl rfl⟩
section
variable {H : Type} {enc : TypeId × Value → H} {w : World} {base : Nat} {spare : Nat → Bool} {held : Bool}
end
end Go.Proofs.YtgplajofemencaaGreat
/- Rows of nodes in memory. -/
namespace Go.Proofs.YtgplajofemencaaGreat
open Go.ChangeShapes Go.WideShapes Go.ChangeAt Go.RowKit

/-- A node as its cells have it: its path as a slice. -/
structure RawN where
  s : Sta
  c : Int
  ad : Option Addr
  len : Nat
  cap : Nat
def RawN.u (r : RawN) : Value := .slice r.ad r.len r.cap
def nvL (r : RawN) : List Value := [.int .i64 r.s.pos, .int .i64 r.s.car, .int .i64 r.s.time, .int .i64 r.s.load, .int .i64 r.s.first, .int .u64 r.s.must, .int .u64 r.s.may, .int .u64 r.s.on, .int .i64 r.c, .slice r.ad r.len r.cap]
theorem encNod : Enc nvL 10 := ⟨fun _ => rfl, by decide, fun r u hu => by
  simp only [nvL, List.mem_cons, List.not_mem_nil, or_false] at hu
  rcases hu with rfl | rfl | rfl | rfl | rfl | rfl | rfl | rfl | rfl | rfl <;> rfl⟩
/-- A path: as it lay in an older world, or made since. -/
def PathB (w0 w : World) (v : Value) (l : List Int) : Prop := Row w0 v (ints l) ∨ OwnI w w0.heap.size v l
theorem PathB.row {w0 w : World} {v : Value} {l : List Int} (h : PathB w0 w v l) (hb : Below w0.heap.size w0 w) : Row w v (ints l) := h.elim (fun h => h.below hb) (fun h => h.row)
theorem PathB.below {w0 w w' : World} {v : Value} {l : List Int} (h : PathB w0 w v l) (hb : Below w.heap.size w w') : PathB w0 w' v l := h.imp id (fun h => h.below hb)
theorem PathB.shape {w0 w : World} {v : Value} {l : List Int} (h : PathB w0 w v l) : ∃ a cap, v = .slice a l.length cap := by
  rcases h with h | h
  · obtain ⟨a, cap, rfl, _⟩ := h.form
    exact ⟨a, cap, by rw [ints_len]⟩
  · exact h.shape
/-- A block of nodes turns: no path does. -/
theorem PathB.kept {w0 w w' : World} {v : Value} {l : List Int} {g : Nat} {c : Array Value} {fr : Nat × Nat} (h : PathB w0 w v l) (hg : w.grownBy w' (some g)) (hb : w.heap[g]? = some (.cells c 30 fr)) : PathB w0 w' v l := by
  refine h.imp id (fun h => h.kept hg ?_)
  right
  intro e
  rcases h.2 with ⟨rfl, _⟩ | ⟨g', cap', cur, rfl, _, hb', _⟩
  · simp [Value.ownBlock] at e
  · have e' : g' = g := by simpa [Value.ownBlock] using e
    subst e'
    rw [hb] at hb'
    simp at hb'
theorem PathB.turned {w0 w w' : World} {v : Value} {l : List Int} (h : PathB w0 w v l) (hg : w.grownBy w' none) : PathB w0 w' v l := h.imp id (fun h => h.kept hg (by
  rcases h.2 with ⟨rfl, _⟩ | ⟨g', cap', cur, rfl, _⟩
  · exact .inl rfl
  · exact .inr (by simp [Value.ownBlock])))
def NodIs (w0 w : World) (r : RawN) (n : Nod) : Prop := r.s = n.s ∧ r.c = n.cost ∧ PathB w0 w r.u n.path
/-- These raw nodes are those. -/
def NIn (w0 w : World) : List RawN → List Nod → Prop
  | [], [] => True
  | r :: rs, n :: ns => NodIs w0 w r n ∧ NIn w0 w rs ns
  | _, _ => False
theorem NIn.mono {w0 w w' : World} (h : ∀ v l, PathB w0 w v l → PathB w0 w' v l) : ∀ {rs : List RawN} {ns : List Nod}, NIn w0 w rs ns → NIn w0 w' rs ns
  | [], [], _ => trivial
  | _ :: _, _ :: _, k => ⟨⟨k.1.1, k.1.2.1, h _ _ k.1.2.2⟩, NIn.mono h k.2⟩
  | [], _ :: _, k => k.elim
  | _ :: _, [], k => k.elim
theorem NIn.len {w0 w : World} : ∀ {rs : List RawN} {ns : List Nod}, NIn w0 w rs ns → rs.length = ns.length
  | [], [], _ => rfl
  | _ :: _, _ :: _, k => by rw [List.length_cons, List.length_cons, NIn.len k.2]
  | [], _ :: _, k => k.elim
  | _ :: _, [], k => k.elim
theorem NIn.append {w0 w : World} : ∀ {rs ps : List RawN} {ns ms : List Nod}, NIn w0 w rs ns → NIn w0 w ps ms → NIn w0 w (rs ++ ps) (ns ++ ms)
  | [], _, [], _, _, h => h
  | _ :: _, _, _ :: _, _, k, h => ⟨k.1, NIn.append k.2 h⟩
  | [], _, _ :: _, _, k, _ => k.elim
  | _ :: _, _, [], _, k, _ => k.elim
theorem NIn.at {w0 w : World} : ∀ {rs : List RawN} {ns : List Nod} (i : Nat) (n : Nod), NIn w0 w rs ns → ns[i]? = some n → ∃ r, rs[i]? = some r ∧ NodIs w0 w r n
  | [], [], _, _, _, h => by simp at h
  | r :: _, _ :: _, 0, n, k, h => by simp at h; subst h; exact ⟨r, rfl, k.1⟩
  | _ :: rs, _ :: _, i + 1, n, k, h => by
    obtain ⟨r, h1, h2⟩ := NIn.at i n k.2 (by simpa using h)
    exact ⟨r, by simpa using h1, h2⟩
  | [], _ :: _, _, _, k, _ => k.elim
  | _ :: _, [], _, _, k, _ => k.elim
theorem NIn.set {w0 w : World} : ∀ {rs : List RawN} {ns : List Nod} (i : Nat) {r : RawN} {n : Nod}, NIn w0 w rs ns → NodIs w0 w r n → NIn w0 w (rs.set i r) (ns.set i n)
  | [], [], _, _, _, _, _ => trivial
  | _ :: _, _ :: _, 0, _, _, k, h => ⟨h, k.2⟩
  | _ :: _, _ :: _, i + 1, _, _, k, h => ⟨k.1, NIn.set i k.2 h⟩
  | [], _ :: _, _, _, _, k, _ => k.elim
  | _ :: _, [], _, _, _, k, _ => k.elim
theorem NIn.take {w0 w : World} : ∀ {rs : List RawN} {ns : List Nod} (i : Nat), NIn w0 w rs ns → NIn w0 w (rs.take i) (ns.take i)
  | [], [], _, _ => by simp [NIn]
  | _ :: _, _ :: _, 0, _ => trivial
  | _ :: _, _ :: _, i + 1, k => ⟨k.1, NIn.take i k.2⟩
  | [], _ :: _, _, k => k.elim
  | _ :: _, [], _, k => k.elim
theorem NIn.drop {w0 w : World} : ∀ {rs : List RawN} {ns : List Nod} (i : Nat), NIn w0 w rs ns → NIn w0 w (rs.drop i) (ns.drop i)
  | [], [], _, _ => by simp [NIn]
  | _ :: _, _ :: _, 0, k => k
  | _ :: _, _ :: _, i + 1, k => NIn.drop i k.2
  | [], _ :: _, _, k => k.elim
  | _ :: _, [], _, k => k.elim
/-- Nodes that may be read; their paths lay in w0, or were made since. -/
def NRowB (w0 w : World) (v : Value) (l : List Nod) : Prop := ∃ raw, GRow nvL 10 w v raw ∧ NIn w0 w raw l
/-- Nodes that may be read. -/
def NRow (w : World) (v : Value) (l : List Nod) : Prop := NRowB w w v l
theorem NRowB.below {w0 w w' : World} {v : Value} {l : List Nod} (h : NRowB w0 w v l) (hb : Below w.heap.size w w') : NRowB w0 w' v l := by
  obtain ⟨raw, h1, h2⟩ := h
  exact ⟨raw, GRow.below encNod h1 hb, h2.mono (fun v l h => h.below hb)⟩
theorem pathB_same {w w' : World} {v : Value} {l : List Int} (h : PathB w w v l) (hb : Below w.heap.size w w') : PathB w' w' v l := .inl ((h.row (Below.refl _ _)).below hb)
theorem NIn.later {w w' : World} (hb : Below w.heap.size w w') : ∀ {rs : List RawN} {ns : List Nod}, NIn w w rs ns → NIn w' w' rs ns
  | [], [], _ => trivial
  | _ :: _, _ :: _, k => ⟨⟨k.1.1, k.1.2.1, pathB_same k.1.2.2 hb⟩, NIn.later hb k.2⟩
  | [], _ :: _, k => k.elim
  | _ :: _, [], k => k.elim
theorem NIn.now {w0 w : World} (hb : Below w0.heap.size w0 w) : ∀ {rs : List RawN} {ns : List Nod}, NIn w0 w rs ns → NIn w w rs ns
  | [], [], _ => trivial
  | _ :: _, _ :: _, k => ⟨⟨k.1.1, k.1.2.1, .inl (k.1.2.2.row hb)⟩, NIn.now hb k.2⟩
  | [], _ :: _, k => k.elim
  | _ :: _, [], k => k.elim
theorem NRow.below {w w' : World} {v : Value} {l : List Nod} (h : NRow w v l) (hb : Below w.heap.size w w') : NRow w' v l := by
  obtain ⟨raw, h1, h2⟩ := h
  exact ⟨raw, GRow.below encNod h1 hb, h2.later hb⟩
theorem NRowB.now {w0 w : World} {v : Value} {l : List Nod} (h : NRowB w0 w v l) (hb : Below w0.heap.size w0 w) : NRow w v l := by
  obtain ⟨raw, h1, h2⟩ := h
  exact ⟨raw, h1, h2.now hb⟩
theorem NRowB.form {w0 w : World} {v : Value} {l : List Nod} (h : NRowB w0 w v l) : ∃ a cap, v = .slice a l.length cap ∧ l.length ≤ maxLen ∧ l.length ≤ cap ∧ cap ≤ maxLen := by
  obtain ⟨raw, h1, h2⟩ := h
  have := h2.len
  rw [← this]
  exact GRow.form h1
theorem NRow.form {w : World} {v : Value} {l : List Nod} (h : NRow w v l) : ∃ a cap, v = .slice a l.length cap ∧ l.length ≤ maxLen ∧ l.length ≤ cap ∧ cap ≤ maxLen := NRowB.form h
/-- The cells of a node on a row. -/
def NodAt (w : World) (b o : Nat) (s : Sta) (c : Int) (v : Value) : Prop :=
  w.cell? ⟨b, o, none⟩ = some (.int .i64 s.pos) ∧ w.cell? ⟨b, o + 1, none⟩ = some (.int .i64 s.car) ∧ w.cell? ⟨b, o + 2, none⟩ = some (.int .i64 s.time) ∧ w.cell? ⟨b, o + 3, none⟩ = some (.int .i64 s.load) ∧ w.cell? ⟨b, o + 4, none⟩ = some (.int .i64 s.first) ∧ w.cell? ⟨b, o + 5, none⟩ = some (.int .u64 s.must) ∧ w.cell? ⟨b, o + 6, none⟩ = some (.int .u64 s.may) ∧ w.cell? ⟨b, o + 7, none⟩ = some (.int .u64 s.on) ∧ w.cell? ⟨b, o + 8, none⟩ = some (.int .i64 c) ∧ w.cell? ⟨b, o + 9, none⟩ = some (v)
def cellsRN (b o : Nat) (s : Sta) (c : Int) (v : Value) : List (Addr × Value) := [(⟨b, o, none⟩, .int .i64 s.pos), (⟨b, o + 1, none⟩, .int .i64 s.car), (⟨b, o + 2, none⟩, .int .i64 s.time), (⟨b, o + 3, none⟩, .int .i64 s.load), (⟨b, o + 4, none⟩, .int .i64 s.first), (⟨b, o + 5, none⟩, .int .u64 s.must), (⟨b, o + 6, none⟩, .int .u64 s.may), (⟨b, o + 7, none⟩, .int .u64 s.on), (⟨b, o + 8, none⟩, .int .i64 c), (⟨b, o + 9, none⟩, v)]
theorem holds_RN {w : World} {b o : Nat} {s : Sta} {c : Int} {v : Value} (h : NodAt w b o s c v) : Holds (cellsRN b o s c v) w := by
  obtain ⟨h0, h1, h2, h3, h4, h5, h6, h7, h8, h9⟩ := h
  exact ⟨h0, h1, h2, h3, h4, h5, h6, h7, h8, h9, trivial⟩
theorem lows_RN {M b o : Nat} {s : Sta} {c : Int} {v : Value} (hb : b < M) : Lows M (cellsRN b o s c v) := ⟨hb, hb, hb, hb, hb, hb, hb, hb, hb, hb, trivial⟩
theorem NodAt.below {w w' : World} {b o : Nat} {s : Sta} {c : Int} {v : Value} {M : Nat} (h : NodAt w b o s c v) (hb : b < M) (hw : Below M w w') : NodAt w' b o s c v := by
  obtain ⟨h0, h1, h2, h3, h4, h5, h6, h7, h8, h9⟩ := h
  have k : ∀ i, w'.cell? ⟨b, i, none⟩ = w.cell? ⟨b, i, none⟩ := fun i => hw.cell (p := ⟨b, i, none⟩) hb
  exact ⟨(k _).trans h0, (k _).trans h1, (k _).trans h2, (k _).trans h3, (k _).trans h4, (k _).trans h5, (k _).trans h6, (k _).trans h7, (k _).trans h8, (k _).trans h9⟩
theorem nodAt_of {w : World} {b o : Nat} {r : RawN} (h : GAt nvL 10 w b o r) : NodAt w b o r.s r.c r.u := ⟨h 0 (by omega), h 1 (by omega), h 2 (by omega), h 3 (by omega), h 4 (by omega), h 5 (by omega), h 6 (by omega), h 7 (by omega), h 8 (by omega), h 9 (by omega)⟩
theorem nrowB_at {w0 w : World} {a : Option Addr} {n cap : Nat} {l : List Nod} (h : NRowB w0 w (.slice a n cap) l) (i : Nat) (x : Nod) (hi : l[i]? = some x) :
    ∃ b off pa pc, a = some ⟨b, off, none⟩ ∧ NodAt w b (off + i * 10) x.s x.cost (.slice pa x.path.length pc) ∧ b < w.heap.size ∧ PathB w0 w (.slice pa x.path.length pc) x.path := by
  obtain ⟨raw, h1, h2⟩ := h
  obtain ⟨r, hr, e1, e2, hp⟩ := h2.at i x hi
  obtain ⟨b, off, ha, hc, hl⟩ := grow_at encNod h1 i r hr
  obtain ⟨pa, pc, hs⟩ := hp.shape
  have hn := nodAt_of hc
  rw [e1, e2, hs] at hn
  rw [hs] at hp
  exact ⟨b, off, pa, pc, ha, hn, hl, hp⟩
theorem nrowB_here {w0 w : World} {b off n cap : Nat} {l : List Nod} (h : NRowB w0 w (.slice (some ⟨b, off, none⟩) n cap) l) (i : Nat) (x : Nod) (hi : l[i]? = some x) :
    ∃ pa pc, NodAt w b (off + i * 10) x.s x.cost (.slice pa x.path.length pc) ∧ b < w.heap.size ∧ PathB w0 w (.slice pa x.path.length pc) x.path := by
  obtain ⟨b', off', pa, pc, he, h1, h2, h3⟩ := nrowB_at h i x hi
  simp only [Option.some.injEq, Addr.mk.injEq, and_true] at he
  obtain ⟨rfl, rfl⟩ := he
  exact ⟨pa, pc, h1, h2, h3⟩
theorem nrow_at {w : World} {a : Option Addr} {n cap : Nat} {l : List Nod} (h : NRow w (.slice a n cap) l) (i : Nat) (x : Nod) (hi : l[i]? = some x) :
    ∃ b off pa pc, a = some ⟨b, off, none⟩ ∧ NodAt w b (off + i * 10) x.s x.cost (.slice pa x.path.length pc) ∧ b < w.heap.size ∧ Row w (.slice pa x.path.length pc) (ints x.path) := by
  obtain ⟨b, off, pa, pc, h1, h2, h3, h4⟩ := nrowB_at h i x hi
  exact ⟨b, off, pa, pc, h1, h2, h3, h4.row (Below.refl _ _)⟩
/-- Nodes that a call has made, from block B on; their paths lay in w0, or were made since. -/
def OwnN (w0 : World) (B : Nat) (w : World) (v : Value) (l : List Nod) : Prop := ∃ raw, OwnG nvL 10 30 w B v raw ∧ NIn w0 w raw l
theorem ownN_nil (w0 : World) (B : Nat) (w : World) : OwnN w0 B w (.slice none 0 0) [] := ⟨[], ownG_nil _ _, trivial⟩
theorem OwnN.rowB {w0 w : World} {B : Nat} {v : Value} {l : List Nod} (h : OwnN w0 B w v l) : NRowB w0 w v l := by
  obtain ⟨raw, h1, h2⟩ := h
  exact ⟨raw, OwnG.row encNod h1, h2⟩
theorem OwnN.row {w0 w : World} {B : Nat} {v : Value} {l : List Nod} (h : OwnN w0 B w v l) (hb : Below w0.heap.size w0 w) : NRow w v l := by
  obtain ⟨raw, h1, h2⟩ := h
  exact ⟨raw, OwnG.row encNod h1, h2.now hb⟩
theorem OwnN.below {w0 w w' : World} {B : Nat} {v : Value} {l : List Nod} (h : OwnN w0 B w v l) (hb : Below w.heap.size w w') : OwnN w0 B w' v l := by
  obtain ⟨raw, h1, h2⟩ := h
  exact ⟨raw, h1.below hb, h2.mono (fun v l h => h.below hb)⟩
theorem OwnN.less {w0 w : World} {B B' : Nat} {v : Value} {l : List Nod} (h : OwnN w0 B w v l) (hB : B' ≤ B) : OwnN w0 B' w v l := by
  obtain ⟨raw, h1, h2⟩ := h
  exact ⟨raw, h1.less hB, h2⟩
theorem OwnN.shape {w0 w : World} {B : Nat} {v : Value} {l : List Nod} (h : OwnN w0 B w v l) : ∃ a cap, v = .slice a l.length cap := by
  obtain ⟨raw, h1, h2⟩ := h
  rw [← h2.len]
  exact h1.shape
/-- What turns a row's own block turns no path. -/
theorem NIn.grown {w0 w w' : World} {B : Nat} {v : Value} {raw rs : List RawN} {ns : List Nod} (ho : OwnG nvL 10 30 w B v raw) (hg : w.grownBy w' v.ownBlock) (h : NIn w0 w rs ns) : NIn w0 w' rs ns := by
  rcases ho.2 with ⟨rfl, _⟩ | ⟨g', cap', cur, rfl, _, hb', _⟩
  · exact h.mono (fun v l h => h.turned hg)
  · exact h.mono (fun v l h => h.kept hg hb')
theorem OwnN.block {w0 w : World} {B : Nat} {v : Value} {l : List Nod} (h : OwnN w0 B w v l) (h0 : 0 < l.length) : ∃ g cap, v = .slice (some ⟨g, 0, none⟩) l.length cap ∧ l.length ≤ cap ∧ cap ≤ maxLen ∧ B ≤ g ∧ g < w.heap.size := by
  obtain ⟨raw, h1, h2⟩ := h
  have hl := h2.len
  rcases h1.2 with ⟨_, hn⟩ | ⟨g, cap, cur, rfl, hb, hg, hc, hm, _⟩
  · omega
  · exact ⟨g, cap, by rw [hl], by omega, hm, hb, (Array.getElem?_eq_some_iff.1 hg).1⟩
theorem infoNode : (Tryz.prog.info? 30).map (fun i => (i.zero, i.size, i.bytes)) = some (some (.agg #[.int .i64 0, .int .i64 0, .int .i64 0, .int .i64 0, .int .i64 0, .int .u64 0, .int .u64 0, .int .u64 0, .int .i64 0, .slice none 0 0]), 10, 96) := by kernel_rfl
section
variable {α : Type} {f : α → List Value} {k : Nat}
theorem GRow.cut {w : World} {a : Option Addr} {n cap : Nat} {l : List α} (h : GRow f k w (.slice a n cap) l) (q : Nat) (hq : q ≤ l.length) : GRow f k w (.slice a q cap) (l.take q) := by
  obtain ⟨hm, a', cap', hv, hc, hc2, hor⟩ := h
  simp only [Value.slice.injEq] at hv
  obtain ⟨rfl, -, rfl⟩ := hv
  have e : (l.take q).length = q := by rw [List.length_take]; omega
  refine ⟨by omega, a, cap, by rw [e], by omega, hc2, ?_⟩
  rcases hor with h0 | ⟨b, off, ha, hcell⟩
  · left; subst h0; simp
  · right
    refine ⟨b, off, ha, fun i x hi => hcell i x ?_⟩
    have hil := (List.getElem?_eq_some_iff.1 hi).1
    rw [e] at hil
    rwa [List.getElem?_take_of_lt hil] at hi
theorem GRow.rest {w : World} {a : Option Addr} {n cap : Nat} {l : List α} (h : GRow f k w (.slice a n cap) l) (q : Nat) (hq : q ≤ l.length) (a' : Option Addr) (ha' : ∀ b off, a = some ⟨b, off, none⟩ → a' = if cap = q then some ⟨b, off, none⟩ else some ⟨b, off + q * k, none⟩) (hz : a' = none → cap ≤ q) :
    GRow f k w (.slice a' (l.length - q) (cap - q)) (l.drop q) := by
  obtain ⟨hm, a0, cap', hv, hc, hc2, hor⟩ := h
  simp only [Value.slice.injEq] at hv
  obtain ⟨rfl, rfl, rfl⟩ := hv
  have e : (l.drop q).length = l.length - q := List.length_drop
  refine ⟨by omega, a', cap - q, by rw [e], by omega, ⟨by omega, fun h0 => by have := hz h0; omega⟩, ?_⟩
  rcases hor with h1 | ⟨b, off, ha, hcell⟩
  · left; subst h1; simp
  · by_cases hcq : cap = q
    · left
      refine List.eq_nil_of_length_eq_zero ?_
      rw [e]; omega
    · right
      have := ha' b off ha
      rw [if_neg hcq] at this
      refine ⟨b, off + q * k, this, fun i x hi => ?_⟩
      rw [List.getElem?_drop] at hi
      have := hcell (q + i) x hi
      rw [show off + (q + i) * k = off + q * k + i * k by rw [Nat.add_mul]; omega] at this
      exact this
end
/-- One node more, in a block of its own. -/
theorem nrow_one {w : World} {b : Nat} {s : Sta} {c : Int} {pa : Option Addr} {pn pc : Nat} {fr : Nat × Nat} (h : w.heap[b]? = some (.cells #[.int .i64 s.pos, .int .i64 s.car, .int .i64 s.time, .int .i64 s.load, .int .i64 s.first, .int .u64 s.must, .int .u64 s.may, .int .u64 s.on, .int .i64 c, .slice pa pn pc] 30 fr)) : GRow nvL 10 w (.slice (some ⟨b, 0, none⟩) 1 1) [⟨s, c, pa, pn, pc⟩] :=
  grow_block (l := [⟨s, c, pa, pn, pc⟩]) encNod (t := 30) (fr := fr) h (by simp [maxLen])
/-- Nodes put behind nodes that the call has made. -/
theorem app_nodes {w0 w : World} {ops : Array Oper} {rest : List Oper} {o : Oper} {a : Act} {Q : Exit → Act → World → Prop} (hU : Tryz.prog.underlying 35 = some (.slice 30)) (hgd : o.guard = none) (s x : Operand)
    (ho : o.op = .call { callee := .builtin .append, args := #[s, x], argTypes := #[35, 35] }) (B : Nat) (v : Value) (l : List Nod) (hs : a.eval s = v) (hown : OwnN w0 B w v l)
    (u : Value) (hx : a.eval x = u) (raws : List RawN) (ns : List Nod) (hr : GRow nvL 10 w u raws) (hn : NIn w0 w raws ns) (hlen : l.length + ns.length ≤ 1000000) (hB : B ≤ w.heap.size) (h0 : w0.heap.size ≤ B) (hb0 : Below w0.heap.size w0 w)
    (h : ∀ v' w', OwnN w0 B w' v' (l ++ ns) → Below w0.heap.size w0 w' → Below B w w' → w.grownBy w' v.ownBlock ∧ (v'.ownBlock = v.ownBlock ∨ v'.ownBlock = some w.heap.size) → wpList Tryz.prog ops Q rest (a.put o.dst v') w') : wpList Tryz.prog ops Q (o :: rest) a w := by
  obtain ⟨raw, h1, h2⟩ := hown
  refine app_rows encNod hU infoNode rfl (by decide) hgd s x ho B v raw hs h1 u raws hx hr (by rw [h2.len, hn.len]; exact hlen) hB ?_
  intro v' w' k1 k2 k3
  have hbb : Below B w w' := (Below.refl B w).grown k2 hB (fun j e => by
    rcases h1.2 with ⟨rfl, _⟩ | ⟨g', cap', cur, rfl, hb', _⟩
    · simp [Value.ownBlock] at e
    · simp [Value.ownBlock] at e; omega)
  exact h v' w' ⟨_, k1, (NIn.grown h1 k2 h2).append (NIn.grown h1 k2 hn)⟩ (hb0.trans (hbb.mono h0)) hbb ⟨k2, k3⟩
end Go.Proofs.YtgplajofemencaaGreat
/- Nodes that a law is handed. -/
namespace Go.Proofs.YtgplajofemencaaGreat
open Go.ChangeShapes Go.WideShapes Go.ChangeAt Go.RowKit

/-- What a node's numbers are. -/
def NodFit (n : Nod) : Prop := SetsOk n.s ∧ Fit n.cost ∧ (∀ x ∈ n.path, Fit x) ∧ FitSt n.s
/-- Nodes as the program's own functions want them. -/
def NodesOk (l : List Nod) : Prop := ∀ n ∈ l, SetsOk n.s ∧ FitSt n.s ∧ Fit n.cost ∧ n.path.length ≤ 999999
theorem NodesOk.sub {l m : List Nod} (h : NodesOk l) (hm : ∀ n ∈ m, n ∈ l) : NodesOk m := fun n hn => h n (hm n hn)
theorem NodesOk.sets {l : List Nod} (h : NodesOk l) : ∀ n ∈ l, SetsOk n.s := fun n hn => (h n hn).1
theorem NodesOk.paths {l : List Nod} (h : NodesOk l) : ∀ n ∈ l, n.path.length ≤ 1000000 := fun n hn => Nat.le_succ_of_le (h n hn).2.2.2
theorem NodesOk.of {l : List Nod} (h : ∀ n ∈ l, NodFit n) (hp : ∀ n ∈ l, n.path.length ≤ 100) : NodesOk l := fun n hn => ⟨(h n hn).1, (h n hn).2.2.2, (h n hn).2.1, by have := hp n hn; omega⟩
section
variable {H : Type} {enc : TypeId × Value → H} {w : World} {base : Nat} {spare : Nat → Bool} {held : Bool}
end
end Go.Proofs.YtgplajofemencaaGreat
/- A whole struct stored into a row that a call has made. -/
namespace Go.Proofs.YtgplajofemencaaGreat
open Go.ChangeShapes Go.WideShapes Go.ChangeAt Go.RowKit

/-- These values from place o on. -/
def setAt (xs : List Value) : Nat → List Value → List Value
  | _, [] => xs
  | o, v :: r => setAt (xs.set o v) (o + 1) r
theorem setAt_at : ∀ (r : List Value) (xs : List Value) (o j : Nat), o + r.length ≤ xs.length → (setAt xs o r)[j]? = if o ≤ j ∧ j < o + r.length then r[j - o]? else xs[j]?
  | [], xs, o, j, _ => by rw [setAt, if_neg (by rw [List.length_nil]; omega)]
  | v :: r, xs, o, j, h => by
    rw [List.length_cons] at h
    rw [setAt, setAt_at r (xs.set o v) (o + 1) j (by rw [List.length_set]; omega)]
    by_cases h1 : j = o
    · subst h1
      rw [if_neg (by omega), if_pos (by simp), Nat.sub_self, List.getElem?_cons_zero, List.getElem?_set_self (by omega)]
    · by_cases h2 : o + 1 ≤ j ∧ j < o + 1 + r.length
      · rw [if_pos h2, if_pos (by simp; omega), show j - o = (j - (o + 1)) + 1 by omega, List.getElem?_cons_succ]
      · rw [if_neg h2, if_neg (by simp; omega), List.getElem?_set_ne (by omega)]
section
variable {α : Type} {f : α → List Value} {k : Nat}
theorem gflat_set (E : Enc f k) (l : List α) (i : Nat) (x : α) (hi : i < l.length) : gflat f (l.set i x) = setAt (gflat f l) (i * k) (f x) := by
  have hk := E.pos
  have hb : i * k + k ≤ l.length * k := by
    have := Nat.mul_le_mul_right k (show i + 1 ≤ l.length by omega)
    rw [Nat.add_mul] at this; omega
  have hL : (gflat f l).length = l.length * k := gflat_len E l
  refine List.ext_getElem? (fun j => ?_)
  rw [setAt_at _ _ _ _ (by rw [E.len, hL]; exact hb), E.len]
  by_cases hj : j < l.length * k
  · have hd : j / k < l.length := Nat.div_lt_of_lt_mul (by rw [Nat.mul_comm]; exact hj)
    have hm : j % k < k := Nat.mod_lt _ hk
    have hjj : j / k * k + j % k = j := by rw [Nat.mul_comm]; exact Nat.div_add_mod j k
    by_cases he : j / k = i
    · have hx : (l.set i x)[i]? = some x := List.getElem?_set_self hi
      have h1 := gflat_at E (l.set i x) i (j % k) x hx hm
      rw [he] at hjj
      rw [hjj] at h1
      rw [h1, if_pos (by omega), show j - i * k = j % k by omega]
    · have hx : (l.set i x)[j / k]? = some l[j / k] := by rw [List.getElem?_set_ne (fun e => he e.symm), List.getElem?_eq_getElem hd]
      have h1 := gflat_at E (l.set i x) (j / k) (j % k) _ hx hm
      have h2 := gflat_at E l (j / k) (j % k) _ (List.getElem?_eq_getElem hd) hm
      rw [hjj] at h1 h2
      rw [h1, h2, if_neg]
      rintro ⟨h3, h4⟩
      have : j / k = i := by
        refine Nat.div_eq_of_lt_le ?_ ?_
        · exact h3
        · rw [Nat.add_mul]; omega
      exact he this
  · rw [List.getElem?_eq_none (by rw [gflat_len E, List.length_set]; omega), if_neg (by omega), List.getElem?_eq_none (by omega)]
theorem owns_setCells {B : Nat} {t : TypeId} {g n cap : Nat} : ∀ (r : List Value) (o : Nat) (xs : List Value) (w : World), w.ownsRow B t k (.slice (some ⟨g, 0, none⟩) n cap) n xs →
    (w.setCells g o r).ownsRow B t k (.slice (some ⟨g, 0, none⟩) n cap) n (setAt xs o r) ∧ w.grownBy (w.setCells g o r) (some g)
  | [], _, _, _, h => ⟨h, ⟨rfl, rfl, rfl, Nat.le_refl _, fun _ _ _ => rfl⟩⟩
  | v :: r, o, xs, w, h => by
    obtain ⟨a1, h1⟩ := h.stored o v
    obtain ⟨a2, h2⟩ := owns_setCells r (o + 1) (xs.set o v) (w.setCell ⟨g, o, none⟩ v) a1
    exact ⟨a2, ⟨h2.os.trans h1.os, h2.tape.trans h1.tape, h2.output.trans h1.output, Nat.le_trans h1.size h2.size, fun j hj hne => (h2.block j (Nat.lt_of_lt_of_le hj h1.size) hne).trans (h1.block j hj hne)⟩⟩
/-- One of them is stored. -/
theorem OwnG.stored {t : TypeId} {w : World} {B g n cap : Nat} {l : List α} (E : Enc f k) (h : OwnG f k t w B (.slice (some ⟨g, 0, none⟩) n cap) l) (i : Nat) (x : α) (hi : i < l.length) :
    OwnG f k t (w.setCells g (i * k) (f x)) B (.slice (some ⟨g, 0, none⟩) n cap) (l.set i x) ∧ w.grownBy (w.setCells g (i * k) (f x)) (some g) ∧ w.there g (i * k) k ∧ B ≤ g ∧ g < w.heap.size := by
  have hn : n = l.length := by
    obtain ⟨a, c, he⟩ := h.shape
    simp at he; exact he.2.1
  subst hn
  have h' : w.ownsRow B t k (.slice (some ⟨g, 0, none⟩) l.length cap) l.length (gflat f l) := h
  obtain ⟨a1, a2⟩ := owns_setCells (f x) (i * k) (gflat f l) w h'
  refine ⟨?_, a2, fun j hj => ⟨?_, h'.frozenAt _⟩, (World.ownsRow.lt h' g rfl).1, (World.ownsRow.lt h' g rfl).2⟩
  · unfold OwnG
    rw [List.length_set, gflat_set E l i x hi]
    exact a1
  · have hb : i * k + k ≤ l.length * k := by
      have := Nat.mul_le_mul_right k (show i + 1 ≤ l.length by omega)
      rw [Nat.add_mul] at this; omega
    rw [h'.cellAt _ (by omega), List.getElem?_eq_getElem (by rw [gflat_len E]; omega)]; rfl
end
/-- A node stored into a row of nodes. -/
theorem OwnN.stored {w0 w : World} {B g n cap : Nat} {l : List Nod} (h : OwnN w0 B w (.slice (some ⟨g, 0, none⟩) n cap) l) (i : Nat) (r : RawN) (x : Nod) (hr : NodIs w0 w r x) (hi : i < l.length) :
    OwnN w0 B (w.setCells g (i * 10) (nvL r)) (.slice (some ⟨g, 0, none⟩) n cap) (l.set i x) ∧ w.grownBy (w.setCells g (i * 10) (nvL r)) (some g) ∧ w.there g (i * 10) 10 ∧ B ≤ g ∧ g < w.heap.size := by
  obtain ⟨raw, h1, h2⟩ := h
  obtain ⟨a1, a2, a3, a4, a5⟩ := h1.stored encNod i r (by rw [h2.len]; exact hi)
  obtain ⟨c, fr, hb⟩ : ∃ c fr, w.heap[g]? = some (.cells c 30 fr) := by
    rcases h1.2 with ⟨he, _⟩ | ⟨g', cap', cur, he, _, hg, _⟩
    · cases he
    · simp only [Value.slice.injEq, Option.some.injEq, Addr.mk.injEq, and_true] at he
      obtain ⟨rfl, _⟩ := he
      exact ⟨_, _, hg⟩
  exact ⟨⟨_, a1, (h2.set i hr).mono (fun v l h => h.kept a2 hb)⟩, a2, a3, a4, a5⟩
section
variable {w w' : World} {b : Nat} {s : Sta} {c : Int} {v : Value}
theorem NodB.set0 (k : NodB w b s c v) (x : Int) : NodB (w.setCell ⟨b, 0, none⟩ (.int .i64 x)) b ⟨x, s.car, s.time, s.load, s.first, s.must, s.may, s.on⟩ c v := by unfold NodB; rw [heap_setCell_same w b 0 _ _ _ k]; rfl
theorem NodB.set1 (k : NodB w b s c v) (x : Int) : NodB (w.setCell ⟨b, 1, none⟩ (.int .i64 x)) b ⟨s.pos, x, s.time, s.load, s.first, s.must, s.may, s.on⟩ c v := by unfold NodB; rw [heap_setCell_same w b 1 _ _ _ k]; rfl
theorem NodB.set2 (k : NodB w b s c v) (x : Int) : NodB (w.setCell ⟨b, 2, none⟩ (.int .i64 x)) b ⟨s.pos, s.car, x, s.load, s.first, s.must, s.may, s.on⟩ c v := by unfold NodB; rw [heap_setCell_same w b 2 _ _ _ k]; rfl
theorem NodB.set3 (k : NodB w b s c v) (x : Int) : NodB (w.setCell ⟨b, 3, none⟩ (.int .i64 x)) b ⟨s.pos, s.car, s.time, x, s.first, s.must, s.may, s.on⟩ c v := by unfold NodB; rw [heap_setCell_same w b 3 _ _ _ k]; rfl
theorem NodB.set4 (k : NodB w b s c v) (x : Int) : NodB (w.setCell ⟨b, 4, none⟩ (.int .i64 x)) b ⟨s.pos, s.car, s.time, s.load, x, s.must, s.may, s.on⟩ c v := by unfold NodB; rw [heap_setCell_same w b 4 _ _ _ k]; rfl
theorem NodB.set5 (k : NodB w b s c v) (x : Nat) : NodB (w.setCell ⟨b, 5, none⟩ (.int .u64 (x : Nat))) b ⟨s.pos, s.car, s.time, s.load, s.first, x, s.may, s.on⟩ c v := by unfold NodB; rw [heap_setCell_same w b 5 _ _ _ k]; rfl
theorem NodB.set6 (k : NodB w b s c v) (x : Nat) : NodB (w.setCell ⟨b, 6, none⟩ (.int .u64 (x : Nat))) b ⟨s.pos, s.car, s.time, s.load, s.first, s.must, x, s.on⟩ c v := by unfold NodB; rw [heap_setCell_same w b 6 _ _ _ k]; rfl
theorem NodB.set7 (k : NodB w b s c v) (x : Nat) : NodB (w.setCell ⟨b, 7, none⟩ (.int .u64 (x : Nat))) b ⟨s.pos, s.car, s.time, s.load, s.first, s.must, s.may, x⟩ c v := by unfold NodB; rw [heap_setCell_same w b 7 _ _ _ k]; rfl
theorem NodB.set8 (k : NodB w b s c v) (x : Int) : NodB (w.setCell ⟨b, 8, none⟩ (.int .i64 x)) b ⟨s.pos, s.car, s.time, s.load, s.first, s.must, s.may, s.on⟩ x v := by unfold NodB; rw [heap_setCell_same w b 8 _ _ _ k]; rfl
theorem NodB.set9 (k : NodB w b s c v) (x : Value) : NodB (w.setCell ⟨b, 9, none⟩ (x)) b ⟨s.pos, s.car, s.time, s.load, s.first, s.must, s.may, s.on⟩ c x := by unfold NodB; rw [heap_setCell_same w b 9 _ _ _ k]; rfl
end
theorem put_node {w : World} {r : Nat} {s0 : Sta} {c0 : Int} {v0 : Value} (k : NodB w r s0 c0 v0) (x : RawN) : NodB (w.setCells r 0 (nvL x)) r x.s x.c x.u :=
  (((((((((k.set0 x.s.pos).set1 x.s.car).set2 x.s.time).set3 x.s.load).set4 x.s.first).set5 x.s.must).set6 x.s.may).set7 x.s.on).set8 x.c).set9 x.u
theorem nput_below {w : World} {r M : Nat} (h : M ≤ r) (x : RawN) : Below M w (w.setCells r 0 (nvL x)) :=
  ((((((((((Below.refl M w).setCell (p := ⟨r, 0, none⟩) h _).setCell (p := ⟨r, 1, none⟩) h _).setCell (p := ⟨r, 2, none⟩) h _).setCell (p := ⟨r, 3, none⟩) h _).setCell (p := ⟨r, 4, none⟩) h _).setCell (p := ⟨r, 5, none⟩) h _).setCell (p := ⟨r, 6, none⟩) h _).setCell (p := ⟨r, 7, none⟩) h _).setCell (p := ⟨r, 8, none⟩) h _).setCell (p := ⟨r, 9, none⟩) h _
theorem nput_other {w : World} {r b : Nat} (h : b ≠ r) (x : RawN) : (w.setCells r 0 (nvL x)).heap[b]? = w.heap[b]? :=
  (heap_setCell_other _ ⟨r, 9, none⟩ b _ h).trans ((heap_setCell_other _ ⟨r, 8, none⟩ b _ h).trans ((heap_setCell_other _ ⟨r, 7, none⟩ b _ h).trans ((heap_setCell_other _ ⟨r, 6, none⟩ b _ h).trans ((heap_setCell_other _ ⟨r, 5, none⟩ b _ h).trans ((heap_setCell_other _ ⟨r, 4, none⟩ b _ h).trans ((heap_setCell_other _ ⟨r, 3, none⟩ b _ h).trans ((heap_setCell_other _ ⟨r, 2, none⟩ b _ h).trans ((heap_setCell_other _ ⟨r, 1, none⟩ b _ h).trans (heap_setCell_other _ ⟨r, 0, none⟩ b _ h)))))))))
theorem turn_cell (W : World) (b o : Nat) (v : Value) : W.grownBy (W.setCell ⟨b, o, none⟩ v) (some b) :=
  ⟨rfl, rfl, rfl, ((Below.refl 0 W).setCell (p := ⟨b, o, none⟩) (Nat.zero_le _) v).size, fun k _ hk => heap_setCell_other W ⟨b, o, none⟩ k v (fun e => hk (by rw [e]))⟩
theorem turn_cells (b : Nat) : ∀ (r : List Value) (o : Nat) (W : World), W.grownBy (W.setCells b o r) (some b)
  | [], _, _ => ⟨rfl, rfl, rfl, Nat.le_refl _, fun _ _ _ => rfl⟩
  | v :: r, o, W => by
    have h1 := turn_cell W b o v
    have h2 := turn_cells b r (o + 1) (W.setCell ⟨b, o, none⟩ v)
    exact ⟨h2.os.trans h1.os, h2.tape.trans h1.tape, h2.output.trans h1.output, Nat.le_trans h1.size h2.size, fun j hj hne => (h2.block j (Nat.lt_of_lt_of_le hj h1.size) hne).trans (h1.block j hj hne)⟩
theorem nput_turns {w : World} {r : Nat} (x : RawN) : w.grownBy (w.setCells r 0 (nvL x)) (some r) := turn_cells r (nvL x) 0 w
theorem NodB.there {w : World} {r : Nat} {s0 : Sta} {c0 : Int} {v0 : Value} (k : NodB w r s0 c0 v0) : w.there r 0 10 := by
  intro j hj
  rw [Nat.zero_add]
  refine ⟨?_, k.free j⟩
  rw [k.cell j]
  match j, hj with
  | 0, _ => rfl
  | 1, _ => rfl
  | 2, _ => rfl
  | 3, _ => rfl
  | 4, _ => rfl
  | 5, _ => rfl
  | 6, _ => rfl
  | 7, _ => rfl
  | 8, _ => rfl
  | 9, _ => rfl
theorem infoNodeS : (Tryz.prog.info? 30).map (·.size) = some 10 := by kernel_rfl
theorem one_node (x : RawN) : (nvL x).toArray.all (·.oneCell') = true := all_oneCell_toArray (encNod.one x)
/-- A whole node is stored over another one. -/
theorem wpList_store_node {ops : Array Oper} {rest : List Oper} {op : Oper} {a : Act} {w : World} {Q : Exit → Act → World → Prop} (hgd : op.guard = none) (x y : Operand) (ho : op.op = .store 30 x y)
    (r : Nat) (s0 : Sta) (c0 : Int) (v0 : Value) (n : RawN) (hx : a.eval x = .pointer (some ⟨r, 0, none⟩)) (hy : a.eval y = nodeV n.s n.c n.u) (k : NodB w r s0 c0 v0)
    (h : ∀ w', NodB w' r n.s n.c n.u → (∀ M, M ≤ r → Below M w w') → (∀ b, b ≠ r → w'.heap[b]? = w.heap[b]?) → w.grownBy w' (some r) → wpList Tryz.prog ops Q rest (a.put op.dst undef) w') : wpList Tryz.prog ops Q (op :: rest) a w := by
  refine wpList_store_mid hgd 30 x y ho r 0 (nvL n).toArray hx (hy.trans rfl) (by exact k.there) (by exact infoNodeS) (one_node n) ?_
  exact h _ (by exact put_node k n) (fun M hM => by exact nput_below hM n) (fun b hb => by exact nput_other hb n) (by exact nput_turns n)
theorem wp_store_node {o : Oper} {a : Act} {w : World} {K : Act → World → Prop} {Q : Exit → Act → World → Prop} (x y : Operand) (ho : o.op = .store 30 x y)
    (r : Nat) (s0 : Sta) (c0 : Int) (v0 : Value) (n : RawN) (hx : a.eval x = .pointer (some ⟨r, 0, none⟩)) (hy : a.eval y = nodeV n.s n.c n.u) (k : NodB w r s0 c0 v0)
    (h : ∀ w', NodB w' r n.s n.c n.u → (∀ M, M ≤ r → Below M w w') → (∀ b, b ≠ r → w'.heap[b]? = w.heap[b]?) → w.grownBy w' (some r) → K (a.put o.dst undef) w') : o.wp Tryz.prog a w K Q := by
  refine wp_store_mid 30 x y ho r 0 (nvL n).toArray hx (hy.trans rfl) (by exact k.there) (by exact infoNodeS) (one_node n) ?_
  exact h _ (by exact put_node k n) (fun M hM => by exact nput_below hM n) (fun b hb => by exact nput_other hb n) (by exact nput_turns n)
theorem YBox.same {w w' : World} {N : Nat} {I : Ins} {u : Value} (k : YBox w N I u) (h : w'.heap[N]? = w.heap[N]?) : YBox w' N I u := by unfold YBox; rw [h]; exact k
theorem NodB.same {w w' : World} {b : Nat} {s : Sta} {c : Int} {v : Value} (k : NodB w b s c v) (h : w'.heap[b]? = w.heap[b]?) : NodB w' b s c v := by unfold NodB; rw [h]; exact k
/-- A node's box that is none of theirs turns: they stay. -/
theorem OwnN.beside {w0 w w' : World} {B r : Nat} {v : Value} {l : List Nod} {s : Sta} {c : Int} {u : Value} (h : OwnN w0 B w v l) (hr : r < B) (hg : w.grownBy w' (some r)) (hb : NodB w r s c u) : OwnN w0 B w' v l := by
  obtain ⟨raw, h1, h2⟩ := h
  refine ⟨raw, h1.kept hg ?_, h2.mono (fun v l h => h.kept hg hb)⟩
  rcases h1.2 with ⟨rfl, _⟩ | ⟨g', cap', cur, rfl, hB, _⟩
  · exact .inl rfl
  · right; simp [Value.ownBlock]; omega
theorem OwnN.lt {w0 w : World} {B : Nat} {v : Value} {l : List Nod} (h : OwnN w0 B w v l) (g : Nat) (hg : v.ownBlock = some g) : B ≤ g ∧ g < w.heap.size := by
  obtain ⟨raw, h1, _⟩ := h
  exact World.ownsRow.lt (show w.ownsRow B 30 10 v raw.length (gflat nvL raw) from h1) g hg
/-- A row of nodes grows: no path turns. -/
theorem PathB.grown {w0 w w' : World} {B : Nat} {v u : Value} {l : List Nod} {p : List Int} (ho : OwnN w0 B w v l) (hg : w.grownBy w' v.ownBlock) (h : PathB w0 w u p) : PathB w0 w' u p := by
  obtain ⟨raw, h1, _⟩ := ho
  rcases h1.2 with ⟨rfl, _⟩ | ⟨g', cap', cur, rfl, _, hb', _⟩
  · exact h.turned hg
  · exact h.kept hg hb'
theorem PathB.own {w0 w : World} {B : Nat} {v : Value} {p : List Int} (h : OwnI w B v p) (hB : w0.heap.size ≤ B) : PathB w0 w v p := .inr (h.less hB)
theorem NodB.setPath {w : World} {b : Nat} {s : Sta} {c : Int} {v : Value} (k : NodB w b s c v) (x : Value) : NodB (w.setCell ⟨b, 9, none⟩ x) b s c x := by unfold NodB; rw [heap_setCell_same w b 9 _ _ _ k]; rfl
theorem grown_set (w : World) (b i : Nat) (x : Value) : w.grownBy (w.setCell ⟨b, i, none⟩ x) (some b) := ⟨rfl, rfl, rfl, by simp, fun k _ hk => heap_setCell_other w ⟨b, i, none⟩ k x (fun e => hk (by simp [e]))⟩
/-- Another node's own block turns: these nodes do not. -/
theorem OwnN.keptN {w0 w w' : World} {B r : Nat} {v : Value} {l : List Nod} {s : Sta} {c : Int} {u : Value} (h : OwnN w0 B w v l) (hr : v.ownBlock ≠ some r) (hg : w.grownBy w' (some r)) (hb : NodB w r s c u) : OwnN w0 B w' v l := by
  obtain ⟨raw, h1, h2⟩ := h
  exact ⟨raw, World.ownsRow.kept h1 hg (.inr hr), h2.mono (fun v l k => k.kept hg hb)⟩
end Go.Proofs.YtgplajofemencaaGreat
