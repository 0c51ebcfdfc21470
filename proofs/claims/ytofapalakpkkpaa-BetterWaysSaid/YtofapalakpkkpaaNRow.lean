/- Rows of nodes in memory. -/
import Derived.Test.YtofapalakpkkpaaNArgs
import Derived.Test.YtofapalakpkkpaaXR1
import Derived.Test.YtofapalakpkkpaaXR3
import Derived.Test.YtofapalakpkkpaaGMath
namespace Go.Proofs.Ytofapalakpkkpaa
open Go.ChangeShapes Go.WideShapes Go.ChangeAt Go.RowKit

/-- A node as its cells have it: its path as a slice. -/
structure RawN where
  s : Sta
  c : Int
  ad : Option Addr
  len : Nat
  cap : Nat
def RawN.u (r : RawN) : Value := .slice r.ad r.len r.cap
def nvL (r : RawN) : List Value := [.int .i64 r.s.pos, .int .i64 r.s.car, .int .i64 r.s.time, .int .i64 r.s.load, .int .i64 r.s.first, .int .u64 r.s.must, .int .u64 r.s.may, .int .u64 r.s.on, .int .i64 r.c, .slice r.ad r.len r.cap]
theorem encNod : Enc nvL 10 := ⟨fun _ => rfl, by decide, fun r u hu => by
  simp only [nvL, List.mem_cons, List.not_mem_nil, or_false] at hu
  rcases hu with rfl | rfl | rfl | rfl | rfl | rfl | rfl | rfl | rfl | rfl <;> rfl⟩
/-- A path: as it lay in an older world, or made since. -/
def PathB (w0 w : World) (v : Value) (l : List Int) : Prop := Row w0 v (ints l) ∨ OwnI w w0.heap.size v l
theorem PathB.row {w0 w : World} {v : Value} {l : List Int} (h : PathB w0 w v l) (hb : Below w0.heap.size w0 w) : Row w v (ints l) := h.elim (fun h => h.below hb) (fun h => h.row)
theorem PathB.below {w0 w w' : World} {v : Value} {l : List Int} (h : PathB w0 w v l) (hb : Below w.heap.size w w') : PathB w0 w' v l := h.imp id (fun h => h.below hb)
theorem PathB.shape {w0 w : World} {v : Value} {l : List Int} (h : PathB w0 w v l) : ∃ a cap, v = .slice a l.length cap := by
  rcases h with h | h
  · obtain ⟨a, cap, rfl, _⟩ := h.form
    exact ⟨a, cap, by rw [ints_len]⟩
  · exact h.shape
/-- A block of nodes turns: no path does. -/
theorem PathB.kept {w0 w w' : World} {v : Value} {l : List Int} {g : Nat} {c : Array Value} {fr : Nat × Nat} (h : PathB w0 w v l) (hg : w.grownBy w' (some g)) (hb : w.heap[g]? = some (.cells c 27 fr)) : PathB w0 w' v l := by
  refine h.imp id (fun h => h.kept hg ?_)
  right
  intro e
  rcases h.2 with ⟨rfl, _⟩ | ⟨g', cap', cur, rfl, _, hb', _⟩
  · simp [Value.ownBlock] at e
  · have e' : g' = g := by simpa [Value.ownBlock] using e
    subst e'
    rw [hb] at hb'
    simp at hb'
theorem PathB.turned {w0 w w' : World} {v : Value} {l : List Int} (h : PathB w0 w v l) (hg : w.grownBy w' none) : PathB w0 w' v l := h.imp id (fun h => h.kept hg (by
  rcases h.2 with ⟨rfl, _⟩ | ⟨g', cap', cur, rfl, _⟩
  · exact .inl rfl
  · exact .inr (by simp [Value.ownBlock])))
def NodIs (w0 w : World) (r : RawN) (n : Nod) : Prop := r.s = n.s ∧ r.c = n.cost ∧ PathB w0 w r.u n.path
/-- These raw nodes are those. -/
def NIn (w0 w : World) : List RawN → List Nod → Prop
  | [], [] => True
  | r :: rs, n :: ns => NodIs w0 w r n ∧ NIn w0 w rs ns
  | _, _ => False
theorem NIn.mono {w0 w w' : World} (h : ∀ v l, PathB w0 w v l → PathB w0 w' v l) : ∀ {rs : List RawN} {ns : List Nod}, NIn w0 w rs ns → NIn w0 w' rs ns
  | [], [], _ => trivial
  | _ :: _, _ :: _, k => ⟨⟨k.1.1, k.1.2.1, h _ _ k.1.2.2⟩, NIn.mono h k.2⟩
  | [], _ :: _, k => k.elim
  | _ :: _, [], k => k.elim
theorem NIn.len {w0 w : World} : ∀ {rs : List RawN} {ns : List Nod}, NIn w0 w rs ns → rs.length = ns.length
  | [], [], _ => rfl
  | _ :: _, _ :: _, k => by rw [List.length_cons, List.length_cons, NIn.len k.2]
  | [], _ :: _, k => k.elim
  | _ :: _, [], k => k.elim
theorem NIn.append {w0 w : World} : ∀ {rs ps : List RawN} {ns ms : List Nod}, NIn w0 w rs ns → NIn w0 w ps ms → NIn w0 w (rs ++ ps) (ns ++ ms)
  | [], _, [], _, _, h => h
  | _ :: _, _, _ :: _, _, k, h => ⟨k.1, NIn.append k.2 h⟩
  | [], _, _ :: _, _, k, _ => k.elim
  | _ :: _, _, [], _, k, _ => k.elim
theorem NIn.at {w0 w : World} : ∀ {rs : List RawN} {ns : List Nod} (i : Nat) (n : Nod), NIn w0 w rs ns → ns[i]? = some n → ∃ r, rs[i]? = some r ∧ NodIs w0 w r n
  | [], [], _, _, _, h => by simp at h
  | r :: _, _ :: _, 0, n, k, h => by simp at h; subst h; exact ⟨r, rfl, k.1⟩
  | _ :: rs, _ :: _, i + 1, n, k, h => by
    obtain ⟨r, h1, h2⟩ := NIn.at i n k.2 (by simpa using h)
    exact ⟨r, by simpa using h1, h2⟩
  | [], _ :: _, _, _, k, _ => k.elim
  | _ :: _, [], _, _, k, _ => k.elim
theorem NIn.set {w0 w : World} : ∀ {rs : List RawN} {ns : List Nod} (i : Nat) {r : RawN} {n : Nod}, NIn w0 w rs ns → NodIs w0 w r n → NIn w0 w (rs.set i r) (ns.set i n)
  | [], [], _, _, _, _, _ => trivial
  | _ :: _, _ :: _, 0, _, _, k, h => ⟨h, k.2⟩
  | _ :: _, _ :: _, i + 1, _, _, k, h => ⟨k.1, NIn.set i k.2 h⟩
  | [], _ :: _, _, _, _, k, _ => k.elim
  | _ :: _, [], _, _, _, k, _ => k.elim
theorem NIn.take {w0 w : World} : ∀ {rs : List RawN} {ns : List Nod} (i : Nat), NIn w0 w rs ns → NIn w0 w (rs.take i) (ns.take i)
  | [], [], _, _ => by simp [NIn]
  | _ :: _, _ :: _, 0, _ => trivial
  | _ :: _, _ :: _, i + 1, k => ⟨k.1, NIn.take i k.2⟩
  | [], _ :: _, _, k => k.elim
  | _ :: _, [], _, k => k.elim
theorem NIn.drop {w0 w : World} : ∀ {rs : List RawN} {ns : List Nod} (i : Nat), NIn w0 w rs ns → NIn w0 w (rs.drop i) (ns.drop i)
  | [], [], _, _ => by simp [NIn]
  | _ :: _, _ :: _, 0, k => k
  | _ :: _, _ :: _, i + 1, k => NIn.drop i k.2
  | [], _ :: _, _, k => k.elim
  | _ :: _, [], _, k => k.elim
/-- Nodes that may be read; their paths lay in w0, or were made since. -/
def NRowB (w0 w : World) (v : Value) (l : List Nod) : Prop := ∃ raw, GRow nvL 10 w v raw ∧ NIn w0 w raw l
/-- Nodes that may be read. -/
def NRow (w : World) (v : Value) (l : List Nod) : Prop := NRowB w w v l
theorem NRowB.below {w0 w w' : World} {v : Value} {l : List Nod} (h : NRowB w0 w v l) (hb : Below w.heap.size w w') : NRowB w0 w' v l := by
  obtain ⟨raw, h1, h2⟩ := h
  exact ⟨raw, GRow.below encNod h1 hb, h2.mono (fun v l h => h.below hb)⟩
theorem pathB_same {w w' : World} {v : Value} {l : List Int} (h : PathB w w v l) (hb : Below w.heap.size w w') : PathB w' w' v l := .inl ((h.row (Below.refl _ _)).below hb)
theorem NIn.later {w w' : World} (hb : Below w.heap.size w w') : ∀ {rs : List RawN} {ns : List Nod}, NIn w w rs ns → NIn w' w' rs ns
  | [], [], _ => trivial
  | _ :: _, _ :: _, k => ⟨⟨k.1.1, k.1.2.1, pathB_same k.1.2.2 hb⟩, NIn.later hb k.2⟩
  | [], _ :: _, k => k.elim
  | _ :: _, [], k => k.elim
theorem NIn.now {w0 w : World} (hb : Below w0.heap.size w0 w) : ∀ {rs : List RawN} {ns : List Nod}, NIn w0 w rs ns → NIn w w rs ns
  | [], [], _ => trivial
  | _ :: _, _ :: _, k => ⟨⟨k.1.1, k.1.2.1, .inl (k.1.2.2.row hb)⟩, NIn.now hb k.2⟩
  | [], _ :: _, k => k.elim
  | _ :: _, [], k => k.elim
theorem NRow.below {w w' : World} {v : Value} {l : List Nod} (h : NRow w v l) (hb : Below w.heap.size w w') : NRow w' v l := by
  obtain ⟨raw, h1, h2⟩ := h
  exact ⟨raw, GRow.below encNod h1 hb, h2.later hb⟩
theorem NRowB.now {w0 w : World} {v : Value} {l : List Nod} (h : NRowB w0 w v l) (hb : Below w0.heap.size w0 w) : NRow w v l := by
  obtain ⟨raw, h1, h2⟩ := h
  exact ⟨raw, h1, h2.now hb⟩
theorem nrow_nil (w : World) : NRow w (.slice none 0 0) [] := ⟨[], grow_nil w, trivial⟩
theorem NRowB.form {w0 w : World} {v : Value} {l : List Nod} (h : NRowB w0 w v l) : ∃ a cap, v = .slice a l.length cap ∧ l.length ≤ maxLen ∧ l.length ≤ cap ∧ cap ≤ maxLen := by
  obtain ⟨raw, h1, h2⟩ := h
  have := h2.len
  rw [← this]
  exact GRow.form h1
theorem NRow.form {w : World} {v : Value} {l : List Nod} (h : NRow w v l) : ∃ a cap, v = .slice a l.length cap ∧ l.length ≤ maxLen ∧ l.length ≤ cap ∧ cap ≤ maxLen := NRowB.form h
/-- The cells of a node on a row. -/
def NodAt (w : World) (b o : Nat) (s : Sta) (c : Int) (v : Value) : Prop :=
  w.cell? ⟨b, o, none⟩ = some (.int .i64 s.pos) ∧ w.cell? ⟨b, o + 1, none⟩ = some (.int .i64 s.car) ∧ w.cell? ⟨b, o + 2, none⟩ = some (.int .i64 s.time) ∧ w.cell? ⟨b, o + 3, none⟩ = some (.int .i64 s.load) ∧ w.cell? ⟨b, o + 4, none⟩ = some (.int .i64 s.first) ∧ w.cell? ⟨b, o + 5, none⟩ = some (.int .u64 s.must) ∧ w.cell? ⟨b, o + 6, none⟩ = some (.int .u64 s.may) ∧ w.cell? ⟨b, o + 7, none⟩ = some (.int .u64 s.on) ∧ w.cell? ⟨b, o + 8, none⟩ = some (.int .i64 c) ∧ w.cell? ⟨b, o + 9, none⟩ = some (v)
def cellsRN (b o : Nat) (s : Sta) (c : Int) (v : Value) : List (Addr × Value) := [(⟨b, o, none⟩, .int .i64 s.pos), (⟨b, o + 1, none⟩, .int .i64 s.car), (⟨b, o + 2, none⟩, .int .i64 s.time), (⟨b, o + 3, none⟩, .int .i64 s.load), (⟨b, o + 4, none⟩, .int .i64 s.first), (⟨b, o + 5, none⟩, .int .u64 s.must), (⟨b, o + 6, none⟩, .int .u64 s.may), (⟨b, o + 7, none⟩, .int .u64 s.on), (⟨b, o + 8, none⟩, .int .i64 c), (⟨b, o + 9, none⟩, v)]
theorem holds_RN {w : World} {b o : Nat} {s : Sta} {c : Int} {v : Value} (h : NodAt w b o s c v) : Holds (cellsRN b o s c v) w := by
  obtain ⟨h0, h1, h2, h3, h4, h5, h6, h7, h8, h9⟩ := h
  exact ⟨h0, h1, h2, h3, h4, h5, h6, h7, h8, h9, trivial⟩
theorem lows_RN {M b o : Nat} {s : Sta} {c : Int} {v : Value} (hb : b < M) : Lows M (cellsRN b o s c v) := ⟨hb, hb, hb, hb, hb, hb, hb, hb, hb, hb, trivial⟩
theorem NodAt.below {w w' : World} {b o : Nat} {s : Sta} {c : Int} {v : Value} {M : Nat} (h : NodAt w b o s c v) (hb : b < M) (hw : Below M w w') : NodAt w' b o s c v := by
  obtain ⟨h0, h1, h2, h3, h4, h5, h6, h7, h8, h9⟩ := h
  have k : ∀ i, w'.cell? ⟨b, i, none⟩ = w.cell? ⟨b, i, none⟩ := fun i => hw.cell (p := ⟨b, i, none⟩) hb
  exact ⟨(k _).trans h0, (k _).trans h1, (k _).trans h2, (k _).trans h3, (k _).trans h4, (k _).trans h5, (k _).trans h6, (k _).trans h7, (k _).trans h8, (k _).trans h9⟩
theorem nodAt_of {w : World} {b o : Nat} {r : RawN} (h : GAt nvL 10 w b o r) : NodAt w b o r.s r.c r.u := ⟨h 0 (by omega), h 1 (by omega), h 2 (by omega), h 3 (by omega), h 4 (by omega), h 5 (by omega), h 6 (by omega), h 7 (by omega), h 8 (by omega), h 9 (by omega)⟩
theorem nrowB_at {w0 w : World} {a : Option Addr} {n cap : Nat} {l : List Nod} (h : NRowB w0 w (.slice a n cap) l) (i : Nat) (x : Nod) (hi : l[i]? = some x) :
    ∃ b off pa pc, a = some ⟨b, off, none⟩ ∧ NodAt w b (off + i * 10) x.s x.cost (.slice pa x.path.length pc) ∧ b < w.heap.size ∧ PathB w0 w (.slice pa x.path.length pc) x.path := by
  obtain ⟨raw, h1, h2⟩ := h
  obtain ⟨r, hr, e1, e2, hp⟩ := h2.at i x hi
  obtain ⟨b, off, ha, hc, hl⟩ := grow_at encNod h1 i r hr
  obtain ⟨pa, pc, hs⟩ := hp.shape
  have hn := nodAt_of hc
  rw [e1, e2, hs] at hn
  rw [hs] at hp
  exact ⟨b, off, pa, pc, ha, hn, hl, hp⟩
theorem nrowB_here {w0 w : World} {b off n cap : Nat} {l : List Nod} (h : NRowB w0 w (.slice (some ⟨b, off, none⟩) n cap) l) (i : Nat) (x : Nod) (hi : l[i]? = some x) :
    ∃ pa pc, NodAt w b (off + i * 10) x.s x.cost (.slice pa x.path.length pc) ∧ b < w.heap.size ∧ PathB w0 w (.slice pa x.path.length pc) x.path := by
  obtain ⟨b', off', pa, pc, he, h1, h2, h3⟩ := nrowB_at h i x hi
  simp only [Option.some.injEq, Addr.mk.injEq, and_true] at he
  obtain ⟨rfl, rfl⟩ := he
  exact ⟨pa, pc, h1, h2, h3⟩
theorem nrow_at {w : World} {a : Option Addr} {n cap : Nat} {l : List Nod} (h : NRow w (.slice a n cap) l) (i : Nat) (x : Nod) (hi : l[i]? = some x) :
    ∃ b off pa pc, a = some ⟨b, off, none⟩ ∧ NodAt w b (off + i * 10) x.s x.cost (.slice pa x.path.length pc) ∧ b < w.heap.size ∧ Row w (.slice pa x.path.length pc) (ints x.path) := by
  obtain ⟨b, off, pa, pc, h1, h2, h3, h4⟩ := nrowB_at h i x hi
  exact ⟨b, off, pa, pc, h1, h2, h3, h4.row (Below.refl _ _)⟩
theorem nrow_here {w : World} {b off n cap : Nat} {l : List Nod} (h : NRow w (.slice (some ⟨b, off, none⟩) n cap) l) (i : Nat) (x : Nod) (hi : l[i]? = some x) :
    ∃ pa pc, NodAt w b (off + i * 10) x.s x.cost (.slice pa x.path.length pc) ∧ b < w.heap.size ∧ Row w (.slice pa x.path.length pc) (ints x.path) := by
  obtain ⟨pa, pc, h1, h2, h3⟩ := nrowB_here h i x hi
  exact ⟨pa, pc, h1, h2, h3.row (Below.refl _ _)⟩
/-- Nodes that a call has made, from block B on; their paths lay in w0, or were made since. -/
def OwnN (w0 : World) (B : Nat) (w : World) (v : Value) (l : List Nod) : Prop := ∃ raw, OwnG nvL 10 27 w B v raw ∧ NIn w0 w raw l
theorem ownN_nil (w0 : World) (B : Nat) (w : World) : OwnN w0 B w (.slice none 0 0) [] := ⟨[], ownG_nil _ _, trivial⟩
theorem OwnN.rowB {w0 w : World} {B : Nat} {v : Value} {l : List Nod} (h : OwnN w0 B w v l) : NRowB w0 w v l := by
  obtain ⟨raw, h1, h2⟩ := h
  exact ⟨raw, OwnG.row encNod h1, h2⟩
theorem OwnN.row {w0 w : World} {B : Nat} {v : Value} {l : List Nod} (h : OwnN w0 B w v l) (hb : Below w0.heap.size w0 w) : NRow w v l := by
  obtain ⟨raw, h1, h2⟩ := h
  exact ⟨raw, OwnG.row encNod h1, h2.now hb⟩
theorem OwnN.below {w0 w w' : World} {B : Nat} {v : Value} {l : List Nod} (h : OwnN w0 B w v l) (hb : Below w.heap.size w w') : OwnN w0 B w' v l := by
  obtain ⟨raw, h1, h2⟩ := h
  exact ⟨raw, h1.below hb, h2.mono (fun v l h => h.below hb)⟩
theorem OwnN.less {w0 w : World} {B B' : Nat} {v : Value} {l : List Nod} (h : OwnN w0 B w v l) (hB : B' ≤ B) : OwnN w0 B' w v l := by
  obtain ⟨raw, h1, h2⟩ := h
  exact ⟨raw, h1.less hB, h2⟩
theorem OwnN.shape {w0 w : World} {B : Nat} {v : Value} {l : List Nod} (h : OwnN w0 B w v l) : ∃ a cap, v = .slice a l.length cap := by
  obtain ⟨raw, h1, h2⟩ := h
  rw [← h2.len]
  exact h1.shape
/-- What turns a row's own block turns no path. -/
theorem NIn.grown {w0 w w' : World} {B : Nat} {v : Value} {raw rs : List RawN} {ns : List Nod} (ho : OwnG nvL 10 27 w B v raw) (hg : w.grownBy w' v.ownBlock) (h : NIn w0 w rs ns) : NIn w0 w' rs ns := by
  rcases ho.2 with ⟨rfl, _⟩ | ⟨g', cap', cur, rfl, _, hb', _⟩
  · exact h.mono (fun v l h => h.turned hg)
  · exact h.mono (fun v l h => h.kept hg hb')
theorem OwnN.block {w0 w : World} {B : Nat} {v : Value} {l : List Nod} (h : OwnN w0 B w v l) (h0 : 0 < l.length) : ∃ g cap, v = .slice (some ⟨g, 0, none⟩) l.length cap ∧ l.length ≤ cap ∧ cap ≤ maxLen ∧ B ≤ g ∧ g < w.heap.size := by
  obtain ⟨raw, h1, h2⟩ := h
  have hl := h2.len
  rcases h1.2 with ⟨_, hn⟩ | ⟨g, cap, cur, rfl, hb, hg, hc, hm, _⟩
  · omega
  · exact ⟨g, cap, by rw [hl], by omega, hm, hb, (Array.getElem?_eq_some_iff.1 hg).1⟩
theorem infoNode : (Try.prog.info? 27).map (fun i => (i.zero, i.size, i.bytes)) = some (some (.agg #[.int .i64 0, .int .i64 0, .int .i64 0, .int .i64 0, .int .i64 0, .int .u64 0, .int .u64 0, .int .u64 0, .int .i64 0, .slice none 0 0]), 10, 96) := by kernel_rfl
section
variable {α : Type} {f : α → List Value} {k : Nat}
theorem GRow.cut {w : World} {a : Option Addr} {n cap : Nat} {l : List α} (h : GRow f k w (.slice a n cap) l) (q : Nat) (hq : q ≤ l.length) : GRow f k w (.slice a q cap) (l.take q) := by
  obtain ⟨hm, a', cap', hv, hc, hc2, hor⟩ := h
  simp only [Value.slice.injEq] at hv
  obtain ⟨rfl, -, rfl⟩ := hv
  have e : (l.take q).length = q := by rw [List.length_take]; omega
  refine ⟨by omega, a, cap, by rw [e], by omega, hc2, ?_⟩
  rcases hor with h0 | ⟨b, off, ha, hcell⟩
  · left; subst h0; simp
  · right
    refine ⟨b, off, ha, fun i x hi => hcell i x ?_⟩
    have hil := (List.getElem?_eq_some_iff.1 hi).1
    rw [e] at hil
    rwa [List.getElem?_take_of_lt hil] at hi
theorem GRow.rest {w : World} {a : Option Addr} {n cap : Nat} {l : List α} (h : GRow f k w (.slice a n cap) l) (q : Nat) (hq : q ≤ l.length) (a' : Option Addr) (ha' : ∀ b off, a = some ⟨b, off, none⟩ → a' = if cap = q then some ⟨b, off, none⟩ else some ⟨b, off + q * k, none⟩) (hz : a' = none → cap ≤ q) :
    GRow f k w (.slice a' (l.length - q) (cap - q)) (l.drop q) := by
  obtain ⟨hm, a0, cap', hv, hc, hc2, hor⟩ := h
  simp only [Value.slice.injEq] at hv
  obtain ⟨rfl, rfl, rfl⟩ := hv
  have e : (l.drop q).length = l.length - q := List.length_drop
  refine ⟨by omega, a', cap - q, by rw [e], by omega, ⟨by omega, fun h0 => by have := hz h0; omega⟩, ?_⟩
  rcases hor with h1 | ⟨b, off, ha, hcell⟩
  · left; subst h1; simp
  · by_cases hcq : cap = q
    · left
      refine List.eq_nil_of_length_eq_zero ?_
      rw [e]; omega
    · right
      have := ha' b off ha
      rw [if_neg hcq] at this
      refine ⟨b, off + q * k, this, fun i x hi => ?_⟩
      rw [List.getElem?_drop] at hi
      have := hcell (q + i) x hi
      rw [show off + (q + i) * k = off + q * k + i * k by rw [Nat.add_mul]; omega] at this
      exact this
end
/-- One node more, in a block of its own. -/
theorem nrow_one {w : World} {b : Nat} {s : Sta} {c : Int} {pa : Option Addr} {pn pc : Nat} {fr : Nat × Nat} (h : w.heap[b]? = some (.cells #[.int .i64 s.pos, .int .i64 s.car, .int .i64 s.time, .int .i64 s.load, .int .i64 s.first, .int .u64 s.must, .int .u64 s.may, .int .u64 s.on, .int .i64 c, .slice pa pn pc] 27 fr)) : GRow nvL 10 w (.slice (some ⟨b, 0, none⟩) 1 1) [⟨s, c, pa, pn, pc⟩] :=
  grow_block (l := [⟨s, c, pa, pn, pc⟩]) encNod (t := 27) (fr := fr) h (by simp [maxLen])
/-- Nodes put behind nodes that the call has made. -/
theorem app_nodes {w0 w : World} {ops : Array Oper} {rest : List Oper} {o : Oper} {a : Act} {Q : Exit → Act → World → Prop} (hU : Try.prog.underlying 28 = some (.slice 27)) (hgd : o.guard = none) (s x : Operand)
    (ho : o.op = .call { callee := .builtin .append, args := #[s, x], argTypes := #[28, 28] }) (B : Nat) (v : Value) (l : List Nod) (hs : a.eval s = v) (hown : OwnN w0 B w v l)
    (u : Value) (hx : a.eval x = u) (raws : List RawN) (ns : List Nod) (hr : GRow nvL 10 w u raws) (hn : NIn w0 w raws ns) (hlen : l.length + ns.length ≤ 1000000) (hB : B ≤ w.heap.size) (h0 : w0.heap.size ≤ B) (hb0 : Below w0.heap.size w0 w)
    (h : ∀ v' w', OwnN w0 B w' v' (l ++ ns) → Below w0.heap.size w0 w' → Below B w w' → w.grownBy w' v.ownBlock ∧ (v'.ownBlock = v.ownBlock ∨ v'.ownBlock = some w.heap.size) → wpList Try.prog ops Q rest (a.put o.dst v') w') : wpList Try.prog ops Q (o :: rest) a w := by
  obtain ⟨raw, h1, h2⟩ := hown
  refine app_rows encNod hU infoNode rfl (by decide) hgd s x ho B v raw hs h1 u raws hx hr (by rw [h2.len, hn.len]; exact hlen) hB ?_
  intro v' w' k1 k2 k3
  have hbb : Below B w w' := (Below.refl B w).grown k2 hB (fun j e => by
    rcases h1.2 with ⟨rfl, _⟩ | ⟨g', cap', cur, rfl, hb', _⟩
    · simp [Value.ownBlock] at e
    · simp [Value.ownBlock] at e; omega)
  exact h v' w' ⟨_, k1, (NIn.grown h1 k2 h2).append (NIn.grown h1 k2 hn)⟩ (hb0.trans (hbb.mono h0)) hbb ⟨k2, k3⟩
end Go.Proofs.Ytofapalakpkkpaa
