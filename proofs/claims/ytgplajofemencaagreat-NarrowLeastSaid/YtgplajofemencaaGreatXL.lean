/- A range over a function whose iterator may itself range over a function: what the iterator promises, what a round promises, and the law of such a loop. Nothing of the program stands here. -/
import Derived.RangeFuncNested
import Derived.RangeFuncBound
import Derived.RangeFuncCalls
import Derived.RangeFuncLeaves
import Derived.RangeFuncBox
import Derived.Shelf.Abstract
import Derived.Shelf.RegionOpen
import Derived.WalkKit
import Derived.OwnWalkIn
import Derived.TacticsInMore
import Derived.LoopNIn
import Derived.LoopIn
import Derived.Test.YtgplajofemencaaGreatYF
import Derived.Maps.OwnOps
import Derived.Maps.Views
import Derived.DeepKeys4
import Derived.StringKeys
import Derived.Test.YtgplajofemencaaGreatYK
import Derived.Maps.OwnIn
import Derived.Maps.AppendAt
import Derived.Test.YtgplajofemencaaGreatXN
namespace Go.Proofs.YtgplajofemencaaGreat
open Go.RowKit Go.Shelf

/-- What has come so far, and which blocks the one who ranges may turn. -/
abbrev Come (α : Type) := List α × (Nat → Prop)
/-- A step that turns only blocks that A names; A' names no other ones of them. -/
structure Turn (A A' : Nat → Prop) (W W' : World) : Prop where
  os : W'.os = W.os
  tape : W'.tape = W.tape
  output : W'.output = W.output
  size : W.heap.size ≤ W'.heap.size
  names : ∀ k, A' k → A k ∨ W.heap.size ≤ k
  same : ∀ k, k < W.heap.size → ¬ A k → W'.heap[k]? = W.heap[k]?
theorem Turn.of_below {A : Nat → Prop} {W W' : World} (h : Below W.heap.size W W') : Turn A A W W' :=
  ⟨h.os, h.tape, h.output, h.size, fun _ h => .inl h, fun k hk _ => h.block k hk⟩
theorem Turn.trans {A B C : Nat → Prop} {X Y Z : World} (h : Turn A B X Y) (k : Turn B C Y Z) : Turn A C X Z :=
  ⟨k.os.trans h.os, k.tape.trans h.tape, k.output.trans h.output, Nat.le_trans h.size k.size,
    fun i hi => (k.names i hi).elim (fun h1 => h.names i h1) (fun h1 => .inr (Nat.le_trans h.size h1)),
    fun i hi hn => (k.same i (Nat.lt_of_lt_of_le hi h.size) (fun hb => (h.names i hb).elim hn (fun h1 => by omega))).trans (h.same i hi hn)⟩
theorem Turn.grown {A A' : Nat → Prop} {W W' : World} {row : Option Nat} (hg : W.grownBy W' row) (hr : ∀ r, row = some r → A r) (hn : ∀ k, A' k → A k ∨ W.heap.size ≤ k) : Turn A A' W W' :=
  ⟨hg.os, hg.tape, hg.output, hg.size, hn, fun k hk ha => hg.block k hk (fun e => ha (hr k e.symm))⟩
/-- Of what lies ahead of all that A names nothing turns. -/
theorem Turn.below {A A' : Nat → Prop} {W W' : World} {B : Nat} (h : Turn A A' W W') (hA : ∀ k, A k → B ≤ k) (hB : B ≤ W.heap.size) : Below B W W' :=
  ⟨h.os, h.tape, h.output, h.size, fun k hk => h.same k (by omega) (fun ha => by have := hA k ha; omega)⟩
theorem grown_of_below {W W' : World} (h : Below W.heap.size W W') : W.grownBy W' none := ⟨h.os, h.tape, h.output, h.size, fun k hk _ => h.block k hk⟩
theorem OwnFrom.below {β : Type} {B : Nat} {I : β → World → Prop} (h : OwnFrom B I) {s : β} {W W' : World} (hs : I s W) (hb : Below W.heap.size W W') : I s W' :=
  h s W W' none hs (grown_of_below hb) (fun r e => by cases e)
theorem OwnFrom.mono {β : Type} {B B' : Nat} {I : β → World → Prop} (h : OwnFrom B I) (hB : B ≤ B') : OwnFrom B' I :=
  fun s W W' row hs hg hr => h s W W' row hs hg (fun r e => ⟨Nat.le_trans hB (hr r e).1, (hr r e).2⟩)

variable {P : Program}
theorem round_any {m m' l l' : Nat} {f : FuncId} {tmps : Array Value} {assign body : Code} {W : World} {R : Ending → World → Prop} (h : RoundIn Fence.wide m P l f tmps assign body W R) : RoundIn (Fence.wide.inRound l') m' P l f tmps assign body W R :=
  ⟨h.1, fun c cs _ => h.2 c cs (room_wide _)⟩
theorem round_wide {m m' l : Nat} {f : FuncId} {tmps : Array Value} {assign body : Code} {W : World} {R : Ending → World → Prop} (h : RoundIn Fence.wide m P l f tmps assign body W R) : RoundIn Fence.wide m' P l f tmps assign body W R :=
  ⟨h.1, fun c cs _ => h.2 c cs (room_wide _)⟩

/-- An iterator that hands on elements of α, one behind the other, of whatever a round does that keeps its word: at the end what has come is as S says. Rx: what holds of an element as it is handed on. -/
def SeqA {α : Type} (P : Program) (g : Nat) (lb : Array Value) (encs : α → Array Value) (Rx : α → World → Prop) (S : List α → Prop) (N : Nat) (w : World) : Prop :=
  ∀ (n l : Nat) (J : Come α → World → Prop) (A0 : Nat → Prop) (W : World), 1 ≤ n → Below w.heap.size w W → OwnFrom W.heap.size J →
    (∀ s X, J s X → ∀ k, s.2 k → w.heap.size ≤ k ∧ k < X.heap.size) →
    (∀ pre A x X, J (pre, A) X → Rx x X → pre.length < N → YieldAt Fence.wide 0 P l (encs x) X fun e X' => e = .returned (.bool true) ∧ ∃ A', J (pre ++ [x], A') X' ∧ Turn A A' X X') →
    J ([], A0) W →
    CallsIn Fence.wide n P g (#[.func (.yield l) #[] #[]] ++ lb) W fun e W' => (∃ v, e = .returned v) ∧ ∃ xs A, S xs ∧ J (xs, A) W'

/-- How a round of such a loop ends. -/
def seqPost {α : Type} (I : Come α → World → Prop) (A : Nat → Prop) (xs : List α) (W : World) : Exit → Act → World → Prop
  | .normal, _, W' => ∃ A', I (xs, A') W' ∧ Turn A A' W W'
  | _, _, _ => False

/-- The law of a loop over such an iterator, in a function of its own frame. -/
theorem wpIn_seqA {α : Type} {g : Operand} {ps : Array Tmp} {assign body : Code} {Q : Exit → Act → World → Prop} {a : Act} {w : World} {n : Nat} (h1 : 1 ≤ n - 1)
    {gf : Nat} {lb : Array Value} (hg : a.eval g = .func (.func gf) #[] lb) (eg : ∀ args w, (callFunc gf args).run P w = .ok (.enter gf args) w)
    {encs : α → Array Value} {Rx : α → World → Prop} {S : List α → Prop} {N : Nat} {w0 : World} (hseq : SeqA P gf lb encs Rx S N w0) (hb0 : Below w0.heap.size w0 w) (hps : ∀ x, (encs x).size = ps.size)
    (I : Come α → World → Prop) (hI : OwnFrom w.heap.size I) (hIA : ∀ s X, I s X → ∀ k, s.2 k → w0.heap.size ≤ k ∧ k < X.heap.size) (A0 : Nat → Prop) (h0 : I ([], A0) w)
    (hRx : OwnFrom w.heap.size Rx) (Ax : Come α → α → Act → World → Prop) (hAx : OwnFrom w.heap.size (fun (s : (Come α × α) × Act) W => Ax s.1.1 s.1.2 s.2 W))
    (hassign : ∀ (l m : Nat) (pre : List α) (A : Nat → Prop) (x : α) (X : World) (K : Act → World → Prop), I (pre, A) X → (∀ a' X', Below X.heap.size X X' → Ax (pre, A) x a' X' → K a' X') →
      assign.wpIn (Fence.wide.inRound l) m P (Exit.then K (fun _ _ _ => False)) { tmps := (ps.zip (encs x)).foldl (fun t (p, v) => t.setIfInBounds p v) a.tmps, defers := [] } X)
    (hbody : ∀ (l m : Nat) (pre : List α) (A : Nat → Prop) (x : α) (a' : Act) (X : World), I (pre, A) X → Rx x X → Ax (pre, A) x a' X → pre.length < N → body.wpIn (Fence.wide.inRound l) m P (seqPost I A (pre ++ [x]) X) a' X)
    (hdone : ∀ (D : Nat) (xs : List α) (A : Nat → Prop) (W : World), w.heap.size ≤ D → S xs → I (xs, A) W → W.heap[D]? = some (.deferred (some [])) → Q .normal { a with defers := { target := .collected D, args := #[] } :: a.defers } W) :
    (Code.rangeFunc g ps assign body).wpIn Fence.wide n P Q a w := by
  refine wpIn_rangeFunc fun fn hfn => ?_
  obtain ⟨rec, hrec⟩ : ∃ rec : LoopState → Loop, rec = fun st => { state := st, pending := none, fn, tmps := a.tmps, params := ps, assign, body, defers := w.heap.size } := ⟨_, rfl⟩
  obtain ⟨W1, hW1⟩ : ∃ W1, (w.alloc (.deferred (some []))).alloc (.loop (rec .ready)) = W1 := ⟨_, rfl⟩
  have hs1 : W1.heap.size = w.heap.size + 2 := by rw [← hW1]; simp
  have hL1 : W1.heap[w.heap.size + 1]? = some (.loop (rec .ready)) := by
    rw [← hW1]; have := World.alloc_heap_new (w.alloc (.deferred (some []))) (.loop (rec .ready)); rwa [World.size_alloc] at this
  have hD1 : W1.heap[w.heap.size]? = some (.deferred (some [])) := by
    rw [← hW1]; exact (Below.heap_alloc _ _ _ (by simp)).trans (World.alloc_heap_new w _)
  have hbw : Below w.heap.size w W1 := by rw [← hW1]; exact ((Below.refl _ w).alloc (Nat.le_refl _) _).alloc (by simp) _
  have hI1 : I ([], A0) W1 := OwnFrom.below hI h0 hbw
  have hA0 : ∀ k, A0 k → k < w.heap.size := fun k hk => (hIA _ _ h0 k hk).2
  refine ⟨w.heap.size + 1, [{ target := .collected w.heap.size, args := #[] }], W1, { target := .fn (.func gf) lb, args := #[.func (.yield (w.heap.size + 1)) #[] #[]] }, W1, gf,
    #[.func (.yield (w.heap.size + 1)) #[] #[]] ++ lb, W1, ?_, ?_, fun f' _ => trivial, ?_, (fun h => by cases h), ?_⟩
  · rw [← hW1, hrec]; exact run_enterLoop_outer _ _ _ _ _
  · simp only [resolve, hg]
    simp [go_sem]
  · simp [invoke, go_sem, eg]
  -- what the iterator is told to keep: the caller's own, and the two blocks of the loop
  obtain ⟨J, hJ⟩ : ∃ J : Come α → World → Prop, J = fun s X => (I s X ∧ (∀ k, s.2 k → k < w.heap.size ∨ w.heap.size + 1 < k)) ∧ X.heap[w.heap.size + 1]? = some (.loop (rec .ready)) ∧ X.heap[w.heap.size]? = some (.deferred (some [])) := ⟨_, rfl⟩
  have hkeep : ∀ {X Y : World} {row : Option Nat} {k : Nat} {o : Obj}, X.grownBy Y row → (∀ r, row = some r → W1.heap.size ≤ r ∧ ∃ o : Obj, X.heap[r]? = some o ∧ o.isCells = false) → X.heap[k]? = some o → k < w.heap.size + 2 → Y.heap[k]? = some o := fun hg' hr hk hlt =>
    (hg'.block _ (Array.getElem?_eq_some_iff.1 hk).1 (fun e => by have := (hr _ e.symm).1; omega)).trans hk
  refine (hseq (n - 1) (w.heap.size + 1) J A0 W1 h1 (hb0.trans (hbw.mono hb0.size)) ?_ ?_ ?_ ?_).mono ?_
  · rw [hJ]
    rintro s X Y row ⟨⟨k1, k2⟩, k3, k4⟩ hg' hr
    exact ⟨⟨hI s X Y row k1 hg' (fun r e => ⟨by have := (hr r e).1; omega, (hr r e).2⟩), k2⟩, hkeep hg' hr k3 (by omega), hkeep hg' hr k4 (by omega)⟩
  · rw [hJ]
    exact fun s X k => hIA s X k.1.1
  · -- one round
    rw [hJ]
    rintro pre A x X ⟨⟨k1, k2⟩, k3, k4⟩ hx hlen
    have hy := run_yield (P := P) (args := encs x) k3 (by rw [hrec]; exact hps x)
    rw [hrec] at hy
    refine ⟨fn, _, assign, body, hy, roundIn_of_wpIn hfn (hassign _ _ pre A x X _ k1 ?_)⟩
    intro a' Y hb hax
    have l3 : Y.heap[w.heap.size + 1]? = some (.loop (rec .ready)) := (hb.block _ (Array.getElem?_eq_some_iff.1 k3).1).trans k3
    have l4 : Y.heap[w.heap.size]? = some (.deferred (some [])) := (hb.block _ (Array.getElem?_eq_some_iff.1 k4).1).trans k4
    have hlt : w.heap.size + 1 < Y.heap.size := (Array.getElem?_eq_some_iff.1 l3).1
    refine ⟨_, run_beginRound l3 (by rw [hrec]), ?_⟩
    obtain ⟨Z, hZ⟩ : ∃ Z, Y.putObj (w.heap.size + 1) (.loop { rec .ready with state := .busy }) = Z := ⟨_, rfl⟩
    have z3 : Z.heap[w.heap.size + 1]? = some (.loop { rec .ready with state := .busy }) := by rw [← hZ]; exact World.putObj_heap_same hlt
    have z4 : Z.heap[w.heap.size]? = some (.deferred (some [])) := by rw [← hZ]; exact (World.putObj_heap_other (by omega)).trans l4
    have hgZ : Y.grownBy Z (some (w.heap.size + 1)) := by rw [← hZ]; exact grownBy_putObj' _ _ _
    have hrZ : ∀ r, some (w.heap.size + 1) = some r → w.heap.size ≤ r ∧ ∃ o : Obj, Y.heap[r]? = some o ∧ o.isCells = false := fun r e => by cases e; exact ⟨by omega, _, l3, rfl⟩
    rw [hZ]
    refine wpIn_mono (hbody _ _ pre A x a' Z (hI _ _ _ _ (OwnFrom.below hI k1 hb) hgZ hrZ) (hRx _ _ _ _ (OwnFrom.below hRx hx hb) hgZ hrZ) (hAx (((pre, A), x), a') _ _ _ hax hgZ hrZ) hlen) ?_
    rintro e a3 V hp
    cases e with
    | normal =>
      obtain ⟨A', hi, ht⟩ := hp
      have hnA : ∀ k, w.heap.size ≤ k → k ≤ w.heap.size + 1 → ¬ A k := fun k q1 q2 ha => by rcases k2 k ha with h | h <;> omega
      have hsz : Z.heap.size = Y.heap.size := by rw [← hZ]; simp
      have v3 : V.heap[w.heap.size + 1]? = some (.loop { rec .ready with state := .busy }) := (ht.same _ (by omega) (hnA _ (by omega) (by omega))).trans z3
      have v4 : V.heap[w.heap.size]? = some (.deferred (some [])) := (ht.same _ (by omega) (hnA _ (by omega) (by omega))).trans z4
      have hr := run_endRound (P := P) none v3
      rw [hrec] at hr v3
      refine ⟨_, _, hr, rfl, A', ⟨⟨hI _ _ _ _ hi (grownBy_putObj' _ _ _) (fun r e => by cases e; exact ⟨by omega, _, v3, rfl⟩), fun k hk => ?_⟩, ?_, ?_⟩, ?_⟩
      · rcases ht.names k hk with h | h
        · exact k2 k h
        · right; omega
      · rw [hrec]; exact World.putObj_heap_same (Array.getElem?_eq_some_iff.1 v3).1
      · exact (World.putObj_heap_other (by omega)).trans v4
      · refine ⟨ht.os.trans (hgZ.os.trans hb.os), ht.tape.trans (hgZ.tape.trans hb.tape), ht.output.trans (hgZ.output.trans hb.output), ?_, fun k hk => ?_, fun k hk hn => ?_⟩
        · have := hb.size; have := ht.size; simp; omega
        · rcases ht.names k hk with h | h
          · exact .inl h
          · right; have := hb.size; omega
        · have hkY : k < Y.heap.size := Nat.lt_of_lt_of_le hk hb.size
          by_cases e : k = w.heap.size + 1
          · subst e
            rw [k3, hrec]
            exact World.putObj_heap_same (Array.getElem?_eq_some_iff.1 v3).1
          · exact (World.putObj_heap_other e).trans ((ht.same k (by omega) hn).trans ((hgZ.block k hkY (fun h => e (by cases h; rfl))).trans (hb.block k hk)))
    | ret => exact hp.elim
    | exit id => exact hp.elim
    | goto t => exact hp.elim
    | panic ch => exact hp.elim
    | outgrown => exact hp.elim
  · rw [hJ]
    exact ⟨⟨hI1, fun k hk => .inl (hA0 k hk)⟩, hL1, hD1⟩
  · -- behind the iterator
    rw [hJ]
    rintro e V ⟨⟨v, rfl⟩, xs, A, hS, ⟨hi, _⟩, hl, hk⟩
    refine ⟨none, _, by have := run_endLoop (P := P) hl (by rw [hrec]; simp); rw [hrec] at this; exact this, ?_⟩
    exact hdone _ xs A _ (Nat.le_refl _) hS (hI _ _ _ _ hi (grownBy_putObj' _ _ _) (fun r e => by cases e; exact ⟨by omega, _, hl, rfl⟩)) ((World.putObj_heap_other (by omega)).trans hk)
end Go.Proofs.YtgplajofemencaaGreat
/- A state as a key of a map: what it reads as, and that no two read alike. -/
namespace Go.Proofs.YtgplajofemencaaGreat
open Go.ChangeShapes Go.WideShapes Go.ChangeAt Go.RowKit

theorem laidKey : laidOutB Tryz.prog = true := by kernel_rfl
theorem rowKey : (27 : TypeId) < Tryz.prog.types.size := of_decide_eq_true (by kernel_rfl)
theorem wideKey : (match Tryz.prog.underlying 27 with | some (.array _ _) | some (.struct _) => true | _ => false) = true := by rw [Tryz.underlying27]
set_option maxRecDepth 1000000 in
theorem lawKey : Go.Maps.Keyed Tryz.prog 27 := Go.Maps.Keyed.of_law (deep_law_laid laidKey (m := 3) (by omega) rowKey (by kernel_rfl) wideKey)
/-- A state that may be a key. -/
def KeyFit (q : Sta) : Prop := FitSt q ∧ SetsOk q
theorem wf_i64 {n : Int} (h : Fit n) : (Lit.int .i64 n).wf = true := by
  unfold Fit at h
  have h1 : IntKind.i64.min = -9223372036854775808 := rfl
  have h2 : IntKind.i64.max = 9223372036854775807 := rfl
  simp only [Lit.wf, h1, h2, decide_eq_true_eq, Bool.and_eq_true]
  exact h
theorem wf_u64 {n : Nat} (h : n < 18446744073709551616) : (Lit.int .u64 (n : Int)).wf = true := by
  have h1 : IntKind.u64.min = 0 := rfl
  have h2 : IntKind.u64.max = 18446744073709551615 := rfl
  simp only [Lit.wf, h1, h2, decide_eq_true_eq, Bool.and_eq_true]
  omega
def staLits (q : Sta) : List Lit := [.int .i64 q.pos, .int .i64 q.car, .int .i64 q.time, .int .i64 q.load, .int .i64 q.first, .int .u64 q.must, .int .u64 q.may, .int .u64 q.on]
theorem kc_int : Tryz.prog.cellsOf 3 = 1 := by kernel_rfl
theorem kc_u64 : Tryz.prog.cellsOf 25 = 1 := by kernel_rfl
theorem kc_sta : Tryz.prog.cellsOf 27 = 8 := by kernel_rfl
theorem key_int {d : Nat} {n : Int} (h : Fit n) : Tryz.prog.keyLits (d + 1) 3 [.int .i64 n] = some [.int .i64 n] := by
  unfold Program.keyLits
  simp [Tryz.underlying3, wf_i64 h]
theorem key_u64 {d : Nat} {n : Nat} (h : n < 18446744073709551616) : Tryz.prog.keyLits (d + 1) 25 [.int .u64 (n : Int)] = some [.int .u64 (n : Int)] := by
  unfold Program.keyLits
  simp [Tryz.underlying25, wf_u64 h]
theorem key_sta {d : Nat} {q : Sta} (h : KeyFit q) : Tryz.prog.keyLits (d + 1 + 1) 27 [.int .i64 q.pos, .int .i64 q.car, .int .i64 q.time, .int .i64 q.load, .int .i64 q.first, .int .u64 q.must, .int .u64 q.may, .int .u64 q.on] = some (staLits q) := by
  obtain ⟨⟨h1, h2, h3, h4, h5⟩, h6, h7, h8⟩ := h
  unfold Program.keyLits
  simp [Tryz.underlying27, kc_sta, kc_int, kc_u64, key_int h1, key_int h2, key_int h3, key_int h4, key_int h5, key_u64 h6, key_u64 h7, key_u64 h8, staLits]
theorem key_of {q : Sta} (h : KeyFit q) : keyOf Tryz.prog 27 (staV q) = some (.string (keyBytes (staLits q))) := by
  have h1 : Tryz.prog.keyType 27 = true := by kernel_rfl
  have h2 : (staV q).formed Tryz.prog 27 = true := by
    unfold staV Value.formed
    rw [Tryz.underlying27, kc_sta]
    rfl
  obtain ⟨d, hd⟩ : ∃ d, Tryz.prog.types.size + 1 = d + 1 + 1 := ⟨Tryz.prog.types.size - 1, by have h9 : (27 : Nat) < Tryz.prog.types.size := rowKey; omega⟩
  unfold keyOf
  rw [Tryz.underlying27]
  simp only [h1, h2, Bool.and_self, if_true, hd]
  rw [show (staV q).cells.toList = [.int .i64 q.pos, .int .i64 q.car, .int .i64 q.time, .int .i64 q.load, .int .i64 q.first, .int .u64 q.must, .int .u64 q.may, .int .u64 q.on] from rfl, key_sta h]
  rfl
theorem staV_inj {q r : Sta} (h : staV q = staV r) : q = r := by
  unfold staV at h
  simp at h
  obtain ⟨a1, a2, a3, a4, a5, a6, a7, a8⟩ := q
  obtain ⟨b1, b2, b3, b4, b5, b6, b7, b8⟩ := r
  simp only at h
  obtain ⟨rfl, rfl, rfl, rfl, rfl, h6, h7, h8⟩ := h
  obtain rfl : a6 = b6 := by omega
  obtain rfl : a7 = b7 := by omega
  obtain rfl : a8 = b8 := by omega
  rfl
theorem key_ne {q r : Sta} (hq : KeyFit q) (hr : KeyFit r) (hne : q ≠ r) : (Lit.string (keyBytes (staLits q))) ≠ .string (keyBytes (staLits r)) := fun e =>
  hne (staV_inj (lawKey.inj (key_of hq) (by rw [e]; exact key_of hr)))
end Go.Proofs.YtgplajofemencaaGreat
/- Single operations within a round; nodes as an iterator hands them on; a map by states that holds places. -/
namespace Go.Proofs.YtgplajofemencaaGreat
open Go.ChangeShapes Go.WideShapes Go.ChangeAt Go.RowKit Go.Shelf

/-- A node that an iterator hands on: as its cells have it, and its path. -/
abbrev El := RawN × List Int
def elN (x : El) : Nod := ⟨x.1.s, x.1.c, x.2⟩
def encEl (x : El) : Array Value := #[nodeV x.1.s x.1.c x.1.u]
/-- What holds of it as it comes. -/
def ElOk (w0 : World) (x : El) (W : World) : Prop := PathB w0 W x.1.u x.2 ∧ KeyFit x.1.s
/-- What is no row of cells turns: a path does not. -/
theorem PathB.keptO {w0 w w' : World} {v : Value} {l : List Int} {row : Option Nat} (h : PathB w0 w v l) (hg : w.grownBy w' row) (hr : ∀ r, row = some r → ∃ o : Obj, w.heap[r]? = some o ∧ o.isCells = false) : PathB w0 w' v l := by
  refine h.imp id (fun h => h.kept hg ?_)
  rcases h.2 with ⟨rfl, _⟩ | ⟨g', cap', cur, rfl, _, hb', _⟩
  · exact .inl rfl
  · right
    intro e
    obtain ⟨o, ho, hc⟩ := hr g' (by rw [← e]; rfl)
    rw [hb'] at ho
    cases ho; cases hc
theorem OwnN.keptO {w0 w w' : World} {B : Nat} {v : Value} {l : List Nod} {row : Option Nat} (h : OwnN w0 B w v l) (hg : w.grownBy w' row) (hr : ∀ r, row = some r → ∃ o : Obj, w.heap[r]? = some o ∧ o.isCells = false) : OwnN w0 B w' v l := by
  obtain ⟨raw, h1, h2⟩ := h
  refine ⟨raw, h1.kept hg ?_, h2.mono (fun v l h => h.keptO hg hr)⟩
  rcases h1.2 with ⟨rfl, _⟩ | ⟨g', cap', cur, rfl, _, hb', _⟩
  · exact .inl rfl
  · right
    intro e
    obtain ⟨o, ho, hc⟩ := hr g' (by rw [← e]; rfl)
    rw [hb'] at ho
    cases ho; cases hc
theorem elOk_own (w0 : World) (B : Nat) : OwnFrom B (fun (x : El) W => ElOk w0 x W) := fun _ _ _ _ h hg hr => ⟨h.1.keptO hg (fun r e => (hr r e).2), h.2⟩
/-- Another block of cells than its own turns: these nodes do not, where that block is no path's. -/
theorem OwnN.box {w0 w w' : World} {B r : Nat} {v : Value} {l : List Nod} {t : TypeId} {u : Value} (h : OwnN w0 B w v l) (hr : r < B) (hr0 : r < w.heap.size) (hg : w.grownBy w' (some r)) (hb : Boxed w r t u) (ht : t ≠ 3) : OwnN w0 B w' v l := by
  obtain ⟨raw, h1, h2⟩ := h
  refine ⟨raw, h1.kept hg ?_, h2.mono (fun v l h => h.imp id (fun h => h.kept hg ?_))⟩
  · rcases h1.2 with ⟨rfl, _⟩ | ⟨g', cap', cur, rfl, hB, _⟩
    · exact .inl rfl
    · right; simp [Value.ownBlock]; omega
  · rcases h.2 with ⟨rfl, _⟩ | ⟨g', cap', cur, rfl, _, hb', _⟩
    · exact .inl rfl
    · right
      simp only [Value.ownBlock, ne_eq, Option.some.injEq]
      intro e
      subst e
      rw [show w.heap[g']? = _ from hb] at hb'
      simp only [Option.some.injEq, Obj.cells.injEq] at hb'
      exact ht hb'.2.1
/-- A node put behind nodes that the call has made, within a round. -/
theorem appIn_node {F : Fence} {nF : Nat} {w0 w : World} {ops : Array Oper} {rest : List Oper} {o : Oper} {a : Act} {Q : Exit → Act → World → Prop} (hgd : o.guard = none) (s x : Operand)
    (ho : o.op = .call { callee := .builtin .append, args := #[s, x], argTypes := #[35, 35] }) (B : Nat) (v : Value) (l : List Nod) (hs : a.eval s = v) (hown : OwnN w0 B w v l)
    (g : Nat) (r : RawN) (n : Nod) (fr : Nat × Nat) (hx : a.eval x = .slice (some ⟨g, 0, none⟩) 1 1) (hr : w.heap[g]? = some (.cells #[.int .i64 r.s.pos, .int .i64 r.s.car, .int .i64 r.s.time, .int .i64 r.s.load, .int .i64 r.s.first, .int .u64 r.s.must, .int .u64 r.s.may, .int .u64 r.s.on, .int .i64 r.c, .slice r.ad r.len r.cap] 30 fr)) (hn : NodIs w0 w r n)
    (hlen : l.length + 1 ≤ 1000000) (hB : B ≤ w.heap.size)
    (h : ∀ v' w', OwnN w0 B w' v' (l ++ [n]) → w.grownBy w' v.ownBlock → (v'.ownBlock = v.ownBlock ∨ v'.ownBlock = some w.heap.size) → wpListIn F nF Tryz.prog ops Q rest (a.put o.dst v') w') : wpListIn F nF Tryz.prog ops Q (o :: rest) a w := by
  obtain ⟨raw, h1, h2⟩ := hown
  obtain ⟨i0, hi, hz0, hz1, hz2⟩ := info_parts infoNode
  have hcell := grow_cells encNod (nrow_one (w := w) (b := g) (s := r.s) (c := r.c) (pa := r.ad) (pn := r.len) (pc := r.cap) hr)
  refine wpListIn_append_own_at w hgd s x 35 ho B 30 i0 _ 10 96 Tryz.underlying35 hi hz0 hz1 hz2 rfl (by decide) v raw.length (gflat nvL raw) hs h1 ⟨g, 0, none⟩ 1 1 (gflat nvL [r]) hx (gflat_len encNod [r]) hcell (gflat_one encNod [r]) (by rw [h2.len]; unfold maxLen; omega) (by rw [h2.len]; omega) hB ?_
  intro v' w' k1 k2 _ k4
  refine h v' w' ⟨raw ++ [r], ?_, (NIn.grown h1 k2 h2).append (NIn.grown h1 k2 (rs := [r]) (ns := [n]) ⟨hn, trivial⟩)⟩ k2 k4
  unfold OwnG
  rw [List.length_append, gflat_append]
  exact k1
/-- A whole struct stored in the middle of a row, within a round. -/
theorem wpListIn_store_mid {F : Fence} {nF : Nat} {ops : Array Oper} {rest : List Oper} {op : Oper} {a : Act} {w : World} {Q : Exit → Act → World → Prop} (hgd : op.guard = none) (ty : TypeId) (x y : Operand) (ho : op.op = .store ty x y)
    (b o : Nat) (cells : Array Value) (hx : a.eval x = .pointer (some ⟨b, o, none⟩)) (hy : a.eval y = .agg cells)
    (ht : w.there b o cells.size) (hi : (Tryz.prog.info? ty).map (·.size) = some cells.size) (h1 : cells.all (·.oneCell') = true)
    (h : wpListIn F nF Tryz.prog ops Q rest (a.put op.dst undef) (w.setCells b o cells.toList)) : wpListIn F nF Tryz.prog ops Q (op :: rest) a w := by
  refine wpListIn_plain hgd fun K' hK' => ?_
  unfold Oper.wpIn
  refine ⟨by simp [Oper.about, ho], ?_⟩
  rw [Oper.semAt_plain F _ _ (by rw [ho]; intro c hc; cases hc)]
  have hrun := run_storeAt_mid (P := Tryz.prog) w b o ty cells ht hi h1
  simp only [execOp, ho, hx, hy, Sem.run_bind, Sem.run_pure, hrun, Result.andThen_ok]
  exact hK' _ _ h

/-! ### A map by states that holds places -/
def heldP (v : Value) : Option (DataW Value × List MemPlace) := some (.held v, [])
def keyS (q : Sta) : Lit := .string (keyBytes (staLits q))
/-- Block bm is a map of at most n entries that holds f q at each state q of which f q is no less than 0, and no other ones. -/
def MapP (w : World) (bm n : Nat) (f : Sta → Int) : Prop :=
  ∃ D : DataW Value, w.ownsMap Tryz.prog 27 heldP bm n D ∧ ∀ q, KeyFit q → Go.Maps.has D (keyS q) = decide (0 ≤ f q) ∧ D.atKey (keyS q) (.held (.int .i64 0)) = .held (.int .i64 (max (f q) 0))
theorem mapP_made (w : World) : MapP (w.alloc (.map #[] 0)) w.heap.size 0 (fun _ => -1) :=
  ⟨.map [], World.ownsMap_made w Tryz.prog 27 heldP, fun _ _ => ⟨rfl, rfl⟩⟩
theorem MapP.kept {w w' : World} {bm n : Nat} {f : Sta → Int} {row : Option Nat} (h : MapP w bm n f) (hg : w.grownBy w' row) (hne : some bm ≠ row) : MapP w' bm n f := by
  obtain ⟨D, h1, h2⟩ := h
  exact ⟨D, h1.kept hg hne, h2⟩
theorem MapP.lt {w : World} {bm n : Nat} {f : Sta → Int} (h : MapP w bm n f) : bm < w.heap.size := by
  obtain ⟨D, h1, _⟩ := h
  exact h1.lt
theorem MapP.isMap {w : World} {bm n : Nat} {f : Sta → Int} (h : MapP w bm n f) : ∀ r, some bm = some r → ∃ o : Obj, w.heap[r]? = some o ∧ o.isCells = false := by
  obtain ⟨D, ⟨es, clock, hb, _⟩, _⟩ := h
  intro r e
  cases e
  exact ⟨_, hb, rfl⟩
theorem MapP.mono {w : World} {bm n m : Nat} {f : Sta → Int} (h : MapP w bm n f) (hm : n ≤ m) : MapP w bm m f := by
  obtain ⟨D, ⟨es, clock, a, b, c, d⟩, h2⟩ := h
  exact ⟨D, ⟨es, clock, a, b, Nat.le_trans c hm, d⟩, h2⟩
theorem MapP.same {w : World} {bm n : Nat} {f g : Sta → Int} (h : MapP w bm n f) (hfg : ∀ q, f q = g q) : MapP w bm n g := by
  obtain rfl : f = g := funext hfg
  exact h
theorem MapP.look {F : Fence} {nF : Nat} {w : World} {ops : Array Oper} {rest : List Oper} {o : Oper} {a : Act} {Q : Exit → Act → World → Prop} {bm n : Nat} {f : Sta → Int} (h : MapP w bm n f)
    (hg : o.guard = none) (m x : Operand) (ho : o.op = .lookup 109 m x true) (hm : a.eval m = .map (some bm)) {q : Sta} (hx : a.eval x = staV q) (hq : KeyFit q)
    (hK : wpListIn F nF Tryz.prog ops Q rest (a.put o.dst (.tuple #[.int .i64 (max (f q) 0), .bool (decide (0 ≤ f q))])) w) : wpListIn F nF Tryz.prog ops Q (o :: rest) a w := by
  obtain ⟨D, h1, h2⟩ := h
  refine wpListIn_lookup_own_ok w hg m x 109 ho 27 3 lawKey Tryz.underlying109 heldP (z := .int .i64 0) (by kernel_rfl) (.held (.int .i64 0)) [] rfl bm n D hm h1 _ _ hx (key_of hq) ?_
  intro v ps hv
  have h3 := h2 q hq
  rw [show D.atKey (Lit.string (keyBytes (staLits q))) (.held (.int .i64 0)) = _ from h3.2] at hv
  have : v = .int .i64 (max (f q) 0) := by
    unfold heldP at hv
    simp only [Option.some.injEq, Prod.mk.injEq, DataW.held.injEq] at hv
    exact hv.1
  subst this
  rw [show Go.Maps.has D (Lit.string (keyBytes (staLits q))) = _ from h3.1]
  exact hK
theorem MapP.put {F : Fence} {nF : Nat} {w : World} {ops : Array Oper} {rest : List Oper} {o : Oper} {a : Act} {Q : Exit → Act → World → Prop} {bm n : Nat} {f : Sta → Int} (h : MapP w bm n f) (hn : n < maxLen)
    (hg : o.guard = none) (m x y : Operand) (ho : o.op = .mapUpdate 109 m x y) (hm : a.eval m = .map (some bm)) {q : Sta} (hx : a.eval x = staV q) (hq : KeyFit q) {j : Int} (hy : a.eval y = .int .i64 j) (hj : 0 ≤ j)
    (hK : ∀ w', MapP w' bm (n + 1) (fun r => if r = q then j else f r) → w.grownBy w' (some bm) → wpListIn F nF Tryz.prog ops Q rest (a.put o.dst undef) w') : wpListIn F nF Tryz.prog ops Q (o :: rest) a w := by
  obtain ⟨D, h1, h2⟩ := h
  have hM : Go.Maps.IsMap D := by
    obtain ⟨es, clock, _, _, _, e⟩ := h1
    exact ⟨_, e⟩
  refine wpListIn_mapUpdate_own w hg m x y 109 ho 27 3 lawKey Tryz.underlying109 heldP bm n D hm h1 hn _ _ _ hx hy (key_of hq) (.held (.int .i64 j)) [] rfl ?_
  intro w' k1 k2
  refine hK w' ⟨_, k1, fun r hr => ?_⟩ k2
  by_cases e : r = q
  · subst e
    show Go.Maps.has _ _ = decide (0 ≤ if r = r then j else f r) ∧ _ = DataW.held (Value.int .i64 (max (if r = r then j else f r) 0))
    rw [if_pos rfl, decide_eq_true hj, show max j 0 = j by omega]
    exact ⟨Go.Maps.has_put_same hM (lawKey.key (key_of hq)) _, Go.Maps.atKey_put_same hM (lawKey.key (key_of hq)) _ _⟩
  · show Go.Maps.has _ _ = decide (0 ≤ if r = q then j else f r) ∧ _ = DataW.held (Value.int .i64 (max (if r = q then j else f r) 0))
    rw [if_neg e]
    exact ⟨(Go.Maps.has_put_other (key_ne hr hq e) _).trans (h2 r hr).1, (Go.Maps.atKey_put_other (key_ne hr hq e) _ _).trans (h2 r hr).2⟩
/-- Where a state stands. -/
def placeF (L : List Nod) (q : Sta) : Int := atN L q L.length
theorem placeF_nil (q : Sta) : placeF [] q = -1 := rfl
theorem atN_more (L : List Nod) (x : Nod) (q : Sta) : ∀ m, m ≤ L.length → atN (L ++ [x]) q m = atN L q m
  | 0, _ => rfl
  | m + 1, h => by
    rw [atN, atN, atN_more L x q m (by omega)]
    have : nodAt (L ++ [x]) m = nodAt L m := by
      unfold nodAt
      rw [List.getD_eq_getElem?_getD, List.getD_eq_getElem?_getD, List.getElem?_append_left (by omega)]
    rw [this]
theorem placeF_more (L : List Nod) (x : Nod) (q : Sta) : placeF (L ++ [x]) q = if q = x.s then (L.length : Int) else placeF L q := by
  unfold placeF
  rw [List.length_append, List.length_singleton, atN, atN_more L x q _ (Nat.le_refl _)]
  have : nodAt (L ++ [x]) L.length = x := by
    unfold nodAt
    rw [List.getD_eq_getElem?_getD, List.getElem?_append_right (Nat.le_refl _)]
    simp
  rw [this]
  by_cases e : q = x.s
  · rw [if_pos e, if_pos e.symm]
  · rw [if_neg e, if_neg (fun h => e h.symm)]
theorem placeF_set (L : List Nod) (k : Nat) (x : Nod) (hk : k < L.length) (hx : x.s = (nodAt L k).s) (q : Sta) : placeF (L.set k x) q = placeF L q := by
  have key : ∀ m, atN (L.set k x) q m = atN L q m := by
    intro m
    induction m with
    | zero => rfl
    | succ m ih =>
      rw [atN, atN, ih]
      have : (nodAt (L.set k x) m).s = (nodAt L m).s := by
        by_cases e : m = k
        · subst e
          rw [← hx]
          unfold nodAt
          rw [List.getD_eq_getElem?_getD, List.getElem?_set_self hk]
          rfl
        · unfold nodAt
          rw [List.getD_eq_getElem?_getD, List.getD_eq_getElem?_getD, List.getElem?_set_ne (fun h => e h.symm)]
      rw [this]
  unfold placeF
  rw [List.length_set]
  exact key _
end Go.Proofs.YtgplajofemencaaGreat
/- What the program's own once answers, of whatever iterator hands on nodes. -/
namespace Go.Proofs.YtgplajofemencaaGreat
open Go.ChangeShapes Go.WideShapes Go.ChangeAt Go.RowKit Go.Shelf

attribute [local go_sem] Oper.semAt_some

/-- What is kept between two rounds: B0: the map; B0 + 1: the variable that holds it; B0 + 2: the variable that holds the row. -/
def OnceI (w0 w : World) (s : Come El) (W : World) : Prop :=
  Boxed W (w.heap.size + 1) 109 (.map (some w.heap.size)) ∧ MapP W w.heap.size s.1.length (placeF (onceL (s.1.map elN))) ∧
  (∃ v, Boxed W (w.heap.size + 2) 35 v ∧ OwnN w0 (w.heap.size + 3) W v (onceL (s.1.map elN)) ∧ (∀ k, s.2 k ↔ (k = w.heap.size ∨ k = w.heap.size + 2 ∨ v.ownBlock = some k))) ∧ Below w.heap.size w W
theorem onceI_own (w0 w : World) (B : Nat) (hB : w.heap.size + 3 ≤ B) : OwnFrom B (OnceI w0 w) := by
  rintro s W W' row ⟨h1, h2, ⟨v, h3, h4, h5⟩, h6⟩ hg hr
  have hb : ∀ {b : Nat} {t : TypeId} {u : Value}, Boxed W b t u → Boxed W' b t u := fun {b t u} h => h.kept hg (fun e => by
    obtain ⟨_, o, ho, hc⟩ := hr b e.symm
    rw [show W.heap[b]? = _ from h] at ho
    cases ho; cases hc)
  refine ⟨hb h1, h2.kept hg (fun e => by have := (hr _ e.symm).1; omega), ⟨v, hb h3, h4.keptO hg (fun r e => (hr r e).2), h5⟩, h6.grown hg h6.size (fun r e => by have := (hr r e).1; omega)⟩
theorem onceI_low {w0 w : World} {s : Come El} {W : World} (h : OnceI w0 w s W) : ∀ k, s.2 k → w.heap.size ≤ k ∧ k < W.heap.size := by
  obtain ⟨_, h2, ⟨v, h3, h4, h5⟩, _⟩ := h
  intro k hk
  rcases (h5 k).1 hk with rfl | rfl | h
  · exact ⟨Nat.le_refl _, h2.lt⟩
  · exact ⟨by omega, h3.lt⟩
  · have := h4.lt k h
    exact ⟨by omega, this.2⟩
theorem putOnce_map (pre : List El) (x : El) : onceL ((pre ++ [x]).map elN) = putOnce (elN x) (onceL (pre.map elN)) := by
  rw [List.map_append, List.map_singleton, onceL_snoc]
theorem own_not {w0 w : World} {B b : Nat} {v : Value} {l : List Nod} (h : OwnN w0 B w v l) (hb : b < B) : some b ≠ v.ownBlock := fun e => by
  have := (h.lt b e.symm).1
  omega
/-- A state that is new. -/
theorem once_new {w0 w X w1 w2 : World} {pre : List El} {A : Nat → Prop} {x : El} {v v' : Value} {O : Obj} {L : List Nod} (h1 : Boxed X (w.heap.size + 1) 109 (.map (some w.heap.size))) (h3 : Boxed X (w.heap.size + 2) 35 v) (h4 : OwnN w0 (w.heap.size + 3) X v L)
    (h5 : ∀ k, A k ↔ (k = w.heap.size ∨ k = w.heap.size + 2 ∨ v.ownBlock = some k)) (h6 : Below w.heap.size w X)
    (g1 : X.grownBy w1 (some w.heap.size)) (m1 : MapP w1 w.heap.size (pre.length + 1) (fun r => if r = x.1.s then (L.length : Int) else placeF L r)) (g2 : (w1.alloc O).grownBy w2 v.ownBlock) (o2 : OwnN w0 (w.heap.size + 3) w2 v' (L ++ [elN x]))
    (k2 : v'.ownBlock = v.ownBlock ∨ v'.ownBlock = some (w1.alloc O).heap.size) (hL : onceL (pre.map elN) = L) (hnew : putOnce (elN x) L = L ++ [elN x]) :
    ∃ A', OnceI w0 w (pre ++ [x], A') (w2.setCell ⟨w.heap.size + 2, 0, none⟩ v') ∧ Turn A A' X (w2.setCell ⟨w.heap.size + 2, 0, none⟩ v') := by
  have ga := World.grownBy_alloc w1 O none
  have gs := turn_cell w2 (w.heap.size + 2) 0 v'
  have e1 := own_not h4 (show w.heap.size < w.heap.size + 3 by omega)
  have e2 := own_not h4 (show w.heap.size + 1 < w.heap.size + 3 by omega)
  have e3 := own_not h4 (show w.heap.size + 2 < w.heap.size + 3 by omega)
  have hsz : X.heap.size ≤ (w1.alloc O).heap.size := Nat.le_trans g1.size ga.size
  have hb3 : Boxed w2 (w.heap.size + 2) 35 v := ((h3.kept g1 (by simp)).kept ga (by simp)).kept g2 e3
  refine ⟨fun k => k = w.heap.size ∨ k = w.heap.size + 2 ∨ v'.ownBlock = some k, ⟨?_, ?_, ⟨v', hb3.set _, ?_, fun k => Iff.rfl⟩, ?_⟩, ?_⟩
  · exact (((h1.kept g1 (by simp)).kept ga (by simp)).kept g2 e2).other (by omega) _
  · show MapP _ _ (pre ++ [x]).length _
    rw [putOnce_map, hL, hnew, List.length_append]
    refine MapP.same (((m1.kept ga (by simp)).kept g2 e1).kept gs (by simp)) (fun q => ?_)
    rw [placeF_more]; rfl
  · show OwnN _ _ _ _ (onceL ((pre ++ [x]).map elN))
    rw [putOnce_map, hL, hnew]
    exact o2.box (by omega) hb3.lt gs hb3 (by decide)
  · refine (((h6.grown g1 h6.size (fun k e => by cases e; exact Nat.le_refl _)).grown ga (Nat.le_trans h6.size g1.size) (fun k e => by cases e)).grown g2 (Nat.le_trans h6.size hsz) (fun k e => ?_)).setCell (p := ⟨w.heap.size + 2, 0, none⟩) (by show w.heap.size ≤ w.heap.size + 2; omega) _
    have := (h4.lt k e).1
    omega
  · have a1 : Turn A A X w1 := Turn.grown g1 (fun r e => by cases e; exact (h5 _).2 (.inl rfl)) (fun k h => .inl h)
    have a2 : Turn A A w1 (w1.alloc O) := Turn.grown ga (fun r e => by cases e) (fun k h => .inl h)
    have a3 : Turn A (fun k => k = w.heap.size ∨ k = w.heap.size + 2 ∨ v'.ownBlock = some k) (w1.alloc O) w2 := Turn.grown g2 (fun r e => (h5 _).2 (.inr (.inr e))) (fun k h => by
      rcases h with h | h | h
      · exact .inl ((h5 k).2 (.inl h))
      · exact .inl ((h5 k).2 (.inr (.inl h)))
      · rcases k2 with e | e
        · exact .inl ((h5 k).2 (.inr (.inr (e ▸ h))))
        · rw [e] at h
          simp only [Option.some.injEq] at h
          exact .inr (by omega))
    exact ((a1.trans a2).trans a3).trans (Turn.grown gs (fun r e => by cases e; exact .inr (.inl rfl)) (fun k h => .inl h))
/-- Nothing that counts has turned. -/
theorem once_same {w0 w X V : World} {pre : List El} {A : Nat → Prop} {x : El} (h : OnceI w0 w (pre, A) X) (hV : Below X.heap.size X V) (hs : putOnce (elN x) (onceL (pre.map elN)) = onceL (pre.map elN)) :
    ∃ A', OnceI w0 w (pre ++ [x], A') V ∧ Turn A A' X V := by
  have hg := grown_of_below hV
  obtain ⟨h1, h2, ⟨v, h3, h4, h5⟩, h6⟩ := h
  refine ⟨A, ⟨h1.kept hg (by simp), ?_, ⟨v, h3.kept hg (by simp), ?_, h5⟩, h6.trans (hV.mono h6.size)⟩, Turn.of_below hV⟩
  · show MapP _ _ (pre ++ [x]).length _
    rw [putOnce_map, hs, List.length_append]
    exact (h2.kept hg (by simp)).mono (by show pre.length ≤ pre.length + 1; omega)
  · show OwnN _ _ _ _ (onceL ((pre ++ [x]).map elN))
    rw [putOnce_map, hs]
    exact h4.below hV
/-- A node that costs less takes the place. -/
theorem once_put {w0 w X Y V : World} {pre : List El} {A : Nat → Prop} {x : El} {v : Value} {L : List Nod} {k : Nat} (h1 : Boxed X (w.heap.size + 1) 109 (.map (some w.heap.size))) (h2 : MapP X w.heap.size pre.length (placeF L)) (h3 : Boxed X (w.heap.size + 2) 35 v) (h4 : OwnN w0 (w.heap.size + 3) X v L)
    (h5 : ∀ k, A k ↔ (k = w.heap.size ∨ k = w.heap.size + 2 ∨ v.ownBlock = some k)) (h6 : Below w.heap.size w X) (hY : Below X.heap.size X Y)
    (gV : Y.grownBy V v.ownBlock) (oV : OwnN w0 (w.heap.size + 3) V v (L.set k (elN x))) (hL : onceL (pre.map elN) = L) (hk : k < L.length) (hks : (nodAt L k).s = x.1.s) (hput : putOnce (elN x) L = L.set k (elN x)) :
    ∃ A', OnceI w0 w (pre ++ [x], A') V ∧ Turn A A' X V := by
  have hg := grown_of_below hY
  have e1 := own_not h4 (show w.heap.size < w.heap.size + 3 by omega)
  have e2 := own_not h4 (show w.heap.size + 1 < w.heap.size + 3 by omega)
  have e3 := own_not h4 (show w.heap.size + 2 < w.heap.size + 3 by omega)
  refine ⟨A, ⟨(h1.kept hg (by simp)).kept gV e2, ?_, ⟨v, (h3.kept hg (by simp)).kept gV e3, ?_, h5⟩, ?_⟩, (Turn.of_below hY).trans (Turn.grown gV (fun r e => (h5 _).2 (.inr (.inr e))) (fun k h => .inl h))⟩
  · show MapP _ _ (pre ++ [x]).length _
    rw [putOnce_map, hL, hput, List.length_append]
    exact (MapP.same ((h2.kept hg (by simp)).kept gV e1) (fun q => (placeF_set L k (elN x) hk hks.symm q).symm)).mono (by show pre.length ≤ pre.length + 1; omega)
  · show OwnN _ _ _ _ (onceL ((pre ++ [x]).map elN))
    rw [putOnce_map, hL, hput]
    exact oV
  · refine (h6.trans (hY.mono h6.size)).grown gV (Nat.le_trans h6.size hY.size) (fun k e => ?_)
    have := (h4.lt k e).1
    omega
set_option maxRecDepth 1000000 in
set_option maxHeartbeats 4000000 in
theorem lonce_in (n : Nat) (hn : 2 ≤ n) {w0 w : World} {gf : Nat} {lb : Array Value} {S : List El → Prop} {N : Nat} (eg : ∀ args w, (callFunc gf args).run Tryz.prog w = .ok (.enter gf args) w)
    (hseq : SeqA Tryz.prog gf lb encEl (ElOk w0) S N w) (hb0 : Below w0.heap.size w0 w) (hN : N ≤ 1000000) :
    CallsIn Fence.wide n Tryz.prog 40 #[.func (.func gf) #[] lb] w fun e w' => ∃ u xs, e = .returned u ∧ S xs ∧ OwnN w0 w.heap.size w' u (onceL (xs.map elN)) ∧ Below w.heap.size w w' := by
  have HSQ := Lib.hid hseq
  have HW0 := Lib.hid hb0
  have hn1 : 1 ≤ n - 1 := by omega
  have HN := Lib.hid hN
  clear hseq hb0 hn hN
  have hmm := @run_makeMap Tryz.prog
  refine callsIn_of_wp_marks Tryz.func40 rfl trivial ?_ rfl
  simp only [Tryz.ntmps40, List.size_toArray, List.length_cons, List.length_nil, Nat.reduceAdd, Nat.reduceSub, Array.replicate_succ, Array.replicate_zero, List.push_toArray, List.append_toArray, List.nil_append, List.cons_append]
  gi_wp2_with fail
  clear hmm
  obtain ⟨Z, hZ⟩ : ∃ Z, ((w.alloc (Obj.map #[] 0)).alloc (Obj.cells #[Value.map (some w.heap.size)] 109)).alloc (Obj.cells #[Value.slice none 0 0] 35) = Z := ⟨_, rfl⟩
  have hZs : Z.heap.size = w.heap.size + 3 := by rw [← hZ]; simp
  have hBZ : Below w.heap.size w Z := by rw [← hZ]; exact (((Below.refl _ w).alloc (Nat.le_refl _) _).alloc (by simp) _).alloc (by simp; omega) _
  have hI0 : OnceI w0 w ([], fun k => k = w.heap.size ∨ k = w.heap.size + 2) Z := by
    have s1 : (w.alloc (Obj.map #[] 0)).heap.size = w.heap.size + 1 := by simp
    have s2 : ((w.alloc (Obj.map #[] 0)).alloc (Obj.cells #[Value.map (some w.heap.size)] 109)).heap.size = w.heap.size + 2 := by simp
    have b1 := Boxed.new (w.alloc (Obj.map #[] 0)) 109 (.map (some w.heap.size))
    have b2 := Boxed.new ((w.alloc (Obj.map #[] 0)).alloc (Obj.cells #[Value.map (some w.heap.size)] 109)) 35 (.slice none 0 0)
    rw [s1] at b1
    rw [s2] at b2
    have hm := MapP.same (((mapP_made w).kept (World.grownBy_alloc _ (Obj.cells #[Value.map (some w.heap.size)] 109) none) (by simp)).kept (World.grownBy_alloc _ (Obj.cells #[Value.slice none 0 0] 35) none) (by simp)) (fun q => (placeF_nil q).symm)
    rw [hZ] at hm
    refine ⟨by rw [← hZ]; exact b1.alloc _, hm, ⟨_, by rw [← hZ]; exact b2, ownN_nil _ _ _, fun k => ?_⟩, hBZ⟩
    simp [Value.ownBlock]
  rw [hZ]
  clear hZ
  refine wpIn_seqA hn1 (gf := gf) (lb := lb) rfl eg HSQ.out hBZ (fun _ => rfl) (OnceI w0 w) (onceI_own w0 w _ (by omega)) (fun s X h => onceI_low h) _ hI0 (elOk_own w0 _)
    (fun s x a' W => ∃ Bx, NodB W Bx x.1.s x.1.c x.1.u ∧ ¬ s.2 Bx ∧ a' = { tmps := #[.func (.func gf) #[] lb, undef, .slice none 0 0, .pointer (some ⟨w.heap.size + 1, 0, none⟩), .pointer (some ⟨w.heap.size + 1 + 1, 0, none⟩), .pointer (some ⟨Bx, 0, none⟩), undef, undef, .map (some w.heap.size), .func (.func gf) #[] lb, .agg #[.int .i64 x.1.s.pos, .int .i64 x.1.s.car, .int .i64 x.1.s.time, .int .i64 x.1.s.load, .int .i64 x.1.s.first, .int .u64 x.1.s.must, .int .u64 x.1.s.may, .int .u64 x.1.s.on, .int .i64 x.1.c, .slice x.1.ad x.1.len x.1.cap], undef, undef, undef, undef, undef, undef, undef, undef, undef, undef, undef, undef, undef, undef, undef, undef, undef, undef, undef, undef, undef, undef, undef, undef, undef, undef, undef, undef, undef, undef, undef, undef, undef], defers := [] }) ?ax ?assign ?body ?done
  case ax =>
    rintro ⟨⟨s, x⟩, a'⟩ W W' row ⟨Bx, k1, k2, k3⟩ hg hr
    refine ⟨Bx, (hg.block Bx k1.lt (fun e => ?_)).trans k1, k2, k3⟩
    obtain ⟨_, o, ho, hc⟩ := hr Bx e.symm
    rw [show W.heap[Bx]? = _ from k1] at ho
    cases ho; cases hc
  case assign =>
    rintro l m pre A ⟨⟨xs, xc, xa, xn, xk⟩, xp⟩ X K hi hK
    dsimp only [encEl, nodeV, RawN.u]
    gi_wp2
    exact hK _ _ ((Below.refl _ X).alloc (Nat.le_refl _) _) ⟨X.heap.size, nod_new X _ _ _, fun h => by have := (onceI_low hi _ h).2; omega, rfl⟩
  case body =>
    rintro l m pre A x a' X hi hx ⟨Bx, hb, hnA, rfl⟩ hlen
    have HI := Lib.hid hi
    obtain ⟨h1, h2, ⟨v, h3, h4, h5⟩, h6⟩ := hi
    obtain ⟨va, vc, rfl⟩ := h4.shape
    obtain ⟨L, hL⟩ : ∃ L, onceL (pre.map elN) = L := ⟨_, rfl⟩
    have HLL := Lib.hid hL
    simp only [hL] at h2 h3 h4 h5
    have hLlen : L.length ≤ pre.length := by rw [← hL]; exact Nat.le_trans (once_len _) (by simp)
    have HLen := Lib.hid (show L.length ≤ pre.length ∧ pre.length < 1000000 by have := HN.out; omega)
    have hL63 : L.length ≤ 9223372036854775807 := by have := HN.out; omega
    have hap : L.Pairwise (fun a b => a.s ≠ b.s) := by rw [← hL]; exact once_apart _
    have HAP := Lib.hid hap
    have m1 := h1.cell
    have l1 := h3.cell
    have H1 := Lib.hid h1
    have H2 := Lib.hid h2
    have H3 := Lib.hid h3
    have H4 := Lib.hid h4
    have H5 := Lib.hid h5
    have H6 := Lib.hid h6
    have HB := Lib.hid hb
    have HNA := Lib.hid hnA
    have HX := Lib.hid hx
    have HLT := Lib.hid hlen
    have c0 := hb.c0
    have c1 := hb.c1
    have c2 := hb.c2
    have c3 := hb.c3
    have c4 := hb.c4
    have c5 := hb.c5
    have c6 := hb.c6
    have c7 := hb.c7
    have c8 := hb.c8
    have c9 := hb.c9
    have HP := Lib.hid (atN_is (out := L) (s := x.1.s) L.length)
    have HPF := Lib.hid (show placeF L x.1.s = atN L x.1.s L.length from rfl)
    clear h1 h2 h3 h4 h5 h6 hb hnA hx hlen hap hL hLlen
    rcases HP.out with ⟨p1, p2⟩ | ⟨j, p1, p2, p3⟩
    · have HNEW := Lib.hid (show putOnce (elN x) L = L ++ [elN x] from put_not p2)
      have hd : decide (0 ≤ placeF L x.1.s) = false := by rw [HPF.out, p1]; decide
      clear p1 p2 HP
      have HBY := Lib.hid (show ∀ (Y : World) (row : Option Nat), X.grownBy Y row → some Bx ≠ row → NodB Y Bx x.1.s x.1.c x.1.u from fun Y row hg he => (hg.block Bx HB.out.lt he).trans HB.out)
      have HEB := Lib.hid (show some Bx ≠ some w.heap.size from fun e => HNA.out ((H5.out Bx).2 (.inl (by cases e; rfl))))
      gi_wp2_with (first
        | (gi_at_lookup
           refine MapP.look H2.out rfl _ _ rfl rfl (q := x.1.s) rfl HX.out.2 ?_)
        | (gi_at_mapUpdate
           refine MapP.put H2.out (by have := HLen.out; unfold maxLen; omega) rfl _ _ _ rfl rfl (q := x.1.s) rfl HX.out.2 (j := (L.length : Int)) rfl (by omega) ?_
           intro w1 mp g1
           have HG1 := Lib.hid g1
           have HM1 := Lib.hid mp
           have HB1 := Lib.hid (HBY.out _ _ g1 HEB.out)
           have H31 := Lib.hid (H3.out.kept g1 (by simp))
           have H41 := Lib.hid (H4.out.keptO g1 H2.out.isMap)
           have HP1 := Lib.hid (HX.out.1.keptO g1 H2.out.isMap)
           clear g1 mp c0 c1 c2 c3 c4 c5 c6 c7 c8 c9 m1 l1
           have l2 := H31.out.cell
           have f2 := H31.out.frozen
           have d0 := HB1.out.c0
           have d1 := HB1.out.c1
           have d2 := HB1.out.c2
           have d3 := HB1.out.c3
           have d4 := HB1.out.c4
           have d5 := HB1.out.c5
           have d6 := HB1.out.c6
           have d7 := HB1.out.c7
           have d8 := HB1.out.c8
           have d9 := HB1.out.c9)
        | (gi_at_builtin
           refine appIn_node rfl _ _ rfl (w.heap.size + 3) _ L rfl (H41.out.below ((Below.refl _ w1).alloc (Nat.le_refl _) _)) w1.heap.size x.1 (elN x) (0, 0) rfl (heap_alloc_new w1 _) ⟨rfl, rfl, HP1.out.turned (World.grownBy_alloc w1 _ none)⟩ (by have := HLen.out; omega) (by have := H6.out.size; have := HG1.out.size; have := H31.out.lt; simp; omega) ?_
           intro v' w2 o2 g2 k2
           obtain ⟨va2, vc2, hv2⟩ := o2.shape
           rw [List.length_append, List.length_singleton] at hv2
           subst hv2
           have H32 := Lib.hid ((H31.out.kept (World.grownBy_alloc w1 _ none) (by simp)).kept g2 (own_not H4.out (show w.heap.size + 2 < w.heap.size + 3 by omega)))
           have HFIN := Lib.hid (once_new H1.out H3.out H4.out H5.out H6.out HG1.out HM1.out g2 o2 k2 HLL.out HNEW.out)
           have l3 := H32.out.cell
           have f3 := H32.out.frozen
           clear o2 g2 k2 l2 f2 d0 d1 d2 d3 d4 d5 d6 d7 d8 d9))
      exact HFIN.out
    · have HPUT := Lib.hid (show putOnce (elN x) L = if x.1.c < (nodAt L j).cost then L.set j (elN x) else L from put_at j p2 p3 HAP.out)
      have HD := Lib.hid (show decide (0 ≤ placeF L x.1.s) = true by rw [HPF.out, p1]; simp)
      have HMX := Lib.hid (show max (placeF L x.1.s) 0 = (j : Int) by rw [HPF.out, p1]; omega)
      have hji : (j : Int) < (L.length : Int) := by omega
      have hj0 : (0 : Int) ≤ (j : Int) := by omega
      have HJ := Lib.hid p2
      have HJS := Lib.hid p3
      obtain ⟨g, gc, hv, hgc, hgm, hgB, hgl⟩ := OwnN.block H4.out (by omega)
      simp only [Value.slice.injEq, true_and] at hv
      obtain ⟨rfl, rfl⟩ := hv
      obtain ⟨qa, qc, hn2, hl2, hr2⟩ := nrowB_here H4.out.rowB j _ (nodAt_is p2)
      rw [Nat.zero_add] at hn2
      have y8 : X.cell? ⟨g, j * 10 + 8, none⟩ = some (.int .i64 (nodAt L j).cost) := hn2.2.2.2.2.2.2.2.2.1
      clear p1 p2 p3 HP hn2 hl2 hr2 hgc hgm hgB hgl
      have HST := Lib.hid (OwnN.stored (H4.out.below ((Below.refl _ X).drew)) j x.1 (elN x) ⟨rfl, rfl, HX.out.1.below ((Below.refl _ X).drew)⟩ HJ.out)
      obtain ⟨yc, hyc⟩ : ∃ yc, (nodAt L j).cost = yc := ⟨_, rfl⟩
      rw [hyc] at HPUT y8
      clear hyc
      gi_wp2_with (gi_at_lookup; refine MapP.look H2.out rfl _ _ rfl rfl (q := x.1.s) rfl HX.out.2 ?_; rw [HD.out, HMX.out])
      have hmix : Tryz.prog.follows .mixedOrders = true := by kernel_rfl
      by_cases hc : x.1.c < yc
      · have hdc : decide (x.1.c < yc) = true := decide_eq_true hc
        have HFIN := Lib.hid (once_put H1.out H2.out H3.out H4.out H5.out H6.out ((Below.refl _ X).drew) (by exact HST.out.2.1) (by exact HST.out.1) HLL.out HJ.out HJS.out (HPUT.out.trans (if_pos hc)))
        clear hc
        gi_region_with_o (fail)
        all_goals
          gi_wp2_with (refine wpListIn_store_mid (by rfl) 30 (.tmp 42) (.tmp 41) (by rfl) g (j * 10) (nvL x.1).toArray (by rfl) (by rfl) (by exact HST.out.2.2.1) (by kernel_rfl) (one_node x.1) ?_)
          exact HFIN.out
      · have hdc : decide (x.1.c < yc) = false := decide_eq_false hc
        have HFIN := Lib.hid (once_same HI.out ((Below.refl _ X).drew) (by rw [HLL.out]; exact HPUT.out.trans (if_neg hc)))
        clear hc
        gi_region_with_o (fail)
        all_goals
          gi_wp2
          exact HFIN.out
  case done =>
    rintro D xs A W hD hS ⟨h1, h2, ⟨v, h3, h4, h5⟩, h6⟩ hK
    have l1 := h3.cell
    gi_wp2
    refine ⟨by simp, .inl ⟨_, _, rfl, run_takeDeferred hK, ?_⟩⟩
    have hgD : W.grownBy (W.putObj D (.deferred none)) (some D) := grownBy_putObj' W D _
    have hrD : ∀ r, some D = some r → ∃ o : Obj, W.heap[r]? = some o ∧ o.isCells = false := fun r e => by cases e; exact ⟨_, hK, rfl⟩
    have hfin := (h4.keptO hgD hrD).less (show w.heap.size ≤ w.heap.size + 3 by omega)
    have hbel : Below w.heap.size w (W.putObj D (.deferred none)) := h6.grown hgD h6.size (fun r e => by cases e; omega)
    refine ⟨_, results_tmp rfl _ _ _, ?_⟩
    exact ⟨v, rfl, xs, hS, hfin, hbel⟩
end Go.Proofs.YtgplajofemencaaGreat
/- A copy of some numbers (slices.Clone). -/
namespace Go.Proofs.YtgplajofemencaaGreat
open Go.ChangeShapes Go.WideShapes Go.ChangeAt Go.RowKit

set_option maxRecDepth 1000000 in
set_option maxHeartbeats 4000000 in
theorem gclone_any {w : World} {u : Value} {l : List Int} (h : Row w u (ints l)) (hlen : l.length ≤ 1000000) :
    Calls Tryz.prog 56 #[u] w fun e w' => ∃ v, e = .returned v ∧ OwnI w' w.heap.size v l ∧ Below w.heap.size w w' := by
  have H := Lib.hid h
  obtain ⟨ua, uc, rfl, hc⟩ := h.form
  rw [ints_len] at *
  have hnil : ∀ (W : World) (a : Option Addr) (n c : Nat), (binOp .eql 28 (.slice a n c) (.slice none 0 0)).run Tryz.prog W = .ok (.bool a.isNone) W := fun W a n c => Lib.run_eql_slice_nil W _ _ a n c 0 0 Tryz.underlying28
  cases ua with
  | none =>
    have hl : l = [] := by
      obtain ⟨_, a, cap, he, _, ⟨hc2, hn⟩, _⟩ := h
      simp only [Value.slice.injEq] at he
      have h0 := hn he.1.symm
      rw [ints_len] at *
      exact List.eq_nil_of_length_eq_zero (by omega)
    subst hl
    clear h hc
    go_enter Tryz.func56, Tryz.ntmps56
    go_wp2
    go_ret
    exact ⟨_, rfl, ownI_nil _ _, Below.refl _ _⟩
  | some ad =>
    clear h hc
    go_enter Tryz.func56, Tryz.ntmps56
    go_wp2_with (first | (at_builtin; refine app_ints rfl _ _ rfl w.heap.size _ [] rfl (World.ownsRow_made w #[] 0 (Nat.le_refl _) (Nat.zero_le _) (by simp)) _ l rfl (H.out.below ((Below.refl _ _).alloc (Nat.le_refl _) _)) (by simpa using (by omega : l.length ≤ 10000000)) (by simp) ?_))
    intro v' w' own grown _
    have HO := Lib.hid own
    have HB := Lib.hid (((Below.refl _ w).alloc (Nat.le_refl _) (.cells #[] 3)).grown grown (by simp) (by intro k hk; simp [Value.ownBlock] at hk; omega))
    clear own grown
    go_wp2
    go_ret
    exact ⟨_, rfl, by simpa using HO.out, HB.out⟩
end Go.Proofs.YtgplajofemencaaGreat
/- Going over a slice of nodes (slices.Values); owned; what Once answers. -/
namespace Go.Proofs.YtgplajofemencaaGreat
open Go.ChangeShapes Go.WideShapes Go.ChangeAt Go.RowKit Go.Shelf

attribute [local go_sem] Oper.semAt_some

theorem turn_low {w W W' : World} {A A' : Nat → Prop} (hw : Below w.heap.size w W) (h : Turn A A' W W') (hA : ∀ k, A k → w.heap.size ≤ k) : Below w.heap.size w W' := hw.trans (h.below hA hw.size)
/-- A node's box turns: a row of numbers does not. -/
theorem OwnI.keptB {w w' : World} {B r : Nat} {v : Value} {l : List Int} {s : Sta} {c : Int} {u : Value} (h : OwnI w B v l) (hg : w.grownBy w' (some r)) (hb : NodB w r s c u) : OwnI w' B v l := by
  refine h.kept hg ?_
  rcases h.2 with ⟨rfl, _⟩ | ⟨g', cap', cur, rfl, _, hb', _⟩
  · exact .inl rfl
  · right
    simp only [Value.ownBlock, ne_eq, Option.some.injEq]
    intro e
    subst e
    rw [show w.heap[g']? = _ from hb] at hb'
    simp at hb'
/-- The path of one of the nodes is stored. -/
theorem OwnN.path {w0 w : World} {B g n cap : Nat} {l : List Nod} (h : OwnN w0 B w (.slice (some ⟨g, 0, none⟩) n cap) l) (i : Nat) (x : Nod) (hi : l[i]? = some x) (pa : Option Addr) (pn pc : Nat) (hp : PathB w0 w (.slice pa pn pc) x.path) :
    OwnN w0 B (w.setCell ⟨g, i * 10 + 9, none⟩ (.slice pa pn pc)) (.slice (some ⟨g, 0, none⟩) n cap) l ∧ w.frozen? ⟨g, i * 10 + 9, none⟩ = false ∧ (∃ u, w.cell? ⟨g, i * 10 + 9, none⟩ = some u) ∧ B ≤ g := by
  obtain ⟨raw, h1, h2⟩ := h
  obtain ⟨r, hr, e1, e2, _⟩ := h2.at i x hi
  have hir := (List.getElem?_eq_some_iff.1 hr).1
  have hn : n = raw.length := by
    obtain ⟨a, c, he⟩ := h1.shape
    simp at he; exact he.2.1
  subst hn
  have h' : w.ownsRow B 30 10 (.slice (some ⟨g, 0, none⟩) raw.length cap) raw.length (gflat nvL raw) := h1
  obtain ⟨c, fr, hb⟩ : ∃ c fr, w.heap[g]? = some (.cells c 30 fr) := by
    rcases h1.2 with ⟨he, _⟩ | ⟨g', cap', cur, he, _, hg, _⟩
    · cases he
    · simp only [Value.slice.injEq, Option.some.injEq, Addr.mk.injEq, and_true] at he
      obtain ⟨rfl, _⟩ := he
      exact ⟨_, _, hg⟩
  have hlen := gflat_len encNod raw
  have hin : i * 10 + 10 ≤ raw.length * 10 := by omega
  have hset : gflat nvL (raw.set i ⟨r.s, r.c, pa, pn, pc⟩) = (gflat nvL raw).set (i * 10 + 9) (.slice pa pn pc) := by
    rw [gflat_set encNod raw i _ hir]
    refine List.ext_getElem? (fun j => ?_)
    rw [setAt_at _ _ _ _ (by rw [hlen]; exact hin), encNod.len]
    by_cases hj : i * 10 ≤ j ∧ j < i * 10 + 10
    · rw [if_pos hj]
      by_cases h9 : j = i * 10 + 9
      · subst h9
        rw [List.getElem?_set_self (by omega), show i * 10 + 9 - i * 10 = 9 by omega]
        rfl
      · rw [List.getElem?_set_ne (fun e => h9 e.symm)]
        have hat := gflat_at encNod raw i (j - i * 10) r hr (by omega)
        rw [show i * 10 + (j - i * 10) = j by omega] at hat
        rw [hat]
        obtain ⟨q, hq⟩ : ∃ q, j - i * 10 = q := ⟨_, rfl⟩
        rw [hq]
        match q, (show q < 9 by omega) with
        | 0, _ => rfl
        | 1, _ => rfl
        | 2, _ => rfl
        | 3, _ => rfl
        | 4, _ => rfl
        | 5, _ => rfl
        | 6, _ => rfl
        | 7, _ => rfl
        | 8, _ => rfl
    · rw [if_neg hj, List.getElem?_set_ne (by omega)]
  have hg := turn_cell w g (i * 10 + 9) (.slice pa pn pc)
  refine ⟨⟨raw.set i ⟨r.s, r.c, pa, pn, pc⟩, ?_, ?_⟩, h'.frozenAt _, ?_, (World.ownsRow.lt h' g rfl).1⟩
  · unfold OwnG
    rw [List.length_set, hset]
    exact (h'.stored (i * 10 + 9) _).1
  · have h3 := h2.set i (r := ⟨r.s, r.c, pa, pn, pc⟩) (n := x) ⟨e1, e2, hp⟩
    rw [show l.set i x = l by
      refine List.ext_getElem? (fun j => ?_)
      by_cases e : j = i
      · subst e; rw [List.getElem?_set_self (List.getElem?_eq_some_iff.1 hi).1, hi]
      · rw [List.getElem?_set_ne (fun h => e h.symm)]] at h3
    exact h3.mono (fun v l h => h.kept hg hb)
  · rw [h'.cellAt _ (by omega), List.getElem?_eq_getElem (by omega)]
    exact ⟨_, rfl⟩
set_option maxRecDepth 1000000 in
set_option maxHeartbeats 4000000 in
theorem lowned_any {w0 w : World} {B : Nat} {v : Value} {l : List Nod} (h : OwnN w0 B w v l) (hB : w0.heap.size ≤ B) (hBw : B ≤ w.heap.size) (hb0 : Below w0.heap.size w0 w) (hpath : ∀ n ∈ l, n.path.length ≤ 1000000) (hlen : l.length ≤ 1000000) :
    Calls Tryz.prog 43 #[v] w fun e w' => e = .returned v ∧ OwnN w0 B w' v l ∧ Below B w w' := by
  have H := Lib.hid h
  have HW0 := Lib.hid hb0
  have HP := Lib.hid hpath
  have HBB := Lib.hid (show w0.heap.size ≤ B ∧ B ≤ w.heap.size from ⟨hB, hBw⟩)
  obtain ⟨va, vc, rfl⟩ := h.shape
  have hl63 : l.length ≤ 9223372036854775807 := by omega
  clear h hb0 hpath hB hBw
  go_enter Tryz.func43, Tryz.ntmps43
  go_wp2_with fail
  go_loopw [6] (fun i wr => ∃ k : Nat, k ≤ l.length ∧ i = .int .i64 (k : Int) ∧ OwnN w0 B wr (.slice va l.length vc) l ∧ Below B w wr) (fun i _ => l.length - (intOf i).toNat)
  case atStart => exact ⟨0, Nat.zero_le _, rfl, H.out, Below.refl _ _⟩
  case round =>
    obtain ⟨k, hk, rfl, hon, hbw⟩ := hrel
    have HON := Lib.hid hon
    have HBW := Lib.hid hbw
    clear hon hbw
    by_cases hlt : k < l.length
    · have HK := Lib.hid hlt
      obtain ⟨g, gc, hv, _, _, _, _⟩ := OwnN.block HON.out (by omega)
      simp only [Value.slice.injEq, true_and] at hv
      obtain ⟨rfl, rfl⟩ := hv
      obtain ⟨pa, pc, hn1, hl1, hr1⟩ := nrowB_here HON.out.rowB k _ (nodAt_is hlt)
      rw [Nat.zero_add] at hn1
      have y9 := hn1.2.2.2.2.2.2.2.2.2
      have HW0r := Lib.hid (HW0.out.trans (HBW.out.mono HBB.out.1))
      have HR1 := Lib.hid (hr1.row HW0r.out)
      have HP1 := Lib.hid (HP.out _ (nodAt_mem hlt))
      have HX := Lib.hid (nodAt_is hlt)
      have hki : (k : Int) < (l.length : Int) := by omega
      have hk0 : (0 : Int) ≤ (k : Int) := by omega
      have hk2 : IntKind.i64.wrap ((k : Int) + 1) = (k : Int) + 1 := IntWalk.i64_in _ (by omega)
      obtain ⟨x, hx⟩ : ∃ x, nodAt l k = x := ⟨_, rfl⟩
      rw [hx] at y9 HR1 HP1 HX
      clear hn1 hl1 hr1 hx hlt hk
      go_wp2_with fail
      refine (gclone_any HR1.out HP1.out).mono ?_
      rintro e w2 ⟨z, rfl, hz, hb⟩
      obtain ⟨za, zc, rfl⟩ := hz.shape
      have HBs := Lib.hid (Nat.le_trans HBB.out.2 HBW.out.size)
      obtain ⟨q1, q2, ⟨q3, q4⟩, q5⟩ := (HON.out.below hb).path k x HX.out za x.path.length zc (.inr (hz.less (Nat.le_trans HBB.out.1 HBs.out)))
      have HQ1 := Lib.hid q1
      have HB2 := Lib.hid ((HBW.out.trans (hb.mono HBs.out)).setCell (p := ⟨g, k * 10 + 9, none⟩) q5 (.slice za x.path.length zc))
      clear hz hb q1 q5 y9
      go_wp2_with fail
      go_roundw
      case rel => exact ⟨k + 1, by have := HK.out; omega, by go_num, HQ1.out, HB2.out⟩
      case measure => have := HK.out; simp [intOf]; omega
    · clear hk
      go_wp2
      go_ret
      exact ⟨rfl, HON.out, HBW.out⟩
end Go.Proofs.YtgplajofemencaaGreat
