/- Rows of states, and a state that is added to, in memory. -/
import Derived.Test.YtclepdnpclmegaaGRow
import Derived.Test.YtclepdnpclmegaaRMath
import Derived.Test.YtclepdnpclmegaaXSNext
import Derived.Test.YtclepdnpclmegaaSArgs
namespace Go.Proofs.Ytclepdnpclmegaa
open Go.ChangeShapes Go.WideShapes Go.ChangeAt Go.RowKit

def boxJo (s : Sta) : Obj := .cells #[.int .i64 s.pos, .int .i64 s.car, .int .i64 s.time, .int .i64 s.load, .int .i64 s.first, .int .u64 s.must, .int .u64 s.may, .int .u64 s.on] 46
def JoB (w : World) (b : Nat) (s : Sta) : Prop := w.heap[b]? = some (.cells #[.int .i64 s.pos, .int .i64 s.car, .int .i64 s.time, .int .i64 s.load, .int .i64 s.first, .int .u64 s.must, .int .u64 s.may, .int .u64 s.on] 46 (0, 0))
section
variable {w w' : World} {b : Nat} {s : Sta}
theorem jo_new (w : World) (s : Sta) : JoB (w.alloc (boxJo s)) w.heap.size s := heap_alloc_new w _
theorem JoB.lt (k : JoB w b s) : b < w.heap.size := (Array.getElem?_eq_some_iff.1 k).1
theorem JoB.below {M : Nat} (k : JoB w b s) (hb : b < M) (hw : Below M w w') : JoB w' b s := by unfold JoB; rw [hw.block b hb]; exact k
theorem JoB.later (k : JoB w b s) (hw : Below w.heap.size w w') : JoB w' b s := k.below k.lt hw
theorem JoB.cell (k : JoB w b s) (i : Nat) : w.cell? ⟨b, i, none⟩ = (#[.int .i64 s.pos, .int .i64 s.car, .int .i64 s.time, .int .i64 s.load, .int .i64 s.first, .int .u64 s.must, .int .u64 s.may, .int .u64 s.on] : Array Value)[i]? := cell_of_row w b i _ _ _ k
theorem JoB.free (k : JoB w b s) (i : Nat) : w.frozen? ⟨b, i, none⟩ = false := frozen_of_row w b i _ _ k
theorem JoB.other (k : JoB w b s) (p : Addr) (x : Value) (hp : p.block ≠ b) : JoB (w.setCell p x) b s := by unfold JoB; rw [heap_setCell_other w p b x (fun e => hp e.symm)]; exact k
theorem JoB.c0 (k : JoB w b s) : w.cell? ⟨b, 0, none⟩ = some (.int .i64 s.pos) := k.cell 0
theorem JoB.c1 (k : JoB w b s) : w.cell? ⟨b, 1, none⟩ = some (.int .i64 s.car) := k.cell 1
theorem JoB.c2 (k : JoB w b s) : w.cell? ⟨b, 2, none⟩ = some (.int .i64 s.time) := k.cell 2
theorem JoB.c3 (k : JoB w b s) : w.cell? ⟨b, 3, none⟩ = some (.int .i64 s.load) := k.cell 3
theorem JoB.c4 (k : JoB w b s) : w.cell? ⟨b, 4, none⟩ = some (.int .i64 s.first) := k.cell 4
theorem JoB.c5 (k : JoB w b s) : w.cell? ⟨b, 5, none⟩ = some (.int .u64 s.must) := k.cell 5
theorem JoB.c6 (k : JoB w b s) : w.cell? ⟨b, 6, none⟩ = some (.int .u64 s.may) := k.cell 6
theorem JoB.c7 (k : JoB w b s) : w.cell? ⟨b, 7, none⟩ = some (.int .u64 s.on) := k.cell 7
theorem JoB.holds (k : JoB w b s) : Holds (cellsSt b s) w := ⟨k.c0, k.c1, k.c2, k.c3, k.c4, k.c5, k.c6, k.c7, trivial⟩
theorem JoB.set0 (k : JoB w b s) (x : Int) : JoB (w.setCell ⟨b, 0, none⟩ (.int .i64 x)) b ⟨x, s.car, s.time, s.load, s.first, s.must, s.may, s.on⟩ := by unfold JoB; rw [heap_setCell_same w b 0 _ _ _ k]; rfl
theorem JoB.set1 (k : JoB w b s) (x : Int) : JoB (w.setCell ⟨b, 1, none⟩ (.int .i64 x)) b ⟨s.pos, x, s.time, s.load, s.first, s.must, s.may, s.on⟩ := by unfold JoB; rw [heap_setCell_same w b 1 _ _ _ k]; rfl
theorem JoB.set2 (k : JoB w b s) (x : Int) : JoB (w.setCell ⟨b, 2, none⟩ (.int .i64 x)) b ⟨s.pos, s.car, x, s.load, s.first, s.must, s.may, s.on⟩ := by unfold JoB; rw [heap_setCell_same w b 2 _ _ _ k]; rfl
theorem JoB.set3 (k : JoB w b s) (x : Int) : JoB (w.setCell ⟨b, 3, none⟩ (.int .i64 x)) b ⟨s.pos, s.car, s.time, x, s.first, s.must, s.may, s.on⟩ := by unfold JoB; rw [heap_setCell_same w b 3 _ _ _ k]; rfl
theorem JoB.set4 (k : JoB w b s) (x : Int) : JoB (w.setCell ⟨b, 4, none⟩ (.int .i64 x)) b ⟨s.pos, s.car, s.time, s.load, x, s.must, s.may, s.on⟩ := by unfold JoB; rw [heap_setCell_same w b 4 _ _ _ k]; rfl
theorem JoB.set5 (k : JoB w b s) (x : Nat) : JoB (w.setCell ⟨b, 5, none⟩ (.int .u64 (x : Nat))) b ⟨s.pos, s.car, s.time, s.load, s.first, x, s.may, s.on⟩ := by unfold JoB; rw [heap_setCell_same w b 5 _ _ _ k]; rfl
theorem JoB.set6 (k : JoB w b s) (x : Nat) : JoB (w.setCell ⟨b, 6, none⟩ (.int .u64 (x : Nat))) b ⟨s.pos, s.car, s.time, s.load, s.first, s.must, x, s.on⟩ := by unfold JoB; rw [heap_setCell_same w b 6 _ _ _ k]; rfl
theorem JoB.set7 (k : JoB w b s) (x : Nat) : JoB (w.setCell ⟨b, 7, none⟩ (.int .u64 (x : Nat))) b ⟨s.pos, s.car, s.time, s.load, s.first, s.must, s.may, x⟩ := by unfold JoB; rw [heap_setCell_same w b 7 _ _ _ k]; rfl
end
theorem put_joined {w : World} {r : Nat} {s0 : Sta} (k : JoB w r s0) (s : Sta) : JoB (w.setCells r 0 (stL s)) r s :=
  (((((((k.set0 s.pos).set1 s.car).set2 s.time).set3 s.load).set4 s.first).set5 s.must).set6 s.may).set7 s.on
theorem fits_of {s : Sta} (h : SetsOk s) : Fits64 s := ⟨h.1, h.2.1, h.2.2⟩
theorem of_fits {s : Sta} (h : Fits64 s) : SetsOk s := ⟨h.must, h.may, h.on⟩
theorem encSta : Enc stL 8 := ⟨fun _ => rfl, by decide, fun s u hu => by
  simp only [stL, List.mem_cons, List.not_mem_nil, or_false] at hu
  rcases hu with rfl | rfl | rfl | rfl | rfl | rfl | rfl | rfl <;> rfl⟩
/-- A row of states. -/
def ARow (w : World) (v : Value) (l : List Sta) : Prop := GRow stL 8 w v l
theorem ARow.below {w w' : World} {v : Value} {l : List Sta} (h : ARow w v l) (hb : Below w.heap.size w w') : ARow w' v l := GRow.below encSta h hb
theorem ARow.form {w : World} {v : Value} {l : List Sta} (h : ARow w v l) : ∃ a cap, v = .slice a l.length cap ∧ l.length ≤ maxLen ∧ l.length ≤ cap ∧ cap ≤ maxLen := GRow.form h
/-- The cells of a state on a row. -/
def StAt (w : World) (b o : Nat) (s : Sta) : Prop :=
  w.cell? ⟨b, o, none⟩ = some (.int .i64 s.pos) ∧ w.cell? ⟨b, o + 1, none⟩ = some (.int .i64 s.car) ∧ w.cell? ⟨b, o + 2, none⟩ = some (.int .i64 s.time) ∧ w.cell? ⟨b, o + 3, none⟩ = some (.int .i64 s.load) ∧ w.cell? ⟨b, o + 4, none⟩ = some (.int .i64 s.first) ∧ w.cell? ⟨b, o + 5, none⟩ = some (.int .u64 s.must) ∧ w.cell? ⟨b, o + 6, none⟩ = some (.int .u64 s.may) ∧ w.cell? ⟨b, o + 7, none⟩ = some (.int .u64 s.on)
theorem stAt_of {w : World} {b o : Nat} {s : Sta} (h : GAt stL 8 w b o s) : StAt w b o s := ⟨h 0 (by omega), h 1 (by omega), h 2 (by omega), h 3 (by omega), h 4 (by omega), h 5 (by omega), h 6 (by omega), h 7 (by omega)⟩
theorem arow_at {w : World} {a : Option Addr} {n cap : Nat} {l : List Sta} (h : ARow w (.slice a n cap) l) (i : Nat) (s : Sta) (hi : l[i]? = some s) : ∃ b off, a = some ⟨b, off, none⟩ ∧ StAt w b (off + i * 8) s ∧ b < w.heap.size := by
  obtain ⟨b, off, ha, hc, hl⟩ := grow_at encSta h i s hi
  exact ⟨b, off, ha, stAt_of hc, hl⟩
theorem arow_here {w : World} {b off n cap : Nat} {l : List Sta} (h : ARow w (.slice (some ⟨b, off, none⟩) n cap) l) (i : Nat) (s : Sta) (hi : l[i]? = some s) : StAt w b (off + i * 8) s := stAt_of (grow_here encSta h i s hi)
theorem arow_nil (w : World) : ARow w (.slice none 0 0) [] := grow_nil w
/-- States that a call has made. -/
def OwnA (w : World) (B : Nat) (v : Value) (l : List Sta) : Prop := OwnG stL 8 24 w B v l
theorem OwnA.row {w : World} {B : Nat} {v : Value} {l : List Sta} (h : OwnA w B v l) : ARow w v l := OwnG.row encSta h
theorem cells_states : Try.prog.cellsOf 25 = 1 := by kernel_rfl
section
variable {H : Type} {enc : TypeId × Value → H} {w : World} {base : Nat} {spare : Nat → Bool} {held : Bool}
set_option maxRecDepth 1000000 in
theorem states_cells {fuel : Nat} {cs : List Value} {x : DataW H × List MemPlace} (h : DataW.trod enc Try.prog w base spare held fuel 25 cs = some x) : ∃ (v : Value) (l : List Sta), cs = [v] ∧ ARow w v l ∧ ∀ s ∈ l, SetsOk s := by
  rcases Go.Deep.open_slice Try.underlying25 h with ⟨h0, _⟩ | ⟨ad, ln, cp, m, n, D, Pl, hcs, hb, hl, hm, hmm, hx, hi⟩
  · exact ⟨_, [], h0, arow_nil w, fun s hs => nomatch hs⟩
  · have hlm : ln ≤ m := by rw [hmm]; split <;> omega
    obtain ⟨l, hll, hp⟩ := list_of (⟨0, 0, 0, 0, 0, 0, 0, 0⟩ : Sta) (fun i t => (∀ k, k < 8 → w.cell? ((ad.add (i * 8)).add k) = (stL t)[k]?) ∧ SetsOk t) ln (fun i hil => by
      obtain ⟨cs', hc, ht⟩ := hi i (by omega)
      rw [cells_state] at hc
      obtain ⟨t, rfl, _, hft⟩ := state_cells ht
      obtain ⟨_, _, hat⟩ := World.cells?_some hc
      exact ⟨t, fun k hk => hat k hk, hft⟩)
    subst hll
    have hg : ∀ i t, l[i]? = some t → (∀ k, k < 8 → w.cell? ((ad.add (i * 8)).add k) = (stL t)[k]?) ∧ SetsOk t := fun i t hit => by
      have hil := (List.getElem?_eq_some_iff.1 hit).1
      have := hp i hil
      simpa [List.getD_eq_getElem?_getD, nth, hit] using this
    refine ⟨_, l, hcs, grow_of encSta hl hm (fun i t hit => (hg i t hit).1), fun t ht => ?_⟩
    obtain ⟨i, hi2, rfl⟩ := List.mem_iff_getElem.1 ht
    exact (hg i _ (List.getElem?_eq_getElem hi2)).2
/-- States that a law is handed. -/
theorem open_states {a : Option Addr} {len cap : Nat} {d : DataW H} {p : List MemPlace} (h : DataW.Trod enc Try.prog w base spare held 25 (.slice a len cap) d p) :
    ∃ l : List Sta, ARow w (.slice a len cap) l ∧ ∀ s ∈ l, SetsOk s := by
  obtain ⟨fuel, hf⟩ := h
  obtain ⟨v, l, hcs, hr, hfit⟩ := states_cells hf
  simp [Value.cells] at hcs
  subst hcs
  exact ⟨l, hr, hfit⟩
end
/-- Boxes of two states. -/
theorem boxes_st (w : World) (s t : Sta) : StB ((w.alloc (boxSt s)).alloc (boxSt t)) w.heap.size s ∧ StB ((w.alloc (boxSt s)).alloc (boxSt t)) (w.heap.size + 1) t ∧ Below w.heap.size w ((w.alloc (boxSt s)).alloc (boxSt t)) := by
  have h1 : (w.alloc (boxSt s)).heap.size = w.heap.size + 1 := by simp
  have a1 := st_new (w.alloc (boxSt s)) t
  rw [h1] at a1
  exact ⟨(st_new w s).later ((Below.refl _ _).alloc (Nat.le_refl _) _), a1, ((Below.refl w.heap.size w).alloc (Nat.le_refl _) _).alloc (by rw [h1]; omega) _⟩
theorem boxes_st3 (w : World) (s t u : Sta) : StB (((w.alloc (boxSt s)).alloc (boxSt t)).alloc (boxSt u)) w.heap.size s ∧ StB (((w.alloc (boxSt s)).alloc (boxSt t)).alloc (boxSt u)) (w.heap.size + 1) t ∧ StB (((w.alloc (boxSt s)).alloc (boxSt t)).alloc (boxSt u)) (w.heap.size + 2) u ∧ Below w.heap.size w (((w.alloc (boxSt s)).alloc (boxSt t)).alloc (boxSt u)) := by
  obtain ⟨k1, k2, k3⟩ := boxes_st w s t
  have h1 : ((w.alloc (boxSt s)).alloc (boxSt t)).heap.size = w.heap.size + 2 := by simp
  have a1 := st_new ((w.alloc (boxSt s)).alloc (boxSt t)) u
  rw [h1] at a1
  exact ⟨k1.later ((Below.refl _ _).alloc (Nat.le_refl _) _), k2.later ((Below.refl _ _).alloc (Nat.le_refl _) _), a1, k3.alloc (by rw [h1]; omega) _⟩
end Go.Proofs.Ytclepdnpclmegaa
