/- What exchanging two entries of a queue does. -/
import Derived.Test.YtljgglmaglmceaaMem
import Derived.BigRegion
import Derived.Deep.RegionHeld3
namespace Go.Proofs.Ytljgglmaglmceaa
open Go.ChangeShapes Go.WideShapes Go.ChangeAt Go.RowKit

set_option maxRecDepth 1000000 in
set_option maxHeartbeats 4000000 in
theorem swap_walk (w : World) (b g n cap i j : Nat) (o x0 x1 x2 y0 y1 y2 : Int) (hi : i < n) (hj : j < n)
    (hq : w.cell? ⟨b, 1, none⟩ = some (.slice (some ⟨g, 0, none⟩) n cap))
    (a0 : w.cell? ⟨g, i * 4, none⟩ = some (.int .i64 x0)) (a1 : w.cell? ⟨g, i * 4 + 1, none⟩ = some (.int .i64 x1)) (a2 : w.cell? ⟨g, i * 4 + 2, none⟩ = some (.int .i64 x2)) (a3 : w.cell? ⟨g, i * 4 + 3, none⟩ = some (.int .i64 o))
    (c0 : w.cell? ⟨g, j * 4, none⟩ = some (.int .i64 y0)) (c1 : w.cell? ⟨g, j * 4 + 1, none⟩ = some (.int .i64 y1)) (c2 : w.cell? ⟨g, j * 4 + 2, none⟩ = some (.int .i64 y2)) (c3 : w.cell? ⟨g, j * 4 + 3, none⟩ = some (.int .i64 o))
    (hf : ∀ k, w.frozen? ⟨g, k, none⟩ = false) :
    Calls Try.prog 25 #[.pointer (some ⟨b, 1, none⟩), .int .i64 i, .int .i64 j] w fun e w' => e = .returned (.tuple #[]) ∧ w' = (set4 (set4 w g i o ⟨y0, y1, y2⟩) g j o ⟨x0, x1, x2⟩).drew := by
  obtain ⟨v0, d0⟩ := cell?_setCell_some (w := w) (p := ⟨g, i * 4, none⟩) (x := .int .i64 y0) (q := ⟨g, j * 4, none⟩) c0
  obtain ⟨t1, e1⟩ := cell?_setCell_some (w := w) (p := ⟨g, i * 4, none⟩) (x := .int .i64 y0) (q := ⟨g, j * 4 + 1, none⟩) c1
  obtain ⟨v1, d1⟩ := cell?_setCell_some (p := ⟨g, i * 4 + 1, none⟩) (x := .int .i64 y1) e1
  obtain ⟨t2, e2⟩ := cell?_setCell_some (w := w) (p := ⟨g, i * 4, none⟩) (x := .int .i64 y0) (q := ⟨g, j * 4 + 2, none⟩) c2
  obtain ⟨t3, e3⟩ := cell?_setCell_some (p := ⟨g, i * 4 + 1, none⟩) (x := .int .i64 y1) e2
  obtain ⟨v2, d2⟩ := cell?_setCell_some (p := ⟨g, i * 4 + 2, none⟩) (x := .int .i64 y2) e3
  obtain ⟨t4, e4⟩ := cell?_setCell_some (w := w) (p := ⟨g, i * 4, none⟩) (x := .int .i64 y0) (q := ⟨g, j * 4 + 3, none⟩) c3
  obtain ⟨t5, e5⟩ := cell?_setCell_some (p := ⟨g, i * 4 + 1, none⟩) (x := .int .i64 y1) e4
  obtain ⟨t6, e6⟩ := cell?_setCell_some (p := ⟨g, i * 4 + 2, none⟩) (x := .int .i64 y2) e5
  obtain ⟨v3, d3⟩ := cell?_setCell_some (p := ⟨g, i * 4 + 3, none⟩) (x := .int .i64 o) e6
  clear e1 e2 e3 e4 e5 e6
  go_enter Try.func25, Try.ntmps25
  go_wp2
  go_region
  go_end0
  exact ⟨rfl, rfl⟩

theorem foot_slice (b g n m cap : Nat) : Foot b (.slice (some ⟨g, 0, none⟩) n cap) = Foot b (.slice (some ⟨g, 0, none⟩) m cap) := rfl
theorem heapAt_drew {w : World} {B b : Nat} {o : Int} {v : Value} {l : List Ent} (h : HeapAt w B b o v l) : HeapAt w.drew B b o v l := ⟨h.base, h.blk, h.own, h.apart⟩
theorem swap_any {w : World} {B b : Nat} {o : Int} {v : Value} {l : List Ent} (h : HeapAt w B b o v l) (i j : Nat) (hi : i < l.length) (hj : j < l.length) :
    Calls Try.prog 25 #[.pointer (some ⟨b, 1, none⟩), .int .i64 i, .int .i64 j] w fun e w' => e = .returned (.tuple #[]) ∧ HeapAt w' B b o v (swapL l i j) ∧ Turned (Foot b v) w w' := by
  rcases h.form with ⟨_, hl⟩ | ⟨g, cap, rfl, _, _, _, _⟩
  · rw [hl] at hi; simp at hi
  · obtain ⟨a0, a1, a2, a3⟩ := h.ent i hi
    obtain ⟨c0, c1, c2, c3⟩ := h.ent j hj
    refine (swap_walk w b g l.length cap i j o (nth l i).b (nth l i).d (nth l i).n (nth l j).b (nth l j).d (nth l j).n hi hj h.items a0 a1 a2 a3 c0 c1 c2 c3 h.loose).mono ?_
    rintro e w' ⟨rfl, rfl⟩
    have h1 := h.set4 i hi (nth l j)
    have h2 := h1.set4 j (by simpa using hj) (nth l i)
    refine ⟨rfl, ?_, ?_⟩
    · have h3 := heapAt_drew h2
      have e1 : ((l.set i (nth l j)).set j (nth l i)).length = l.length := by simp
      rw [e1] at h3
      exact h3
    · have t1 := (set4_turned w g i o (nth l j)).trans (set4_turned _ g j o (nth l i)) (fun _ _ h => h)
      have t2 := t1.trans (turned_drewN (· = g) _ 1) (fun _ _ h => h)
      exact t2.mono fun k _ hk => .inr (by rw [hk]; rfl)

end Go.Proofs.Ytljgglmaglmceaa
