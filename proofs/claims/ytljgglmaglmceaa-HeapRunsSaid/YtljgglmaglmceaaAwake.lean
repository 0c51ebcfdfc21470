/- The chapter's example, and how one heap lives through a law. -/
import Derived.Test.YtljgglmaglmceaaTakes
namespace Go.Proofs.Ytljgglmaglmceaa
open Go.ChangeShapes Go.WideShapes Go.ChangeAt Go.RowKit

/-- A heap made behind w0, in which m is; all that was there at w0 is as it was. A: blocks that are none of the heap's. -/
def Live (w0 w : World) (b : Nat) (o : Int) (m : List Ent) (A : Nat → Prop) : Prop :=
  ∃ v, HeapOf w w0.heap.size b o v m ∧ Below w0.heap.size w0 w ∧ ∀ k, A k → k < w.heap.size ∧ ¬ Foot b v k
/-- The blocks of A are as they were. -/
def Same (A : Nat → Prop) (w w' : World) : Prop := ∀ k, A k → w'.heap[k]? = w.heap[k]?
def noBlock : Nat → Prop := fun _ => False
theorem live_post {w0 w w' : World} {b : Nat} {o : Int} {v : Value} {m m' : List Ent} {A : Nat → Prop} (h : HeapOf w w0.heap.size b o v m) (hb : Below w0.heap.size w0 w) (hA : ∀ k, A k → k < w.heap.size ∧ ¬ Foot b v k)
    (hp : HeapPost w w0.heap.size b o v m' w') : Live w0 w' b o m' A ∧ Same A w w' := by
  obtain ⟨v', h1, h2, h3⟩ := hp
  refine ⟨⟨v', h1, hb.trans (turned_below h2 (fun k hk => (h.lt k hk).1) hb.size), fun k hk => ⟨Nat.lt_of_lt_of_le (hA k hk).1 h2.size, fun hf => ?_⟩⟩, fun k hk => h2.block k (hA k hk).1 (hA k hk).2⟩
  rcases h3 k hf with h | h
  · exact (hA k hk).2 h
  · have := (hA k hk).1; omega
theorem live_below {w0 w w' : World} {b : Nat} {o : Int} {m : List Ent} {A : Nat → Prop} (h : Live w0 w b o m A) (hb : Below w.heap.size w w') : Live w0 w' b o m A ∧ Same A w w' := by
  obtain ⟨v, h1, h2, h3⟩ := h
  exact ⟨⟨v, h1.below hb, h2.trans (hb.mono h2.size), fun k hk => ⟨Nat.lt_of_lt_of_le (h3 k hk).1 hb.size, (h3 k hk).2⟩⟩, fun k hk => hb.block k (h3 k hk).1⟩
theorem live_alloc {w0 w : World} {b : Nat} {o : Int} {m : List Ent} {A : Nat → Prop} (h : Live w0 w b o m A) (O : Obj) (A' : Nat → Prop) (hA : ∀ k, A' k → A k ∨ k = w.heap.size) : Live w0 (w.alloc O) b o m A' := by
  obtain ⟨v, h1, h2, h3⟩ := h
  refine ⟨v, h1.below ((Below.refl _ w).alloc (Nat.le_refl _) O), h2.alloc h2.size O, fun k hk => ?_⟩
  have hs : (w.alloc O).heap.size = w.heap.size + 1 := by simp
  rcases hA k hk with h | h
  · have := h3 k h; exact ⟨by omega, this.2⟩
  · refine ⟨by omega, fun hf => ?_⟩
    have := (h1.lt k hf).2
    omega
theorem live_less {w0 w : World} {b : Nat} {o : Int} {m : List Ent} {A : Nat → Prop} (h : Live w0 w b o m A) (A' : Nat → Prop) (hA : ∀ k, A' k → A k) : Live w0 w b o m A' := by
  obtain ⟨v, h1, h2, h3⟩ := h
  exact ⟨v, h1, h2, fun k hk => h3 k (hA k hk)⟩
theorem live_new {w0 w : World} (hb : Below w0.heap.size w0 w) (o : Int) : Live w0 (w.alloc (.cells #[.int .i64 o, .slice none 0 0] 48)) w.heap.size o [] noBlock :=
  ⟨_, new_of w _ hb.size o, hb.alloc hb.size _, fun _ hk => hk.elim⟩
theorem live_base {w0 w : World} {b : Nat} {o : Int} {m : List Ent} {A : Nat → Prop} (h : Live w0 w b o m A) : Below w0.heap.size w0 w := by
  obtain ⟨v, h1, h2, h3⟩ := h
  exact h2
theorem live_put {w0 w : World} {b : Nat} {o : Int} {m : List Ent} {A : Nat → Prop} (h : Live w0 w b o m A) (x : Ent) (hn : m.length ≤ 999) :
    Calls Try.prog 11 #[.pointer (some ⟨b, 0, none⟩), .agg #[.int .i64 x.b, .int .i64 x.d, .int .i64 x.n]] w fun e w' => e = .returned (.tuple #[]) ∧ Live w0 w' b o (x :: m) A ∧ Same A w w' := by
  obtain ⟨v, h1, h2, h3⟩ := h
  exact (hput_any h1 x hn).mono fun e w' ⟨he, hp⟩ => ⟨he, live_post h1 h2 h3 hp⟩
theorem live_take {w0 w : World} {b : Nat} {o : Int} {m : List Ent} {A : Nat → Prop} (h : Live w0 w b o m A) (hm : m ≠ []) (hn : m.length ≤ 1000) :
    Calls Try.prog 13 #[.pointer (some ⟨b, 0, none⟩)] w fun e w' => e = .returned (.tuple #[.agg #[.int .i64 (first o m).b, .int .i64 (first o m).d, .int .i64 (first o m).n], .bool true]) ∧ Live w0 w' b o (left o m) A ∧ Same A w w' := by
  obtain ⟨v, h1, h2, h3⟩ := h
  exact (htake_any h1 hm hn).mono fun e w' ⟨he, hp⟩ => ⟨he, live_post h1 h2 h3 hp⟩
theorem live_take_none {w0 w : World} {b : Nat} {o : Int} {A : Nat → Prop} (h : Live w0 w b o [] A) :
    Calls Try.prog 13 #[.pointer (some ⟨b, 0, none⟩)] w fun e w' => e = .returned (.tuple #[.agg #[.int .i64 0, .int .i64 0, .int .i64 0], .bool false]) ∧ Live w0 w' b o [] A ∧ Same A w w' := by
  obtain ⟨v, h1, h2, h3⟩ := h
  exact (htake_none h1).mono fun e w' ⟨he, hp⟩ => ⟨he, live_below ⟨v, h1, h2, h3⟩ hp⟩
theorem live_len {w0 w : World} {b : Nat} {o : Int} {m : List Ent} {A : Nat → Prop} (h : Live w0 w b o m A) : Calls Try.prog 15 #[.pointer (some ⟨b, 0, none⟩)] w fun e w' => e = .returned (.int .i64 m.length) ∧ w = w' := by
  obtain ⟨v, h1, h2, h3⟩ := h
  exact len_any h1
theorem live_least {w0 w : World} {b : Nat} {o : Int} {m : List Ent} {A : Nat → Prop} (h : Live w0 w b o m A) (hn : m.length ≤ 1000) : Calls Try.prog 16 #[.pointer (some ⟨b, 0, none⟩)] w fun e w' => e = .returned (.int .i64 (minB m)) ∧ Live w0 w' b o m A ∧ Same A w w' := by
  obtain ⟨v, h1, h2, h3⟩ := h
  exact (least_any h1 hn).mono fun e w' ⟨he, hp⟩ => ⟨he, live_below ⟨v, h1, h2, h3⟩ hp⟩
/-- The cells of an entry in a block of its own. -/
theorem block_ent {w : World} {N : Nat} {x0 x1 x2 : Value} {t : TypeId} (h : w.heap[N]? = some (.cells #[x0, x1, x2] t (0, 0))) : w.cell? ⟨N, 0, none⟩ = some x0 ∧ w.cell? ⟨N, 1, none⟩ = some x1 ∧ w.cell? ⟨N, 2, none⟩ = some x2 :=
  ⟨by rw [cell_of_row _ _ _ _ _ _ h]; rfl, by rw [cell_of_row _ _ _ _ _ _ h]; rfl, by rw [cell_of_row _ _ _ _ _ _ h]; rfl⟩

/-- What the example has put in. -/
def am : Nat → List Ent
  | 0 => []
  | k + 1 => ⟨0, 1 + 2 * (k : Int) % 3, k⟩ :: am k
theorem am_len : ∀ k, (am k).length = k
  | 0 => rfl
  | k + 1 => by simp [am, am_len k]
theorem am_first : first 1 (am 3) = ⟨0, 3, 1⟩ := by decide
theorem am_second : first 1 (left 1 (am 3)) = ⟨0, 2, 2⟩ := by decide
theorem am_left : (left 1 (left 1 (am 3))).length = 1 := by decide
theorem am_some : am 3 ≠ [] ∧ left 1 (am 3) ≠ [] := by decide

set_option maxRecDepth 1000000 in
set_option maxHeartbeats 1000000 in
theorem awake_any (w : World) : Calls Try.prog 9 #[] w fun e w' => e = .returned (.bool true) ∧ Below w.heap.size w w' := by
  go_enter Try.func9, Try.ntmps9
  go_wp2_with fail
  refine (new_any _ _).mono ?_
  rintro e w' ⟨rfl, rfl⟩
  have HL := Lib.hid (live_new (Below.refl w.heap.size w) 1)
  generalize w.alloc (.cells #[.int .i64 1, .slice none 0 0] 48) = w1 at *
  generalize hb : w.heap.size = b at HL ⊢
  clear hb
  go_wp2_with fail
  go_loopw [2] (fun i wr => ∃ k : Nat, k ≤ 3 ∧ i = .int .i64 k ∧ Live w wr b 1 (am k) noBlock) (fun i _ => 3 - (intOf i).toNat)
  case atStart => exact ⟨0, Nat.zero_le _, rfl, HL.out⟩
  case round =>
    obtain ⟨k, hk, rfl, hg⟩ := hrel
    have HG := Lib.hid hg
    clear hg
    by_cases hlt : k < 3
    · go_wp2_with fail
      refine (live_put HG.out ⟨0, 1 + 2 * (k : Int) % 3, k⟩ (by rw [am_len]; omega)).mono ?_
      rintro e w2 ⟨rfl, h2, -⟩
      have H2 := Lib.hid h2
      clear h2
      go_wp2
      go_roundw
      case rel => exact ⟨k + 1, by omega, by go_num, H2.out⟩
      case measure => simp [intOf]; omega
    · obtain rfl : k = 3 := by omega
      go_wp2_with fail
      refine (live_take HG.out am_some.1 (by rw [am_len]; omega)).mono ?_
      rw [am_first]
      rintro e w2 ⟨rfl, h2, -⟩
      have H2 := Lib.hid h2
      clear h2
      have H3 := Lib.hid (live_alloc H2.out (.cells #[.int .i64 0, .int .i64 3, .int .i64 1] 24) (fun k => k = w2.heap.size) (fun _ e => .inr e))
      have hbk := heap_alloc_new w2 (.cells #[.int .i64 0, .int .i64 3, .int .i64 1] 24)
      have HBk := Lib.hid hbk
      clear hbk
      go_wp2_with fail
      refine (live_take H3.out am_some.2 (by have := left_len 1 (am 3) am_some.1; rw [am_len] at this; omega)).mono ?_
      rw [am_second]
      rintro e w4 ⟨rfl, h4, s4⟩
      obtain ⟨c0, c1, c2⟩ := block_ent ((s4 _ rfl).trans HBk.out)
      have H5 := Lib.hid (live_alloc h4 (.cells #[.int .i64 0, .int .i64 2, .int .i64 2] 24) noBlock (fun _ e => e.elim))
      have hw4 := World.block_lt_of_cell? w4 _ c1
      clear h4 s4
      go_wp2_with fail
      refine (live_len H5.out).mono ?_
      rw [am_left]
      rintro e w5 ⟨rfl, rfl⟩
      go_wp2
      go_ret
      exact ⟨rfl, live_base H5.out⟩
end Go.Proofs.Ytljgglmaglmceaa
