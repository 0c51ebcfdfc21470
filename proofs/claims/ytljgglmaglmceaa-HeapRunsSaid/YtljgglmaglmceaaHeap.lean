/- What New, Put, Take, Len and Least of package heap do. -/
import Derived.Test.YtljgglmaglmceaaTake
namespace Go.Proofs.Ytljgglmaglmceaa
open Go.ChangeShapes Go.WideShapes Go.ChangeAt Go.RowKit

theorem HeapOf.kept {w w' : World} {B b : Nat} {o : Int} {v : Value} {m : List Ent} {F : Nat → Prop} (h : HeapOf w B b o v m) (ht : Turned F w w') (hF : ∀ k, Foot b v k → ¬ F k) : HeapOf w' B b o v m := by
  obtain ⟨l, h1, h2, h3⟩ := h
  exact ⟨l, h1.kept ht hF, h2, h3⟩
theorem HeapOf.below {w w' : World} {B b : Nat} {o : Int} {v : Value} {m : List Ent} (h : HeapOf w B b o v m) (hb : Below w.heap.size w w') : HeapOf w' B b o v m :=
  h.kept (turned_of_below (F := fun _ => False) hb) (fun _ _ hf => hf)
theorem HeapOf.lt {w : World} {B b : Nat} {o : Int} {v : Value} {m : List Ent} (h : HeapOf w B b o v m) : ∀ k, Foot b v k → B ≤ k ∧ k < w.heap.size := by
  obtain ⟨l, h1, _, _⟩ := h
  exact h1.lt
theorem HeapOf.order {w : World} {B b : Nat} {o : Int} {v : Value} {m : List Ent} (h : HeapOf w B b o v m) : w.cell? ⟨b, 0, none⟩ = some (.int .i64 o) := by
  obtain ⟨l, h1, _, _⟩ := h
  exact h1.order
theorem HeapPost.back {w wa w' : World} {B b : Nat} {o : Int} {v : Value} {m : List Ent} (hb : Below w.heap.size w wa) (h : HeapPost wa B b o v m w') : HeapPost w B b o v m w' := by
  obtain ⟨v', h1, h2, h3⟩ := h
  refine ⟨v', h1, (turned_of_below (F := Foot b v) hb).trans h2 (fun _ _ hf => hf), fun k hk => ?_⟩
  rcases h3 k hk with h | h
  · exact .inl h
  · exact .inr (Nat.le_trans hb.size h)
/-- The new memory of a call, behind it. -/
theorem HeapPost.set {w w1 : World} {B b : Nat} {o : Int} {v : Value} {m : List Ent} (h : HeapPost w B b o v m w1) {w2 : World} {N : Nat} (hN : w.heap.size ≤ N) (hN' : ∀ v', HeapOf w1 B b o v' m → ∀ k, Foot b v' k → k ≠ N) (ht : Turned (· = N) w1 w2) : HeapPost w B b o v m w2 := by
  obtain ⟨v', h1, h2, h3⟩ := h
  exact ⟨v', h1.kept ht (fun k hk => hN' v' h1 k hk), h2.trans ht (fun i hi e => by omega), h3⟩

theorem new_any (o : Int) (w : World) : Calls Try.prog 10 #[.int .i64 o] w fun e w' => e = .returned (.pointer (some ⟨w.heap.size, 0, none⟩)) ∧ w.alloc (.cells #[.int .i64 o, .slice none 0 0] 48) = w' := by
  go_enter Try.func10, Try.ntmps10
  go_wp2
  go_ret
  exact ⟨rfl, rfl⟩
theorem new_of (w : World) (B : Nat) (hB : B ≤ w.heap.size) (o : Int) : HeapOf (w.alloc (.cells #[.int .i64 o, .slice none 0 0] 48)) B w.heap.size o (.slice none 0 0) [] :=
  ⟨[], ⟨hB, heap_alloc_new w _, World.ownsRow_nil _ _ _ _, by simp [Value.ownBlock]⟩, fun i _ h => by simp at h, .refl _⟩

theorem len_nil (w : World) : Calls Try.prog 15 #[.pointer none] w fun e w' => e = .returned (.int .i64 0) ∧ w = w' := by
  go_enter Try.func15, Try.ntmps15
  go_wp2
  go_ret
  exact ⟨rfl, rfl⟩
theorem len_walk (w : World) (b n cap : Nat) (a : Option Addr) (hq : w.cell? ⟨b, 1, none⟩ = some (.slice a n cap)) : Calls Try.prog 15 #[.pointer (some ⟨b, 0, none⟩)] w fun e w' => e = .returned (.int .i64 n) ∧ w = w' := by
  go_enter Try.func15, Try.ntmps15
  go_wp2
  go_ret
  exact ⟨rfl, rfl⟩
theorem len_any {w : World} {B b : Nat} {o : Int} {v : Value} {m : List Ent} (h : HeapOf w B b o v m) : Calls Try.prog 15 #[.pointer (some ⟨b, 0, none⟩)] w fun e w' => e = .returned (.int .i64 m.length) ∧ w = w' := by
  obtain ⟨l, h1, _, h3⟩ := h
  rw [← h3.length_eq]
  have hq := h1.items
  rcases h1.form with ⟨rfl, rfl⟩ | ⟨g, cap, rfl, _⟩
  · exact len_walk w b 0 0 none hq
  · exact len_walk w b l.length cap _ hq

set_option maxRecDepth 1000000 in
theorem hput_any {w : World} {B b : Nat} {o : Int} {v : Value} {m : List Ent} (h : HeapOf w B b o v m) (x : Ent) (hn : m.length ≤ 999) :
    Calls Try.prog 11 #[.pointer (some ⟨b, 0, none⟩), entV x] w fun e w' => e = .returned (.tuple #[]) ∧ HeapPost w B b o v (x :: m) w' := by
  unfold entV
  have HTa := Lib.hid ((Below.refl _ w).alloc (Nat.le_refl _) (.cells #[.int .i64 x.b, .int .i64 x.d, .int .i64 x.n] 24))
  have HA := Lib.hid (h.below HTa.out)
  have ho := HA.out.order
  have hnew := heap_alloc_new w (.cells #[.int .i64 x.b, .int .i64 x.d, .int .i64 x.n] 24)
  have p0 : (w.alloc (.cells #[.int .i64 x.b, .int .i64 x.d, .int .i64 x.n] 24)).cell? ⟨w.heap.size, 0, none⟩ = some (.int .i64 x.b) := by rw [cell_of_row _ _ _ _ _ _ hnew]; rfl
  have p1 : (w.alloc (.cells #[.int .i64 x.b, .int .i64 x.d, .int .i64 x.n] 24)).cell? ⟨w.heap.size, 1, none⟩ = some (.int .i64 x.d) := by rw [cell_of_row _ _ _ _ _ _ hnew]; rfl
  have p2 : (w.alloc (.cells #[.int .i64 x.b, .int .i64 x.d, .int .i64 x.n] 24)).cell? ⟨w.heap.size, 2, none⟩ = some (.int .i64 x.n) := by rw [cell_of_row _ _ _ _ _ _ hnew]; rfl
  clear hnew h
  go_enter Try.func11, Try.ntmps11
  go_wp2_with fail
  generalize w.alloc (.cells #[.int .i64 x.b, .int .i64 x.d, .int .i64 x.n] 24) = wa at *
  generalize hN : w.heap.size = N at p0 p1 p2 ⊢
  clear hN
  go_still_tail 9, (by kernel_rfl)
  change wpList _ _ _ _ _ wa.drew
  have HT2 := Lib.hid (HTa.out.drew)
  have HA2 := Lib.hid (HA.out.below ((Below.refl _ _).drew))
  generalize wa.drew = w2 at *
  go_wp2_with fail
  refine (put_any HA2.out x hn).mono ?_
  rintro e w' ⟨rfl, hp⟩
  have HP := Lib.hid (hp.back HT2.out)
  clear hp
  go_wp2
  go_end0
  exact ⟨rfl, HP.out⟩
theorem hput_nil (x : Ent) (w : World) : Calls Try.prog 11 #[.pointer none, entV x] w fun e w' => e = .returned (.tuple #[]) ∧ Below w.heap.size w w' := by
  unfold entV
  go_enter Try.func11, Try.ntmps11
  go_wp2
  exact bodyPost_ret (v := .tuple #[]) (by simp [results, Try.results11, go_sem]) rfl ⟨rfl, (Below.refl _ _).alloc (Nat.le_refl _) _⟩
end Go.Proofs.Ytljgglmaglmceaa
