/- What Take and Least of package heap do. -/
import Derived.Test.YtljgglmaglmceaaHeap
namespace Go.Proofs.Ytljgglmaglmceaa
open Go.ChangeShapes Go.WideShapes Go.ChangeAt Go.RowKit

theorem field_entry (x0 x1 x2 x3 : Value) (w : World) : (Instr.field 51 (.agg #[x0, x1, x2, x3]) 0).run Try.prog w = .ok (.agg #[x0, x1, x2]) w := by kernel_rfl
def set3 (w : World) (g i : Nat) (x : Ent) : World :=
  ((w.setCell ⟨g, i, none⟩ (.int .i64 x.b)).setCell ⟨g, i + 1, none⟩ (.int .i64 x.d)).setCell ⟨g, i + 2, none⟩ (.int .i64 x.n)
theorem set3_turned (w : World) (g i : Nat) (x : Ent) : Turned (· = g) w (set3 w g i x) :=
  ((turned_set (F := (· = g)) w ⟨g, i, none⟩ _ rfl).trans (turned_set (F := (· = g)) _ ⟨g, i + 1, none⟩ _ rfl) (fun _ _ h => h)).trans (turned_set (F := (· = g)) _ ⟨g, i + 2, none⟩ _ rfl) (fun _ _ h => h)
/-- The call's own block, and the heap behind its store. -/
theorem htake_done {w w6 : World} {B b : Nat} {o : Int} {v : Value} {m m' : List Ent} {Z : Obj} (h : HeapOf w B b o v m) (h6 : HeapPost (w.alloc Z) B b o v m' w6) :
    w6.heap[w.heap.size]? = some Z ∧ ∀ x, HeapPost w B b o v m' (set3 w6 w.heap.size 0 x) := by
  obtain ⟨v', h1, h2, h3⟩ := h6
  have hs : (w.alloc Z).heap.size = w.heap.size + 1 := by simp
  have hl := h.lt
  refine ⟨?_, fun x => ?_⟩
  · rw [h2.block _ (by omega) (fun hf => by have := hl _ hf; omega)]
    exact heap_alloc_new w Z
  · have t0 : Turned (Foot b v) w (w.alloc Z) := turned_of_below ((Below.refl _ w).alloc (Nat.le_refl _) Z)
    refine ⟨v', h1.kept (set3_turned w6 w.heap.size 0 x) (fun k hk e => ?_), (t0.trans h2 (fun _ _ hf => hf)).trans (set3_turned w6 w.heap.size 0 x) (fun i hi e => by omega), fun k hk => ?_⟩
    · rcases h3 k hk with h | h
      · have := hl k h; omega
      · omega
    · rcases h3 k hk with h | h
      · exact .inl h
      · exact .inr (by omega)

set_option maxRecDepth 1000000 in
theorem htake_none {w : World} {B b : Nat} {o : Int} {v : Value} (h : HeapOf w B b o v []) :
    Calls Try.prog 13 #[.pointer (some ⟨b, 0, none⟩)] w fun e w' => e = .returned (.tuple #[entV ⟨0, 0, 0⟩, .bool false]) ∧ Below w.heap.size w w' := by
  have HA := Lib.hid (h.below ((Below.refl _ w).alloc (Nat.le_refl _) (.cells #[.int .i64 0, .int .i64 0, .int .i64 0] 24)))
  go_enter Try.func13, Try.ntmps13
  go_wp2_with fail
  refine (len_any HA.out).mono ?_
  rintro e w' ⟨rfl, rfl⟩
  go_wp2
  refine bodyPost_ret (v := .tuple #[entV ⟨0, 0, 0⟩, .bool false]) ?_ rfl ⟨rfl, (Below.refl _ _).alloc (Nat.le_refl _) _⟩
  simp [results, Try.results13, go_sem, entV]
theorem htake_nil (w : World) :
    Calls Try.prog 13 #[.pointer none] w fun e w' => e = .returned (.tuple #[entV ⟨0, 0, 0⟩, .bool false]) ∧ Below w.heap.size w w' := by
  go_enter Try.func13, Try.ntmps13
  go_wp2_with fail
  refine (len_nil _).mono ?_
  rintro e w' ⟨rfl, rfl⟩
  go_wp2
  refine bodyPost_ret (v := .tuple #[entV ⟨0, 0, 0⟩, .bool false]) ?_ rfl ⟨rfl, (Below.refl _ _).alloc (Nat.le_refl _) _⟩
  simp [results, Try.results13, go_sem, entV]
set_option maxRecDepth 1000000 in
theorem htake_any {w : World} {B b : Nat} {o : Int} {v : Value} {m : List Ent} (h : HeapOf w B b o v m) (hm : m ≠ []) (hn : m.length ≤ 1000) :
    Calls Try.prog 13 #[.pointer (some ⟨b, 0, none⟩)] w fun e w' => e = .returned (.tuple #[entV (first o m), .bool true]) ∧ HeapPost w B b o v (left o m) w' := by
  have HA := Lib.hid (h.below ((Below.refl _ w).alloc (Nat.le_refl _) (.cells #[.int .i64 0, .int .i64 0, .int .i64 0] 24)))
  have H := Lib.hid h
  have h0 : 0 < m.length := by cases m with | nil => exact absurd rfl hm | cons _ _ => simp
  have h1 : ((m.length : Int) == 0) = false := by simp; omega
  have HM := Lib.hid hm
  clear h hm
  go_enter Try.func13, Try.ntmps13
  go_wp2_with fail
  refine (len_any HA.out).mono ?_
  rintro e w' ⟨rfl, rfl⟩
  go_wp2_with fail
  refine (take_any HA.out HM.out hn).mono ?_
  rintro e w6 ⟨rfl, h6⟩
  obtain ⟨hb, hd⟩ := htake_done H.out h6
  obtain ⟨x, hx⟩ : ∃ x, first o m = x := ⟨_, rfl⟩
  rw [hx]
  have HX := Lib.hid hx
  clear hx
  have HD := Lib.hid (hd x)
  clear h6 hd
  have n0 : w6.cell? ⟨w.heap.size, 0, none⟩ = some (.int .i64 0) := by rw [cell_of_row _ _ _ _ _ _ hb]; rfl
  have n1 : w6.cell? ⟨w.heap.size, 1, none⟩ = some (.int .i64 0) := by rw [cell_of_row _ _ _ _ _ _ hb]; rfl
  have n2 : w6.cell? ⟨w.heap.size, 2, none⟩ = some (.int .i64 0) := by rw [cell_of_row _ _ _ _ _ _ hb]; rfl
  have nf := fun j => frozen_of_row _ _ j _ _ hb
  clear hb
  unfold plcV
  have hfl := field_entry
  go_wp2
  refine bodyPost_ret (v := .tuple #[entV x, .bool true]) ?_ rfl ⟨by rw [HX.out], HD.out⟩
  simp [results, Try.results13, go_sem, n0, n1, n2, entV]

theorem least_nil (w : World) : Calls Try.prog 16 #[.pointer none] w fun e w' => e = .returned (.int .i64 1152921504606846976) ∧ w = w' := by
  go_enter Try.func16, Try.ntmps16
  go_wp2_with fail
  refine (len_nil _).mono ?_
  rintro e w' ⟨rfl, rfl⟩
  go_wp2
  go_ret
  exact ⟨rfl, rfl⟩
theorem least_none {w : World} {B b : Nat} {o : Int} {v : Value} (h : HeapOf w B b o v []) :
    Calls Try.prog 16 #[.pointer (some ⟨b, 0, none⟩)] w fun e w' => e = .returned (.int .i64 (minB [])) ∧ Below w.heap.size w w' := by
  have H := Lib.hid h
  clear h
  go_enter Try.func16, Try.ntmps16
  go_wp2_with fail
  refine (len_any H.out).mono ?_
  rintro e w' ⟨rfl, rfl⟩
  go_wp2
  go_ret
  exact ⟨rfl, Below.refl _ _⟩
theorem minFrom_all (l : List Ent) (h : 0 < l.length) : minFrom (nth l 0).b l = minB l := by
  cases l with
  | nil => simp at h
  | cons x r => show minFrom (min x.b x.b) r = minFrom x.b r; rw [Int.min_self]
set_option maxRecDepth 1000000 in
set_option maxHeartbeats 1000000 in
theorem least_some {w : World} {B b g n cap : Nat} {o : Int} {l m : List Ent} (h : HeapAt w B b o (.slice (some ⟨g, 0, none⟩) n cap) l) (hr : HOrd o l) (hp : l.Perm m) (hl : l.length = n) (h0 : 0 < n) (hn : n ≤ 1000) :
    Calls Try.prog 16 #[.pointer (some ⟨b, 0, none⟩)] w fun e w' => e = .returned (.int .i64 (minB m)) ∧ Below w.heap.size w w' := by
  have H := Lib.hid h
  have HL := Lib.hid hl
  have HO := Lib.hid (show HeapOf w B b o (.slice (some ⟨g, 0, none⟩) n cap) m from ⟨l, h, hr, hp⟩)
  have HML := Lib.hid (hp.length_eq.symm.trans hl)
  have HM := Lib.hid (show minFrom (nth l 0).b l = minB m by rw [minFrom_all l (by omega), minB_perm l m hp])
  have hq := h.items
  obtain ⟨a0, _, _, _⟩ := HeapAt.ent (w := w) (l := l) (by rw [hl]; exact h) 0 (by omega)
  simp only [Nat.zero_mul] at a0
  clear h hr hp hl
  have h1 : ((n : Int) == 0) = false := by simp; omega
  go_enter Try.func16, Try.ntmps16
  go_wp2_with fail
  refine (len_any HO.out).mono ?_
  rw [HML.out]
  rintro e w' ⟨rfl, rfl⟩
  go_wp2_with fail
  go_loopw [3, 5, 24] (fun t _ i wr => ∃ k : Nat, k ≤ n ∧ i = .int .i64 k ∧ t = .int .i64 (minFrom (nth l 0).b (l.take k)) ∧ Below w.heap.size w wr) (fun _ _ i _ => n - (intOf i).toNat)
  case atStart => exact ⟨0, Nat.zero_le _, rfl, rfl, Below.refl _ _⟩
  case round =>
    obtain ⟨k, hk, rfl, rfl, hb⟩ := hrel
    have HB := Lib.hid hb
    clear hb
    by_cases hlt : k < n
    · obtain ⟨c0, c1, c2, c3⟩ := HeapAt.ent (w := wr) (l := l) (by rw [HL.out]; exact (H.out.kept (turned_of_below (F := fun _ => False) HB.out) (fun _ _ hf => hf))) k (by rw [HL.out]; exact hlt)
      have HS := Lib.hid (show minFrom (nth l 0).b (l.take (k + 1)) = min (minFrom (nth l 0).b (l.take k)) (nth l k).b by rw [take_snoc l k (by rw [HL.out]; exact hlt), minFrom_snoc])
      generalize nth l k = x at *
      go_wp2
      refine ⟨⟨k + 1, by omega, by go_num, ?_, HB.out.alloc HB.out.size _⟩, by simp [intOf]; omega⟩
      rw [HS.out]
      congr 1
      split <;> omega
    · go_wp2
      go_ret
      refine ⟨ret_int ?_, HB.out⟩
      rw [List.take_of_length_le (by rw [HL.out]; omega), HM.out]
theorem least_any {w : World} {B b : Nat} {o : Int} {v : Value} {m : List Ent} (h : HeapOf w B b o v m) (hn : m.length ≤ 1000) :
    Calls Try.prog 16 #[.pointer (some ⟨b, 0, none⟩)] w fun e w' => e = .returned (.int .i64 (minB m)) ∧ Below w.heap.size w w' := by
  by_cases hm : m = []
  · subst hm; exact least_none h
  · obtain ⟨l, h1, h2, h3⟩ := h
    have hlen := h3.length_eq
    have h0 : 0 < m.length := by cases m with | nil => exact absurd rfl hm | cons _ _ => simp
    rcases h1.form with ⟨_, hl⟩ | ⟨g, cap, rfl, _, _, _, _⟩
    · rw [hl] at hlen; simp at hlen; omega
    · exact least_some h1 h2 h3 rfl (by omega) (by omega)
end Go.Proofs.Ytljgglmaglmceaa
