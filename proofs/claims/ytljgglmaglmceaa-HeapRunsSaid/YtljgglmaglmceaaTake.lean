/- What taking the first entry out of a queue does. -/
import Derived.Test.YtljgglmaglmceaaPut
import Derived.Lib.SliceRun
namespace Go.Proofs.Ytljgglmaglmceaa
open Go.ChangeShapes Go.WideShapes Go.ChangeAt Go.RowKit

theorem run_clear4 (w : World) (ty : TypeId) (g k c : Nat) (hc : ∀ j, j < 4 → (w.cell? ⟨g, k + j, none⟩).isSome = true) (hf : ∀ j, j < 4 → w.frozen? ⟨g, k + j, none⟩ = false) :
    (Builtin.clear_ #[44] ty #[.slice (some ⟨g, k, none⟩) 1 c]).run Try.prog w = .ok (.tuple #[]) (w.setCells g k [.int .i64 0, .int .i64 0, .int .i64 0, .int .i64 0]) := by
  have hst := run_storeCells_cells (P := Try.prog) g k [.int .i64 0, .int .i64 0, .int .i64 0, .int .i64 0] 0 w (by simpa using hc) (by simpa using hf) (by simp [Value.oneCell'])
  simp only [Nat.add_zero] at hst
  have hzc : (Builtin.zeroCells (Value.agg #[.int .i64 0, .int .i64 0, .int .i64 0, .int .i64 0]).cells 1).toList = [.int .i64 0, .int .i64 0, .int .i64 0, .int .i64 0] := by kernel_rfl
  simp [Builtin.clear_, run_underlying Try.underlying44, hzc, hst]

/-- The zeros laid at the last place. -/
theorem setCells_zero (w : World) (g k : Nat) : w.setCells g (k * 4) [.int .i64 0, .int .i64 0, .int .i64 0, .int .i64 0] = set4 w g k 0 ⟨0, 0, 0⟩ := by
  simp [World.setCells, set4, Nat.add_assoc]
theorem swap_0 {w : World} {B b : Nat} {o : Int} {v : Value} {l : List Ent} (h : HeapAt w B b o v l) (k : Nat) (hk : k < l.length) :
    Calls Try.prog 25 #[.pointer (some ⟨b, 1, none⟩), .int .i64 0, .int .i64 k] w fun e w' => e = .returned (.tuple #[]) ∧ HeapAt w' B b o v (swapL l 0 k) ∧ Turned (Foot b v) w w' :=
  swap_any h 0 k (by omega) hk
theorem heap_cap {w : World} {B b g n cap : Nat} {o : Int} {l : List Ent} (h : HeapAt w B b o (.slice (some ⟨g, 0, none⟩) n cap) l) : n ≤ cap ∧ cap ≤ maxLen := by
  rcases h.own.2 with ⟨e, _⟩ | ⟨g', cap', cur, e, _, _, hc, hm, _⟩
  · simp at e
  · simp only [Value.slice.injEq] at e
    omega
theorem last_there {w : World} {B b g k cap : Nat} {o : Int} {l : List Ent} (h : HeapAt w B b o (.slice (some ⟨g, 0, none⟩) (k + 1) cap) l) (hl : l.length = k + 1) : ∀ j, j < 4 → (w.cell? ⟨g, k * 4 + j, none⟩).isSome = true := by
  intro j hj
  obtain ⟨a0, a1, a2, a3⟩ := HeapAt.ent (w := w) (l := l) (by rw [hl]; exact h) k (by omega)
  match j, hj with
  | 0, _ => rw [Nat.add_zero, a0]; rfl
  | 1, _ => rw [a1]; rfl
  | 2, _ => rw [a2]; rfl
  | 3, _ => rw [a3]; rfl
theorem last_free {w : World} {B b g k cap : Nat} {o : Int} {l : List Ent} (h : HeapAt w B b o (.slice (some ⟨g, 0, none⟩) (k + 1) cap) l) (hl : l.length = k + 1) : ∀ j, j < 4 → w.frozen? ⟨g, k * 4 + j, none⟩ = false :=
  fun j _ => HeapAt.loose (l := l) (by rw [hl]; exact h) _
/-- The last one cleared, and the list cut. -/
theorem cut_lies {w : World} {B b g k cap : Nat} {o : Int} {l : List Ent} (h : HeapAt w B b o (.slice (some ⟨g, 0, none⟩) (k + 1) cap) l) (hl : l.length = k + 1) (o' : Int) (x : Ent) :
    HeapAt ((set4 w g k o' x).setCell ⟨b, 1, none⟩ (.slice (some ⟨g, 0, none⟩) k cap)) B b o (.slice (some ⟨g, 0, none⟩) k cap) (l.take k) := by
  have hbg : b ≠ g := fun e => h.apart (by rw [e]; rfl)
  have hlen : (l.take k).length = k := by simp [hl]
  refine ⟨h.base, ?_, ?_, h.apart⟩
  · have hb : (set4 w g k o' x).heap[b]? = some (.cells #[.int .i64 o, .slice (some ⟨g, 0, none⟩) (k + 1) cap] 48 (0, 0)) := by
      rw [(set4_turned w g k o' x).block b (h.lt b (.inl rfl)).2 hbg]; exact h.blk
    rw [heap_setCell_same _ b 1 _ _ _ hb]
    rfl
  · have h0 := h.own
    rw [hl] at h0
    have h1 := ((((h0.stored (k * 4) (.int .i64 x.b)).1.stored (k * 4 + 1) (.int .i64 x.d)).1.stored (k * 4 + 2) (.int .i64 x.n)).1.stored (k * 4 + 3) (.int .i64 o')).1
    have h2 : (set4 w g k o' x).ownsRow B 51 4 (.slice (some ⟨g, 0, none⟩) (k + 1) cap) (k + 1) _ := h1
    have h3 := h2.kept (w' := (set4 w g k o' x).setCell ⟨b, 1, none⟩ (.slice (some ⟨g, 0, none⟩) k cap)) (row := some b) ⟨rfl, rfl, rfl, by simp [World.setCell], fun i _ hi => heap_setCell_other _ ⟨b, 1, none⟩ i _ (fun e => hi (by rw [e]))⟩ (.inr (fun e => hbg (by simpa [Value.ownBlock] using e.symm)))
    rw [hlen]
    refine ⟨by rw [rowP_len, hlen], .inr ?_⟩
    rcases h3.2 with ⟨e, _⟩ | ⟨g', cap', cur, e, hB, hg, hc, hm, hs, ht⟩
    · simp at e
    · simp only [Value.slice.injEq, Option.some.injEq, Addr.mk.injEq, and_true, true_and] at e
      obtain ⟨rfl, rfl⟩ := e
      refine ⟨g, cap, cur, rfl, hB, hg, by omega, hm, hs, ?_⟩
      have h4 : cur.toList.take (k * 4) = (cur.toList.take ((k + 1) * 4)).take (k * 4) := by rw [List.take_take, Nat.min_eq_left (by omega)]
      rw [h4, ht, List.take_set_of_le (by omega), List.take_set_of_le (by omega), List.take_set_of_le (by omega), List.take_set_of_le (by omega), rowP_take]

theorem clear_last {w : World} {B b g k cap : Nat} {o : Int} {l : List Ent} (h : HeapAt w B b o (.slice (some ⟨g, 0, none⟩) (k + 1) cap) l) (hl : l.length = k + 1) :
    (∀ ty, (Builtin.clear_ #[44] ty #[.slice (some ⟨g, k * 4, none⟩) 1 (cap - k)]).run Try.prog w = .ok (.tuple #[]) (set4 w g k 0 ⟨0, 0, 0⟩)) ∧
    (set4 w g k 0 ⟨0, 0, 0⟩).cell? ⟨b, 1, none⟩ = some (.slice (some ⟨g, 0, none⟩) (k + 1) cap) ∧ (set4 w g k 0 ⟨0, 0, 0⟩).frozen? ⟨b, 1, none⟩ = false := by
  have hb4 := (set4_turned w g k 0 ⟨0, 0, 0⟩).block b (h.lt b (.inl rfl)).2 (fun e => h.apart (by rw [e]; rfl))
  refine ⟨fun ty => ?_, ?_, ?_⟩
  · rw [← setCells_zero]
    exact run_clear4 w ty g (k * 4) (cap - k) (last_there h hl) (last_free h hl)
  · exact (World.cell?_of_block (w := w) (w' := set4 w g k 0 ⟨0, 0, 0⟩) (a := ⟨b, 1, none⟩) hb4).trans h.items
  · exact (World.frozen?_of_block (w := w) (w' := set4 w g k 0 ⟨0, 0, 0⟩) (a := ⟨b, 1, none⟩) hb4).trans (h.free 1)
theorem take_turned {w2 w3 w4 w6 : World} {b g k cap : Nat} (t3 : Turned (Foot b (.slice (some ⟨g, 0, none⟩) (k + 1) cap)) w2 w3) (t4 : Turned (· = g) w3 w4)
    (t6 : Turned (Foot b (.slice (some ⟨g, 0, none⟩) k cap)) (w4.setCell ⟨b, 1, none⟩ (.slice (some ⟨g, 0, none⟩) k cap)) w6) : Turned (Foot b (.slice (some ⟨g, 0, none⟩) (k + 1) cap)) w2 w6 :=
  ((t3.trans t4 (fun _ _ h => .inr (by rw [h]; rfl))).trans (turned_set (F := Foot b (.slice (some ⟨g, 0, none⟩) (k + 1) cap)) w4 ⟨b, 1, none⟩ _ (.inl rfl)) (fun _ _ h => h)).trans t6 (fun _ _ h => h)
theorem rest_is {k : Nat} {l : List Ent} (h : l.length = k + 1) : (swapL l 0 k).take k = rest l := by unfold rest; rw [h]; rfl
/-- The two blocks of the call's own. -/
theorem take_blocks {w wa w6 : World} {F : Nat → Prop} {Z X : Obj} (hwa : w.alloc Z = wa) (ht : Turned F (wa.alloc X).drew w6) (hF : ∀ k, F k → k < w.heap.size) :
    w6.heap[w.heap.size]? = some Z ∧ w6.heap[wa.heap.size]? = some X := by
  subst hwa
  have e1 : ((w.alloc Z).alloc X).drew.heap.size = w.heap.size + 2 := by show ((w.alloc Z).alloc X).heap.size = _; simp
  have e2 : (w.alloc Z).heap.size = w.heap.size + 1 := by simp
  refine ⟨?_, ?_⟩
  · rw [ht.block _ (by omega) (fun h => by have := hF _ h; omega)]
    show ((w.alloc Z).alloc X).heap[w.heap.size]? = _
    rw [Below.heap_alloc _ _ _ (by omega)]
    exact heap_alloc_new w Z
  · rw [ht.block _ (by omega) (fun h => by have := hF _ h; omega)]
    exact heap_alloc_new (w.alloc Z) X
theorem take_done {w wa w6 : World} {B b g k cap N : Nat} {o : Int} {Z X : Obj} {l m : List Ent} {o' : Int} {x : Ent} (hwa : w.alloc Z = wa) (hN : w.heap.size = N) (h : HeapAt w B b o (.slice (some ⟨g, 0, none⟩) (k + 1) cap) l) (hl : l.length = k + 1) (hr : HOrd o l) (hp : l.Perm m)
    (ht : Turned (Foot b (.slice (some ⟨g, 0, none⟩) (k + 1) cap)) (wa.alloc X).drew w6) {w5 : World} (h6 : Risen w5 B b o (.slice (some ⟨g, 0, none⟩) k cap) (rest l) w6) :
    HeapPost w B b o (.slice (some ⟨g, 0, none⟩) (k + 1) cap) (left o m) (set4 w6 N 0 o' x) := by
  subst hwa
  subst hN
  obtain ⟨l', ha, hr', hpp, _⟩ := h6
  have hfoot := h.lt
  have hNf : ∀ j, Foot b (.slice (some ⟨g, 0, none⟩) k cap) j → ¬ j = w.heap.size := fun j hj e => by have := (hfoot j hj).2; omega
  have hm : m ≠ [] := fun e => by have := hp.length_eq; rw [e, hl] at this; simp at this
  have h0 : first o m = nth l 0 := first_of o m _ (isMin_perm (first_min o l hr (by omega)) hp)
  refine ⟨_, ⟨l', ha.kept (set4_turned w6 w.heap.size 0 o' x) hNf, hr', ?_⟩, ?_, fun j hj => .inl hj⟩
  · refine hpp.trans (left_of o m (rest l) hm ?_)
    rw [h0]
    exact hp.symm.trans (rest_perm l (by omega))
  · have t0 : Turned (Foot b (.slice (some ⟨g, 0, none⟩) (k + 1) cap)) w ((w.alloc Z).alloc X).drew := turned_of_below ((((Below.refl _ w).alloc (Nat.le_refl _) Z).alloc (by simp) X).drew)
    exact (t0.trans ht (fun _ _ hf => hf)).trans (set4_turned w6 w.heap.size 0 o' x) (fun j hj e => by omega)

set_option maxRecDepth 1000000 in
set_option maxHeartbeats 1000000 in
theorem take_walk {w : World} {B b g k cap : Nat} {o : Int} {l : List Ent} (h : HeapAt w B b o (.slice (some ⟨g, 0, none⟩) (k + 1) cap) l) (hl : l.length = k + 1) (hn : k + 1 ≤ 1000) (hr : HOrd o l) {m : List Ent} (hp : l.Perm m) :
    Calls Try.prog 21 #[.pointer (some ⟨b, 1, none⟩)] w fun e w' => e = .returned (plcV o (nth l 0)) ∧ HeapPost w B b o (.slice (some ⟨g, 0, none⟩) (k + 1) cap) (left o m) w' := by
  have HP := Lib.hid hp
  clear hp
  have HA := Lib.hid (heapAt_alloc h (.cells #[.int .i64 0, .int .i64 0, .int .i64 0, .int .i64 0] 51))
  have hq := HA.out.items
  obtain ⟨a0, a1, a2, a3⟩ := HeapAt.ent (l := l) (by rw [hl]; exact HA.out) 0 (by omega)
  have H := Lib.hid h
  generalize hx : nth l 0 = x at *
  have HX := Lib.hid hx
  have HR := Lib.hid hr
  have HN := Lib.hid hl
  have hcap := heap_cap h
  clear h hx hr hl
  simp only [Nat.zero_mul, Nat.zero_add] at a0 a1 a2 a3
  go_enter Try.func21, Try.ntmps21
  go_wp2_with fail
  generalize hwa : w.alloc (.cells #[.int .i64 0, .int .i64 0, .int .i64 0, .int .i64 0] 51) = wa at *
  have HWA := Lib.hid hwa
  clear hwa
  generalize hN : w.heap.size = N at *
  have HNN := Lib.hid hN
  clear hN
  have hbw := (HA.out.lt b (.inl rfl)).2
  have hgw := (HA.out.lt g (.inr rfl)).2
  have hb1 : ¬ b = wa.heap.size := by omega
  have hg1 : ¬ g = wa.heap.size := by omega
  have hHB := heapAt_alloc HA.out (.cells #[.int .i64 0, .int .i64 0, .int .i64 0, .int .i64 0] 51)
  have hq1 := hHB.items
  clear hHB
  go_region
  clear hq hq1 a0 a1 a2 a3 hb1 hg1
  have HB := Lib.hid (heapAt_drew (heapAt_alloc HA.out (.cells #[.int .i64 x.b, .int .i64 x.d, .int .i64 x.n, .int .i64 o] 51)))
  go_wp2_with fail
  refine (swap_0 HB.out k (by rw [HN.out]; omega)).mono ?_
  rintro e w3 ⟨rfl, h3, t3⟩
  have H3 := Lib.hid h3
  have T3 := Lib.hid t3
  clear h3 t3
  have hq3 := H3.out.items
  have hf3 := H3.out.free 1
  obtain ⟨hcl, hq4, hf4⟩ := clear_last H3.out (by rw [swapL_len]; exact HN.out)
  have HT4 := Lib.hid (set4_turned w3 g k 0 ⟨0, 0, 0⟩)
  have H5 := Lib.hid (cut_lies H3.out (by rw [swapL_len]; exact HN.out) 0 ⟨0, 0, 0⟩)
  obtain ⟨hcap1, -⟩ := hcap
  generalize set4 w3 g k 0 ⟨0, 0, 0⟩ = w4 at *
  go_wp2_with fail
  rw [rest_is HN.out] at H5
  refine (sink_any H5.out (by rw [rest_len, HN.out]; omega) (by omega) (sink_start o l HR.out)).mono ?_
  rintro e w6 ⟨rfl, h6⟩
  have HT6 := Lib.hid (take_turned T3.out HT4.out (by obtain ⟨_, _, _, _, t6⟩ := h6; exact t6))
  have HD := Lib.hid (take_done (o' := o) (x := x) HWA.out HNN.out H.out HN.out HR.out HP.out HT6.out h6)
  have hblk := take_blocks HWA.out HT6.out (fun j hj => (H.out.lt j hj).2)
  rw [HNN.out] at hblk
  obtain ⟨hbN, hbM⟩ := hblk
  have n0 := cell_of_row _ _ 0 _ _ _ hbN
  have n1 := cell_of_row _ _ 1 _ _ _ hbN
  have n2 := cell_of_row _ _ 2 _ _ _ hbN
  have n3 := cell_of_row _ _ 3 _ _ _ hbN
  have nf := fun j => frozen_of_row _ _ j _ _ hbN
  have m0 := cell_of_row _ _ 0 _ _ _ hbM
  have m1 := cell_of_row _ _ 1 _ _ _ hbM
  have m2 := cell_of_row _ _ 2 _ _ _ hbM
  have m3 := cell_of_row _ _ 3 _ _ _ hbM
  clear hbN hbM h6
  clear hq3 hf3 hcl hq4 hf4
  go_wp2
  refine bodyPost_ret (v := plcV o x) ?_ rfl ⟨rfl, HD.out⟩
  simp [results, Try.results21, go_sem, n0, n1, n2, n3, plcV]
theorem take_any {w : World} {B b : Nat} {o : Int} {v : Value} {m : List Ent} (h : HeapOf w B b o v m) (hm : m ≠ []) (hn : m.length ≤ 1000) :
    Calls Try.prog 21 #[.pointer (some ⟨b, 1, none⟩)] w fun e w' => e = .returned (plcV o (first o m)) ∧ HeapPost w B b o v (left o m) w' := by
  obtain ⟨l, h, hr, hp⟩ := h
  have hlen := hp.length_eq
  have h0 : 0 < m.length := by cases m with | nil => exact absurd rfl hm | cons _ _ => simp
  obtain ⟨k, hk⟩ : ∃ k, l.length = k + 1 := ⟨l.length - 1, by omega⟩
  rcases h.form with ⟨_, hl⟩ | ⟨g, cap, rfl, _, _, _, _⟩
  · rw [hl] at hk; simp at hk
  · rw [hk] at h ⊢
    rw [first_of o m _ (isMin_perm (first_min o l hr (by omega)) hp)]
    exact take_walk h hk (by omega) hr hp
end Go.Proofs.Ytljgglmaglmceaa
