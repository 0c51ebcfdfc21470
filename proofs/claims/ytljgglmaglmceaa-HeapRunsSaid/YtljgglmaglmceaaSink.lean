/- How an entry sinks. -/
import Derived.Test.YtljgglmaglmceaaRise
namespace Go.Proofs.Ytljgglmaglmceaa
open Go.ChangeShapes Go.WideShapes Go.ChangeAt Go.RowKit

/-- What holds of the queue between two steps down. -/
structure Sinking (w w' : World) (B b : Nat) (o : Int) (v : Value) (l l' : List Ent) (t : Nat) : Prop where
  lies : HeapAt w' B b o v l'
  sink : Sink o l' t
  perm : l'.Perm l
  turned : Turned (Foot b v) w w'
theorem sinking_below {w w' w3 : World} {B b : Nat} {o : Int} {v : Value} {l l' : List Ent} {s : Nat} (h : Sinking w w' B b o v l l' s) (hb : Below w'.heap.size w' w3) : Sinking w w3 B b o v l l' s :=
  ⟨h.lies.kept (turned_of_below (F := fun _ => False) hb) (fun _ _ hf => hf), h.sink, h.perm, h.turned.trans (turned_of_below (F := fun _ => False) hb) (fun _ _ hf => hf.elim)⟩
theorem sinking_end {w w' : World} {B b : Nat} {o : Int} {v : Value} {l l' : List Ent} {s : Nat} (h : Sinking w w' B b o v l l' s) (hs : lt o (nth l' (below o l' s)) (nth l' s) = false) : Risen w B b o v l w' :=
  ⟨l', h.lies, sink_end o l' s h.sink hs, h.perm, h.turned⟩
theorem sinking_none {w w' : World} {B b : Nat} {o : Int} {v : Value} {l l' : List Ent} {s : Nat} (h : Sinking w w' B b o v l l' s) (hs : l'.length ≤ below o l' s) : Risen w B b o v l w' :=
  ⟨l', h.lies, sink_none o l' s h.sink hs, h.perm, h.turned⟩
theorem sinking_step {w w' w4 : World} {B b : Nat} {o : Int} {v : Value} {l l' : List Ent} {s c : Nat} (h : Sinking w w' B b o v l l' s) (hc : below o l' s = c) (hb : c < l'.length) (hs : lt o (nth l' c) (nth l' s) = true)
    (h4 : HeapAt w4 B b o v (swapL l' s c)) (ht : Turned (Foot b v) w' w4) : Sinking w w4 B b o v l (swapL l' s c) c := by
  subst hc
  have := below_two o l' s
  exact ⟨h4, sink_step o l' s h.sink hb hs, (swapL_perm l' s _ (by omega) hb).trans h.perm, h.turned.trans ht (fun _ _ hf => hf)⟩
def SinkJ (w : World) (B b : Nat) (o : Int) (v : Value) (l : List Ent) (a' : Act) (w' : World) : Prop :=
  ∃ (l' : List Ent) (s : Nat) (u4 u5 u6 u7 u8 u9 u10 u11 u12 u13 u14 u15 u16 u17 u18 u19 u20 u21 u22 u23 u24 u25 u26 u27 u28 u29 u30 u31 u32 u33 u34 u35 u36 u37 : Value), a' = { tmps := #[.pointer (some ⟨b, 1, none⟩), .int .i64 s, undef, undef, u4, u5, u6, u7, u8, u9, u10, u11, u12, u13, u14, u15, u16, u17, u18, u19, u20, u21, u22, u23, u24, u25, u26, u27, u28, u29, u30, u31, u32, u33, u34, u35, u36, u37], defers := [] } ∧ s ≤ 1000 ∧ Sinking w w' B b o v l l' s

set_option maxRecDepth 1000000 in
set_option maxHeartbeats 1000000 in
theorem sink_any {w : World} {B b g n cap : Nat} {o : Int} {l : List Ent} (h : HeapAt w B b o (.slice (some ⟨g, 0, none⟩) n cap) l) (hl : l.length = n) (hn : n ≤ 1000) (hr : Sink o l 0) :
    Calls Try.prog 26 #[.pointer (some ⟨b, 1, none⟩), .int .i64 0] w fun e w' => e = .returned (.tuple #[]) ∧ Risen w B b o (.slice (some ⟨g, 0, none⟩) n cap) l w' := by
  have H0 := Lib.hid (show Sinking w w B b o (.slice (some ⟨g, 0, none⟩) n cap) l l 0 from ⟨h, hr, .refl _, Turned.refl _ _⟩)
  have HN := Lib.hid hl
  clear h hr hl
  go_enter Try.func26, Try.ntmps26
  go_wp2_with fail
  refine wp_scope_top (SinkJ w B b o (.slice (some ⟨g, 0, none⟩) n cap) l) (fun a' _ => 1001 - atOf a') ⟨l, 0, _, _, _, _, _, _, _, _, _, _, _, _, _, _, _, _, _, _, _, _, _, _, _, _, _, _, _, _, _, _, _, _, _, _, rfl, by omega, H0.out⟩ ?_
  rintro a' w' ⟨l', s, u4, u5, u6, u7, u8, u9, u10, u11, u12, u13, u14, u15, u16, u17, u18, u19, u20, u21, u22, u23, u24, u25, u26, u27, u28, u29, u30, u31, u32, u33, u34, u35, u36, u37, rfl, hs, hI⟩
  have HI := Lib.hid hI
  have HL := Lib.hid (hI.perm.length_eq.trans HN.out)
  clear hI
  go_wp2_with fail
  refine (fb_any (by rw [HL.out]; exact HI.out.lies) s (by rw [HL.out]; exact hn) hs).mono ?_
  obtain ⟨c, hc⟩ : ∃ c, below o l' s = c := ⟨_, rfl⟩
  have hc2 := below_two o l' s
  rw [hc] at hc2
  rw [hc]
  rintro e w1 ⟨rfl, hb⟩
  have HC := Lib.hid hc
  have HI1 := Lib.hid (sinking_below HI.out hb)
  clear hb hc
  have hsc : s < c := by omega
  clear hc2
  have hq := HI1.out.lies.items
  by_cases hcn : c < n
  · obtain ⟨a0, a1, a2, a3⟩ := HeapAt.ent (w := w1) (l := l') (by rw [HL.out]; exact HI1.out.lies) c (by rw [HL.out]; exact hcn)
    obtain ⟨c0, c1, c2, c3⟩ := HeapAt.ent (w := w1) (l := l') (by rw [HL.out]; exact HI1.out.lies) s (by rw [HL.out]; omega)
    obtain ⟨x, hx⟩ : ∃ x, nth l' c = x := ⟨_, rfl⟩
    obtain ⟨y, hy⟩ : ∃ y, nth l' s = y := ⟨_, rfl⟩
    rw [hx] at a0 a1 a2
    rw [hy] at c0 c1 c2
    have HX := Lib.hid hx
    have HY := Lib.hid hy
    clear hx hy
    have hsn : s < n := by omega
    have i1 : (c : Int) < (n : Int) := by omega
    have i7 : decide ((c : Int) < (n : Int)) = true := decide_eq_true i1
    have i8 : decide (c < n) = true := decide_eq_true hcn
    have hm := meth_ahead
    go_wp2_with fail
    go_still_tail 23, (by kernel_rfl)
    change wpList _ _ _ _ _ w1.drew
    generalize hw2 : w1.drew = w2
    have HW := Lib.hid hw2
    clear hw2
    go_wp2_with fail
    refine (ahead_any o o x y _).mono ?_
    rintro e w3 ⟨rfl, hb⟩
    have HI3 := Lib.hid (sinking_below HI1.out (fb_world HW.out hb))
    clear hb hq a0 a1 a2 a3 c0 c1 c2 c3 HW hm
    cases hlt : lt o x y
    · go_wp2
      simp only [Exit.jump]
      go_end0
      exact ⟨rfl, sinking_end HI3.out (by rw [HC.out, HX.out, HY.out]; exact hlt)⟩
    · go_wp2_with fail
      refine (swap_any HI3.out.lies s c (by rw [HL.out]; exact hsn) (by rw [HL.out]; exact hcn)).mono ?_
      rintro e w4 ⟨rfl, h4, ht⟩
      have HI4 := Lib.hid (sinking_step HI3.out HC.out (by rw [HL.out]; exact hcn) (by rw [HX.out, HY.out]; exact hlt) h4 ht)
      clear h4 ht
      go_wp2
      go_step3
      refine ⟨rfl, ⟨swapL l' s c, c, _, _, _, _, _, _, _, _, _, _, _, _, _, _, _, _, _, _, _, _, _, _, _, _, _, _, _, _, _, _, _, _, _, _, rfl, by omega, HI4.out⟩, ?_⟩
      simp [atOf, intOf]
      omega
  · have i7 : decide ((c : Int) < (n : Int)) = false := decide_eq_false (by omega)
    have i8 : decide (c < n) = false := decide_eq_false hcn
    go_wp2_with fail
    go_quiet (fail)
    go_wp2
    simp only [Exit.jump]
    go_end0
    exact ⟨rfl, sinking_none (sinking_below HI1.out (below_drewN (Below.refl _ _) _)) (by rw [HL.out, HC.out]; omega)⟩
end Go.Proofs.Ytljgglmaglmceaa
