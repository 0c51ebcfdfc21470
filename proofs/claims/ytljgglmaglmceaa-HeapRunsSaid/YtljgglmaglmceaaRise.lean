/- How an entry rises. -/
import Derived.Test.YtljgglmaglmceaaBelow
import Derived.WalkMore
import Derived.ScopeJumps
import Derived.WalkLawsBesides
namespace Go.Proofs.Ytljgglmaglmceaa
open Go.ChangeShapes Go.WideShapes Go.ChangeAt Go.RowKit

/-- A label that stands first, and a goto to it: one pass. -/
theorem wp_scope_top {P : Program} {rest : Code} {a : Act} {w : World} {Q : Exit → Act → World → Prop} (J : Act → World → Prop) (μ : Act → World → Nat) (hJ : J a w)
    (pass : ∀ a w, J a w → rest.wp P (Exit.jump 0 (fun a' w' => J a' w' ∧ μ a' w' < μ a w) Q) a w) : (Code.scope ((Code.label 0).seq rest)).wp P Q a w := by
  refine wp_scope_jumps 0 J μ (rest := Code.skip.seq rest) (by simp [findLabel]) ?_ (fun a w h => wp_seq (wp_skip (pass a w h)))
  refine wp_seq (wp_label ?_)
  show rest.wp P (Exit.jump 0 J Q) a w
  exact Code.wp_mono (fun e a w h => by cases e <;> first | exact h | exact ⟨h.1, h.2.1⟩) (pass a w hJ)

/-- What holds of the queue between two steps up. -/
structure Rising (w w' : World) (B b : Nat) (o : Int) (v : Value) (l l' : List Ent) (t : Nat) : Prop where
  lies : HeapAt w' B b o v l'
  rise : Rise o l' t
  perm : l'.Perm l
  turned : Turned (Foot b v) w w'
def Risen (w : World) (B b : Nat) (o : Int) (v : Value) (l : List Ent) (w' : World) : Prop := ∃ l', HeapAt w' B b o v l' ∧ HOrd o l' ∧ l'.Perm l ∧ Turned (Foot b v) w w'

def RiseJ (w : World) (B b : Nat) (o : Int) (v : Value) (l : List Ent) (a' : Act) (w' : World) : Prop :=
  ∃ (l' : List Ent) (s : Nat) (u4 u5 u6 u7 u8 u9 u10 u11 u12 u13 u14 u15 u16 u17 u18 u19 u20 u21 u22 u23 u24 u25 u26 u27 u28 u29 u30 : Value), a' = { tmps := #[.pointer (some ⟨b, 1, none⟩), .int .i64 s, undef, undef, u4, u5, u6, u7, u8, u9, u10, u11, u12, u13, u14, u15, u16, u17, u18, u19, u20, u21, u22, u23, u24, u25, u26, u27, u28, u29, u30], defers := [] } ∧ Rising w w' B b o v l l' s
def atOf (a : Act) : Nat := (intOf (a.tmps.getD 1 undef)).toNat
theorem rising_below {w w' w3 : World} {B b : Nat} {o : Int} {v : Value} {l l' : List Ent} {s : Nat} (h : Rising w w' B b o v l l' s) (hb : Below w'.heap.size w' w3) : Rising w w3 B b o v l l' s :=
  ⟨h.lies.kept (turned_of_below (F := fun _ => False) hb) (fun _ _ hf => hf), h.rise, h.perm, h.turned.trans (turned_of_below (F := fun _ => False) hb) (fun _ _ hf => hf.elim)⟩
theorem rising_end {w w' : World} {B b : Nat} {o : Int} {v : Value} {l l' : List Ent} {s : Nat} (h : Rising w w' B b o v l l' s) (hs : lt o (nth l' s) (nth l' ((s - 1) / 2)) = false) : Risen w B b o v l w' :=
  ⟨l', h.lies, rise_end o l' s h.rise hs, h.perm, h.turned⟩
theorem rising_top {w w' : World} {B b : Nat} {o : Int} {v : Value} {l l' : List Ent} (h : Rising w w' B b o v l l' 0) : Risen w B b o v l w' :=
  ⟨l', h.lies, rise_top o l' h.rise, h.perm, h.turned⟩
theorem rising_step {w w' w4 : World} {B b : Nat} {o : Int} {v : Value} {l l' : List Ent} {s : Nat} (h : Rising w w' B b o v l l' s) (h0 : 0 < s) (hs : lt o (nth l' s) (nth l' ((s - 1) / 2)) = true)
    (h4 : HeapAt w4 B b o v (swapL l' s ((s - 1) / 2))) (ht : Turned (Foot b v) w' w4) : Rising w w4 B b o v l (swapL l' s ((s - 1) / 2)) ((s - 1) / 2) :=
  ⟨h4, rise_step o l' s h0 h.rise hs, (swapL_perm l' s _ h.rise.1 (by have := h.rise.1; omega)).trans h.perm, h.turned.trans ht (fun _ _ hf => hf)⟩

set_option maxRecDepth 1000000 in
set_option maxHeartbeats 1000000 in
theorem rise_any {w : World} {B b : Nat} {o : Int} {v : Value} {l : List Ent} (h : HeapAt w B b o v l) (t : Nat) (hn : l.length ≤ 1000) (hr : Rise o l t) :
    Calls Try.prog 24 #[.pointer (some ⟨b, 1, none⟩), .int .i64 t] w fun e w' => e = .returned (.tuple #[]) ∧ Risen w B b o v l w' := by
  have H0 := Lib.hid (show Rising w w B b o v l l t from ⟨h, hr, .refl _, Turned.refl _ _⟩)
  clear h hr
  go_enter Try.func24, Try.ntmps24
  go_wp2_with fail
  refine wp_scope_top (RiseJ w B b o v l) (fun a' _ => atOf a') ⟨l, t, _, _, _, _, _, _, _, _, _, _, _, _, _, _, _, _, _, _, _, _, _, _, _, _, _, _, _, rfl, H0.out⟩ ?_
  rintro a' w' ⟨l', s, u4, u5, u6, u7, u8, u9, u10, u11, u12, u13, u14, u15, u16, u17, u18, u19, u20, u21, u22, u23, u24, u25, u26, u27, u28, u29, u30, rfl, hI⟩
  have hs := hI.rise.1
  have hlen := hI.perm.length_eq
  have HL := Lib.hid hlen
  have hn' : l'.length ≤ 1000 := by omega
  clear hlen
  have HI := Lib.hid hI
  rcases hI.lies.form with ⟨_, hl0⟩ | ⟨g, cap, rfl, _, _, _, _⟩
  · rw [hl0] at hs; simp at hs
  clear hI
  by_cases hs0 : s = 0
  · subst hs0
    go_wp2
    simp only [Exit.jump]
    exact bodyPost_ret (v := .tuple #[]) (by simp [results, Try.results24, go_sem]) rfl ⟨rfl, rising_top HI.out⟩
  · obtain ⟨p, hp⟩ : ∃ p, (s - 1) / 2 = p := ⟨_, rfl⟩
    have hpi : ((s : Int) - 1) / 2 = (p : Int) := by omega
    have hs1 : ((s : Int) == 0) = false := by simp; omega
    have hq := HI.out.lies.items
    obtain ⟨a0, a1, a2, a3⟩ := HI.out.lies.ent s hs
    obtain ⟨c0, c1, c2, c3⟩ := HI.out.lies.ent p (by omega)
    obtain ⟨x, hx⟩ : ∃ x, nth l' s = x := ⟨_, rfl⟩
    obtain ⟨y, hy⟩ : ∃ y, nth l' p = y := ⟨_, rfl⟩
    rw [hx] at a0 a1 a2
    rw [hy] at c0 c1 c2
    have HX := Lib.hid hx
    have HY := Lib.hid hy
    have HP := Lib.hid hp
    have hps : p < s := by omega
    clear hx hy hp
    obtain ⟨n, hnn⟩ : ∃ n, l'.length = n := ⟨_, rfl⟩
    rw [hnn] at hq hs hn'
    have hpn : p < n := by omega
    have HN := Lib.hid hnn
    clear hnn
    have hm := meth_ahead
    go_wp2_with fail
    go_still_tail 15, (by kernel_rfl)
    change wpList _ _ _ _ _ w'.drew
    generalize hw2 : w'.drew = w2
    have HW := Lib.hid hw2
    clear hw2
    go_wp2_with fail
    refine (ahead_any o o x y _).mono ?_
    rintro e w3 ⟨rfl, hb⟩
    have HI3 := Lib.hid (rising_below HI.out (fb_world HW.out hb))
    clear hb hq a0 a1 a2 a3 c0 c1 c2 c3 HW hm
    cases hlt : lt o x y
    · go_wp2
      simp only [Exit.jump]
      go_end0
      exact ⟨rfl, rising_end HI3.out (by rw [HX.out, HP.out, HY.out]; exact hlt)⟩
    · go_wp2_with fail
      refine (swap_any HI3.out.lies s p (by rw [HN.out]; exact hs) (by rw [HN.out]; exact hpn)).mono ?_
      rintro e w4 ⟨rfl, h4, ht⟩
      have HI4 := Lib.hid (rising_step HI3.out (by omega) (by rw [HX.out, HP.out, HY.out]; exact hlt) (by rw [HP.out]; exact h4) ht)
      clear h4 ht
      go_wp2
      go_step3
      rw [HP.out] at HI4
      refine ⟨rfl, ⟨swapL l' s p, p, _, _, _, _, _, _, _, _, _, _, _, _, _, _, _, _, _, _, _, _, _, _, _, _, _, _, _, rfl, HI4.out⟩, ?_⟩
      simp [atOf, intOf]
      omega
end Go.Proofs.Ytljgglmaglmceaa
