/- slices.IndexFunc, ContainsFunc over numbers, asked by a closure that only makes memory. -/
import Derived.Test.YtofapalakpkkpaaXPMat
import Derived.Test.YtofapalakpkkpaaNArgs
namespace Go.Proofs.Ytofapalakpkkpaa
open Go.ChangeShapes Go.WideShapes Go.ChangeAt Go.RowKit

/-- The place of the first one that is so; -1 if none is. -/
def idxI (p : Int → Bool) (l : List Int) : Int := if l.findIdx p < l.length then l.findIdx p else -1
theorem idx_here {p : Int → Bool} {l : List Int} {k : Nat} (hk : k < l.length) (h : k ≤ l.findIdx p) (hp : p (l.getD k 0) = true) : idxI p l = k := by
  have hg : l.getD k 0 = l[k] := by rw [List.getD_eq_getElem?_getD, List.getElem?_eq_getElem hk]; rfl
  rw [hg] at hp
  have : l.findIdx p = k := by
    rcases Nat.lt_or_ge k (l.findIdx p) with h1 | h1
    · have := List.not_of_lt_findIdx h1
      rw [hp] at this; cases this
    · omega
  unfold idxI
  rw [this, if_pos hk]
theorem idx_next {p : Int → Bool} {l : List Int} {k : Nat} (hk : k < l.length) (h : k ≤ l.findIdx p) (hp : p (l.getD k 0) = false) : k + 1 ≤ l.findIdx p := by
  have hg : l.getD k 0 = l[k] := by rw [List.getD_eq_getElem?_getD, List.getElem?_eq_getElem hk]; rfl
  rw [hg] at hp
  rcases Nat.lt_or_ge k (l.findIdx p) with h1 | h1
  · omega
  · have e : l.findIdx p = k := by omega
    have h2 : l.findIdx p < l.length := by omega
    have := List.findIdx_getElem (w := h2)
    simp only [e] at this
    rw [this] at hp; cases hp
theorem idx_none {p : Int → Bool} {l : List Int} (h : l.length ≤ l.findIdx p) : idxI p l = -1 := by
  unfold idxI; rw [if_neg (by omega)]
theorem idx_any (p : Int → Bool) (l : List Int) : decide (0 ≤ idxI p l) = l.any p := by
  unfold idxI
  rw [Bool.eq_iff_iff, decide_eq_true_eq]
  by_cases h : l.findIdx p < l.length
  · rw [if_pos h]
    have := List.findIdx_lt_length.1 h
    simp only [List.any_eq_true]
    exact ⟨fun _ => this, fun _ => by omega⟩
  · rw [if_neg h]
    constructor
    · intro h2; omega
    · intro h2
      exact absurd (List.findIdx_lt_length.2 (List.any_eq_true.1 h2)) h
def Enters (F : Nat) : Prop := ∀ args w, (callFunc F args).run Try.prog w = .ok (.enter F args) w
/-- What a closure is asked, in each world that differs from w only in block g, and in what is new. -/
def Asks (w : World) (g : Option Nat) (F : Nat) (c1 c2 : Value) (p : Int → Bool) (l : List Int) : Prop :=
  ∀ x ∈ l, ∀ w', w.grownBy w' g → Calls Try.prog F #[.int .i64 x, c1, c2] w' fun e w2 => e = .returned (.bool (p x)) ∧ Below w'.heap.size w' w2
theorem grown_from {w w' : World} {g : Option Nat} (h : Below w.heap.size w w') : w.grownBy w' g := ⟨h.os, h.tape, h.output, h.size, fun k hk _ => h.block k hk⟩
theorem grown_thr {a b c : World} {g : Option Nat} (h : a.grownBy b g) (k : b.grownBy c g) : a.grownBy c g :=
  ⟨k.os.trans h.os, k.tape.trans h.tape, k.output.trans h.output, Nat.le_trans h.size k.size, fun i hi hne => (k.block i (Nat.lt_of_lt_of_le hi h.size) hne).trans (h.block i hi hne)⟩
theorem Asks.later {w w' : World} {g : Option Nat} {F : Nat} {c1 c2 : Value} {p : Int → Bool} {l : List Int} (h : Asks w g F c1 c2 p l) (hg : w.grownBy w' g) : Asks w' g F c1 c2 p l :=
  fun x hx w2 h2 => h x hx w2 (grown_thr hg h2)
theorem getI_mem {l : List Int} {k : Nat} (h : k < l.length) : l.getD k 0 ∈ l := by
  rw [List.getD_eq_getElem?_getD, List.getElem?_eq_getElem h]; exact List.getElem_mem h
set_option maxRecDepth 1000000 in
set_option maxHeartbeats 4000000 in
theorem index_any {w : World} {u c1 c2 : Value} {l : List Int} {g : Option Nat} {F : Nat} {p : Int → Bool} (hE : Enters F) (hu : Row w u (ints l)) (hf : Asks w g F c1 c2 p l) :
    Calls Try.prog 53 #[u, .func (.func F) #[] #[c1, c2]] w fun e w' => e = .returned (.int .i64 (idxI p l)) ∧ Below w.heap.size w w' := by
  have HU := Lib.hid hu
  have HF := Lib.hid hf
  have HEN := Lib.hid hE
  clear hE
  obtain ⟨ua, uc, rfl, hm1⟩ := hu.form
  simp only [ints_len] at *
  have hl1 : l.length ≤ 9223372036854775807 := by unfold maxLen at hm1; omega
  clear hu hm1 hf
  go_enter Try.func53, Try.ntmps53
  go_wp2_with fail
  go_loopw [8] (fun i wr => ∃ (k : Nat), k ≤ l.length ∧ i = .int .i64 k ∧ k ≤ l.findIdx p ∧ Below w.heap.size w wr) (fun i _ => l.length - (intOf i).toNat)
  case atStart => exact ⟨0, Nat.zero_le _, rfl, Nat.zero_le _, Below.refl _ _⟩
  case round =>
    obtain ⟨k, hk, rfl, htk, hbw⟩ := hrel
    have HTK := Lib.hid htk
    have HBW := Lib.hid hbw
    clear htk hbw
    generalize wr = W1 at *
    by_cases hlt : k < l.length
    · have hlt2 : (k : Int) < (l.length : Int) := by omega
      have HK := Lib.hid hlt
      obtain ⟨b1, o1, cc1, he1, hc1, _, _⟩ := row_at (p := k) (HU.out.below HBW.out) (by rw [ints_len]; exact hlt)
      rw [ints_at l k hlt] at hc1
      simp only [ints_len, Value.slice.injEq, true_and] at he1
      obtain ⟨rfl, rfl⟩ := he1
      have HNX := Lib.hid (fun h => idx_next HK.out HTK.out h)
      have HHR := Lib.hid (fun h => idx_here HK.out HTK.out h)
      have HMM := Lib.hid (getI_mem hlt)
      have hk2 : IntKind.i64.wrap ((k : Int) + 1) = (k : Int) + 1 := IntWalk.i64_in _ (by omega)
      clear hlt hk
      generalize l.getD k 0 = x at *
      go_wp2_with fail
      rw [HEN.out]
      refine (HF.out x HMM.out W1 (grown_from HBW.out)).mono ?_
      rintro e w2 ⟨rfl, hb⟩
      have HB2 := Lib.hid (HBW.out.trans (hb.mono HBW.out.size))
      clear hb
      obtain ⟨y, hy⟩ : ∃ y, p x = y := ⟨_, rfl⟩
      rw [hy] at HNX HHR ⊢
      clear hy
      cases y with
      | true =>
        have HE := Lib.hid (HHR.out rfl)
        go_wp2
        go_ret
        exact ⟨(by first | (rw [HE.out]; done) | (rw [HE.out]; rfl)), HB2.out⟩
      | false =>
        have HE := Lib.hid (HNX.out rfl)
        go_wp2_with fail
        go_roundw
        case rel => exact ⟨k + 1, by have := HK.out; omega, by go_num, HE.out, HB2.out⟩
        case measure => have := HK.out; simp [intOf]; omega
    · obtain rfl : k = l.length := by omega
      have hlt2 : ¬ (l.length : Int) < (l.length : Int) := by omega
      have HE := Lib.hid (idx_none HTK.out)
      clear hlt hk
      go_wp2
      go_ret
      exact ⟨(by first | (rw [HE.out]; done) | (rw [HE.out]; rfl)), HBW.out⟩
set_option maxRecDepth 1000000 in
set_option maxHeartbeats 4000000 in
theorem contains_any {w : World} {u c1 c2 : Value} {l : List Int} {g : Option Nat} {F : Nat} {p : Int → Bool} (hE : Enters F) (hu : Row w u (ints l)) (hf : Asks w g F c1 c2 p l) :
    Calls Try.prog 31 #[u, .func (.func F) #[] #[c1, c2]] w fun e w' => e = .returned (.bool (l.any p)) ∧ Below w.heap.size w w' := by
  have HC := Lib.hid (index_any hE hu hf)
  have HA := Lib.hid (idx_any p l)
  obtain ⟨ua, uc, rfl, hm1⟩ := hu.form
  clear hu hm1 hf hE
  go_enter Try.func31, Try.ntmps31
  go_wp2_with fail
  refine HC.out.mono ?_
  rintro e w2 ⟨rfl, hb⟩
  have HB := Lib.hid hb
  clear HC hb
  go_wp2
  go_ret
  exact ⟨by rw [← HA.out]; rfl, HB.out⟩
theorem enters1 : Enters 29 := fun _ _ => by rfl
theorem enters2 : Enters 30 := fun _ _ => by rfl
end Go.Proofs.Ytofapalakpkkpaa
