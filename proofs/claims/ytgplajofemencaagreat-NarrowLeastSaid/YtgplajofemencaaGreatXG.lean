/- slices.IndexFunc, ContainsFunc over numbers, asked by a closure that only makes memory. -/
import Derived.Test.YtgplajofemencaaGreatYC
import Derived.Test.YtgplajofemencaaGreatXN
import Derived.Lib.SliceRun
namespace Go.Proofs.YtgplajofemencaaGreat
open Go.ChangeShapes Go.WideShapes Go.ChangeAt Go.RowKit

/-- The place of the first one that is so; -1 if none is. -/
def idxI (p : Int → Bool) (l : List Int) : Int := if l.findIdx p < l.length then l.findIdx p else -1
theorem idx_here {p : Int → Bool} {l : List Int} {k : Nat} (hk : k < l.length) (h : k ≤ l.findIdx p) (hp : p (l.getD k 0) = true) : idxI p l = k := by
  have hg : l.getD k 0 = l[k] := by rw [List.getD_eq_getElem?_getD, List.getElem?_eq_getElem hk]; rfl
  rw [hg] at hp
  have : l.findIdx p = k := by
    rcases Nat.lt_or_ge k (l.findIdx p) with h1 | h1
    · have := List.not_of_lt_findIdx h1
      rw [hp] at this; cases this
    · omega
  unfold idxI
  rw [this, if_pos hk]
theorem idx_next {p : Int → Bool} {l : List Int} {k : Nat} (hk : k < l.length) (h : k ≤ l.findIdx p) (hp : p (l.getD k 0) = false) : k + 1 ≤ l.findIdx p := by
  have hg : l.getD k 0 = l[k] := by rw [List.getD_eq_getElem?_getD, List.getElem?_eq_getElem hk]; rfl
  rw [hg] at hp
  rcases Nat.lt_or_ge k (l.findIdx p) with h1 | h1
  · omega
  · have e : l.findIdx p = k := by omega
    have h2 : l.findIdx p < l.length := by omega
    have := List.findIdx_getElem (w := h2)
    simp only [e] at this
    rw [this] at hp; cases hp
theorem idx_none {p : Int → Bool} {l : List Int} (h : l.length ≤ l.findIdx p) : idxI p l = -1 := by
  unfold idxI; rw [if_neg (by omega)]
theorem idx_any (p : Int → Bool) (l : List Int) : decide (0 ≤ idxI p l) = l.any p := by
  unfold idxI
  rw [Bool.eq_iff_iff, decide_eq_true_eq]
  by_cases h : l.findIdx p < l.length
  · rw [if_pos h]
    have := List.findIdx_lt_length.1 h
    simp only [List.any_eq_true]
    exact ⟨fun _ => this, fun _ => by omega⟩
  · rw [if_neg h]
    constructor
    · intro h2; omega
    · intro h2
      exact absurd (List.findIdx_lt_length.2 (List.any_eq_true.1 h2)) h
def Enters (F : Nat) : Prop := ∀ args w, (callFunc F args).run Tryz.prog w = .ok (.enter F args) w
/-- What a closure is asked, in each world that differs from w only in block g, and in what is new. -/
def Asks (w : World) (g : Option Nat) (F : Nat) (c1 c2 : Value) (p : Int → Bool) (l : List Int) : Prop :=
  ∀ x ∈ l, ∀ w', w.grownBy w' g → Calls Tryz.prog F #[.int .i64 x, c1, c2] w' fun e w2 => e = .returned (.bool (p x)) ∧ Below w'.heap.size w' w2
theorem grown_from {w w' : World} {g : Option Nat} (h : Below w.heap.size w w') : w.grownBy w' g := ⟨h.os, h.tape, h.output, h.size, fun k hk _ => h.block k hk⟩
theorem grown_thr {a b c : World} {g : Option Nat} (h : a.grownBy b g) (k : b.grownBy c g) : a.grownBy c g :=
  ⟨k.os.trans h.os, k.tape.trans h.tape, k.output.trans h.output, Nat.le_trans h.size k.size, fun i hi hne => (k.block i (Nat.lt_of_lt_of_le hi h.size) hne).trans (h.block i hi hne)⟩
theorem Asks.later {w w' : World} {g : Option Nat} {F : Nat} {c1 c2 : Value} {p : Int → Bool} {l : List Int} (h : Asks w g F c1 c2 p l) (hg : w.grownBy w' g) : Asks w' g F c1 c2 p l :=
  fun x hx w2 h2 => h x hx w2 (grown_thr hg h2)
theorem getI_mem {l : List Int} {k : Nat} (h : k < l.length) : l.getD k 0 ∈ l := by
  rw [List.getD_eq_getElem?_getD, List.getElem?_eq_getElem h]; exact List.getElem_mem h
set_option maxRecDepth 1000000 in
set_option maxHeartbeats 4000000 in
theorem index_any {w : World} {u c1 c2 : Value} {l : List Int} {g : Option Nat} {F : Nat} {p : Int → Bool} (hE : Enters F) (hu : Row w u (ints l)) (hf : Asks w g F c1 c2 p l) :
    Calls Tryz.prog 118 #[u, .func (.func F) #[] #[c1, c2]] w fun e w' => e = .returned (.int .i64 (idxI p l)) ∧ Below w.heap.size w w' := by
  have HU := Lib.hid hu
  have HF := Lib.hid hf
  have HEN := Lib.hid hE
  clear hE
  obtain ⟨ua, uc, rfl, hm1⟩ := hu.form
  simp only [ints_len] at *
  have hl1 : l.length ≤ 9223372036854775807 := by unfold maxLen at hm1; omega
  clear hu hm1 hf
  go_enter Tryz.func118, Tryz.ntmps118
  go_wp2_with fail
  go_loopw [8] (fun i wr => ∃ (k : Nat), k ≤ l.length ∧ i = .int .i64 k ∧ k ≤ l.findIdx p ∧ Below w.heap.size w wr) (fun i _ => l.length - (intOf i).toNat)
  case atStart => exact ⟨0, Nat.zero_le _, rfl, Nat.zero_le _, Below.refl _ _⟩
  case round =>
    obtain ⟨k, hk, rfl, htk, hbw⟩ := hrel
    have HTK := Lib.hid htk
    have HBW := Lib.hid hbw
    clear htk hbw
    generalize wr = W1 at *
    by_cases hlt : k < l.length
    · have hlt2 : (k : Int) < (l.length : Int) := by omega
      have HK := Lib.hid hlt
      obtain ⟨b1, o1, cc1, he1, hc1, _, _⟩ := row_at (p := k) (HU.out.below HBW.out) (by rw [ints_len]; exact hlt)
      rw [ints_at l k hlt] at hc1
      simp only [ints_len, Value.slice.injEq, true_and] at he1
      obtain ⟨rfl, rfl⟩ := he1
      have HNX := Lib.hid (fun h => idx_next HK.out HTK.out h)
      have HHR := Lib.hid (fun h => idx_here HK.out HTK.out h)
      have HMM := Lib.hid (getI_mem hlt)
      have hk2 : IntKind.i64.wrap ((k : Int) + 1) = (k : Int) + 1 := IntWalk.i64_in _ (by omega)
      clear hlt hk
      generalize l.getD k 0 = x at *
      go_wp2_with fail
      rw [HEN.out]
      refine (HF.out x HMM.out W1 (grown_from HBW.out)).mono ?_
      rintro e w2 ⟨rfl, hb⟩
      have HB2 := Lib.hid (HBW.out.trans (hb.mono HBW.out.size))
      clear hb
      obtain ⟨y, hy⟩ : ∃ y, p x = y := ⟨_, rfl⟩
      rw [hy] at HNX HHR ⊢
      clear hy
      cases y with
      | true =>
        have HE := Lib.hid (HHR.out rfl)
        go_wp2
        go_ret
        exact ⟨(by first | (rw [HE.out]; done) | (rw [HE.out]; rfl)), HB2.out⟩
      | false =>
        have HE := Lib.hid (HNX.out rfl)
        go_wp2_with fail
        go_roundw
        case rel => exact ⟨k + 1, by have := HK.out; omega, by go_num, HE.out, HB2.out⟩
        case measure => have := HK.out; simp [intOf]; omega
    · obtain rfl : k = l.length := by omega
      have hlt2 : ¬ (l.length : Int) < (l.length : Int) := by omega
      have HE := Lib.hid (idx_none HTK.out)
      clear hlt hk
      go_wp2
      go_ret
      exact ⟨(by first | (rw [HE.out]; done) | (rw [HE.out]; rfl)), HBW.out⟩
set_option maxRecDepth 1000000 in
set_option maxHeartbeats 4000000 in
theorem contains_any {w : World} {u c1 c2 : Value} {l : List Int} {g : Option Nat} {F : Nat} {p : Int → Bool} (hE : Enters F) (hu : Row w u (ints l)) (hf : Asks w g F c1 c2 p l) :
    Calls Tryz.prog 87 #[u, .func (.func F) #[] #[c1, c2]] w fun e w' => e = .returned (.bool (l.any p)) ∧ Below w.heap.size w w' := by
  have HC := Lib.hid (index_any hE hu hf)
  have HA := Lib.hid (idx_any p l)
  obtain ⟨ua, uc, rfl, hm1⟩ := hu.form
  clear hu hm1 hf hE
  go_enter Tryz.func87, Tryz.ntmps87
  go_wp2_with fail
  refine HC.out.mono ?_
  rintro e w2 ⟨rfl, hb⟩
  have HB := Lib.hid hb
  clear HC hb
  go_wp2
  go_ret
  exact ⟨by rw [← HA.out]; rfl, HB.out⟩
set_option maxRecDepth 1000000 in
theorem enters1 : Enters 84 := fun _ _ => by rfl
set_option maxRecDepth 1000000 in
theorem enters2 : Enters 86 := fun _ _ => by rfl
end Go.Proofs.YtgplajofemencaaGreat
/- slices.DeleteFunc over numbers that the call has made, asked by a closure that only makes memory. -/
namespace Go.Proofs.YtgplajofemencaaGreat
open Go.ChangeShapes Go.WideShapes Go.ChangeAt Go.RowKit

def notP (p : Int → Bool) : Int → Bool := fun x => !p x
theorem OwnI.len {w : World} {B n cap : Nat} {a : Option Addr} {l : List Int} (h : OwnI w B (.slice a n cap) l) : n = l.length := by
  obtain ⟨_, _, he⟩ := h.shape
  simp at he; exact he.2.1
theorem OwnI.cut {w : World} {B g n cap : Nat} {l : List Int} (h : OwnI w B (.slice (some ⟨g, 0, none⟩) n cap) l) {i : Nat} (hi : i ≤ n) : OwnI w B (.slice (some ⟨g, 0, none⟩) i cap) (l.take i) := by
  have hn := h.len
  subst hn
  obtain ⟨h1, h2⟩ := (show w.ownsRow B 3 1 (.slice (some ⟨g, 0, none⟩) l.length cap) l.length (ints l) from h)
  rcases h2 with ⟨h3, _⟩ | ⟨g', cap', cur, h3, h4, h5, h6, h7, h8, h9⟩
  · cases h3
  · simp only [Value.slice.injEq, Option.some.injEq, Addr.mk.injEq, and_true, true_and] at h3
    obtain ⟨rfl, rfl⟩ := h3
    have e : (l.take i).length = i := by rw [List.length_take]; omega
    refine ⟨by rw [ints_len]; omega, .inr ⟨g, cap, cur, by rw [e], h4, h5, by omega, h7, h8, ?_⟩⟩
    rw [e, ← ints_take, ← h9, List.take_take, Nat.min_eq_left (by omega)]
    simp
theorem own_setCells {B g n cap : Nat} : ∀ (k o : Nat) (w : World) (cur : List Int), OwnI w B (.slice (some ⟨g, 0, none⟩) n cap) cur →
    ∃ cur', OwnI (w.setCells g o (List.replicate k (.int .i64 0))) B (.slice (some ⟨g, 0, none⟩) n cap) cur' ∧ cur'.take o = cur.take o ∧ w.grownBy (w.setCells g o (List.replicate k (.int .i64 0))) (some g)
  | 0, _, w, cur, h => ⟨cur, h, rfl, ⟨rfl, rfl, rfl, Nat.le_refl _, fun _ _ _ => rfl⟩⟩
  | k + 1, o, w, cur, h => by
    obtain ⟨h1, _, _, _⟩ := h.stored o 0
    have hn := h.len
    subst hn
    have hg := ((show w.ownsRow B 3 1 (.slice (some ⟨g, 0, none⟩) cur.length cap) cur.length (ints cur) from h).stored o (.int .i64 0)).2
    obtain ⟨cur', k1, k2, k3⟩ := own_setCells k (o + 1) _ _ h1
    refine ⟨cur', k1, ?_, grown_thr hg k3⟩
    have e := congrArg (List.take o) k2
    rw [List.take_take, List.take_take, Nat.min_eq_left (by omega)] at e
    rw [e, List.take_set_of_le (by omega)]
theorem own_clear {w : World} {B g n cap : Nat} {cur : List Int} (h : OwnI w B (.slice (some ⟨g, 0, none⟩) n cap) cur) {i : Nat} (hi : i < n) :
    (∀ ty, (Builtin.clear_ #[28] ty #[.slice (some ⟨g, i, none⟩) (n - i) (cap - i)]).run Tryz.prog w = .ok (.tuple #[]) (w.setCells g i (List.replicate (n - i) (.int .i64 0)))) ∧
    OwnI (w.setCells g i (List.replicate (n - i) (.int .i64 0))) B (.slice (some ⟨g, 0, none⟩) i cap) (cur.take i) ∧ w.grownBy (w.setCells g i (List.replicate (n - i) (.int .i64 0))) (some g) := by
  have hn := h.len
  subst hn
  have h' : w.ownsRow B 3 1 (.slice (some ⟨g, 0, none⟩) cur.length cap) cur.length (ints cur) := h
  obtain ⟨cur', k1, k2, k3⟩ := own_setCells (cur.length - i) i w cur h
  refine ⟨fun ty => ?_, ?_, k3⟩
  · have := Lib.run_clear_slice (P := Tryz.prog) w 28 3 ty (.int .i64 0) Tryz.underlying28 (fun w => by kernel_rfl) rfl rfl g i (cur.length - i) (cap - i) (by omega)
      (fun j hj => by rw [h.cell (i + j) (by omega)]; rfl) (fun j _ => h'.frozenAt (i + j))
    exact this
  · rw [← k2]
    exact k1.cut (by omega)
theorem start_del {p : Int → Bool} {l : List Int} (h : l.findIdx p < l.length) : l.take (l.findIdx p) = (l.take (l.findIdx p + 1)).filter (notP p) := by
  obtain ⟨k, hk⟩ : ∃ k, l.findIdx p = k := ⟨_, rfl⟩
  rw [hk] at h ⊢
  rw [List.take_succ_eq_append_getElem h, List.filter_append]
  have h1 : (l.take k).filter (notP p) = l.take k := List.filter_eq_self.2 (fun x hx => by
    obtain ⟨i, hi, rfl⟩ := List.mem_iff_getElem.1 hx
    rw [List.length_take] at hi
    rw [List.getElem_take]
    have := List.not_of_lt_findIdx (p := p) (xs := l) (i := i) (by omega)
    unfold notP; simpa using this)
  have h2 : p l[k] = true := by
    have := List.findIdx_getElem (p := p) (w := show l.findIdx p < l.length by omega)
    simpa only [hk] using this
  rw [h1]
  simp [notP, h2]
theorem next_del {p : Int → Bool} {l : List Int} {m : Nat} (h : m < l.length) : (l.take (m + 1)).filter (notP p) = if p (l.getD m 0) = true then (l.take m).filter (notP p) else (l.take m).filter (notP p) ++ [l.getD m 0] := by
  have hg : l.getD m 0 = l[m] := by rw [List.getD_eq_getElem?_getD, List.getElem?_eq_getElem h]; rfl
  rw [hg, List.take_succ_eq_append_getElem h, List.filter_append]
  split
  · rename_i hp; simp [notP, hp]
  · rename_i hp; simp [notP, hp]
theorem none_del {p : Int → Bool} {l : List Int} (h : l.length ≤ l.findIdx p) : l.filter (notP p) = l := by
  refine List.filter_eq_self.2 (fun x hx => ?_)
  obtain ⟨i, hi, rfl⟩ := List.mem_iff_getElem.1 hx
  have := List.not_of_lt_findIdx (p := p) (xs := l) (i := i) (by omega)
  unfold notP; simpa using this
theorem drop_getD {l cur : List Int} {m : Nat} (h : cur.drop m = l.drop m) : cur.getD m 0 = l.getD m 0 ∧ cur.drop (m + 1) = l.drop (m + 1) := by
  constructor
  · have e := congrArg (fun (x : List Int) => x[0]?) h
    simp only [List.getElem?_drop, Nat.add_zero] at e
    rw [List.getD_eq_getElem?_getD, List.getD_eq_getElem?_getD, e]
  · have e := congrArg (List.drop 1) h
    rw [List.drop_drop, List.drop_drop] at e
    exact e
theorem take_set_next {cur : List Int} {q : Nat} (x : Int) (h : q < cur.length) : (cur.set q x).take (q + 1) = cur.take q ++ [x] := by
  rw [List.take_succ_eq_append_getElem (by simpa using h), List.take_set_of_le (Nat.le_refl _)]
  simp
set_option maxRecDepth 1000000 in
set_option maxHeartbeats 4000000 in
theorem delete_any {w : World} {u c1 c2 : Value} {l : List Int} {B F : Nat} {p : Int → Bool} (hE : Enters F) (hu : OwnI w B u l) (hf : Asks w u.ownBlock F c1 c2 p l) (hlen : l.length ≤ 1000000) :
    Calls Tryz.prog 88 #[u, .func (.func F) #[] #[c1, c2]] w fun e w' => ∃ u', e = .returned u' ∧ OwnI w' B u' (l.filter (notP p)) ∧ u'.ownBlock = u.ownBlock ∧ w.grownBy w' u.ownBlock := by
  have HU := Lib.hid hu
  have HF := Lib.hid hf
  have HE := Lib.hid hE
  have HI := Lib.hid (index_any hE hu.row hf)
  have HLE := Lib.hid hlen
  have hl1 : l.length ≤ 9223372036854775807 := by omega
  obtain ⟨ua, uc, rfl⟩ := hu.shape
  clear hf hE hlen
  go_enter Tryz.func88, Tryz.ntmps88
  go_wp2_with fail
  refine HI.out.mono ?_
  rintro e w1 ⟨rfl, hb⟩
  have HB := Lib.hid hb
  clear hb HI
  by_cases hx : l.findIdx p < l.length
  rotate_left
  · have he : idxI p l = -1 := idx_none (by omega)
    have HN := Lib.hid (none_del (p := p) (l := l) (by omega))
    rw [he]
    clear hx he hu
    go_wp2
    go_ret
    exact ⟨_, rfl, by rw [HN.out]; exact HU.out.below HB.out, rfl, grown_from HB.out⟩
  have he : idxI p l = (l.findIdx p : Int) := by unfold idxI; rw [if_pos hx]
  rw [he]
  have HX := Lib.hid hx
  have HS := Lib.hid (start_del hx)
  obtain ⟨g, rfl⟩ : ∃ g, ua = some ⟨g, 0, none⟩ := by
    rcases (show w.ownsRow B 3 1 (.slice ua l.length uc) l.length (ints l) from hu).2 with ⟨_, h0⟩ | ⟨g, cap, cur, hv, _⟩
    · omega
    · simp only [Value.slice.injEq] at hv; exact ⟨g, hv.1⟩
  clear hu
  obtain ⟨q0, hq0⟩ : ∃ q, l.findIdx p = q := ⟨_, rfl⟩
  rw [hq0] at HX HS ⊢
  clear hx he hq0
  have b0 : ((q0 : Int) == -1) = false := by first | (simp; done) | (simp; omega)
  have hw0 : IntKind.i64.wrap ((q0 : Int) + 1) = (q0 : Int) + 1 := IntWalk.i64_in _ (by have := HX.out; omega)
  go_wp2_with fail
  go_loopw [5, 6] (fun i j wr => ∃ (q m : Nat) (cur : List Int), i = .int .i64 q ∧ j = .int .i64 m ∧ m ≤ l.length ∧ q < m ∧ cur.length = l.length ∧ cur.take q = (l.take m).filter (notP p) ∧ cur.drop m = l.drop m ∧
    OwnI wr B (.slice (some ⟨g, 0, none⟩) l.length uc) cur ∧ w.grownBy wr (some g)) (fun _ j _ => l.length - (intOf j).toNat)
  case atStart => exact ⟨q0, q0 + 1, l, rfl, rfl, by have := HX.out; omega, by omega, rfl, HS.out, rfl, HU.out.below HB.out, grown_from HB.out⟩
  case round =>
    obtain ⟨q, m, cur, rfl, rfl, hm, hqm, hcl, hct, hcd, hco, hgw⟩ := hrel
    have HCT := Lib.hid hct
    have HCD := Lib.hid hcd
    have HCO := Lib.hid hco
    have HGW := Lib.hid hgw
    have HCL := Lib.hid hcl
    have HQM := Lib.hid hqm
    have HM := Lib.hid hm
    clear hct hcd hco hgw
    generalize wr = W1 at *
    by_cases hlt : m < l.length
    · have HK := Lib.hid hlt
      have hlt2 : (m : Int) < (l.length : Int) := by omega
      have hc1 := HCO.out.cell m (by omega)
      rw [(drop_getD HCD.out).1] at hc1
      have HND := Lib.hid (next_del (p := p) hlt)
      have HMM := Lib.hid (getI_mem hlt)
      have hk2 : IntKind.i64.wrap ((m : Int) + 1) = (m : Int) + 1 := IntWalk.i64_in _ (by omega)
      have hk3 : IntKind.i64.wrap ((q : Int) + 1) = (q : Int) + 1 := IntWalk.i64_in _ (by omega)
      have hq2 : (q : Int) < (l.length : Int) := by omega
      clear hlt hm hqm hcl
      generalize l.getD m 0 = x at *
      go_wp2_with fail
      rw [HE.out]
      refine (HF.out x HMM.out W1 HGW.out).mono ?_
      rintro e w2 ⟨rfl, hb⟩
      have HO2 := Lib.hid (HCO.out.below hb)
      have HG2 := Lib.hid (grown_thr HGW.out (grown_from hb))
      clear hb
      obtain ⟨y, hy⟩ : ∃ y, p x = y := ⟨_, rfl⟩
      rw [hy] at HND ⊢
      clear hy
      cases y with
      | true =>
        have HT := Lib.hid (show (l.take (m + 1)).filter (notP p) = (l.take m).filter (notP p) from by rw [HND.out, if_pos rfl])
        go_wp2_with fail
        go_roundw
        case rel => exact ⟨q, m + 1, cur, rfl, by go_num, by have := HK.out; omega, by have := HQM.out; omega, HCL.out, by rw [HCT.out, HT.out], (drop_getD HCD.out).2, HO2.out, HG2.out⟩
        case measure => have := HK.out; simp [intOf]; omega
      | false =>
        have HT := Lib.hid (show (l.take (m + 1)).filter (notP p) = (l.take m).filter (notP p) ++ [x] from by rw [HND.out, if_neg (by simp)])
        obtain ⟨hs1, _, _, hs2⟩ := HO2.out.stored q x
        have hs3 := HO2.out.cell q (by have := HQM.out; have := HK.out; have := HCL.out; omega)
        have hs4 := ((show w2.ownsRow B 3 1 (.slice (some ⟨g, 0, none⟩) l.length uc) l.length (ints cur) by have := HO2.out; unfold OwnI at this; rw [HCL.out] at this; exact this).stored q (.int .i64 x)).2
        have HS1 := Lib.hid hs1
        have HS4 := Lib.hid (grown_thr HG2.out hs4)
        clear hs1 hs4
        go_wp2_with fail
        go_roundw
        case rel => exact ⟨q + 1, m + 1, cur.set q x, by go_num, by go_num, by have := HK.out; omega, by have := HQM.out; omega, by rw [List.length_set]; exact HCL.out,
          by rw [take_set_next x (by have := HQM.out; have := HK.out; have := HCL.out; omega), HCT.out, HT.out], by rw [List.drop_set_of_lt (by have := HQM.out; omega)]; exact (drop_getD HCD.out).2, HS1.out, HS4.out⟩
        case measure => have := HK.out; simp [intOf]; omega
    · obtain rfl : m = l.length := by omega
      have hlt2 : ¬ (l.length : Int) < (l.length : Int) := by omega
      obtain ⟨e1, e2, e3⟩ := own_clear HCO.out (i := q) (by omega)
      have hcap : l.length ≤ uc := by
        rcases (show W1.ownsRow B 3 1 (.slice (some ⟨g, 0, none⟩) l.length uc) cur.length (ints cur) from HCO.out).2 with ⟨hv, _⟩ | ⟨g', cap, cr, hv, _, _, hn, _⟩
        · cases hv
        · simp only [Value.slice.injEq] at hv; have := hv.2.2; have := HCL.out; omega
      have HO3 := Lib.hid e2
      have HG3 := Lib.hid (grown_thr HGW.out e3)
      have hq1 : (q : Int) ≤ (l.length : Int) := by omega
      have hq2 : (q : Int) ≤ (uc : Int) := by omega
      have hq3 : ¬ uc = q := by omega
      have hq4 : q ≤ l.length := by omega
      have hq5 : q ≤ uc := by omega
      clear e2 e3 hlt hm
      go_wp2
      go_ret
      refine ⟨_, rfl, ?_, rfl, HG3.out⟩
      have h9 := HCT.out
      rw [List.take_length] at h9
      rw [← h9]
      exact HO3.out
end Go.Proofs.YtgplajofemencaaGreat
/- slices.BinarySearch over numbers that rise. -/
namespace Go.Proofs.YtgplajofemencaaGreat
open Go.ChangeShapes Go.WideShapes Go.ChangeAt Go.RowKit

set_option maxRecDepth 1000000 in
theorem cnan_any (x : Int) (w : World) : Calls Tryz.prog 100 #[.int .i64 x] w fun e w' => e = .returned (.bool false) ∧ w = w' := by
  have h0 : (x != x) = false := by simp
  go_enter Tryz.func100, Tryz.ntmps100
  go_wp2
  go_ret
  first | exact ⟨rfl, rfl⟩ | exact ⟨by simp, rfl⟩
set_option maxRecDepth 1000000 in
theorem snan_any (x : Int) (w : World) : Calls Tryz.prog 120 #[.int .i64 x] w fun e w' => e = .returned (.bool false) ∧ w = w' := by
  have h0 : (x != x) = false := by simp
  go_enter Tryz.func120, Tryz.ntmps120
  go_wp2
  go_ret
  first | exact ⟨rfl, rfl⟩ | exact ⟨by simp, rfl⟩
set_option maxRecDepth 1000000 in
set_option maxHeartbeats 1000000 in
theorem cless_any (x y : Int) (w : World) : Calls Tryz.prog 119 #[.int .i64 x, .int .i64 y] w fun e w' => e = .returned (.bool (decide (x < y))) ∧ w = w' := by
  go_enter Tryz.func119, Tryz.ntmps119
  go_wp2_with fail
  refine (cnan_any x _).mono ?_
  rintro e w2 ⟨rfl, rfl⟩
  go_wp2
  go_ret
  exact ⟨rfl, rfl⟩
/-- How many are below t: where t is to be looked for. -/
theorem rises_at {l : List Int} (h : l.Pairwise (fun a b => a < b)) {i j : Nat} (hij : i < j) (hj : j < l.length) : l.getD i 0 < l.getD j 0 := by
  have h1 := (List.pairwise_iff_getElem.1 h) i j (by omega) hj hij
  rw [List.getD_eq_getElem?_getD, List.getD_eq_getElem?_getD, List.getElem?_eq_getElem hj, List.getElem?_eq_getElem (show i < l.length by omega)]
  exact h1
theorem mem_getD {l : List Int} {t : Int} : t ∈ l ↔ ∃ i, i < l.length ∧ l.getD i 0 = t := by
  rw [List.mem_iff_getElem]
  constructor
  · rintro ⟨i, hi, rfl⟩
    exact ⟨i, hi, by rw [List.getD_eq_getElem?_getD, List.getElem?_eq_getElem hi]; rfl⟩
  · rintro ⟨i, hi, rfl⟩
    exact ⟨i, hi, by rw [List.getD_eq_getElem?_getD, List.getElem?_eq_getElem hi]; rfl⟩
def OnLeft (l : List Int) (t : Int) (i : Nat) : Prop := ∀ k, k < i → l.getD k 0 < t
def OnRight (l : List Int) (t : Int) (j : Nat) : Prop := ∀ k, j ≤ k → k < l.length → t ≤ l.getD k 0
theorem left_on {l : List Int} (hs : l.Pairwise (fun a b => a < b)) {t : Int} {h : Nat} (hh : h < l.length) (hx : l.getD h 0 < t) : OnLeft l t (h + 1) := by
  intro k hk
  rcases Nat.lt_or_ge k h with h1 | h1
  · exact Int.lt_trans (rises_at hs h1 hh) hx
  · obtain rfl : k = h := by omega
    exact hx
theorem right_on {l : List Int} (hs : l.Pairwise (fun a b => a < b)) {t : Int} {h : Nat} (hx : ¬ l.getD h 0 < t) : OnRight l t h := by
  intro k hk hkl
  rcases Nat.lt_or_ge h k with h1 | h1
  · have := rises_at hs h1 hkl; omega
  · obtain rfl : k = h := by omega
    omega
theorem found_at {l : List Int} {t : Int} {i : Nat} (hl : OnLeft l t i) (hr : OnRight l t i) (hs : l.Pairwise (fun a b => a < b)) : decide (t ∈ l) = (decide (i < l.length) && decide (l.getD i 0 = t)) := by
  rw [Bool.eq_iff_iff]
  simp only [decide_eq_true_eq, Bool.and_eq_true]
  rw [mem_getD]
  constructor
  · rintro ⟨k, hk, rfl⟩
    have h1 : ¬ k < i := fun h => by have := hl k h; omega
    have h2 : k = i := by
      rcases Nat.lt_or_ge i k with h | h
      · have a1 := rises_at hs h hk
        have a2 := hr i (Nat.le_refl _) (by omega)
        omega
      · omega
    subst h2
    exact ⟨hk, rfl⟩
  · rintro ⟨h1, h2⟩
    exact ⟨i, h1, h2⟩
set_option maxRecDepth 1000000 in
set_option maxHeartbeats 4000000 in
theorem binary_any {w : World} {u : Value} {l : List Int} {t : Int} (hu : Row w u (ints l)) (hs : l.Pairwise (fun a b => a < b)) (hlen : l.length ≤ 1000000) :
    Calls Tryz.prog 90 #[u, .int .i64 t] w fun e w' => (∃ i : Int, e = .returned (.tuple #[.int .i64 i, .bool (decide (t ∈ l))])) ∧ w = w' := by
  have HU := Lib.hid hu
  have HS := Lib.hid hs
  have HLE := Lib.hid hlen
  obtain ⟨ua, uc, rfl, hm1⟩ := hu.form
  simp only [ints_len] at *
  clear hu hs hm1 hlen
  have hl1 : l.length ≤ 9223372036854775807 := by have := HLE.out; omega
  go_enter Tryz.func90, Tryz.ntmps90
  go_wp2_with fail
  go_loop [7, 8] (fun i j => ∃ (a b : Nat), i = .int .i64 a ∧ j = .int .i64 b ∧ a ≤ b ∧ b ≤ l.length ∧ OnLeft l t a ∧ OnRight l t b) (fun i j => (intOf j).toNat - (intOf i).toNat)
  case atStart => exact ⟨0, l.length, rfl, rfl, Nat.zero_le _, Nat.le_refl _, fun k hk => absurd hk (Nat.not_lt_zero _), fun k h1 h2 => by omega⟩
  case round =>
    obtain ⟨a, b, rfl, rfl, hab, hbl, hle, hri⟩ := hrel
    have HL := Lib.hid hle
    have HR := Lib.hid hri
    have HBL := Lib.hid hbl
    have HAB := Lib.hid hab
    clear hle hri
    by_cases hlt : a < b
    · have hlt2 : (a : Int) < (b : Int) := by omega
      have HK := Lib.hid hlt
      obtain ⟨h, hh⟩ : ∃ h : Nat, (a + b) / 2 = h := ⟨_, rfl⟩
      have hh1 : a ≤ h := by omega
      have hh2 : h < b := by omega
      have hh3 : h < l.length := by omega
      have q1 : IntKind.i64.wrap ((a : Int) + (b : Int)) = ((a + b : Nat) : Int) := by
        have := IntWalk.i64_in ((a : Int) + (b : Int)) (by have := HLE.out; omega)
        rw [this]; omega
      have HH1 := Lib.hid hh1
      have HH2 := Lib.hid hh2
      have HH3 := Lib.hid hh3
      have HHH := Lib.hid hh
      clear hab hbl hlt hh hh1 hh2
      have hw : IntKind.u64.wrap ((a : Int) + (b : Int)) = (a : Int) + (b : Int) := IntWalk.u64_in _ (by have := HLE.out; have := HBL.out; omega)
      have q2 : wrap64 (((a : Int) + (b : Int)) / 2) = (h : Int) := by
        rw [show ((a : Int) + (b : Int)) / 2 = (h : Int) by have := HHH.out; omega]
        exact IntWalk.wrap64_in _ (by have := HH3.out; have := HLE.out; omega)
      go_upto_region 5 with fail
      rw [q2]
      clear q1 q2 hw
      obtain ⟨b1, o1, cc1, he1, hc1, _, _⟩ := row_at (p := h) HU.out (by rw [ints_len]; exact hh3)
      rw [ints_at l h hh3] at hc1
      simp only [ints_len, Value.slice.injEq, true_and] at he1
      obtain ⟨rfl, rfl⟩ := he1
      have HY := Lib.hid (fun hx => left_on HS.out (t := t) HH3.out hx)
      have HN := Lib.hid (fun hx => right_on HS.out (t := t) (h := h) hx)
      have hhi : (h : Int) < (l.length : Int) := by omega
      have hk2 : IntKind.i64.wrap ((h : Int) + 1) = (h : Int) + 1 := IntWalk.i64_in _ (by have := HLE.out; omega)
      clear hh3
      generalize l.getD h 0 = x at *
      go_wp2_with fail
      refine (cless_any x t _).mono ?_
      rintro e w2 ⟨rfl, rfl⟩
      by_cases hx : x < t
      · have hxd := decide_eq_true hx
        have HE := Lib.hid (HY.out hx)
        clear hx
        go_wp2
        go_round
        case rel => exact ⟨h + 1, b, by go_num, rfl, by have := HH2.out; omega, HBL.out, HE.out, HR.out⟩
        case measure => have := HH1.out; have := HH2.out; simp [intOf]; omega
      · have hxd := decide_eq_false hx
        have HE := Lib.hid (HN.out (by omega))
        clear hx
        go_wp2
        go_round
        case rel => exact ⟨a, h, rfl, rfl, HH1.out, by have := HH2.out; have := HBL.out; omega, HL.out, HE.out⟩
        case measure => have := HH1.out; have := HH2.out; simp [intOf]; omega
    · obtain rfl : a = b := by omega
      have hlt2 : ¬ (a : Int) < (a : Int) := by omega
      have HFA := Lib.hid (found_at HL.out HR.out HS.out)
      clear hlt hab
      by_cases hal : a < l.length
      · have hal2 : (a : Int) < (l.length : Int) := by omega
        have hd1 := decide_eq_true hal
        obtain ⟨b1, o1, cc1, he1, hc1, _, _⟩ := row_at (p := a) HU.out (by rw [ints_len]; exact hal)
        rw [ints_at l a hal] at hc1
        simp only [ints_len, Value.slice.injEq, true_and] at he1
        obtain ⟨rfl, rfl⟩ := he1
        generalize l.getD a 0 = x at *
        by_cases hx : x = t
        · have hxb : (x == t) = true := by simp [hx]
          have HE := Lib.hid (show decide (t ∈ l) = true by rw [HFA.out, hd1, decide_eq_true hx]; rfl)
          clear hx
          go_wp2
          exact bodyPost_ret (v := .tuple #[.int .i64 a, .bool true]) (by simp [results, Tryz.results90, go_sem]) rfl ⟨⟨_, by rw [HE.out]⟩, rfl⟩
        · have hxb : (x == t) = false := by simp [hx]
          have HE := Lib.hid (show decide (t ∈ l) = false by rw [HFA.out, hd1, decide_eq_false hx]; rfl)
          clear hx
          go_wp2_with fail
          refine (snan_any x _).mono ?_
          rintro e w2 ⟨rfl, rfl⟩
          go_wp2
          exact bodyPost_ret (v := .tuple #[.int .i64 a, .bool false]) (by simp [results, Tryz.results90, go_sem]) rfl ⟨⟨_, by rw [HE.out]⟩, rfl⟩
      · have hal2 : ¬ (a : Int) < (l.length : Int) := by omega
        have HE := Lib.hid (show decide (t ∈ l) = false by rw [HFA.out, decide_eq_false hal]; rfl)
        have hd1 := decide_eq_false hal
        clear hal
        go_wp2
        exact bodyPost_ret (v := .tuple #[.int .i64 a, .bool false]) (by simp [results, Tryz.results90, go_sem]) rfl ⟨⟨_, by rw [HE.out]⟩, rfl⟩
end Go.Proofs.YtgplajofemencaaGreat
