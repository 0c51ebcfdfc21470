/- What scan.Print answers. -/
import Derived.Test.YtkhlmgkapmofiaaDoorArgs
import Derived.Test.YtkhlmgkapmofiaaDoorMathp
import Derived.Test.YtkhlmgkapmofiaaDoorLay
namespace Go.Proofs.YtkhlmgkapmofiaaDoor
open Go.ChangeShapes Go.WideShapes Go.ChangeAt Go.RowKit

/-- The library's table of powers of ten: its name, as the row has it. -/
def tabN : String := Rows.instParsesRow.named.headD ""
/-- It reads so, and goes on reading so whatever is done from B on. -/
def Tab (B : Nat) (w : World) : Prop := Lib.TabBelow Tryd.prog B w tabN .u64 Lib.pow10Tab
theorem Tab.on {B : Nat} {w w1 : World} (h : Tab B w) (hb : Below B w w1) : Tab B w1 := Lib.TabBelow.on h hb
theorem Tab.up {B B' : Nat} {w : World} (h : Tab B w) (hB : B ≤ B') : Tab B' w := fun w' hb => h w' (hb.mono hB)
def Fits (L : List (List Int)) : Prop := ∀ l ∈ L, ∀ n ∈ l, -9223372036854775808 ≤ n ∧ n ≤ 9223372036854775807
theorem cells_itoa (i : Int) : Lib.byteCells (Lib.itoa i) = byts (itoaI i) := by
  unfold Lib.byteCells byts itoaI toI
  rw [List.map_map]
  rfl
theorem len_itoa (i : Int) : (Lib.itoa i).length = (itoaI i).length := by simp [itoaI, toI]
theorem appendInt_any {w : World} {B : Nat} {v : Value} {ys : List Int} (ho : OwnB w B v ys) (hB : B ≤ w.heap.size) (i : Int) (h0 : -9223372036854775808 ≤ i) (h1 : i ≤ 9223372036854775807) (hl : ys.length ≤ 100000000) (ht : Tab B w) :
    Calls Tryd.prog 45 #[v, .int .i64 i, .int .i64 10] w fun e w' => ∃ v', e = .returned v' ∧ OwnB w' B v' (ys ++ itoaI i) ∧ Below B w w' := by
  refine (Any.strconv_AppendInt_10 Tryd.laysAI B ys.length i h0 h1 v (byts ys) w ho hB (by omega) ht).mono ?_
  rintro e w' ⟨v', he, hown, hb, _⟩
  refine ⟨v', he, ?_, hb⟩
  rw [cells_itoa, len_itoa] at hown
  unfold OwnB
  rw [List.length_append, show byts (ys ++ itoaI i) = byts ys ++ byts (itoaI i) by simp [byts]]
  exact hown
theorem own_some {w : World} {B : Nat} {v : Value} {ys : List Int} (h : OwnB w B v ys) (hn : ys ≠ []) : ∃ g cg, v = .slice (some ⟨g, 0, none⟩) ys.length cg := by
  unfold OwnB at h
  rcases h.2 with ⟨_, h0⟩ | ⟨g, cg, cur, h, _⟩
  · exact (hn (List.eq_nil_of_length_eq_zero h0)).elim
  · exact ⟨g, cg, h⟩
/-- Its last byte is another one. -/
theorem own_last {w : World} {B g n cap : Nat} {zs : List Int} {c : Int} (h : OwnB w B (.slice (some ⟨g, 0, none⟩) n cap) (zs ++ [c])) (d : Int) :
    n = zs.length + 1 ∧ w.cell? ⟨g, zs.length, none⟩ = some (.int .u8 c) ∧ w.frozen? ⟨g, zs.length, none⟩ = false ∧ g < w.heap.size ∧
    OwnB (w.setCell ⟨g, zs.length, none⟩ (.int .u8 d)) B (.slice (some ⟨g, 0, none⟩) n cap) (zs ++ [d]) ∧ Below B w (w.setCell ⟨g, zs.length, none⟩ (.int .u8 d)) := by
  have hn : n = zs.length + 1 := by
    rcases (show w.ownsRow B 5 1 _ (zs ++ [c]).length (byts (zs ++ [c])) from h).2 with ⟨h', _⟩ | ⟨g', cap', cur, h', _⟩
    · simp at h'
    · simp at h'; omega
  subst hn
  have h' : w.ownsRow B 5 1 (.slice (some ⟨g, 0, none⟩) (zs.length + 1) cap) (zs.length + 1) (byts (zs ++ [c])) := by
    have := show w.ownsRow B 5 1 (.slice (some ⟨g, 0, none⟩) (zs.length + 1) cap) (zs ++ [c]).length (byts (zs ++ [c])) from h
    rw [show (zs ++ [c]).length = zs.length + 1 by simp] at this
    exact this
  have hlt := h'.lt g rfl
  have hst := h'.stored zs.length (.int .u8 d)
  refine ⟨rfl, ?_, h'.frozenAt _, hlt.2, ?_, ?_⟩
  · rw [h'.cellAt _ (by omega)]; simp [byts]
  · have := hst.1
    unfold OwnB
    rw [show (zs ++ [d]).length = zs.length + 1 by simp, show byts (zs ++ [d]) = (byts (zs ++ [c])).set zs.length (.int .u8 d) by simp [byts]]
    exact this
  · exact grown_below hst.2 (by have := hlt.1; omega) (fun k hk => by simp at hk; omega)
theorem sp_take (l : List Int) (k : Nat) (hk : k < l.length) (n : Int) (hn : l.getD k 0 = n) : sp (l.take (k + 1)) = sp (l.take k) ++ itoaI n ++ [32] := by
  have e : l.take (k + 1) = l.take k ++ [n] := by
    rw [List.take_add_one, List.getElem?_eq_getElem hk, ← hn, List.getD_eq_getElem?_getD, List.getElem?_eq_getElem hk]; rfl
  rw [e, sp_append]
  simp [sp]
theorem sp_len (l : List Int) : (sp l).length = (lineT l).length := by
  by_cases h : l = []
  · subst h; rfl
  · obtain ⟨z, h1, h2⟩ := sp_line l h
    rw [h1, h2]; simp
theorem sp_mono (l : List Int) (k : Nat) : (sp (l.take k)).length ≤ (lineT l).length := by
  rw [← sp_len l]
  have := congrArg (fun x => (sp x).length) (List.take_append_drop k l)
  simp only [sp_append, List.length_append] at this
  omega

set_option maxRecDepth 1000000 in
set_option maxHeartbeats 1000000 in
theorem appendLine_any {w : World} {B : Nat} {v lv : Value} {ys l : List Int} (ho : OwnB w B v ys) (hB : B ≤ w.heap.size) (hl : ∀ w', Below B w w' → Row w' lv (ints l)) (hf : ∀ n ∈ l, -9223372036854775808 ≤ n ∧ n ≤ 9223372036854775807)
    (hlen : ys.length + (lineT l).length ≤ 5000000) (ht : Tab B w) :
    Calls Tryd.prog 40 #[v, lv] w fun e w' => ∃ v', e = .returned v' ∧ OwnB w' B v' (ys ++ lineT l) ∧ Below B w w' := by
  have HO := Lib.hid ho
  have HL := Lib.hid hl
  have HF := Lib.hid hf
  have HT := Lib.hid ht
  obtain ⟨a, cap, rfl, hm⟩ := (hl w (Below.refl _ _)).form
  simp only [ints_len] at *
  have hm1 : l.length ≤ 9223372036854775807 := by unfold maxLen at hm; omega
  clear ho hl hf ht hm
  go_enter Tryd.func40, Tryd.ntmps40
  go_wp2_with fail
  go_loopw [0, 9] (fun tx i wr => ∃ k : Nat, k ≤ l.length ∧ i = .int .i64 k ∧ OwnB wr B tx (ys ++ sp (l.take k)) ∧ Below B w wr) (fun _ i _ => l.length - (intOf i).toNat)
  case atStart => exact ⟨0, Nat.zero_le _, rfl, by simpa [sp] using HO.out, Below.refl _ _⟩
  case round =>
    obtain ⟨k, hk, rfl, ho, hbw⟩ := hrel
    have HO2 := Lib.hid ho
    have HBW := Lib.hid hbw
    clear ho hbw
    by_cases hlt : k < l.length
    · obtain ⟨tb, off, rfl, hc, htb⟩ := row_cell (HL.out _ HBW.out) k (by rw [ints_len]; exact hlt)
      rw [ints_at _ _ hlt] at hc
      obtain ⟨n, hn⟩ : ∃ n, l.getD k 0 = n := ⟨_, rfl⟩
      rw [hn] at hc
      have HN := Lib.hid (sp_take l k hlt n hn)
      have HFn := Lib.hid (HF.out n (by rw [← hn, List.getD_eq_getElem?_getD, List.getElem?_eq_getElem hlt]; simp))
      have HM := Lib.hid (sp_mono l k)
      have HM2 := Lib.hid (sp_mono l (k + 1))
      clear hn
      go_wp2_with fail
      refine (appendInt_any HO2.out (Nat.le_trans hB HBW.out.size) n HFn.out.1 HFn.out.2 (by have := HM.out; simp; omega) (HT.out.on HBW.out)).mono ?_
      rintro e w2 ⟨v2, rfl, o2, b2⟩
      have O2 := Lib.hid o2
      have B2 := Lib.hid (HBW.out.trans b2)
      clear o2 b2 hc
      go_wp2_with (first | (at_builtin; refine app_bytes rfl _ _ rfl B _ (ys ++ sp (l.take k) ++ itoaI n) rfl (O2.out.alloc _) _ [32] rfl (row_new _ _) (by have h1 := HM2.out; rw [HN.out] at h1; simp at h1 ⊢; omega) (by have := B2.out.size; simp; omega) ?_))
      intro v3 w3 o3 g3 t3
      have O3 := Lib.hid (show OwnB w3 B v3 (ys ++ sp (l.take (k + 1))) by rw [HN.out]; simpa using o3)
      have B3 := Lib.hid (B2.out.trans (grown_below (grown_alloc g3) (by have := B2.out.size; omega) (fun k hk => (World.ownsRow.lt O2.out k hk).1)))
      clear o3 g3 t3
      go_wp2
      go_roundw
      case rel => exact ⟨k + 1, by omega, by go_num, O3.out, B3.out⟩
      case measure => simp [intOf]; omega
    · obtain rfl : k = l.length := by omega
      rw [List.take_length] at HO2
      clear hlt hk
      by_cases hle : l = []
      · subst hle
        simp only [List.length_nil] at *
        have b0 : decide ((0 : Int) < (0 : Int)) = false := by decide
        go_wp2
        go_ret
        exact ⟨_, rfl, HO2.out, HBW.out⟩
      · have hl0 : 0 < l.length := List.length_pos_iff.2 hle
        have b0 : decide ((0 : Int) < (l.length : Int)) = true := decide_eq_true (by omega)
        obtain ⟨z, hz1, hz2⟩ := sp_line l hle
        rw [hz1, ← List.append_assoc] at HO2
        have HZ := Lib.hid hz2
        clear hle hz1 hz2
        obtain ⟨g, cg, hsh⟩ := own_some HO2.out (by simp)
        subst hsh
        obtain ⟨hn, hc, hfz, hg, ho3, hb3⟩ := own_last HO2.out 10
        have O3 := Lib.hid ho3
        have B3 := Lib.hid (HBW.out.trans hb3)
        have HLz := Lib.hid (show (lineT l).length = z.length + 1 by rw [HZ.out]; simp)
        obtain ⟨q, hq⟩ : ∃ q, (ys ++ z).length = q := ⟨_, rfl⟩
        have hq1 : q ≤ 5000000 := by have := HLz.out; simp at hq; omega
        have hlq : (ys ++ z ++ [32]).length = q + 1 := by rw [← hq]; simp; omega
        rw [hlq] at O3 ⊢
        rw [hq] at hc hfz O3 B3
        clear ho3 hb3 hn hq hlq HO2 HBW
        have e1 : IntKind.i64.wrap (q : Int) = (q : Int) := IntWalk.i64_in _ (by omega)
        go_wp2
        go_ret
        exact ⟨_, rfl, by rw [HZ.out]; simpa using O3.out, B3.out⟩

theorem textOf_take (L : List (List Int)) (k : Nat) (hk : k < L.length) : textOf (L.take (k + 1)) = textOf (L.take k) ++ lineT (L.getD k []) := by
  have e : L.take (k + 1) = L.take k ++ [L.getD k []] := by
    rw [List.take_add_one, List.getElem?_eq_getElem hk, List.getD_eq_getElem?_getD, List.getElem?_eq_getElem hk]; rfl
  rw [e, textOf_append]
  simp [textOf]
theorem textOf_mono (L : List (List Int)) (k : Nat) : (textOf (L.take k)).length ≤ (textOf L).length := by
  have := congrArg (fun x => (textOf x).length) (List.take_append_drop k L)
  simp only [textOf_append, List.length_append] at this
  omega
theorem getD_mem {L : List (List Int)} {k : Nat} (hk : k < L.length) : L.getD k [] ∈ L := by
  rw [List.getD_eq_getElem?_getD, List.getElem?_eq_getElem hk]; simp

set_option maxRecDepth 1000000 in
set_option maxHeartbeats 1000000 in
theorem print_any {w : World} {lv : Value} {L : List (List Int)} (h : IsLL w lv L) (hf : Fits L) (hlen : (textOf L).length ≤ 5000000) (ht : Tab w.heap.size w) :
    Calls Tryd.prog 23 #[lv] w fun e w' => ∃ v, e = .returned v ∧ OwnB w' w.heap.size v (textOf L) ∧ Below w.heap.size w w' := by
  have H := Lib.hid h
  have HF := Lib.hid hf
  have HT := Lib.hid ht
  obtain ⟨a, cap, rfl, hm⟩ := h.form
  have hm1 : L.length ≤ 9223372036854775807 := by unfold maxLen at hm; omega
  clear h hf ht hm
  go_enter Tryd.func23, Tryd.ntmps23
  go_wp2_with fail
  go_loopw [3, 8] (fun tx i wr => ∃ k : Nat, k ≤ L.length ∧ i = .int .i64 k ∧ OwnB wr w.heap.size tx (textOf (L.take k)) ∧ Below w.heap.size w wr) (fun _ i _ => L.length - (intOf i).toNat)
  case atStart => exact ⟨0, Nat.zero_le _, rfl, ownB_nil _ _, Below.refl _ _⟩
  case round =>
    obtain ⟨k, hk, rfl, ho, hbw⟩ := hrel
    have HO := Lib.hid ho
    have HBW := Lib.hid hbw
    clear ho hbw
    by_cases hlt : k < L.length
    · obtain ⟨tb, off, a1, n1, c1, rfl, hlt2, hc, hn1, _, r1⟩ := ll_at H.out k hlt
      have hc' := (HBW.out.cell (p := ⟨tb, off + k, none⟩) hlt2).trans hc
      have HR := Lib.hid (show ∀ w', Below w.heap.size wr w' → Row w' (.slice a1 n1 c1) (ints (L.getD k [])) from fun w' hb => r1.below (HBW.out.trans hb))
      have HTK := Lib.hid (textOf_take L k hlt)
      have HM := Lib.hid (textOf_mono L (k + 1))
      have HFk := Lib.hid (HF.out _ (getD_mem hlt))
      have HLN := Lib.hid (show (textOf (L.take k)).length + (lineT (L.getD k [])).length ≤ 5000000 by have h1 := HM.out; rw [HTK.out, List.length_append] at h1; omega)
      clear hc r1 hn1
      go_wp2_with fail
      refine (appendLine_any HO.out HBW.out.size HR.out HFk.out HLN.out (HT.out.on HBW.out)).mono ?_
      rintro e w2 ⟨v2, rfl, o2, b2⟩
      have O2 := Lib.hid (show OwnB w2 w.heap.size v2 (textOf (L.take (k + 1))) by rw [HTK.out]; exact o2)
      have B2 := Lib.hid (HBW.out.trans b2)
      clear o2 b2 hc'
      go_wp2
      go_roundw
      case rel => exact ⟨k + 1, by omega, by go_num, O2.out, B2.out⟩
      case measure => simp [intOf]; omega
    · obtain rfl : k = L.length := by omega
      rw [List.take_length] at HO
      clear hlt hk
      go_wp2
      go_ret
      exact ⟨_, rfl, HO.out, HBW.out⟩

/-- At most 100 lines, of at most 100 numbers each. -/
def Few (L : List (List Int)) : Prop := L.length ≤ 100 ∧ ∀ l ∈ L, l.length ≤ 100
instance (L : List (List Int)) : Decidable (Few L) := by unfold Few; infer_instance
theorem few_step {L : List (List Int)} {k : Nat} (hk : k < L.length) (h : ∀ l ∈ L.take k, l.length ≤ 100) (hc : (L.getD k []).length ≤ 100) : ∀ l ∈ L.take (k + 1), l.length ≤ 100 := by
  intro l hl
  rw [List.take_add_one, List.getElem?_eq_getElem hk] at hl
  simp only [List.mem_append, Option.toList_some, List.mem_singleton] at hl
  rcases hl with hl | rfl
  · exact h l hl
  · rw [List.getD_eq_getElem?_getD, List.getElem?_eq_getElem hk] at hc; exact hc
end Go.Proofs.YtkhlmgkapmofiaaDoor
