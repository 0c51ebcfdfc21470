/- What scan.Print answers. -/
import Derived.Test.YtpdeffpmfbplnaaDoorXSame
import Derived.Test.YtpdeffpmfbplnaaDoorXMath
import Derived.Test.YtpdeffpmfbplnaaDoorLay
import Derived.LaidMore
import Derived.Lib.LaidTab
import Derived.Stop.Joined
import Derived.MakeChecks
import Derived.Laws.BytesArg
import Derived.Deep.RegionHeld3
namespace Go.Proofs.YtpdeffpmfbplnaaDoor
open Go.ChangeShapes Go.WideShapes Go.ChangeAt Go.RowKit

/-- The library's table of powers of ten: its name, as the row has it. -/
def tabN : String := Rows.planCostsRow.named.headD ""
/-- It reads so, and goes on reading so whatever is done from B on. -/
def Tab (B : Nat) (w : World) : Prop := Lib.TabBelow Tryd.prog B w tabN .u64 Lib.pow10Tab
theorem Tab.on {B : Nat} {w w1 : World} (h : Tab B w) (hb : Below B w w1) : Tab B w1 := Lib.TabBelow.on h hb
theorem Tab.up {B B' : Nat} {w : World} (h : Tab B w) (hB : B ≤ B') : Tab B' w := fun w' hb => h w' (hb.mono hB)
def Fits (L : List (List Int)) : Prop := ∀ l ∈ L, ∀ n ∈ l, -9223372036854775808 ≤ n ∧ n ≤ 9223372036854775807
theorem cells_itoa (i : Int) : Lib.byteCells (Lib.itoa i) = byts (itoaI i) := by
  unfold Lib.byteCells byts itoaI toI
  rw [List.map_map]
  rfl
theorem len_itoa (i : Int) : (Lib.itoa i).length = (itoaI i).length := by simp [itoaI, toI]
theorem appendInt_any {w : World} {B : Nat} {v : Value} {ys : List Int} (ho : OwnB w B v ys) (hB : B ≤ w.heap.size) (i : Int) (h0 : -9223372036854775808 ≤ i) (h1 : i ≤ 9223372036854775807) (hl : ys.length ≤ 100000000) (ht : Tab B w) :
    Calls Tryd.prog 80 #[v, .int .i64 i, .int .i64 10] w fun e w' => ∃ v', e = .returned v' ∧ OwnB w' B v' (ys ++ itoaI i) ∧ Below B w w' := by
  refine (Any.strconv_AppendInt_10 Tryd.laysAI B ys.length i h0 h1 v (byts ys) w ho hB (by omega) ht).mono ?_
  rintro e w' ⟨v', he, hown, hb, _⟩
  refine ⟨v', he, ?_, hb⟩
  rw [cells_itoa, len_itoa] at hown
  unfold OwnB
  rw [List.length_append, show byts (ys ++ itoaI i) = byts ys ++ byts (itoaI i) by simp [byts]]
  exact hown
theorem own_some {w : World} {B : Nat} {v : Value} {ys : List Int} (h : OwnB w B v ys) (hn : ys ≠ []) : ∃ g cg, v = .slice (some ⟨g, 0, none⟩) ys.length cg := by
  unfold OwnB at h
  rcases h.2 with ⟨_, h0⟩ | ⟨g, cg, cur, h, _⟩
  · exact (hn (List.eq_nil_of_length_eq_zero h0)).elim
  · exact ⟨g, cg, h⟩
/-- Its last byte is another one. -/
theorem own_last {w : World} {B g n cap : Nat} {zs : List Int} {c : Int} (h : OwnB w B (.slice (some ⟨g, 0, none⟩) n cap) (zs ++ [c])) (d : Int) :
    n = zs.length + 1 ∧ w.cell? ⟨g, zs.length, none⟩ = some (.int .u8 c) ∧ w.frozen? ⟨g, zs.length, none⟩ = false ∧ g < w.heap.size ∧
    OwnB (w.setCell ⟨g, zs.length, none⟩ (.int .u8 d)) B (.slice (some ⟨g, 0, none⟩) n cap) (zs ++ [d]) ∧ Below B w (w.setCell ⟨g, zs.length, none⟩ (.int .u8 d)) := by
  have hn : n = zs.length + 1 := by
    rcases (show w.ownsRow B 5 1 _ (zs ++ [c]).length (byts (zs ++ [c])) from h).2 with ⟨h', _⟩ | ⟨g', cap', cur, h', _⟩
    · simp at h'
    · simp at h'; omega
  subst hn
  have h' : w.ownsRow B 5 1 (.slice (some ⟨g, 0, none⟩) (zs.length + 1) cap) (zs.length + 1) (byts (zs ++ [c])) := by
    have := show w.ownsRow B 5 1 (.slice (some ⟨g, 0, none⟩) (zs.length + 1) cap) (zs ++ [c]).length (byts (zs ++ [c])) from h
    rw [show (zs ++ [c]).length = zs.length + 1 by simp] at this
    exact this
  have hlt := h'.lt g rfl
  have hst := h'.stored zs.length (.int .u8 d)
  refine ⟨rfl, ?_, h'.frozenAt _, hlt.2, ?_, ?_⟩
  · rw [h'.cellAt _ (by omega)]; simp [byts]
  · have := hst.1
    unfold OwnB
    rw [show (zs ++ [d]).length = zs.length + 1 by simp, show byts (zs ++ [d]) = (byts (zs ++ [c])).set zs.length (.int .u8 d) by simp [byts]]
    exact this
  · exact grown_below hst.2 (by have := hlt.1; omega) (fun k hk => by simp at hk; omega)
theorem sp_take (l : List Int) (k : Nat) (hk : k < l.length) (n : Int) (hn : l.getD k 0 = n) : sp (l.take (k + 1)) = sp (l.take k) ++ itoaI n ++ [32] := by
  have e : l.take (k + 1) = l.take k ++ [n] := by
    rw [List.take_add_one, List.getElem?_eq_getElem hk, ← hn, List.getD_eq_getElem?_getD, List.getElem?_eq_getElem hk]; rfl
  rw [e, sp_append]
  simp [sp]
theorem sp_len (l : List Int) : (sp l).length = (lineT l).length := by
  by_cases h : l = []
  · subst h; rfl
  · obtain ⟨z, h1, h2⟩ := sp_line l h
    rw [h1, h2]; simp
theorem sp_mono (l : List Int) (k : Nat) : (sp (l.take k)).length ≤ (lineT l).length := by
  rw [← sp_len l]
  have := congrArg (fun x => (sp x).length) (List.take_append_drop k l)
  simp only [sp_append, List.length_append] at this
  omega

set_option maxRecDepth 1000000 in
set_option maxHeartbeats 1000000 in
theorem appendLine_any {w : World} {B : Nat} {v lv : Value} {ys l : List Int} (ho : OwnB w B v ys) (hB : B ≤ w.heap.size) (hl : ∀ w', Below B w w' → Row w' lv (ints l)) (hf : ∀ n ∈ l, -9223372036854775808 ≤ n ∧ n ≤ 9223372036854775807)
    (hlen : ys.length + (lineT l).length ≤ 5000000) (ht : Tab B w) :
    Calls Tryd.prog 65 #[v, lv] w fun e w' => ∃ v', e = .returned v' ∧ OwnB w' B v' (ys ++ lineT l) ∧ Below B w w' := by
  have HO := Lib.hid ho
  have HL := Lib.hid hl
  have HF := Lib.hid hf
  have HT := Lib.hid ht
  obtain ⟨a, cap, rfl, hm⟩ := (hl w (Below.refl _ _)).form
  simp only [ints_len] at *
  have hm1 : l.length ≤ 9223372036854775807 := by unfold maxLen at hm; omega
  clear ho hl hf ht hm
  go_enter Tryd.func65, Tryd.ntmps65
  go_wp2_with fail
  go_loopw [0, 9] (fun tx i wr => ∃ k : Nat, k ≤ l.length ∧ i = .int .i64 k ∧ OwnB wr B tx (ys ++ sp (l.take k)) ∧ Below B w wr) (fun _ i _ => l.length - (intOf i).toNat)
  case atStart => exact ⟨0, Nat.zero_le _, rfl, by simpa [sp] using HO.out, Below.refl _ _⟩
  case round =>
    obtain ⟨k, hk, rfl, ho, hbw⟩ := hrel
    have HO2 := Lib.hid ho
    have HBW := Lib.hid hbw
    clear ho hbw
    by_cases hlt : k < l.length
    · obtain ⟨tb, off, rfl, hc, htb⟩ := row_cell (HL.out _ HBW.out) k (by rw [ints_len]; exact hlt)
      rw [ints_at _ _ hlt] at hc
      obtain ⟨n, hn⟩ : ∃ n, l.getD k 0 = n := ⟨_, rfl⟩
      rw [hn] at hc
      have HN := Lib.hid (sp_take l k hlt n hn)
      have HFn := Lib.hid (HF.out n (by rw [← hn, List.getD_eq_getElem?_getD, List.getElem?_eq_getElem hlt]; simp))
      have HM := Lib.hid (sp_mono l k)
      have HM2 := Lib.hid (sp_mono l (k + 1))
      clear hn
      go_wp2_with fail
      refine (appendInt_any HO2.out (Nat.le_trans hB HBW.out.size) n HFn.out.1 HFn.out.2 (by have := HM.out; simp; omega) (HT.out.on HBW.out)).mono ?_
      rintro e w2 ⟨v2, rfl, o2, b2⟩
      have O2 := Lib.hid o2
      have B2 := Lib.hid (HBW.out.trans b2)
      clear o2 b2 hc
      go_wp2_with (first | (at_builtin; refine app_bytes rfl _ _ rfl B _ (ys ++ sp (l.take k) ++ itoaI n) rfl (O2.out.alloc _) _ [32] rfl (row_new _ _) (by have h1 := HM2.out; rw [HN.out] at h1; simp at h1 ⊢; omega) (by have := B2.out.size; simp; omega) ?_))
      intro v3 w3 o3 g3 t3
      have O3 := Lib.hid (show OwnB w3 B v3 (ys ++ sp (l.take (k + 1))) by rw [HN.out]; simpa using o3)
      have B3 := Lib.hid (B2.out.trans (grown_below (grown_alloc g3) (by have := B2.out.size; omega) (fun k hk => (World.ownsRow.lt O2.out k hk).1)))
      clear o3 g3 t3
      go_wp2
      go_roundw
      case rel => exact ⟨k + 1, by omega, by go_num, O3.out, B3.out⟩
      case measure => simp [intOf]; omega
    · obtain rfl : k = l.length := by omega
      rw [List.take_length] at HO2
      clear hlt hk
      by_cases hle : l = []
      · subst hle
        simp only [List.length_nil] at *
        have b0 : decide ((0 : Int) < (0 : Int)) = false := by decide
        go_wp2
        go_ret
        exact ⟨_, rfl, HO2.out, HBW.out⟩
      · have hl0 : 0 < l.length := List.length_pos_iff.2 hle
        have b0 : decide ((0 : Int) < (l.length : Int)) = true := decide_eq_true (by omega)
        obtain ⟨z, hz1, hz2⟩ := sp_line l hle
        rw [hz1, ← List.append_assoc] at HO2
        have HZ := Lib.hid hz2
        clear hle hz1 hz2
        obtain ⟨g, cg, hsh⟩ := own_some HO2.out (by simp)
        subst hsh
        obtain ⟨hn, hc, hfz, hg, ho3, hb3⟩ := own_last HO2.out 10
        have O3 := Lib.hid ho3
        have B3 := Lib.hid (HBW.out.trans hb3)
        have HLz := Lib.hid (show (lineT l).length = z.length + 1 by rw [HZ.out]; simp)
        obtain ⟨q, hq⟩ : ∃ q, (ys ++ z).length = q := ⟨_, rfl⟩
        have hq1 : q ≤ 5000000 := by have := HLz.out; simp at hq; omega
        have hlq : (ys ++ z ++ [32]).length = q + 1 := by rw [← hq]; simp; omega
        rw [hlq] at O3 ⊢
        rw [hq] at hc hfz O3 B3
        clear ho3 hb3 hn hq hlq HO2 HBW
        have e1 : IntKind.i64.wrap (q : Int) = (q : Int) := IntWalk.i64_in _ (by omega)
        go_wp2
        go_ret
        exact ⟨_, rfl, by rw [HZ.out]; simpa using O3.out, B3.out⟩

theorem textOf_take (L : List (List Int)) (k : Nat) (hk : k < L.length) : textOf (L.take (k + 1)) = textOf (L.take k) ++ lineT (L.getD k []) := by
  have e : L.take (k + 1) = L.take k ++ [L.getD k []] := by
    rw [List.take_add_one, List.getElem?_eq_getElem hk, List.getD_eq_getElem?_getD, List.getElem?_eq_getElem hk]; rfl
  rw [e, textOf_append]
  simp [textOf]
theorem textOf_mono (L : List (List Int)) (k : Nat) : (textOf (L.take k)).length ≤ (textOf L).length := by
  have := congrArg (fun x => (textOf x).length) (List.take_append_drop k L)
  simp only [textOf_append, List.length_append] at this
  omega
theorem getD_mem {L : List (List Int)} {k : Nat} (hk : k < L.length) : L.getD k [] ∈ L := by
  rw [List.getD_eq_getElem?_getD, List.getElem?_eq_getElem hk]; simp

set_option maxRecDepth 1000000 in
set_option maxHeartbeats 1000000 in
theorem print_any {w : World} {lv : Value} {L : List (List Int)} (h : IsLL w lv L) (hf : Fits L) (hlen : (textOf L).length ≤ 5000000) (ht : Tab w.heap.size w) :
    Calls Tryd.prog 40 #[lv] w fun e w' => ∃ v, e = .returned v ∧ OwnB w' w.heap.size v (textOf L) ∧ Below w.heap.size w w' := by
  have H := Lib.hid h
  have HF := Lib.hid hf
  have HT := Lib.hid ht
  obtain ⟨a, cap, rfl, hm⟩ := h.form
  have hm1 : L.length ≤ 9223372036854775807 := by unfold maxLen at hm; omega
  clear h hf ht hm
  go_enter Tryd.func40, Tryd.ntmps40
  go_wp2_with fail
  go_loopw [3, 8] (fun tx i wr => ∃ k : Nat, k ≤ L.length ∧ i = .int .i64 k ∧ OwnB wr w.heap.size tx (textOf (L.take k)) ∧ Below w.heap.size w wr) (fun _ i _ => L.length - (intOf i).toNat)
  case atStart => exact ⟨0, Nat.zero_le _, rfl, ownB_nil _ _, Below.refl _ _⟩
  case round =>
    obtain ⟨k, hk, rfl, ho, hbw⟩ := hrel
    have HO := Lib.hid ho
    have HBW := Lib.hid hbw
    clear ho hbw
    by_cases hlt : k < L.length
    · obtain ⟨tb, off, a1, n1, c1, rfl, hlt2, hc, hn1, _, r1⟩ := ll_at H.out k hlt
      have hc' := (HBW.out.cell (p := ⟨tb, off + k, none⟩) hlt2).trans hc
      have HR := Lib.hid (show ∀ w', Below w.heap.size wr w' → Row w' (.slice a1 n1 c1) (ints (L.getD k [])) from fun w' hb => r1.below (HBW.out.trans hb))
      have HTK := Lib.hid (textOf_take L k hlt)
      have HM := Lib.hid (textOf_mono L (k + 1))
      have HFk := Lib.hid (HF.out _ (getD_mem hlt))
      have HLN := Lib.hid (show (textOf (L.take k)).length + (lineT (L.getD k [])).length ≤ 5000000 by have h1 := HM.out; rw [HTK.out, List.length_append] at h1; omega)
      clear hc r1 hn1
      go_wp2_with fail
      refine (appendLine_any HO.out HBW.out.size HR.out HFk.out HLN.out (HT.out.on HBW.out)).mono ?_
      rintro e w2 ⟨v2, rfl, o2, b2⟩
      have O2 := Lib.hid (show OwnB w2 w.heap.size v2 (textOf (L.take (k + 1))) by rw [HTK.out]; exact o2)
      have B2 := Lib.hid (HBW.out.trans b2)
      clear o2 b2 hc'
      go_wp2
      go_roundw
      case rel => exact ⟨k + 1, by omega, by go_num, O2.out, B2.out⟩
      case measure => simp [intOf]; omega
    · obtain rfl : k = L.length := by omega
      rw [List.take_length] at HO
      clear hlt hk
      go_wp2
      go_ret
      exact ⟨_, rfl, HO.out, HBW.out⟩

/-- At most 100 lines, of at most 100 numbers each. -/
def Few (L : List (List Int)) : Prop := L.length ≤ 100 ∧ ∀ l ∈ L, l.length ≤ 100
instance (L : List (List Int)) : Decidable (Few L) := by unfold Few; infer_instance
theorem few_step {L : List (List Int)} {k : Nat} (hk : k < L.length) (h : ∀ l ∈ L.take k, l.length ≤ 100) (hc : (L.getD k []).length ≤ 100) : ∀ l ∈ L.take (k + 1), l.length ≤ 100 := by
  intro l hl
  rw [List.take_add_one, List.getElem?_eq_getElem hk] at hl
  simp only [List.mem_append, Option.toList_some, List.mem_singleton] at hl
  rcases hl with hl | rfl
  · exact h l hl
  · rw [List.getD_eq_getElem?_getD, List.getElem?_eq_getElem hk] at hc; exact hc
end Go.Proofs.YtpdeffpmfbplnaaDoor
/- What the row's condition gives the walks: the library's table of powers of ten; and that the program's own start lays it so. Lines that a law is handed. -/
namespace Go.Proofs.YtpdeffpmfbplnaaDoor
open Go.ChangeShapes Go.WideShapes Go.ChangeAt Go.RowKit

theorem gTab : Tryd.prog.globalNamed tabN = some 0 := by kernel_rfl
theorem tTab : (Tryd.prog.globals[0]?).map (·.type) = some 129 := by kernel_rfl
theorem cU64 : Tryd.prog.cellsOf 119 = 1 := by kernel_rfl
theorem cPows : Tryd.prog.cellsOf 129 = 20 := by kernel_rfl
theorem tab_met {W : World} {n1 n2 : String} {d1 d2 : DataW Unit} (h : laidMet Tryd.prog [(n1, d1), (n2, d2), (tabN, Lib.tabData .u64 Lib.pow10Tab)] W) : Lib.TabIs Tryd.prog W tabN .u64 Lib.pow10Tab := by
  obtain ⟨ps, ⟨_, _, _, _, _, _, _, _, _, _, ⟨_, _, _, _, _, _, _, _, _, _, ⟨g', t', cs, fuel, p, q, hg', ht', hvar, hd, _, _⟩, _⟩, _⟩, _⟩ := h
  obtain rfl := Option.some.inj (gTab.symm.trans hg')
  obtain rfl := Option.some.inj (tTab.symm.trans ht')
  unfold Lib.TabIs
  rw [hvar, ← Lib.cells_of_tab Tryd.underlying129 Tryd.underlying119 cU64 cPows hd]
theorem tab_of_laid {W : World} (h : laidMetH Tryd.prog Rows.planCostsRow.laid W) : Tab W.heap.size W := by
  rw [MakeChecks.laidMetH_plain _ _ _ (by kernel_rfl)] at h
  exact Lib.tabBelow_of_tabIs (tab_met h)
theorem door_met (os : Os) (args : Array Value) : laidMetH Tryd.prog Rows.planCostsRow.laid ((World.doorLaid Tryd.prog 24 os).forCall (fun _ _ => 0) ⟨#[], args, []⟩).memory :=
  laidMetH_of_parts3 (fuel := 8) (laidMet_of_run' 8 (by kernel_rfl) (by kernel_rfl)) (by kernel_rfl) (by kernel_rfl)

/-- A text as a string. -/
theorem conv_row {w : World} {v : Value} {xs : List Int} (h : Row w v (byts xs)) : (convert 34 9 v).run Tryd.prog w = .ok (.string (strOfNums xs)) w := by
  obtain ⟨hm, a, cap, rfl, hc, ⟨hc2, hn⟩, hcell⟩ := h
  rw [byts_len] at *
  cases a with
  | none =>
    have hc0 : cap = 0 := hn rfl
    subst hc0
    have hxs : xs = [] := List.eq_nil_of_length_eq_zero (by omega)
    subst hxs
    exact run_convert_bytes_nil w 34 5 Tryd.underlying34 Tryd.underlying5 _ _ 9 Tryd.underlying9
  | some ad =>
    rcases hcell with h0 | ⟨b, off, he, hcc⟩
    · have hxs : xs = [] := by simpa [byts] using h0
      subst hxs
      have hl : (loadCells ad 0).run Tryd.prog w = .ok #[] w := by
        have := run_loadCells_list (P := Tryd.prog) w ad [] (by simp)
        simpa using this
      show (convert 34 9 (.slice (some ad) 0 cap)).run Tryd.prog w = _
      rw [run_convert_bytes_string w 34 9 5 _ 0 cap Tryd.underlying34 Tryd.underlying5 Tryd.underlying9, run_bytesToString w ad 0 cap [] (by simpa using hl)]
      rfl
    · simp at he
      subst he
      exact run_convert_bytes_arg w 34 5 Tryd.underlying34 Tryd.underlying5 b off xs.length cap xs rfl (fun i hi => by rw [hcc i hi, byts_at _ _ hi]) 9 Tryd.underlying9
/-- What is known of the world may grow while a region goes on. -/
theorem wpAnyH_strong {P : Program} {md : Region.Mode} {ops : Array Oper} {Q : Exit → Act → World → Prop} {S S' : World → Prop} (hSS : ∀ w, S' w → S w) : ∀ (fuel : Nat) (listed : Array Bool) (a : Act) (w : World), wpAnyH P md ops Q S' fuel listed a w → wpAnyH P md ops Q S fuel listed a w
  | 0, _, _, _, h => h
  | fuel + 1, _, _, _, h => ⟨h.1, fun i hi => wpOp_mono (fun a' w' h' => ⟨hSS w' h'.1, wpAnyH_strong hSS fuel _ a' w' h'.2⟩) (h.2 i hi)⟩
theorem list_of {α : Type} (d : α) (P : Nat → α → Prop) : ∀ n, (∀ i, i < n → ∃ e, P i e) → ∃ l : List α, l.length = n ∧ ∀ i, i < n → P i (l.getD i d)
  | 0, _ => ⟨[], rfl, fun i h => by omega⟩
  | n + 1, h => by
    obtain ⟨l, hl, hp⟩ := list_of d P n (fun i hi => h i (by omega))
    obtain ⟨e, he⟩ := h n (by omega)
    refine ⟨l ++ [e], by simp [hl], fun i hi => ?_⟩
    by_cases c : i < n
    · rw [List.getD_eq_getElem?_getD, List.getElem?_append_left (by omega), ← List.getD_eq_getElem?_getD]; exact hp i c
    · obtain rfl : i = n := by omega
      rw [List.getD_eq_getElem?_getD, List.getElem?_append_right (by omega), hl]
      simpa using he
theorem in_of {w : World} : ∀ (l : List (Value × List Int)), (∀ i, i < l.length → Row w (l.getD i (.slice none 0 0, [])).1 (ints (l.getD i (.slice none 0 0, [])).2)) → In w (l.map Prod.fst) (l.map Prod.snd)
  | [], _ => trivial
  | x :: r, h => ⟨h 0 (by simp), in_of r (fun i hi => by have := h (i + 1) (by simp; omega); simpa using this)⟩
section
variable {H : Type} {enc : TypeId × Value → H} {w : World} {base : Nat} {spare : Nat → Bool} {held : Bool}
theorem wf_fits {n : Int} (h : (Lit.int .i64 n).wf = true) : -9223372036854775808 ≤ n ∧ n ≤ 9223372036854775807 := by
  have := bounds_i64 h
  omega
theorem open_nums {fuel : Nat} {cs : List Value} {x : DataW H × List MemPlace} (h : DataW.trod enc Tryd.prog w base spare held fuel 42 cs = some x) :
    ∃ (v : Value) (l : List Int), cs = [v] ∧ Row w v (ints l) ∧ ∀ n ∈ l, -9223372036854775808 ≤ n ∧ n ≤ 9223372036854775807 := by
  rcases open_ints Tryd.underlying42 Tryd.underlying3 (by kernel_rfl) h with ⟨hcs, _⟩ | ⟨y, l, c, zs, hcs, _, hl, hm, hz, _, hcell, hwz⟩
  · exact ⟨_, [], hcs, ⟨by simp [ints], none, 0, rfl, by simp [ints], ⟨by simp, fun _ => rfl⟩, .inl rfl⟩, fun n hn => by simp at hn⟩
  · exact ⟨_, zs.take l, hcs, row_of_ints hl hm (by rw [hz]; split <;> omega) hcell, fun n hn => wf_fits (hwz n (List.mem_of_mem_take hn))⟩
theorem open_lines {a : Option Addr} {len cap : Nat} {d : DataW H} {p : List MemPlace} (h : DataW.Trod enc Tryd.prog w base spare held 25 (.slice a len cap) d p) : ∃ L : List (List Int), IsLL w (.slice a len cap) L ∧ Fits L := by
  obtain ⟨fuel, hf⟩ := h
  rcases Go.Deep.open_slice Tryd.underlying25 hf with ⟨h0, _⟩ | ⟨ad, ln, cp, m, n, D, Pl, hcs, hb, hl, hm, hmm, hx, hi⟩
  · simp [Value.cells] at h0
    obtain ⟨rfl, rfl, rfl⟩ := h0
    exact ⟨[], ⟨[], ⟨by simp, none, 0, rfl, by simp, ⟨by simp, fun _ => rfl⟩, .inl rfl⟩, trivial⟩, fun l hl => by simp at hl⟩
  · simp [Value.cells] at hcs
    obtain ⟨rfl, rfl, rfl⟩ := hcs
    have hlm : len ≤ m := by rw [hmm]; split <;> omega
    have hc1 : Tryd.prog.cellsOf 42 = 1 := by kernel_rfl
    obtain ⟨l, hll, hp⟩ := list_of ((.slice none 0 0, []) : Value × List Int) (fun i e => w.cell? (ad.add i) = some e.1 ∧ Row w e.1 (ints e.2) ∧ ∀ n ∈ e.2, -9223372036854775808 ≤ n ∧ n ≤ 9223372036854775807) len (fun i hil => by
      obtain ⟨cs', hc, ht⟩ := hi i (by omega)
      obtain ⟨v, l, rfl, hr, hfit⟩ := open_nums ht
      rw [hc1] at hc
      obtain ⟨_, _, hat⟩ := World.cells?_some hc
      have h0 := hat 0 (by omega)
      have ez : (ad.add (i * 1)).add 0 = ad.add i := by rw [Nat.mul_one]; unfold Addr.add; split <;> simp_all
      rw [ez] at h0
      exact ⟨(v, l), by simpa using h0, hr, hfit⟩)
    subst hll
    refine ⟨l.map Prod.snd, ⟨l.map Prod.fst, ?_, in_of l (fun i hi => (hp i hi).2.1)⟩, ?_⟩
    · refine ⟨by simp; omega, some ad, cap, by simp, by simpa using hl, ⟨hm, fun h => by simp at h⟩, ?_⟩
      by_cases h0 : l.length = 0
      · left; rw [List.eq_nil_of_length_eq_zero h0]; rfl
      · right
        obtain ⟨b, off, spot⟩ := ad
        have hspot : spot = none := by
          have := World.cell?_spot (hp 0 (by omega)).1
          simpa [Addr.add] using this
        subst hspot
        refine ⟨b, off, rfl, fun i hi => ?_⟩
        have hil : i < l.length := by simpa using hi
        have := (hp i hil).1
        rw [add_off] at this
        rw [this]
        simp [List.getD_eq_getElem?_getD, hil]
    · intro x hx2
      simp only [List.mem_map] at hx2
      obtain ⟨y, hy, rfl⟩ := hx2
      obtain ⟨i, hi, rfl⟩ := List.getElem_of_mem hy
      have := (hp i hi).2.2
      simpa [List.getD_eq_getElem?_getD, hi] using this
end
end Go.Proofs.YtpdeffpmfbplnaaDoor
