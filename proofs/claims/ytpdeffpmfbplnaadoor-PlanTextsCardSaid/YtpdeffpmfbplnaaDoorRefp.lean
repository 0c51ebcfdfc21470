/- What the document's digits and Print answer. -/
import Derived.Test.YtpdeffpmfbplnaaDoorXPrint
import Derived.Lib.AppendStr
namespace Go.Proofs.YtpdeffpmfbplnaaDoor
open Go.ChangeShapes Go.WideShapes Go.ChangeAt Go.RowKit

/-- What is known while the digits are told, the last one first. -/
def DgJ (u : Nat) (m : Nat) (ds : List Int) : Prop := (m = 0 → ds = decI u) ∧ (m ≠ 0 → decI m ++ ds = decI u)
theorem dg_step {u m : Nat} {ds : List Int} (h : DgJ u m ds) (hm : m ≠ 0) : DgJ u (m / 10) ((48 + ((m % 10 : Nat) : Int)) :: ds) := by
  have h1 := h.2 hm
  by_cases h10 : m < 10
  · rw [decI_small m h10] at h1
    have e0 : m / 10 = 0 := by omega
    have e1 : m % 10 = m := by omega
    rw [e0, e1]
    exact ⟨fun _ => by simpa using h1, fun h => (h rfl).elim⟩
  · rw [decI_big m h10] at h1
    refine ⟨fun h => by omega, fun _ => ?_⟩
    rw [← h1]; simp
theorem str_app (a b : List Int) : strOfNums a ++ strOfNums b = strOfNums (a ++ b) := by
  unfold strOfNums
  apply ByteArray.ext
  simp
theorem dg_len {u m k : Nat} {ds : List Int} (h : DgJ u m ds) (hm : m ≠ 0) (hu : u < 10 ^ (k + 1)) : ds.length + 1 ≤ k + 1 := by
  have h1 := congrArg List.length (h.2 hm)
  have h2 := decI_len k u hu
  have h3 := decI_pos m
  simp at h1
  omega
theorem dig_pos (m : Int) (h : 0 ≤ m.tmod 10) : wrap64 (48 + m.tmod 10) % 256 = 48 + ((m.natAbs % 10 : Nat) : Int) := by
  have h1 : m.tmod 10 = ((m.natAbs % 10 : Nat) : Int) := by
    rcases Int.natAbs_eq m with e | e
    · rw [e]; simp [Int.natAbs_natCast]; rfl
    · rw [e] at h ⊢
      rw [Int.neg_tmod] at h ⊢
      have h2 : ((m.natAbs : Int)).tmod 10 = ((m.natAbs % 10 : Nat) : Int) := rfl
      rw [h2] at h ⊢
      simp
      omega
  rw [h1]
  unfold wrap64
  omega
theorem dig_neg (m : Int) (h : m.tmod 10 < 0) : wrap64 (48 + wrap64 (-m.tmod 10)) % 256 = 48 + ((m.natAbs % 10 : Nat) : Int) := by
  have h1 : -m.tmod 10 = ((m.natAbs % 10 : Nat) : Int) := by
    rcases Int.natAbs_eq m with e | e
    · rw [e] at h
      have h2 : ((m.natAbs : Int)).tmod 10 = ((m.natAbs % 10 : Nat) : Int) := rfl
      rw [h2] at h
      omega
    · rw [e]
      rw [Int.neg_tmod]
      have h2 : ((m.natAbs : Int)).tmod 10 = ((m.natAbs % 10 : Nat) : Int) := rfl
      rw [h2]
      simp
  rw [h1]
  unfold wrap64
  omega
theorem quo_sign (m : Int) : (m ≤ 0 → m.tdiv 10 ≤ 0) ∧ (0 ≤ m → 0 ≤ m.tdiv 10) := by
  constructor
  · intro h
    obtain ⟨k, rfl⟩ : ∃ k : Nat, m = -(k : Int) := ⟨m.natAbs, by omega⟩
    rw [Int.neg_tdiv]
    have : (0 : Int) ≤ (k : Int).tdiv 10 := Int.tdiv_nonneg (by omega) (by decide)
    omega
  · intro h
    exact Int.tdiv_nonneg h (by decide)
theorem quo_abs (m : Int) : (m.tdiv 10).natAbs = m.natAbs / 10 := by rw [Int.natAbs_tdiv]; rfl
set_option maxRecDepth 1000000 in
set_option maxHeartbeats 1000000 in
theorem digits_any (n : Int) (w : World) (h0 : -9223372036854775808 ≤ n) (h1 : n ≤ 9223372036854775807) :
    Calls Tryd.prog 66 #[.int .i64 n] w fun e w' => e = .returned (.string (strOfNums (itoaI n))) ∧ Below w.heap.size w w' := by
  by_cases hz : n = 0
  · subst hz
    have HZ := Lib.hid (show strOfNums (itoaI 0) = ⟨#[48]⟩ by rw [itoaI_pos 0 (by decide), decI_small _ (by decide)]; rfl)
    go_enter Tryd.func66, Tryd.ntmps66
    go_wp2
    go_ret
    rw [HZ.out]
    exact ⟨rfl, Below.refl _ _⟩
  · have hz1 : (n == 0) = false := by simpa using hz
    have HZ := Lib.hid hz
    clear hz
    have kc := fun (W : World) (c : Int) => conv_row (row_new W c)
    go_enter Tryd.func66, Tryd.ntmps66
    go_wp2_with fail
    go_loopw [0, 3] (fun nv sv wr => ∃ (m : Int) (ds : List Int), nv = .int .i64 m ∧ sv = .string (strOfNums ds) ∧ DgJ n.natAbs m.natAbs ds ∧ (n < 0 → m ≤ 0) ∧ (0 < n → 0 ≤ m) ∧ (-9223372036854775808 ≤ m ∧ m ≤ 9223372036854775807) ∧ ds.length ≤ 40 ∧ Below w.heap.size w wr) (fun nv _ _ => (intOf nv).natAbs)
    case atStart => exact ⟨n, [], rfl, rfl, ⟨fun h => (HZ.out (by omega)).elim, fun _ => by simp⟩, fun h => by omega, fun h => by omega, ⟨h0, h1⟩, by simp, Below.refl _ _⟩
    case round =>
      obtain ⟨m, ds, rfl, rfl, hJ, hs1, hs2, ⟨hb1, hb2⟩, hdl, hbw⟩ := hrel
      have HJ := Lib.hid hJ
      have HBW := Lib.hid hbw
      clear hJ hbw
      have HLen := Lib.hid hdl
      by_cases hm0 : m = 0
      · subst hm0
        have HD := Lib.hid (show ds = decI n.natAbs from HJ.out.1 rfl)
        have hsz : ¬ 9223372036854775807 < (1 : Nat) + (strOfNums ds).size := by rw [strOfNums_size]; omega
        by_cases hneg : n < 0
        · have dn : decide (n < 0) = true := decide_eq_true hneg
          have HN := Lib.hid (show strOfNums (itoaI n) = (⟨#[45]⟩ : ByteArray) ++ strOfNums ds by rw [itoaI_neg n hneg, ← HD.out, show (⟨#[45]⟩ : ByteArray) = strOfNums [45] from rfl, str_app]; rfl)
          go_wp2
          go_ret
          exact ⟨by rw [HN.out]; rfl, HBW.out⟩
        · have dn : decide (n < 0) = false := decide_eq_false hneg
          have HN := Lib.hid (show strOfNums (itoaI n) = strOfNums ds by rw [itoaI_pos n hneg, HD.out, show n.natAbs = n.toNat by omega])
          go_wp2
          go_ret
          exact ⟨by rw [HN.out]; rfl, HBW.out⟩
      · have hm1 : (m != 0) = true := by simpa using hm0
        have hss : ∀ c : Int, ¬ 9223372036854775807 < (strOfNums [c]).size + (strOfNums ds).size := by intro c; rw [strOfNums_size, strOfNums_size]; simp; omega
        have HD2 := Lib.hid (dg_step HJ.out (show m.natAbs ≠ 0 by omega))
        have HL2 := Lib.hid (show ds.length + 1 ≤ 40 by have := dg_len HJ.out (show m.natAbs ≠ 0 by omega) (show n.natAbs < 10 ^ (19 + 1) by omega); omega)
        by_cases hd0 : m.tmod 10 < 0
        · have HV := Lib.hid (dig_neg m hd0)
          go_wp2_with fail
          refine ⟨⟨m.tdiv 10, (48 + ((m.natAbs % 10 : Nat) : Int)) :: ds, rfl, by rw [HV.out, str_app]; rfl, by rw [quo_abs]; exact HD2.out, fun h => (quo_sign m).1 (hs1 h), fun h => (quo_sign m).2 (hs2 h), ?_, by have := HL2.out; simp; omega, HBW.out.alloc HBW.out.size _⟩, ?_⟩
          · have := quo_abs m; omega
          · simp only [intOf]; have := quo_abs m; omega
        · have HV := Lib.hid (dig_pos m (by omega))
          go_wp2_with fail
          refine ⟨⟨m.tdiv 10, (48 + ((m.natAbs % 10 : Nat) : Int)) :: ds, rfl, by rw [HV.out, str_app]; rfl, by rw [quo_abs]; exact HD2.out, fun h => (quo_sign m).1 (hs1 h), fun h => (quo_sign m).2 (hs2 h), ?_, by have := HL2.out; simp; omega, HBW.out.alloc HBW.out.size _⟩, ?_⟩
          · have := quo_abs m; omega
          · simp only [intOf]; have := quo_abs m; omega

/-- A string put behind a text. -/
theorem app_str {w : World} {ops : Array Oper} {rest : List Oper} {o : Oper} {a : Act} {Q : Exit → Act → World → Prop} (hgd : o.guard = none) (s x : Operand)
    (ho : o.op = .call { callee := .builtin .append, args := #[s, x], argTypes := #[34, 9] }) (B : Nat) (v : Value) (ys : List Int) (hs : a.eval s = v) (hown : OwnB w B v ys)
    (xs : List Int) (hx : a.eval x = .string (strOfNums xs)) (hin : ∀ c ∈ xs, 0 ≤ c ∧ c ≤ 255) (hlen : ys.length + xs.length ≤ 10000000) (hB : B ≤ w.heap.size)
    (h : ∀ v' w', OwnB w' B v' (ys ++ xs) → Below B w w' → wpList Tryd.prog ops Q rest (a.put o.dst v') w') : wpList Tryd.prog ops Q (o :: rest) a w := by
  obtain ⟨i0, hi, hz0, hz1, hz2⟩ := info_parts infoByte
  refine Lib.wpList_append_own_string w hgd s x 34 9 ho B 5 i0 Tryd.underlying34 Tryd.underlying9 hi hz0 hz1 hz2 v ys.length (byts ys) hs hown (strOfNums xs) hx (by rw [strOfNums_size]; unfold maxLen; omega) (by rw [strOfNums_size]; omega) hB ?_
  intro v' w' h1 h2 _
  refine h v' w' ?_ (grown_below h2 hB (fun k hk => (World.ownsRow.lt hown k hk).1))
  have e : Lib.strCells (strOfNums xs) = byts xs := by
    unfold Lib.strCells byts
    rw [strOfNums_data, List.map_map]
    apply List.map_congr_left
    intro c hc
    have := hin c hc
    have h3 : (UInt8.ofNat c.toNat).toNat = c.toNat := by simp [UInt8.toNat_ofNat']; omega
    simp only [Function.comp]
    rw [h3]
    exact congrArg (Value.int .u8) (Int.toNat_of_nonneg (by omega))
  rw [e, strOfNums_size] at h1
  unfold OwnB
  rw [List.length_append, show byts (ys ++ xs) = byts ys ++ byts xs by simp [byts]]
  exact h1
theorem itoaI_in (n : Int) : ∀ c ∈ itoaI n, 0 ≤ c ∧ c ≤ 255 := by
  intro c hc
  by_cases h : n < 0
  · rw [itoaI_neg n h] at hc
    simp only [List.mem_cons] at hc
    rcases hc with rfl | hc
    · decide
    · have := decI_in _ c hc; omega
  · rw [itoaI_pos n h] at hc
    have := decI_in _ c hc; omega
/-- Numbers with one space between them. -/
def jn : List Int → List Int
  | [] => []
  | [n] => itoaI n
  | n :: m :: r => itoaI n ++ 32 :: jn (m :: r)
theorem jn_line : ∀ (l : List Int), l ≠ [] → lineT l = jn l ++ [10]
  | [], h => (h rfl).elim
  | [n], _ => rfl
  | n :: m :: r, _ => by rw [lineT, jn, jn_line (m :: r) (by simp)]; simp
theorem jn_snoc : ∀ (l : List Int) (n : Int), l ≠ [] → jn (l ++ [n]) = jn l ++ [32] ++ itoaI n
  | [], _, h => (h rfl).elim
  | [a], n, _ => by simp [jn]
  | a :: b :: r, n, _ => by
    have ih := jn_snoc (b :: r) n (by simp)
    simp only [List.cons_append] at ih ⊢
    rw [jn, ih, jn]
    simp
theorem jn_take (l : List Int) (k : Nat) (hk : k < l.length) (n : Int) (hn : l.getD k 0 = n) : jn (l.take (k + 1)) = if k = 0 then itoaI n else jn (l.take k) ++ [32] ++ itoaI n := by
  have e : l.take (k + 1) = l.take k ++ [n] := by
    rw [List.take_add_one, List.getElem?_eq_getElem hk, ← hn, List.getD_eq_getElem?_getD, List.getElem?_eq_getElem hk]; rfl
  rw [e]
  split
  · rename_i h; subst h; simp [jn]
  · rename_i h
    exact jn_snoc _ n (fun h2 => by have h3 := congrArg List.length h2; rw [List.length_take, List.length_nil] at h3; omega)
theorem jn_len (l : List Int) (k : Nat) : (jn (l.take k)).length ≤ (lineT l).length := by
  have h1 := sp_mono l k
  rw [sp_len] at h1
  by_cases h : l.take k = []
  · rw [h]; simp [jn]
  · rw [jn_line _ h] at h1
    simp at h1; omega

set_option maxRecDepth 1000000 in
set_option maxHeartbeats 2000000 in
theorem refPrint_any {w : World} {lv : Value} {L : List (List Int)} (h : IsLL w lv L) (hf : Fits L) (hlen : (textOf L).length ≤ 5000000) :
    Calls Tryd.prog 41 #[lv] w fun e w' => ∃ v, e = .returned v ∧ OwnB w' w.heap.size v (textOf L) ∧ Below w.heap.size w w' := by
  have H := Lib.hid h
  have HF := Lib.hid hf
  obtain ⟨a, cap, rfl, hm⟩ := h.form
  have hm1 : L.length ≤ 9223372036854775807 := by unfold maxLen at hm; omega
  clear h hf hm
  go_enter Tryd.func41, Tryd.ntmps41
  go_wp2_with fail
  go_loopw [3, 4] (fun tx i wr => ∃ k : Nat, k ≤ L.length ∧ i = .int .i64 k ∧ OwnB wr w.heap.size tx (textOf (L.take k)) ∧ Below w.heap.size w wr) (fun _ i _ => L.length - (intOf i).toNat)
  case atStart => exact ⟨0, Nat.zero_le _, rfl, ownB_nil _ _, Below.refl _ _⟩
  case round =>
    obtain ⟨i, hi, rfl, ho, hbw⟩ := hrel
    have HO := Lib.hid ho
    have HBW := Lib.hid hbw
    clear ho hbw
    by_cases hlt : i < L.length
    · obtain ⟨tb, off, a1, n1, c1, rfl, hlt2, hc, hn1, hx1, r1⟩ := ll_at H.out i hlt
      have HC := Lib.hid hc
      have HR := Lib.hid r1
      have HN := Lib.hid hn1
      have HTK := Lib.hid (textOf_take L i hlt)
      have HM := Lib.hid (textOf_mono L (i + 1))
      have HFk := Lib.hid (HF.out _ (getD_mem hlt))
      have hm3 : n1 ≤ 9223372036854775807 := by unfold maxLen at hx1; omega
      have HLN := Lib.hid (show (textOf (L.take i)).length + (lineT (L.getD i [])).length ≤ 5000000 by have h1 := HM.out; rw [HTK.out, List.length_append] at h1; omega)
      clear hc r1 hn1 hx1
      generalize L.getD i [] = l at *
      go_wp2_with fail
      go_loopw [3, 5] (fun tx j wk => ∃ k : Nat, k ≤ n1 ∧ j = .int .i64 k ∧ OwnB wk w.heap.size tx (textOf (L.take i) ++ jn (l.take k)) ∧ Below w.heap.size w wk) (fun _ j _ => n1 - (intOf j).toNat)
      case atStart => exact ⟨0, Nat.zero_le _, rfl, by simpa [jn] using HO.out, HBW.out⟩
      case round =>
        obtain ⟨k, hk, rfl, ho2, hbw2⟩ := hrel
        have HO2 := Lib.hid ho2
        have HBW2 := Lib.hid hbw2
        have hc2 := (hbw2.cell (p := ⟨tb, off + i, none⟩) hlt2).trans HC.out
        have HI := Lib.hid hi
        clear ho2 hbw2 hi
        by_cases hkl : k < n1
        · obtain ⟨t1, o1, rfl, e1, ht1⟩ := row_cell HR.out k (by rw [ints_len, ← HN.out]; exact hkl)
          rw [ints_at _ _ (by rw [← HN.out]; exact hkl)] at e1
          obtain ⟨x, hx⟩ : ∃ x, l.getD k 0 = x := ⟨_, rfl⟩
          rw [hx] at e1
          have HE1 := Lib.hid e1
          have HJ := Lib.hid (jn_take l k (by rw [← HN.out]; exact hkl) x hx)
          have HL1 := Lib.hid (jn_len l k)
          have HL2 := Lib.hid (jn_len l (k + 1))
          have HFx := Lib.hid (HFk.out x (by rw [← hx, List.getD_eq_getElem?_getD, List.getElem?_eq_getElem (by rw [← HN.out]; exact hkl)]; simp))
          clear hx e1
          refine Or.elim (show k = 0 ∨ 0 < k by omega) (fun hk0 => ?pa) (fun hk0 => ?pb)
          case' pa =>
            subst hk0
            obtain ⟨Z, hZ⟩ : ∃ Z, textOf (L.take i) = Z := ⟨_, rfl⟩
            have HO3 := Lib.hid (show OwnB wr w.heap.size u3 Z by rw [← hZ]; simpa [jn] using HO2.out)
            have HB3 := Lib.hid HBW2.out
            have HJ3 := Lib.hid (show textOf (L.take i) ++ jn (l.take (0 + 1)) = Z ++ itoaI x by rw [HJ.out, if_pos rfl, hZ])
            have e3 := (HBW2.out.cell (p := ⟨t1, o1 + 0, none⟩) ht1).trans HE1.out
            clear hZ
            simp only [Nat.add_zero] at e3
            go_wp2_with fail
          case' pb =>
            obtain ⟨Z, hZ⟩ : ∃ Z, textOf (L.take i) ++ jn (l.take k) ++ [32] = Z := ⟨_, rfl⟩
            have HZ := Lib.hid hZ
            have HJ3 := Lib.hid (show textOf (L.take i) ++ jn (l.take (k + 1)) = Z ++ itoaI x by rw [HJ.out, if_neg (by omega), ← hZ]; simp)
            have b0 : decide ((0 : Int) < (k : Int)) = true := decide_eq_true (by omega)
            clear hZ
            go_wp2_with (first | (at_builtin; refine app_bytes rfl _ _ rfl w.heap.size _ (textOf (L.take i) ++ jn (l.take k)) rfl (HO2.out.alloc _) _ [32] rfl (row_new _ _) (by have := HL1.out; have := HLN.out; simp; omega) (by have := HBW2.out.size; simp; omega) ?_))
            intro v2 w2 o2 g2 t2
            have HO3 := Lib.hid (show OwnB w2 w.heap.size v2 Z by rw [← HZ.out]; simpa using o2)
            have HB3 := Lib.hid (made_alloc HBW2.out HO2.out g2)
            clear o2 g2 t2 HZ hc2
            have hc2 := (HB3.out.cell (p := ⟨tb, off + i, none⟩) hlt2).trans HC.out
            have e3 := (HB3.out.cell (p := ⟨t1, o1 + k, none⟩) ht1).trans HE1.out
            go_wp2_with fail
          all_goals
            refine (digits_any x _ HFx.out.1 HFx.out.2).mono ?_
            rintro e w4 ⟨rfl, b4⟩
            have HO4 := Lib.hid (HO3.out.below b4)
            have HB4 := Lib.hid (HB3.out.trans (b4.mono HB3.out.size))
            clear b4 e3 hc2
            go_wp2_with (first | (at_builtin; refine app_str rfl _ _ rfl w.heap.size _ Z rfl HO4.out (itoaI x) rfl (itoaI_in x) (by have h1 := congrArg List.length HJ3.out; have := HL2.out; have := HLN.out; simp only [List.length_append] at h1; omega) HB4.out.size ?_))
            intro v5 w5 o5 b5
            have HO5 := Lib.hid o5
            have HB5 := Lib.hid (HB4.out.trans b5)
            clear o5 b5
            rw [← HJ3.out] at HO5
            go_wp2
            go_roundw
            case rel => exact ⟨_, by omega, by go_num, HO5.out, HB5.out⟩
            case measure => simp [intOf]; omega
        · obtain rfl : k = n1 := by omega
          rw [HN.out, List.take_length] at HO2
          clear hkl hk
          by_cases hk0 : k = 0
          · subst hk0
            have hl0 : l = [] := List.eq_nil_of_length_eq_zero HN.out.symm
            have HO3 := Lib.hid (show OwnB wr w.heap.size u3 (textOf (L.take (i + 1))) by rw [HTK.out, hl0]; have := HO2.out; rw [hl0] at this; exact this)
            have b0 : decide ((0 : Int) < (0 : Int)) = false := by decide
            clear hl0
            go_wp2
            go_roundw
            case rel => exact ⟨i + 1, by omega, by go_num, HO3.out, HBW2.out⟩
            case measure => simp [intOf]; omega
          · have b0 : decide ((0 : Int) < (k : Int)) = true := decide_eq_true (by omega)
            have hk1 : 0 < k := by omega
            have HL0 := Lib.hid (show l ≠ [] from fun e => by have h1 := HN.out; rw [e] at h1; simp at h1; omega)
            have HJL := Lib.hid (jn_line l HL0.out)
            clear hk0
            go_wp2_with (first | (at_builtin; refine app_bytes rfl _ _ rfl w.heap.size _ (textOf (L.take i) ++ jn l) rfl (HO2.out.alloc _) _ [10] rfl (row_new _ _) (by have h1 := HLN.out; rw [HJL.out] at h1; simp at h1 ⊢; omega) (by have := HBW2.out.size; simp; omega) ?_))
            intro v2 w2 o2 g2 t2
            have HO3 := Lib.hid (show OwnB w2 w.heap.size v2 (textOf (L.take (i + 1))) by rw [HTK.out, HJL.out]; simpa using o2)
            have HB3 := Lib.hid (made_alloc HBW2.out HO2.out g2)
            clear o2 g2 t2
            go_wp2
            go_roundw
            case rel => exact ⟨i + 1, by omega, by go_num, HO3.out, HB3.out⟩
            case measure => simp [intOf]; omega
    · obtain rfl : i = L.length := by omega
      rw [List.take_length] at HO
      clear hlt hi
      go_wp2
      go_ret
      exact ⟨_, rfl, HO.out, HBW.out⟩
end Go.Proofs.YtpdeffpmfbplnaaDoor
