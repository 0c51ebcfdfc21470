/- What the document's Sorted answers. -/
import Derived.Test.YtbhgpiohniplbaaVBox0
import Derived.Test.YtbhgpiohniplbaaXPMat
import Derived.Deep.CutBlock
namespace Go.Proofs.Ytbhgpiohniplbaa
open Go.ChangeShapes Go.WideShapes Go.ChangeAt Go.RowKit

/-- A part of lines that a call has made, put behind lines that it has made. -/
theorem app_part {w : World} {ops : Array Oper} {rest : List Oper} {o : Oper} {a : Act} {Q : Exit → Act → World → Prop} (hgd : o.guard = none) (s x : Operand)
    (ho : o.op = .call { callee := .builtin .append, args := #[s, x], argTypes := #[22, 22] }) (B : Nat) (v : Value) (A : List (List Int)) (hs : a.eval s = v) (hown : OwnLL w B v A)
    (u : Value) (C : List (List Int)) (hx : a.eval x = u) (hr : ∃ us, Row w u us ∧ OwnIn w B us C) (hlen : A.length + C.length ≤ 1000000) (hB : B ≤ w.heap.size)
    (h : ∀ v' w', OwnLL w' B v' (A ++ C) → w.grownBy w' v.ownBlock → (v'.ownBlock = v.ownBlock ∨ v'.ownBlock = some w.heap.size) → wpList Try.prog ops Q rest (a.put o.dst v') w') : wpList Try.prog ops Q (o :: rest) a w := by
  obtain ⟨i0, hi, hz0, hz1, hz2⟩ := info_parts infoInts
  obtain ⟨vs, h1, h2⟩ := hown
  obtain ⟨us, k1, k2⟩ := hr
  have hvl := h2.in.len
  have hul := k2.in.len
  have post : ∀ w', w.grownBy w' v.ownBlock → OwnIn w' B (vs ++ us) (A ++ C) := by
    intro w' hg
    have hall := h2.append k2
    refine hall.kept hg (fun z hz => ?_)
    rcases h1.2 with ⟨rfl, _⟩ | ⟨g, cap, cur, rfl, _, hgg, _⟩
    · cases z.ownBlock <;> simp [Value.ownBlock]
    · exact .inr (hall.ne hgg (by decide) z hz)
  obtain ⟨hm, ad, cap, rfl, hc, ⟨hc2, hn⟩, hcell⟩ := k1
  cases ad with
  | none =>
    have hc0 : cap = 0 := hn rfl
    have hus : us = [] := List.eq_nil_of_length_eq_zero (by omega)
    subst hus hc0
    refine wpList_append_own_none hgd s x 22 ho B 28 i0 1 Try.underlying22 hi v vs.length vs hs h1 hx (h v w ⟨vs ++ [], by simpa using h1, post w ⟨rfl, rfl, rfl, Nat.le_refl _, fun _ _ _ => rfl⟩⟩ ⟨rfl, rfl, rfl, Nat.le_refl _, fun _ _ _ => rfl⟩ (.inl rfl))
  | some ad =>
    refine wpList_append_own_at w hgd s x 22 ho B 28 i0 _ 1 24 Try.underlying22 hi hz0 hz1 hz2 rfl (by decide) v vs.length vs hs h1 ad us.length cap us hx (by omega) ?_ k2.one (by unfold maxLen; omega) (by omega) hB ?_
    · intro j w0 hj
      have hjl : j < us.length := by
        rcases Nat.lt_or_ge j us.length with h | h
        · exact h
        · rw [List.getElem?_eq_none h] at hj; simp at hj
      rcases hcell with rfl | ⟨b, off, he, hcc⟩
      · simp at hjl
      · simp at he
        subst he
        rw [add_off, hcc j hjl, hj]
    · intro v' w' q1 q2 _ q4
      refine h v' w' ⟨vs ++ us, ?_, post w' q2⟩ q2 q4
      rw [List.length_append]; exact q1
theorem OwnIn.take {w : World} {B : Nat} : ∀ {vs : List Value} {L : List (List Int)} (k : Nat), OwnIn w B vs L → OwnIn w B (vs.take k) (L.take k)
  | [], [], _, _ => by simp [OwnIn]
  | _ :: _, _ :: _, 0, _ => trivial
  | _ :: _, _ :: _, k + 1, h => ⟨h.1, OwnIn.take k h.2⟩
  | [], _ :: _, _, h => h.elim
  | _ :: _, [], _, h => h.elim
theorem OwnIn.drop {w : World} {B : Nat} : ∀ {vs : List Value} {L : List (List Int)} (k : Nat), OwnIn w B vs L → OwnIn w B (vs.drop k) (L.drop k)
  | [], [], _, _ => by simp [OwnIn]
  | _ :: _, _ :: _, 0, h => h
  | _ :: _, _ :: _, k + 1, h => OwnIn.drop k h.2
  | [], _ :: _, _, h => h.elim
  | _ :: _, [], _, h => h.elim
theorem OwnIn.below {w w' : World} {B : Nat} (hb : Below w.heap.size w w') : ∀ {vs : List Value} {L : List (List Int)}, OwnIn w B vs L → OwnIn w' B vs L
  | [], [], _ => trivial
  | _ :: _, _ :: _, h => ⟨own_below h.1 hb, OwnIn.below hb h.2⟩
  | [], _ :: _, h => h.elim
  | _ :: _, [], h => h.elim
/-- The first and the last part of lines that a call has made. -/
theorem OwnLL.parts {w : World} {B g n cap : Nat} {L : List (List Int)} (h : OwnLL w B (.slice (some ⟨g, 0, none⟩) n cap) L) (k : Nat) (hk : k ≤ n) :
    (∃ us, Row w (.slice (some ⟨g, 0, none⟩) k cap) us ∧ OwnIn w B us (L.take k)) ∧ ∀ a, a = (if cap = k then some (⟨g, 0, none⟩ : Addr) else some ⟨g, 0 + k, none⟩) → ∃ us, Row w (.slice a (n - k) (cap - k)) us ∧ OwnIn w B us (L.drop k) := by
  have hn := h.num
  obtain ⟨vs, h1, h2⟩ := h
  have hv : n = vs.length := by rw [hn, h2.in.len]
  have hr := own_row h1
  constructor
  · refine ⟨vs.take k, ?_, h2.take k⟩
    have := Row.part hr 0 k (Nat.zero_le _) (by omega) (some ⟨g, 0, none⟩) (by split <;> rfl)
    rw [List.drop_zero, Nat.sub_zero] at this
    exact this
  · intro a ha
    refine ⟨vs.drop k, ?_, h2.drop k⟩
    have := Row.part hr k n hk (by omega) a ha
    rw [List.take_of_length_le (by rw [List.length_drop]; omega)] at this
    exact this
/-- One more row goes behind all that is not above it. -/
theorem ord_next {X : List (List Int)} {r : List Int} {k : Nat} (hk : k ≤ (sortL X).length) (h1 : k = 0 ∨ key ((sortL X).getD (k - 1) []) ≤ key r) (h2 : ∀ i, k ≤ i → i < (sortL X).length → key r < key ((sortL X).getD i [])) :
    sortL (X ++ [r]) = (sortL X).take k ++ r :: (sortL X).drop k := by
  have hs := (stab_sortL X)
  refine sortL_eq (stab_snoc (by rw [List.take_append_drop]; exact hs) (upto_at hs.1 hk h1) (fun y hy => ?_))
  obtain ⟨i, hi, rfl⟩ := List.getElem_of_mem hy
  have hi2 : k + i < (sortL X).length := by rw [List.length_drop] at hi; omega
  have := h2 (k + i) (by omega) hi2
  rw [List.getD_eq_getElem?_getD, List.getElem?_eq_getElem hi2] at this
  rw [List.getElem_drop]
  exact this
set_option maxRecDepth 1000000 in
set_option maxHeartbeats 4000000 in
theorem dsorted_any {w : World} {v : Value} {L : List (List Int)} (h : IsLL w v L) (hlen : L.length ≤ 1000) (hr : ∀ l ∈ L, l.length ≤ 1000000) :
    Calls Try.prog 18 #[planV v] w fun e w' => ∃ u, e = .returned (planV u) ∧ OwnLL w' w.heap.size u (ordL L) ∧ Below w.heap.size w w' := by
  have HR := Lib.hid (show ∀ k, k < L.length → (L.getD k []).length ≤ 1000000 from fun k hk => by
    rw [List.getD_eq_getElem?_getD, List.getElem?_eq_getElem hk]; exact hr _ (List.getElem_mem hk))
  have hb1 := (Below.refl w.heap.size w).alloc (Nat.le_refl _) (.cells #[v] 24)
  have HB0 := Lib.hid (hb1.alloc hb1.size (.cells #[.slice none 0 0] 24))
  have H := Lib.hid h
  have hp := pbox_new w v
  have HP := Lib.hid (hp.later ((Below.refl _ _).alloc (Nat.le_refl _) (.cells #[.slice none 0 0] 24)))
  have hz := pbox_new (w.alloc (.cells #[v] 24)) (.slice none 0 0)
  rw [show (w.alloc (.cells #[v] 24)).heap.size = w.heap.size + 1 by simp] at hz
  have HZ := Lib.hid hz
  have HSZ := Lib.hid (show ((w.alloc (.cells #[v] 24)).alloc (.cells #[.slice none 0 0] 24)).heap.size = w.heap.size + 2 by simp)
  obtain ⟨la, lc, rfl, hlm⟩ := h.form
  have hlm1 : L.length ≤ 9223372036854775807 := by unfold maxLen at hlm; omega
  clear h hr hb1 hp hz hlm
  unfold planV
  go_enter Try.func18, Try.ntmps18
  go_upto_region 1 with fail
  generalize (w.alloc (.cells #[.slice la L.length lc] 24)).alloc (.cells #[.slice none 0 0] 24) = W at *
  have hsW := HSZ.out
  have HBW0 := Lib.hid HB0.out
  go_wp2_with fail
  go_loopw [3, 4] (fun out i wr => ∃ (k : Nat), k ≤ L.length ∧ i = .int .i64 k ∧ OwnLL wr (w.heap.size + 2) out (ordL (L.take k)) ∧ Below w.heap.size w wr ∧ Below (w.heap.size + 2) W wr) (fun _ i _ => L.length - (intOf i).toNat)
  case atStart => exact ⟨0, Nat.zero_le _, rfl, ownLL_nil _ _, HB0.out, Below.refl _ _⟩
  case round =>
    obtain ⟨k, hk, rfl, ho, hbw, hbw1⟩ := hrel
    have HO := Lib.hid ho
    have HBW := Lib.hid hbw
    have HBW1 := Lib.hid hbw1
    have HPr := Lib.hid (HP.out.below (M := w.heap.size + 2) (by omega) hbw1)
    have HZr := Lib.hid (HZ.out.below (M := w.heap.size + 2) (by omega) hbw1)
    have hszr : w.heap.size + 2 ≤ wr.heap.size := by have := hbw1.size; omega
    have x0 := HPr.out.cell
    by_cases hlt : k < L.length
    · have hlt2 : (k : Int) < (L.length : Int) := by omega
      obtain ⟨tb, off, a1, n1, d1, rfl, htb, hcw, hn1, hmx, hrow⟩ := ll_at H.out k hlt
      have hcl := (hbw.cell (p := ⟨tb, off + k, none⟩) htb).trans hcw
      have HRow := Lib.hid hrow
      have HLl := Lib.hid (HR.out k hlt)
      have HT := Lib.hid (take_getD hlt)
      have HXL := Lib.hid (show (ordL (L.take k)).length ≤ 1000 by have := ordL_len (L.take k); rw [List.length_take] at this; omega)
      generalize L.getD k [] = r at *
      subst hn1
      have hm2 : r.length ≤ 9223372036854775807 := by unfold maxLen at hmx; omega
      clear hmx hrow htb hcw ho hbw hbw1
      by_cases he : r = []
      · have hl0 : ((r.length : Int) == 0) = true := by rw [he]; rfl
        have HE := Lib.hid (show ordL (L.take (k + 1)) = ordL (L.take k) by rw [HT.out]; unfold ordL; rw [usedL_snoc, if_pos he])
        go_wp2_with fail
        go_roundw
        case rel => exact ⟨k + 1, by omega, by go_num, by rw [HE.out]; exact HO.out, HBW.out, HBW1.out⟩
        case measure => simp [intOf]; omega
      · have hl0 : ((r.length : Int) == 0) = false := by simpa using he
        have HE := Lib.hid (show ordL (L.take (k + 1)) = sortL (usedL (L.take k) ++ [r]) by rw [HT.out]; unfold ordL; rw [usedL_snoc, if_neg he])
        have hform : (u3 = .slice none 0 0 ∧ ordL (L.take k) = []) ∨ ∃ g cap, u3 = .slice (some ⟨g, 0, none⟩) (ordL (L.take k)).length cap := by
          obtain ⟨vs, h1, h2⟩ := HO.out
          rcases h1.2 with ⟨rfl, hn⟩ | ⟨g, cap, cur, rfl, _⟩
          · exact .inl ⟨rfl, by have := h2.in.len; exact List.eq_nil_of_length_eq_zero (by omega)⟩
          · exact .inr ⟨g, cap, by rw [h2.in.len]⟩
        have hru := usedL_len (L.take k)
        rcases hform with ⟨rfl, hX0⟩ | ⟨g, cap, rfl⟩
        · have HE1 := Lib.hid (show ordL (L.take (k + 1)) = [r] by
            rw [HE.out]
            have h0 : (usedL (L.take k)).length = 0 := by have := sortL_len (usedL (L.take k)); rw [show sortL (usedL (L.take k)) = ordL (L.take k) from rfl, hX0] at this; simpa using this.symm
            rw [List.eq_nil_of_length_eq_zero h0]; rfl)
          clear hX0 HO
          go_upto_block 2 with fail
          go_cut [6] from 8 to 56 (fun av wx => av = .int .i64 0 ∧ Below wr.heap.size wr wx)
          case first =>
            obtain ⟨wo, hwo⟩ : ∃ wo, wo = wr := ⟨_, rfl⟩
            subst hwo
            go_wp2_with fail
            go_loopw [6] (fun av wx => av = .int .i64 0 ∧ Below wo.heap.size wo wx) (fun _ _ => 0)
            case atStart => exact ⟨rfl, Below.refl _ _⟩
            case round =>
              obtain ⟨rfl, hb⟩ := hrel
              have HBi := Lib.hid hb
              clear hb
              go_wp2_with fail
              go_quiet (fail)
              have HBq := Lib.hid (below_drewN HBi.out nq)
              generalize wr.drewN nq = w5 at *
              go_wp2_with fail
              go_meet
              case rel => exact ⟨rfl, HBq.out⟩
          case rest =>
            obtain ⟨rfl, hb⟩ := hcut
            have HB2 := Lib.hid (HBW.out.trans (hb.mono HBW.out.size))
            have HB21 := Lib.hid (HBW1.out.trans (hb.mono hszr))
            have HR2 := Lib.hid (HRow.out.below HB2.out)
            have hszc : w.heap.size + 2 ≤ wc.heap.size := by have := hb.size; omega
            clear hb x0 hcl
            go_wp2_with (first | (at_builtin; refine app_part rfl _ _ rfl (w.heap.size + 2) _ [] rfl (ownLL_nil _ _) _ [] rfl ⟨[], ⟨by simp, none, 0, rfl, by simp, ⟨by simp, fun _ => rfl⟩, .inl rfl⟩, trivial⟩ (by decide) hszc ?_))
            intro v3 w3 own3 grown3 _
            have HO3 := Lib.hid own3
            have HB3 := Lib.hid (HB2.out.grown grown3 HB2.out.size (fun q hq => by have := (ownLL_nil wc (w.heap.size + 2)).ge q hq; omega))
            have HB31 := Lib.hid (HB21.out.grown grown3 hszc (fun q hq => (ownLL_nil wc (w.heap.size + 2)).ge q hq))
            have hsz3 : w.heap.size + 2 ≤ w3.heap.size := by have := grown3.size; omega
            have HR3 := Lib.hid (HRow.out.below HB3.out)
            clear own3 grown3
            go_wp2_with (first | (at_builtin; refine app_ints rfl _ _ rfl (w.heap.size + 2) _ [] rfl (ownI_nil _ _) _ r rfl HR3.out (by have := HLl.out; simp; omega) hsz3 ?_))
            intro v4 w4 own4 grown4 _
            have HI4 := Lib.hid own4
            have HB4 := Lib.hid (HB3.out.grown grown4 HB3.out.size (fun q hq => by cases hq))
            have HB41 := Lib.hid (HB31.out.grown grown4 hsz3 (fun q hq => by cases hq))
            have HO4 := Lib.hid (HO3.out.below ((Below.refl _ w3).grown grown4 (Nat.le_refl _) (fun q hq => by cases hq)))
            have hsz4 : w.heap.size + 2 ≤ w4.heap.size := by have := grown4.size; omega
            clear own4 grown4
            obtain ⟨ia, ic, rfl⟩ := HI4.out.shape
            go_wp2_with (first | (at_builtin; refine app_line rfl _ _ rfl (w.heap.size + 2) _ _ rfl w4 _ rfl HO4.out _ rfl HI4.out (by simp) hsz4 ?_))
            intro v5 w5 own5 grown5
            have HO5 := Lib.hid own5
            have HB5 := Lib.hid (HB4.out.grown grown5 HB4.out.size (fun q hq => by have := HO4.out.ge q hq; omega))
            have HB51 := Lib.hid (HB41.out.grown grown5 hsz4 (fun q hq => HO4.out.ge q hq))
            have hsz5 : w.heap.size + 2 ≤ w5.heap.size := by have := grown5.size; omega
            clear own5 grown5
            go_wp2_with (first | (at_builtin; refine app_part rfl _ _ rfl (w.heap.size + 2) _ _ rfl HO5.out _ [] rfl ⟨[], ⟨by simp, none, 0, rfl, by simp, ⟨by simp, fun _ => rfl⟩, .inl rfl⟩, trivial⟩ (by simp) hsz5 ?_))
            intro v6 w6 own6 grown6 _
            have HO6 := Lib.hid own6
            have HB6 := Lib.hid (HB5.out.grown grown6 HB5.out.size (fun q hq => by have := HO5.out.ge q hq; omega))
            have HB61 := Lib.hid (HB51.out.grown grown6 hsz5 (fun q hq => HO5.out.ge q hq))
            clear own6 grown6
            go_wp2_with fail
            go_roundw
            case rel => exact ⟨k + 1, by omega, by go_num, by rw [HE1.out]; simpa using HO6.out, HB6.out, HB61.out⟩
            case measure => simp [intOf]; omega
        · obtain ⟨X, hX⟩ : ∃ X, ordL (L.take k) = X := ⟨_, rfl⟩
          have HXF := Lib.hid (show Full X by rw [← hX]; exact ord_full _)
          have HXN := Lib.hid (show ∀ m, m ≤ X.length → (m = 0 ∨ key (X.getD (m - 1) []) ≤ key r) → (∀ i, m ≤ i → i < X.length → key r < key (X.getD i [])) → ordL (L.take (k + 1)) = X.take m ++ r :: X.drop m by
            rw [← hX]
            intro m h1 h2 h3
            rw [HE.out]
            exact ord_next h1 h2 h3)
          rw [hX] at HO HXL ⊢
          have hxl : X.length ≤ 1000 := HXL.out
          clear hX HE hru
          go_upto_block 2 with fail
          go_cut [6] from 8 to 56 (fun av wx => (∃ m : Nat, m ≤ X.length ∧ av = .int .i64 m ∧ (m = 0 ∨ key (X.getD (m - 1) []) ≤ key r) ∧ (∀ i, m ≤ i → i < X.length → key r < key (X.getD i []))) ∧ Below wr.heap.size wr wx)
          case first =>
            obtain ⟨wo, hwo⟩ : ∃ wo, wo = wr := ⟨_, rfl⟩
            subst hwo
            go_wp2_with fail
            go_loopw [6] (fun av wx => (∃ m : Nat, m ≤ X.length ∧ av = .int .i64 m ∧ (∀ i, m ≤ i → i < X.length → key r < key (X.getD i []))) ∧ Below wo.heap.size wo wx) (fun av _ => (intOf av).toNat)
            case atStart => exact ⟨⟨X.length, Nat.le_refl _, rfl, fun i h1 h2 => by omega⟩, Below.refl _ _⟩
            case round =>
              obtain ⟨⟨m, hm, rfl, hgt⟩, hb⟩ := hrel
              have HBi := Lib.hid hb
              have HGT := Lib.hid hgt
              have HOi := Lib.hid (HO.out.below hb)
              have HRi := Lib.hid (HRow.out.below (HBW.out.trans (hb.mono HBW.out.size)))
              clear hb hgt x0 hcl
              by_cases hm0 : m = 0
              · have hmd : decide (0 < m) = false := decide_eq_false (by omega)
                have hmi : ¬ (0 : Int) < (m : Int) := by omega
                have HM0 := Lib.hid hm0
                clear hm0
                go_wp2_with fail
                go_quiet (fail)
                have HBq := Lib.hid (below_drewN HBi.out nq)
                generalize wr.drewN nq = w5 at *
                go_wp2_with fail
                go_meet
                case rel => exact ⟨⟨m, hm, rfl, .inl HM0.out, HGT.out⟩, HBq.out⟩
              · have hmd : decide (0 < m) = true := decide_eq_true (by omega)
                have hmi : (0 : Int) < (m : Int) := by omega
                obtain ⟨mp, hmp⟩ : ∃ mp, mp = m - 1 := ⟨_, rfl⟩
                have hmm : m = mp + 1 := by omega
                have e1 : IntKind.i64.wrap ((m : Int) - 1) = (mp : Int) := by rw [IntWalk.i64_in _ (by omega)]; omega
                have hmx : mp < X.length := by omega
                obtain ⟨u, hu, hru⟩ := HOi.out.has mp hmx
                have hne := HXF.out.at hmx
                have hpos : 0 < (X.getD mp []).length := List.length_pos_iff.2 hne
                have hpos2 : 0 < r.length := List.length_pos_iff.2 he
                obtain ⟨rb, ro, rc, rfl, hcell, hrm, _⟩ := row_at (p := 0) hru (by rw [ints_len]; exact hpos)
                obtain ⟨rb2, ro2, rc2, he2, hcell2, _, _⟩ := row_at (p := 0) HRi.out (by rw [ints_len]; exact hpos2)
                rw [ints_at _ 0 hpos, Nat.add_zero] at hcell
                rw [ints_at _ 0 hpos2, Nat.add_zero] at hcell2
                simp only [ints_len, Value.slice.injEq, true_and] at he2
                obtain ⟨rfl, rfl⟩ := he2
                rw [ints_len] at hu hrm
                have hk1 : (X.getD mp []).getD 0 0 = key (X.getD mp []) := rfl
                have hk2 : r.getD 0 0 = key r := rfl
                rw [hk1] at hcell
                rw [hk2] at hcell2
                have hrm2 : (X.getD mp []).length ≤ 9223372036854775807 := by unfold maxLen at hrm; omega
                have HST := Lib.hid (show key r < key (X.getD mp []) → ∀ i, mp ≤ i → i < X.length → key r < key (X.getD i []) from fun h i h1 h2 => by
                  by_cases hi : i = mp
                  · rw [hi]; exact h
                  · exact HGT.out i (by omega) h2)
                have HEX := Lib.hid (show ¬ key r < key (X.getD mp []) → key (X.getD (m - 1) []) ≤ key r from fun h => by rw [← hmp]; omega)
                have HMM := Lib.hid hmm
                generalize (X.getD mp []).length = ln at *
                generalize key (X.getD mp []) = kx at *
                generalize key r = kr at *
                clear hru hne hrm hk1 hk2 hm0 hmp hmm
                by_cases hcmp : kr < kx
                · have hcd := decide_eq_true hcmp
                  go_wp2_with fail
                  go_quiet (fail)
                  have HBq := Lib.hid (below_drewN HBi.out nq)
                  clear hu hcell hcell2
                  generalize wr.drewN nq = w5 at *
                  go_wp2_with fail
                  go_roundw
                  case rel => exact ⟨⟨mp, by omega, rfl, HST.out hcmp⟩, HBq.out⟩
                  case measure => simp [intOf]; have := HMM.out; omega
                · have hcd := decide_eq_false hcmp
                  go_wp2_with fail
                  go_quiet (fail)
                  have HBq := Lib.hid (below_drewN HBi.out nq)
                  clear hu hcell hcell2
                  generalize wr.drewN nq = w5 at *
                  go_wp2_with fail
                  go_meet
                  case rel => exact ⟨⟨m, hm, rfl, .inr (HEX.out hcmp), HGT.out⟩, HBq.out⟩
          case rest =>
            obtain ⟨⟨m, hm, rfl, h1, h2⟩, hb⟩ := hcut
            have HE1 := Lib.hid (HXN.out m hm h1 h2)
            have HB2 := Lib.hid (HBW.out.trans (hb.mono HBW.out.size))
            have HB21 := Lib.hid (HBW1.out.trans (hb.mono hszr))
            have HO2 := Lib.hid (HO.out.below hb)
            have hszc : w.heap.size + 2 ≤ wc.heap.size := by have := hb.size; omega
            have hm2' : (m : Int) ≤ (X.length : Int) := by omega
            have htl : (X.take m).length ≤ 1000 := by rw [List.length_take]; omega
            have hmcap : m ≤ cap := by
              obtain ⟨vs, hv1, hv2⟩ := HO2.out
              have hvl := hv2.in.len
              obtain ⟨_, _, _, he', hc', _⟩ := own_row hv1
              simp at he'
              obtain ⟨_, h3, h4⟩ := he'
              omega
            have HPT := Lib.hid (HO2.out.parts m hm)
            clear hb x0 hcl h1 h2
            go_wp2_with (first | (at_builtin; refine app_part rfl _ _ rfl (w.heap.size + 2) _ [] rfl (ownLL_nil _ _) _ (X.take m) rfl HPT.out.1 (by simp; omega) hszc ?_))
            intro v3 w3 own3 grown3 place3
            have HO3 := Lib.hid (show OwnLL w3 (w.heap.size + 2) v3 (X.take m) by simpa using own3)
            have HC3 := Lib.hid ((Below.refl wc.heap.size wc).grown grown3 (Nat.le_refl _) (fun q hq => by cases hq))
            have HPL := Lib.hid (show ∀ q, v3.ownBlock = some q → wc.heap.size ≤ q from fun q hq => by
              rcases place3 with h | h
              · rw [h] at hq; cases hq
              · rw [h] at hq; simp at hq; omega)
            clear own3 grown3 place3 HPT
            have HR3 := Lib.hid (HRow.out.below (HB2.out.trans (HC3.out.mono HB2.out.size)))
            have hsz3 : w.heap.size + 2 ≤ w3.heap.size := by have := HC3.out.size; omega
            go_wp2_with (first | (at_builtin; refine app_ints rfl _ _ rfl (w.heap.size + 2) _ [] rfl (ownI_nil _ _) _ r rfl HR3.out (by have := HLl.out; simp; omega) hsz3 ?_))
            intro v4 w4 own4 grown4 _
            have HI4 := Lib.hid own4
            have HC4 := Lib.hid (HC3.out.grown grown4 HC3.out.size (fun q hq => by cases hq))
            have HO4 := Lib.hid (HO3.out.below ((Below.refl _ w3).grown grown4 (Nat.le_refl _) (fun q hq => by cases hq)))
            have hsz4 : w.heap.size + 2 ≤ w4.heap.size := by have := grown4.size; omega
            clear own4 grown4
            obtain ⟨ia, ic, rfl⟩ := HI4.out.shape
            go_wp2_with (first | (at_builtin; refine app_line rfl _ _ rfl (w.heap.size + 2) _ _ rfl w4 _ rfl HO4.out _ rfl HI4.out (by omega) hsz4 ?_))
            intro v5 w5 own5 grown5
            have HO5 := Lib.hid own5
            have HC5 := Lib.hid (HC4.out.grown grown5 HC4.out.size (fun q hq => HPL.out q hq))
            have hsz5 : w.heap.size + 2 ≤ w5.heap.size := by have := grown5.size; omega
            have HOX := Lib.hid (HO2.out.below HC5.out)
            have hlen5 : (X.take m ++ ([] ++ r :: [])).length + (X.drop m).length ≤ 1000000 := by simp; omega
            clear own5 grown5
            have hpt := (HOX.out.parts m hm).2 _ rfl
            by_cases hcm : cap = m
            · subst hcm
              rw [if_pos rfl, Nat.sub_self] at hpt
              have HPT5 := Lib.hid hpt
              clear hpt
              go_wp2_with (first | (at_builtin; refine app_part rfl _ _ rfl (w.heap.size + 2) _ _ rfl HO5.out _ (X.drop cap) rfl HPT5.out (by simp; omega) hsz5 ?_))
              intro v6 w6 own6 grown6 _
              have HO6 := Lib.hid own6
              have HB5 := Lib.hid (HB2.out.trans (HC5.out.mono HB2.out.size))
              have HB51 := Lib.hid (HB21.out.trans (HC5.out.mono hszc))
              have HB6 := Lib.hid (HB5.out.grown grown6 HB5.out.size (fun q hq => by have := HO5.out.ge q hq; omega))
              have HB61 := Lib.hid (HB51.out.grown grown6 hsz5 (fun q hq => HO5.out.ge q hq))
              clear own6 grown6
              go_wp2_with fail
              go_roundw
              case rel => exact ⟨k + 1, by omega, by go_num, by rw [HE1.out]; simpa using HO6.out, HB6.out, HB61.out⟩
              case measure => simp [intOf]; omega
            · rw [if_neg hcm, Nat.zero_add] at hpt
              have HPT5 := Lib.hid hpt
              clear hpt
              go_wp2_with (first | (at_builtin; refine app_part rfl _ _ rfl (w.heap.size + 2) _ _ rfl HO5.out _ (X.drop m) rfl HPT5.out (by simp; omega) hsz5 ?_))
              intro v6 w6 own6 grown6 _
              have HO6 := Lib.hid own6
              have HB5 := Lib.hid (HB2.out.trans (HC5.out.mono HB2.out.size))
              have HB51 := Lib.hid (HB21.out.trans (HC5.out.mono hszc))
              have HB6 := Lib.hid (HB5.out.grown grown6 HB5.out.size (fun q hq => by have := HO5.out.ge q hq; omega))
              have HB61 := Lib.hid (HB51.out.grown grown6 hsz5 (fun q hq => HO5.out.ge q hq))
              clear own6 grown6
              go_wp2_with fail
              go_roundw
              case rel => exact ⟨k + 1, by omega, by go_num, by rw [HE1.out]; simpa using HO6.out, HB6.out, HB61.out⟩
              case measure => simp [intOf]; omega
    · obtain rfl : k = L.length := by omega
      have hl2 : ¬ (L.length : Int) < (L.length : Int) := by omega
      have HO2 := Lib.hid (show OwnLL wr (w.heap.size + 2) u3 (ordL L) by have := HO.out; rwa [List.take_length] at this)
      have z0 := HZr.out.cell
      have f0 := HZr.out.free 0
      obtain ⟨ua, uc, hu3⟩ : ∃ a c, u3 = .slice a (ordL L).length c := by
        obtain ⟨a, c, h1, _⟩ := HO2.out.is.form
        exact ⟨a, c, h1⟩
      subst hu3
      generalize (ordL L).length = nu at *
      have hgr : wr.grownBy (wr.setCell ⟨w.heap.size + 1, 0, none⟩ (.slice ua nu uc)) (some (w.heap.size + 1)) := ⟨rfl, rfl, rfl, by simp [World.setCell], fun k _ hk => heap_setCell_other wr ⟨w.heap.size + 1, 0, none⟩ k _ (fun e => hk (by rw [e]))⟩
      have HO4 := Lib.hid ((HO2.out.later hgr (fun g hg => by simp at hg; omega)).less (B' := w.heap.size) (by omega))
      have HB4 := Lib.hid (hbw.setCell (p := ⟨w.heap.size + 1, 0, none⟩) (Nat.le_succ _) (.slice ua nu uc))
      clear ho hbw hbw1 hgr
      go_wp2_with fail
      exact bodyPost_ret (v := .agg #[.slice ua nu uc]) (by simp [results, Try.results18, go_sem, z0]) rfl ⟨_, rfl, HO4.out, HB4.out⟩
end Go.Proofs.Ytbhgpiohniplbaa
