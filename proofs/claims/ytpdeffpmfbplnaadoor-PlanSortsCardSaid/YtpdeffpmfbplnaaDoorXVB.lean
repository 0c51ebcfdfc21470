/- The routes that have stops, in order. -/
import Derived.Test.YtpdeffpmfbplnaaDoorXVA
import Derived.Test.YtpdeffpmfbplnaaDoorXRef
import Derived.Test.YtpdeffpmfbplnaaDoorXPrint
import Derived.Lib.SliceRun
import Derived.Deep.CutRange
import Derived.Test.YtpdeffpmfbplnaaDoorXIOwn
namespace Go.Proofs.YtpdeffpmfbplnaaDoor
open Go.ChangeShapes Go.WideShapes Go.ChangeAt Go.RowKit

/-- A plan by value. -/
def planV (v : Value) : Value := .agg #[v]
def boxP (v : Value) : Obj := .cells #[v] 27
/-- The routes that have stops. -/
def usedL (L : List (List Int)) : List (List Int) := L.filter (fun l => !l.isEmpty)
def ordL (L : List (List Int)) : List (List Int) := sortL (usedL L)
theorem usedL_full (L : List (List Int)) : Full (usedL L) := by
  intro l hl
  have := (List.mem_filter.1 hl).2
  cases l with
  | nil => simp at this
  | cons x l => simp
theorem usedL_len (L : List (List Int)) : (usedL L).length ≤ L.length := List.length_filter_le _ _
theorem ordL_len (L : List (List Int)) : (ordL L).length ≤ L.length := by unfold ordL; rw [sortL_len]; exact usedL_len L
theorem ordL_mem (L : List (List Int)) (l : List Int) : l ∈ ordL L ↔ l ∈ L ∧ l ≠ [] := by
  unfold ordL usedL
  rw [sortL_mem, List.mem_filter]
  cases l <;> simp
theorem usedL_snoc (L : List (List Int)) (l : List Int) : usedL (L ++ [l]) = if l = [] then usedL L else usedL L ++ [l] := by
  unfold usedL
  rw [List.filter_append]
  cases l <;> simp
set_option maxRecDepth 1000000 in
set_option maxHeartbeats 1000000 in
theorem clone_any {w : World} {u : Value} {l : List Int} (h : Row w u (ints l)) (hl : l ≠ []) (hlen : l.length ≤ 1000000) :
    Calls Tryd.prog 56 #[u] w fun e w' => ∃ v, e = .returned v ∧ OwnI w' w.heap.size v l ∧ Below w.heap.size w w' := by
  have H := Lib.hid h
  obtain ⟨tb, off, cap, rfl, _⟩ := row_at (p := 0) h (by rw [ints_len]; exact List.length_pos_iff.2 hl)
  rw [ints_len] at *
  clear h
  have hnil : ∀ (W : World) (a : Option Addr) (n c : Nat), (binOp .eql 42 (.slice a n c) (.slice none 0 0)).run Tryd.prog W = .ok (.bool a.isNone) W := fun W a n c => Lib.run_eql_slice_nil W _ _ a n c 0 0 Tryd.underlying42
  go_enter Tryd.func56, Tryd.ntmps56
  go_wp2_with (first | (at_builtin; refine app_ints rfl _ _ rfl w.heap.size _ [] rfl (World.ownsRow_made w #[] 0 (Nat.le_refl _) (Nat.zero_le _) (by simp)) _ l rfl (H.out.below ((Below.refl _ _).alloc (Nat.le_refl _) _)) (by simpa using (by omega : l.length ≤ 10000000)) (by simp) ?_))
  intro v' w' own grown _
  have HO := Lib.hid own
  have HB := Lib.hid (((Below.refl _ w).alloc (Nat.le_refl _) (.cells #[] 3)).grown grown (by simp) (by intro k hk; simp [Value.ownBlock] at hk; omega))
  clear own grown
  go_wp2
  go_ret
  exact ⟨_, rfl, by simpa using HO.out, HB.out⟩
theorem take_getD {L : List (List Int)} {k : Nat} (hk : k < L.length) : L.take (k + 1) = L.take k ++ [L.getD k []] := by
  rw [List.take_add_one, List.getD_eq_getElem?_getD, List.getElem?_eq_getElem hk]; rfl
set_option maxRecDepth 1000000 in
set_option maxHeartbeats 4000000 in
theorem used_any {w : World} {v : Value} {L : List (List Int)} (h : IsLL w v L) (hlen : L.length ≤ 1000) (hr : ∀ l ∈ L, l.length ≤ 1000000) :
    Calls Tryd.prog 32 #[planV v] w fun e w' => ∃ u, e = .returned u ∧ OwnLL w' w.heap.size u (usedL L) ∧ Below w.heap.size w w' := by
  have H := Lib.hid h
  have HR := Lib.hid (show ∀ k, k < L.length → (L.getD k []).length ≤ 1000000 from fun k hk => by
    rw [List.getD_eq_getElem?_getD, List.getElem?_eq_getElem hk]; exact hr _ (List.getElem_mem hk))
  obtain ⟨ad, cap, rfl, _⟩ := h.form
  clear h hr
  unfold planV
  go_enter Tryd.func32, Tryd.ntmps32
  go_wp2_with fail
  have HB0 := Lib.hid ((Below.refl _ w).alloc (Nat.le_refl _) (.cells #[.slice ad L.length cap] 27))
  go_loopw [3, 9] (fun out i wr => ∃ (k : Nat), k ≤ L.length ∧ i = .int .i64 k ∧ OwnLL wr w.heap.size out (usedL (L.take k)) ∧ Below w.heap.size w wr) (fun _ i _ => L.length - (intOf i).toNat)
  case atStart => exact ⟨0, Nat.zero_le _, rfl, ownLL_nil _ _, HB0.out⟩
  case round =>
    obtain ⟨k, hk, rfl, ho, hbw⟩ := hrel
    have HO := Lib.hid ho
    have HBW := Lib.hid hbw
    by_cases hlt : k < L.length
    · have hl2 : (k : Int) < (L.length : Int) := by omega
      have hli := H.out.below hbw
      obtain ⟨tb, off, a1, n1, c1, rfl, htb, hc, hn1, hm1, hrow⟩ := ll_at hli k hlt
      have HRow := Lib.hid hrow
      have HLl := Lib.hid (HR.out k hlt)
      have HT := Lib.hid (take_getD hlt)
      have HU := Lib.hid (usedL_len (L.take k))
      generalize L.getD k [] = l at *
      subst hn1
      have hm2 : l.length ≤ 9223372036854775807 := by unfold maxLen at hm1; omega
      clear ho hbw hli hrow hm1 htb
      by_cases he : l = []
      · have hl0 : ¬ (0 : Int) < (l.length : Int) := by rw [he]; simp
        go_wp2_with fail
        go_roundw
        case rel => exact ⟨k + 1, by omega, by go_num, by rw [HT.out, usedL_snoc, if_pos he]; exact HO.out, HBW.out⟩
        case measure => simp [intOf]; omega
      · have hl0 : (0 : Int) < (l.length : Int) := by have := List.length_pos_iff.2 he; omega
        go_wp2_with fail
        refine (clone_any HRow.out he HLl.out).mono ?_
        rintro e w2 ⟨u, rfl, hu, hb⟩
        have HU2 := Lib.hid (hu.less HBW.out.size)
        have HO2 := Lib.hid (HO.out.below hb)
        have HB2 := Lib.hid (HBW.out.trans (hb.mono HBW.out.size))
        clear hu hb
        obtain ⟨ua, uc, rfl⟩ := HU2.out.shape
        have hsz : (usedL (L.take k)).length ≤ 1000000 := by have := HU.out; rw [List.length_take] at this; omega
        go_wp2_with (first | (at_builtin; refine app_line rfl _ _ rfl w.heap.size _ _ rfl w2 _ rfl HO2.out l rfl HU2.out hsz HB2.out.size ?_))
        intro v' w3 own grown
        have HO3 := Lib.hid own
        have HB3 := Lib.hid (madeL HB2.out HO2.out grown)
        clear own grown
        go_wp2_with fail
        go_roundw
        case rel => exact ⟨k + 1, by omega, by go_num, by rw [HT.out, usedL_snoc, if_neg he]; exact HO3.out, HB3.out⟩
        case measure => simp [intOf]; omega
    · obtain rfl : k = L.length := by omega
      clear ho hbw
      have hl2 : ¬ (L.length : Int) < (L.length : Int) := by omega
      go_wp2
      go_ret
      exact ⟨_, rfl, by have := HO.out; rw [List.take_length] at this; exact this, HBW.out⟩
end Go.Proofs.YtpdeffpmfbplnaaDoor
/- What Sorted and Print answer. -/
namespace Go.Proofs.YtpdeffpmfbplnaaDoor
open Go.ChangeShapes Go.WideShapes Go.ChangeAt Go.RowKit

set_option maxRecDepth 1000000 in
theorem insertion_nil (w : World) : Calls Tryd.prog 76 #[.slice none 0 0, .int .i64 0, .int .i64 0, .func (.func 34) #[] #[]] w fun e w' => e = .returned (.tuple #[]) ∧ w' = w := by
  go_enter Tryd.func76, Tryd.ntmps76
  go_wp2_with fail
  go_loopw [8] (fun i wr => i = .int .i64 1 ∧ wr = w) (fun _ _ => 0)
  case atStart => exact ⟨rfl, rfl⟩
  case round =>
    obtain ⟨rfl, rfl⟩ := hrel
    go_wp2
    go_end0
    exact ⟨rfl, rfl⟩
set_option maxRecDepth 1000000 in
theorem stable_nil (w : World) : Calls Tryd.prog 57 #[.slice none 0 0, .int .i64 0, .func (.func 34) #[] #[]] w fun e w' => e = .returned (.tuple #[]) ∧ w' = w := by
  go_enter Tryd.func57, Tryd.ntmps57
  go_wp2_with fail
  go_loopw [7, 8] (fun i j wr => i = .int .i64 0 ∧ j = .int .i64 20 ∧ wr = w) (fun _ _ _ => 0)
  case atStart => exact ⟨rfl, rfl, rfl⟩
  case round =>
    obtain ⟨rfl, rfl, rfl⟩ := hrel
    obtain ⟨wo, hwo⟩ : ∃ wo, wo = wr := ⟨_, rfl⟩
    subst hwo
    go_wp2_with fail
    refine (insertion_nil _).mono ?_
    rintro e w' ⟨rfl, rfl⟩
    go_wp2_with fail
    go_loopw [6] (fun i wr => i = .int .i64 20 ∧ wr = w') (fun _ _ => 0)
    case atStart => exact ⟨rfl, rfl⟩
    case round =>
      obtain ⟨rfl, rfl⟩ := hrel
      go_wp2
      go_end0
      exact ⟨rfl, rfl⟩
set_option maxRecDepth 1000000 in
theorem sortStable_any {w : World} {B : Nat} {u : Value} {L : List (List Int)} (h : OwnLL w B u L) (hf : Full L) (hlen : L.length ≤ 1000000) :
    Calls Tryd.prog 33 #[u, .func (.func 34) #[] #[]] w fun e w' => e = .returned (.tuple #[]) ∧ OwnLL w' B u (sortL L) ∧ Below B w w' := by
  have hform : (u = .slice none 0 0 ∧ L = []) ∨ ∃ g cap, u = .slice (some ⟨g, 0, none⟩) L.length cap := by
    obtain ⟨vs, h1, h2⟩ := h
    rcases h1.2 with ⟨rfl, hn⟩ | ⟨g, cap, cur, rfl, _⟩
    · exact .inl ⟨rfl, by have := h2.in.len; exact List.eq_nil_of_length_eq_zero (by omega)⟩
    · exact .inr ⟨g, cap, by rw [h2.in.len]⟩
  rcases hform with ⟨rfl, rfl⟩ | ⟨g, cap, rfl⟩
  · have H := Lib.hid h
    clear h
    go_enter Tryd.func33, Tryd.ntmps33
    go_wp2_with fail
    refine (stable_nil _).mono ?_
    rintro e w' ⟨rfl, rfl⟩
    go_wp2
    go_end0
    exact ⟨rfl, H.out, Below.refl _ _⟩
  · have hlen2 : L.length ≤ 9223372036854775807 := by omega
    have HS := Lib.hid (stable_any hf h hlen)
    clear h hf
    go_enter Tryd.func33, Tryd.ntmps33
    go_wp2_with fail
    refine HS.out.mono ?_
    rintro e w' ⟨rfl, ho, hb⟩
    have HO := Lib.hid ho
    have HB := Lib.hid hb
    clear ho hb HS
    go_wp2
    go_end0
    exact ⟨rfl, HO.out, HB.out⟩
set_option maxRecDepth 1000000 in
set_option maxHeartbeats 1000000 in
theorem vsorted_all {w : World} {v : Value} {L : List (List Int)} (h : IsLL w v L) (hlen : L.length ≤ 1000) (hr : ∀ l ∈ L, l.length ≤ 1000000) :
    Calls Tryd.prog 14 #[planV v] w fun e w' => ∃ u, e = .returned (planV u) ∧ OwnLL w' w.heap.size u (ordL L) ∧ Below w.heap.size w w' := by
  have HR := Lib.hid hr
  have HL := Lib.hid (show (usedL L).length ≤ 1000000 by have := usedL_len L; omega)
  have HN := Lib.hid (show ordL L = sortL (usedL L) from rfl)
  have HB0 := Lib.hid (((Below.refl _ w).alloc (Nat.le_refl _) (.cells #[v] 27)).alloc (by simp) (.cells #[.slice none 0 0] 27))
  have H := Lib.hid (h.below (((Below.refl _ w).alloc (Nat.le_refl _) (.cells #[v] 27)).alloc (by simp) (.cells #[.slice none 0 0] 27)))
  obtain ⟨ad, cap, rfl, _⟩ := h.form
  clear h hr
  unfold planV
  go_enter Tryd.func14, Tryd.ntmps14
  go_wp2_with fail
  have hb1 : ((w.alloc (.cells #[.slice ad L.length cap] 27)).alloc (.cells #[.slice none 0 0] 27)).heap[w.heap.size + 1]? = some (.cells #[.slice none 0 0] 27 (0, 0)) := by
    have := heap_alloc_new (w.alloc (.cells #[.slice ad L.length cap] 27)) (.cells #[.slice none 0 0] 27)
    simpa using this
  have HZ := Lib.hid hb1
  have hsz : w.heap.size + 2 = ((w.alloc (.cells #[.slice ad L.length cap] 27)).alloc (.cells #[.slice none 0 0] 27)).heap.size := by simp
  have HSZ := Lib.hid hsz
  clear hb1 hsz
  change Calls _ _ #[planV (.slice ad L.length cap)] _ _
  generalize (w.alloc (.cells #[.slice ad L.length cap] 27)).alloc (.cells #[.slice none 0 0] 27) = W at *
  refine (used_any H.out (by omega) HR.out).mono ?_
  rintro e w2 ⟨u, rfl, hu, hb⟩
  have HU := Lib.hid hu
  have HB2 := Lib.hid hb
  clear hu hb
  go_wp2_with fail
  refine (sortStable_any HU.out (usedL_full L) HL.out).mono ?_
  rintro e w3 ⟨rfl, ho, hb⟩
  have HO := Lib.hid ho
  have HB3 := Lib.hid (HB2.out.trans hb)
  have HZ3 := Lib.hid (show w3.heap[w.heap.size + 1]? = some (.cells #[.slice none 0 0] 27 (0, 0)) by rw [(HB2.out.trans hb).block _ (by have := HSZ.out; omega)]; exact HZ.out)
  clear ho hb
  obtain ⟨ua, uc, rfl⟩ := (show ∃ a c, u = .slice a (usedL L).length c from by
    obtain ⟨vs, h1, h2⟩ := HU.out
    rw [← h2.in.len]; exact own_shape h1)
  have z0 : w3.cell? ⟨w.heap.size + 1, 0, none⟩ = some (.slice none 0 0) := by rw [cell_of_row w3 _ 0 _ _ _ HZ3.out]; rfl
  have f0 := frozen_of_row w3 (w.heap.size + 1) 0 _ _ HZ3.out
  generalize hn : (usedL L).length = nu at *
  have HNu := Lib.hid hn
  clear hn
  go_wp2_with fail
  have hgr : w3.grownBy (w3.setCell ⟨w.heap.size + 1, 0, none⟩ (.slice ua nu uc)) (some (w.heap.size + 1)) := ⟨rfl, rfl, rfl, by simp [World.setCell], fun k _ hk => heap_setCell_other w3 ⟨w.heap.size + 1, 0, none⟩ k _ (fun e => hk (by rw [e]))⟩
  have HO4 := Lib.hid ((HO.out.later hgr (fun g hg => by simp at hg; have := HSZ.out; omega)).less (B' := w.heap.size) (by have := HSZ.out; omega))
  have HB4 := Lib.hid ((HB0.out.trans (HB3.out.mono HB0.out.size)).setCell (p := ⟨w.heap.size + 1, 0, none⟩) (Nat.le_succ _) (.slice ua nu uc))
  exact bodyPost_ret (v := .agg #[.slice ua nu uc]) (by simp [results, Tryd.results14, go_sem, z0]) rfl ⟨_, rfl, by rw [HN.out]; exact HO4.out, HB4.out⟩
theorem vsorted_any {w : World} {v : Value} {L : List (List Int)} (h : IsLL w v L) (hlen : L.length ≤ 40) (hr : ∀ l ∈ L, l.length ≤ 1000000) :
    Calls Tryd.prog 14 #[planV v] w fun e w' => ∃ u, e = .returned (planV u) ∧ OwnLL w' w.heap.size u (ordL L) ∧ Below w.heap.size w w' := vsorted_all h (by omega) hr
/-- At most forty routes, of at most a hundred stops each. -/
def FewP (L : List (List Int)) : Prop := L.length ≤ 40 ∧ ∀ l ∈ L, l.length ≤ 100
instance (L : List (List Int)) : Decidable (FewP L) := by unfold FewP; infer_instance
theorem FewP.rows {L : List (List Int)} (h : FewP L) : ∀ l ∈ L, l.length ≤ 1000000 := fun l hl => by have := h.2 l hl; omega
theorem cnt_few : ∀ (L : List (List Int)), (∀ l ∈ L, l.length ≤ 100) → cnt L ≤ 100 * L.length
  | [], _ => by simp [cnt]
  | l :: L, h => by
    have := cnt_few L (fun x hx => h x (by simp [hx]))
    have := h l (by simp)
    simp [cnt]; omega
theorem fits_ord {L : List (List Int)} (hf : Fits L) : Fits (ordL L) := fun l hl => hf l ((ordL_mem L l).1 hl).1
theorem few_ord {L : List (List Int)} (h : FewP L) : FewP (ordL L) := ⟨Nat.le_trans (ordL_len L) h.1, fun l hl => h.2 l ((ordL_mem L l).1 hl).1⟩
theorem few_text {L : List (List Int)} (h : FewP L) (hf : Fits L) : (textOf L).length ≤ 5000000 := by
  have h1 := textOf_len L (fun l hl n hn => by have := hf l hl n hn; omega)
  have h2 := cnt_few L h.2
  have := h.1
  omega
set_option maxRecDepth 1000000 in
set_option maxHeartbeats 1000000 in
theorem vprint_any {w : World} {v : Value} {L : List (List Int)} (h : IsLL w v L) (hw : FewP L) (hf : Fits L) (ht : Tab w.heap.size w) :
    Calls Tryd.prog 19 #[planV v] w fun e w' => ∃ u, e = .returned u ∧ OwnB w' w.heap.size u (textOf (ordL L)) ∧ Below w.heap.size w w' := by
  have HB0 := Lib.hid ((Below.refl _ w).alloc (Nat.le_refl _) (.cells #[v] 27))
  have H := Lib.hid (h.below ((Below.refl _ w).alloc (Nat.le_refl _) (.cells #[v] 27)))
  have HW := Lib.hid hw
  have HF := Lib.hid hf
  have HT := Lib.hid ht
  obtain ⟨ad, cap, rfl, _⟩ := h.form
  clear h hf ht hw
  unfold planV
  go_enter Tryd.func19, Tryd.ntmps19
  go_wp2_with fail
  change Calls _ _ #[planV (.slice ad L.length cap)] _ _
  generalize w.alloc (.cells #[.slice ad L.length cap] 27) = W at *
  refine (vsorted_any H.out HW.out.1 HW.out.rows).mono ?_
  rintro e w2 ⟨u, rfl, hu, hb⟩
  have HU := Lib.hid (hu.less (B' := w.heap.size) HB0.out.size)
  have HB2 := Lib.hid (HB0.out.trans (hb.mono HB0.out.size))
  clear hu hb
  have hfld : ∀ W, (Instr.field 27 (.agg #[u]) 0).run Tryd.prog W = .ok u W := fun W => by kernel_rfl
  unfold planV
  go_wp2_with fail
  refine (print_any HU.out.is (fits_ord HF.out) (few_text (few_ord HW.out) (fits_ord HF.out)) ((HT.out.on HB2.out).up HB2.out.size)).mono ?_
  rintro e w3 ⟨x, rfl, hx, hb⟩
  have HX := Lib.hid (show OwnB w3 w.heap.size x (textOf (ordL L)) from own_less hx HB2.out.size)
  have HB3 := Lib.hid (HB2.out.trans (hb.mono HB2.out.size))
  clear hx hb
  go_wp2
  go_ret
  exact ⟨_, rfl, HX.out, HB3.out⟩
theorem planV_fits {w : World} {v : Value} {L : List (List Int)} (h : IsLL w v L) (i : Nat) (hi : i < L.length) : (L.getD i []).length ≤ maxLen := by
  obtain ⟨a, cap, rfl, _⟩ := h.form
  obtain ⟨_, _, _, _, _, _, _, _, rfl, hm, _⟩ := ll_at h i hi
  exact hm
theorem fewp_step {L : List (List Int)} {k : Nat} (hk : k < L.length) (h : ∀ l ∈ L.take k, l.length ≤ 100) (hc : (L.getD k []).length ≤ 100) : ∀ l ∈ L.take (k + 1), l.length ≤ 100 := by
  intro l hl
  rw [take_getD hk] at hl
  simp only [List.mem_append, List.mem_singleton] at hl
  rcases hl with hl | rfl
  · exact h l hl
  · exact hc
set_option maxRecDepth 1000000 in
set_option maxHeartbeats 1000000 in
theorem vfew_any {w : World} {v : Value} {L : List (List Int)} (h : IsLL w v L) : Calls Tryd.prog 11 #[planV v] w fun e w' => e = .returned (.bool (decide (FewP L))) ∧ Below w.heap.size w w' := by
  have HB0 := Lib.hid ((Below.refl _ w).alloc (Nat.le_refl _) (.cells #[v] 27))
  have H := Lib.hid h
  obtain ⟨ad, cap, rfl, hm⟩ := h.form
  have hm1 : L.length ≤ 9223372036854775807 := by unfold maxLen at hm; omega
  clear h hm
  unfold planV
  by_cases hl : 40 < L.length
  · have hl2 : (40 : Int) < (L.length : Int) := by omega
    have HD := Lib.hid (show decide (FewP L) = false from decide_eq_false (fun h => by have := h.1; omega))
    go_enter Tryd.func11, Tryd.ntmps11
    go_wp2
    go_ret
    exact ⟨by rw [HD.out]; rfl, HB0.out⟩
  · have hl2 : ¬ (40 : Int) < (L.length : Int) := by omega
    go_enter Tryd.func11, Tryd.ntmps11
    go_upto_region 1 with fail
    have hx : (w.alloc (.cells #[.slice ad L.length cap] 27)).cell? ⟨w.heap.size, 0, none⟩ = some (.slice ad L.length cap) := by rw [cell_of_row _ _ _ _ _ _ (heap_alloc_new w _)]; rfl
    have HH := Lib.hid (H.out.below ((Below.refl _ w).alloc (Nat.le_refl _) (.cells #[.slice ad L.length cap] 27)))
    generalize w.alloc (.cells #[.slice ad L.length cap] 27) = W at *
    go_wp2_with fail
    go_loop [3] (fun i => ∃ k : Nat, k ≤ L.length ∧ i = .int .i64 k ∧ ∀ l ∈ L.take k, l.length ≤ 100) (fun i => L.length - (intOf i).toNat)
    case atStart => exact ⟨0, Nat.zero_le _, rfl, by simp⟩
    case round =>
      obtain ⟨k, hk, rfl, hall⟩ := hrel
      have HA := Lib.hid hall
      clear hall
      by_cases hlt : k < L.length
      · obtain ⟨tb, off, a1, n1, c1, rfl, _, hc, hn1, _, r1⟩ := ll_at HH.out k hlt
        have HN := Lib.hid hn1
        clear hn1 r1
        by_cases h1 : 100 < n1
        · have hd1 : (100 : Int) < (n1 : Int) := by omega
          have HD := Lib.hid (show decide (FewP L) = false from decide_eq_false (fun h => by
            have := h.2 (L.getD k []) (by rw [List.getD_eq_getElem?_getD, List.getElem?_eq_getElem hlt]; exact List.getElem_mem hlt)
            rw [← HN.out] at this; omega))
          go_wp2
          go_ret
          exact ⟨ret_bool HD.out.symm, HB0.out⟩
        · have hd1 : ¬ (100 : Int) < (n1 : Int) := by omega
          have HS := Lib.hid (fewp_step hlt HA.out (by rw [← HN.out]; omega))
          go_wp2
          go_round
          case rel => exact ⟨k + 1, by omega, by go_num, HS.out⟩
          case measure => simp [intOf]; omega
      · obtain rfl : k = L.length := by omega
        rw [List.take_length] at HA
        have HD := Lib.hid (show decide (FewP L) = true from decide_eq_true ⟨by omega, HA.out⟩)
        clear hlt hk
        go_wp2
        go_ret
        exact ⟨ret_bool HD.out.symm, HB0.out⟩
end Go.Proofs.YtpdeffpmfbplnaaDoor
/- How plans come in. -/
namespace Go.Proofs.YtpdeffpmfbplnaaDoor
open Go.ChangeShapes Go.WideShapes Go.ChangeAt Go.RowKit

theorem cells_plan : Tryd.prog.cellsOf 27 = 1 := by kernel_rfl
theorem cells_lines : Tryd.prog.cellsOf 25 = 1 := by kernel_rfl
section
variable {H : Type} {enc : TypeId × Value → H} {w : World} {base : Nat} {spare : Nat → Bool} {held : Bool}
set_option maxRecDepth 100000 in
/-- A plan by value. -/
theorem open_plan {r : Reach} {b0 : Nat} {v : Value} {d : DataW H} {p : List MemPlace} (hv : Value.okWide Tryd.prog w r b0 27 v) (h : DataW.Trod enc Tryd.prog w base spare held 27 v d p) : ∃ (u : Value) (L : List (List Int)), v = planV u ∧ IsLL w u L ∧ Fits L := by
  obtain ⟨cs, rfl, _⟩ := okWide_struct Tryd.underlying27 hv
  obtain ⟨fuel, hf⟩ := h
  obtain ⟨l⟩ := cs
  obtain ⟨xs, n, _, _, hlen, hxl, hf⟩ := DataW.trod_struct Tryd.underlying27 hf
  rw [cells_plan] at hlen
  have hxl' : xs.length = 1 := hxl
  have hl : l.length = 1 := by simpa [Value.cells] using hlen
  have f0 : DataW.trod enc Tryd.prog w base spare held n 25 ((l.drop 0).take (Tryd.prog.cellsOf 25)) = xs[0]? := by simpa [Value.cells] using hf 0 _ rfl
  rw [cells_lines, List.getElem?_eq_getElem (by omega)] at f0
  match l, hl with
  | [c0], _ =>
    simp only [List.drop_zero, List.take_succ_cons, List.take_zero] at f0
    rcases Go.Deep.open_slice Tryd.underlying25 f0 with ⟨h0, _⟩ | ⟨ad, ln, cp, m, n', D, Pl, hcs, hb, hl, hm, hmm, hx, hi⟩
    · simp at h0
      subst h0
      obtain ⟨L, h1, h2⟩ := open_lines (w := w) (⟨n, f0⟩ : DataW.Trod enc Tryd.prog w base spare held 25 (.slice none 0 0) _ _)
      exact ⟨_, L, rfl, h1, h2⟩
    · simp at hcs
      subst hcs
      obtain ⟨L, h1, h2⟩ := open_lines (w := w) (⟨n, f0⟩ : DataW.Trod enc Tryd.prog w base spare held 25 (.slice (some ad) ln cp) _ _)
      exact ⟨_, L, rfl, h1, h2⟩
end
end Go.Proofs.YtpdeffpmfbplnaaDoor
/- A plan in its own block; orders of plans. -/
namespace Go.Proofs.YtpdeffpmfbplnaaDoor
open Go.ChangeShapes Go.WideShapes Go.ChangeAt Go.RowKit

def PBox (w : World) (N : Nat) (v : Value) : Prop := w.heap[N]? = some (.cells #[v] 27 (0, 0))
section
variable {w w' : World} {N : Nat} {v : Value}
theorem pbox_new (w : World) (v : Value) : PBox (w.alloc (.cells #[v] 27)) w.heap.size v := heap_alloc_new w _
theorem PBox.lt (h : PBox w N v) : N < w.heap.size := (Array.getElem?_eq_some_iff.1 h).1
theorem PBox.cell (h : PBox w N v) : w.cell? ⟨N, 0, none⟩ = some v := by rw [cell_of_row w N 0 _ _ _ h]; rfl
theorem PBox.free (h : PBox w N v) (i : Nat) : w.frozen? ⟨N, i, none⟩ = false := frozen_of_row w N i _ _ h
theorem PBox.below {M : Nat} (h : PBox w N v) (hN : N < M) (hb : Below M w w') : PBox w' N v := by unfold PBox; rw [hb.block N hN]; exact h
theorem PBox.later (h : PBox w N v) (hb : Below w.heap.size w w') : PBox w' N v := h.below h.lt hb
theorem PBox.stored (h : PBox w N v) (u : Value) : PBox (w.setCell ⟨N, 0, none⟩ u) N u := by unfold PBox; rw [heap_setCell_same w N 0 _ _ _ h]; rfl
theorem PBox.other (h : PBox w N v) (a : Addr) (x : Value) (ha : a.block ≠ N) : PBox (w.setCell a x) N v := by unfold PBox; rw [heap_setCell_other w a N x (fun e => ha e.symm)]; exact h
end
theorem ord_full (L : List (List Int)) : Full (ordL L) := fun l hl => ((ordL_mem L l).1 hl).2
theorem used_self {L : List (List Int)} (h : Full L) : usedL L = L := by
  unfold usedL
  rw [List.filter_eq_self]
  intro l hl
  have := h l hl
  cases l with
  | nil => exact absurd rfl this
  | cons x l => rfl
/-- Sorted once more it is the same. -/
theorem ord_idem (L : List (List Int)) : ordL (ordL L) = ordL L := by
  rw [show ordL (ordL L) = sortL (usedL (ordL L)) from rfl, used_self (ord_full L)]
  exact sortL_self (stab_sortL _).1
theorem ord_perm {L : List (List Int)} (h : Full L) : (ordL L).Perm L := by
  have := (stab_sortL (usedL L)).perm
  rw [used_self h] at this
  rw [show ordL L = sortL (usedL L) from rfl, used_self h]
  exact this
theorem getD_mem' {l : List Int} {i : Nat} (h : i < l.length) : l.getD i 0 ∈ l := by
  rw [List.getD_eq_getElem?_getD, List.getElem?_eq_getElem h]; exact List.getElem_mem h
theorem all_at {l : List Int} {p : Int → Prop} (h : ∀ i, i < l.length → p (l.getD i 0)) : ∀ n ∈ l, p n := by
  intro n hn
  obtain ⟨i, hi, rfl⟩ := List.getElem_of_mem hn
  have := h i hi
  rw [List.getD_eq_getElem?_getD, List.getElem?_eq_getElem hi] at this
  exact this
theorem all_atL {L : List (List Int)} {p : List Int → Prop} (h : ∀ i, i < L.length → p (L.getD i [])) : ∀ l ∈ L, p l := by
  intro n hn
  obtain ⟨i, hi, rfl⟩ := List.getElem_of_mem hn
  have := h i hi
  rw [List.getD_eq_getElem?_getD, List.getElem?_eq_getElem hi] at this
  exact this
end Go.Proofs.YtpdeffpmfbplnaaDoor
