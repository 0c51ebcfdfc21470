/- What Same and Parse answer. -/
import Derived.Test.YtpdeffpmfbplnaaDoorVSame
import Derived.Test.YtpdeffpmfbplnaaDoorXVD
namespace Go.Proofs.YtpdeffpmfbplnaaDoor
open Go.ChangeShapes Go.WideShapes Go.ChangeAt Go.RowKit

set_option maxRecDepth 1000000 in
set_option maxHeartbeats 4000000 in
theorem vsame_any {w : World} {v u : Value} {L M : List (List Int)} (hv : IsLL w v L) (hu : IsLL w u M) (hL : FewP L) (hM : FewP M) :
    Calls Tryd.prog 21 #[planV v, planV u] w fun e w' => e = .returned (.bool (decide (ordL L = ordL M))) ∧ Below w.heap.size w w' := by
  have HV := Lib.hid hv
  have HU := Lib.hid hu
  have HL := Lib.hid hL
  have HM := Lib.hid hM
  have hb1 := (Below.refl w.heap.size w).alloc (Nat.le_refl _) (boxP v)
  have HB0 := Lib.hid (hb1.alloc hb1.size (boxP u))
  have h1 := heap_alloc_new w (boxP v)
  have h2 := heap_alloc_new (w.alloc (boxP v)) (boxP u)
  rw [show (w.alloc (boxP v)).heap.size = w.heap.size + 1 by simp] at h2
  have hc2 : ((w.alloc (boxP v)).alloc (boxP u)).cell? ⟨w.heap.size + 1, 0, none⟩ = some u := by rw [cell_of_row _ _ _ _ _ _ h2]; rfl
  have hc1 : ((w.alloc (boxP v)).alloc (boxP u)).cell? ⟨w.heap.size, 0, none⟩ = some v := by
    have := ((Below.refl (w.alloc (boxP v)).heap.size (w.alloc (boxP v))).alloc (Nat.le_refl _) (boxP u)).cell (p := ⟨w.heap.size, 0, none⟩) (by show w.heap.size < _; simp)
    rw [this, cell_of_row _ _ _ _ _ _ h1]; rfl
  have hsz : ((w.alloc (boxP v)).alloc (boxP u)).heap.size = w.heap.size + 2 := by simp
  obtain ⟨va, vc, rfl, _⟩ := hv.form
  obtain ⟨ua, uc, rfl, _⟩ := hu.form
  clear hv hu hb1 h1 h2 hL hM
  have hfld : ∀ (a : Option Addr) (n c : Nat) W, (Instr.field 27 (.agg #[.slice a n c]) 0).run Tryd.prog W = .ok (.slice a n c) W := fun a n c W => by kernel_rfl
  unfold planV
  go_enter Tryd.func21, Tryd.ntmps21
  go_wp2_with fail
  change Code.wp _ _ _ _ ((w.alloc (boxP (.slice va L.length vc))).alloc (boxP (.slice ua M.length uc)))
  generalize (w.alloc (boxP (.slice va L.length vc))).alloc (boxP (.slice ua M.length uc)) = W at *
  have HS0 := Lib.hid (show Holds [((⟨w.heap.size, 0, none⟩ : Addr), Value.slice va L.length vc), (⟨w.heap.size + 1, 0, none⟩, .slice ua M.length uc)] W.drew from ⟨hc1, hc2, trivial⟩)
  have hlt := Lib.hid (show Lows W.drew.heap.size [((⟨w.heap.size, 0, none⟩ : Addr), Value.slice va L.length vc), (⟨w.heap.size + 1, 0, none⟩, .slice ua M.length uc)] from ⟨by show w.heap.size < W.heap.size; omega, by show w.heap.size + 1 < W.heap.size; omega, trivial⟩)
  clear hc1 hc2
  refine wp_region_held_drew (S := Holds [((⟨w.heap.size, 0, none⟩ : Addr), Value.slice va L.length vc), (⟨w.heap.size + 1, 0, none⟩, .slice ua M.length uc)]) (by kernel_rfl) HS0.out (fun hSn => ?_)
  have Bc := Lib.hid (Below.refl W.drew.heap.size W.drew)
  have HBd := Lib.hid (HB0.out.trans ((Below.refl w.heap.size W).drew))
  refine tks [0, 3] 2 rfl (by kernel_rfl) (fun _ _ _ _ h => h) (by assumption) (fun KT hKT => ?_)
  iterate 2 (refine tkT (by (simp only [gA, gB, gC]; rfl)) (by rfl) (by (intro w hSw; (simp only [Holds] at hSw); go_simp <;> with_reducible rfl)) ?_; simp only [Act.put, pA, pB, pC])
  refine hKT _ ?_
  clear KT hKT
  refine wpAnyH_ready (rs := [1]) (by kernel_rfl) (by simp) ?_
  refine AllReadyH.cons (o := ?oz160) ?iz160 (fun K hK => ?kz160) AllReadyH.nil
  case iz160 => (simp only [List.getElem?_toArray, List.getElem?_cons_zero, List.getElem?_cons_succ]; rfl)
  go_simp
  change Calls _ _ #[planV (.slice va L.length vc)] _ _
  refine (vsorted_any (HV.out.below (HBd.out.trans (Bc.out.mono HB0.out.size))) HL.out.1 HL.out.rows).mono ?_
  rintro e w2 ⟨x, rfl, hx, hb⟩
  have HX := Lib.hid hx
  obtain ⟨xa, xc, rfl, _⟩ := hx.is.form
  refine held_more hK HS0.out hlt (Bc.out.trans (hb.mono Bc.out.size)) (fun Bc hSn => ?_)
  clear hb hK hx
  unfold planV
  refine tks [2] 1 rfl (by kernel_rfl) (fun _ _ _ _ h => h) (by assumption) (fun KT hKT => ?_)
  refine tkT (by (simp only [gA, gB, gC]; rfl)) (by rfl) (by (intro w hSw; (simp only [Holds] at hSw); go_simp <;> with_reducible rfl)) ?_
  simp only [Act.put, pA, pB, pC]
  refine hKT _ ?_
  clear KT hKT
  refine wpAnyH_ready (rs := [4]) (by kernel_rfl) (by simp) ?_
  refine AllReadyH.cons (o := ?oz161) ?iz161 (fun K hK => ?kz161) AllReadyH.nil
  case iz161 => (simp only [List.getElem?_toArray, List.getElem?_cons_zero, List.getElem?_cons_succ]; rfl)
  go_simp
  change Calls _ _ #[planV (.slice ua M.length uc)] _ _
  refine (vsorted_any (HU.out.below (HBd.out.trans (Bc.out.mono HB0.out.size))) HM.out.1 HM.out.rows).mono ?_
  rintro e w3 ⟨y, rfl, hy, hb⟩
  have HX2 := Lib.hid (HX.out.below hb)
  have HY := Lib.hid hy
  obtain ⟨ya, yc, rfl, _⟩ := hy.is.form
  refine held_more hK HS0.out hlt (Bc.out.trans (hb.mono Bc.out.size)) (fun Bc hSn => ?_)
  clear hb hK hy
  unfold planV
  refine tks [5] 1 rfl (by kernel_rfl) (fun _ _ _ _ h => h) (by assumption) (fun KT hKT => ?_)
  refine tkT (by (simp only [gA, gB, gC]; rfl)) (by rfl) (by (intro w hSw; (simp only [Holds] at hSw); go_simp <;> with_reducible rfl)) ?_
  simp only [Act.put, pA, pB, pC]
  refine hKT _ ?_
  clear KT hKT
  refine wpAnyH_ready (rs := [6]) (by kernel_rfl) (by simp) ?_
  refine AllReadyH.cons (o := ?oz162) ?iz162 (fun K hK => ?kz162) AllReadyH.nil
  case iz162 => (simp only [List.getElem?_toArray, List.getElem?_cons_zero, List.getElem?_cons_succ]; rfl)
  go_simp
  refine (equalLL_any HX2.out.is HY.out.is).mono ?_
  rintro e w4 ⟨rfl, hb⟩
  refine held_more hK HS0.out hlt (Bc.out.trans (hb.mono Bc.out.size)) (fun Bc hSn => ?_)
  clear hb hK
  refine tks [7] 1 rfl (by kernel_rfl) (fun _ _ _ _ h => h) (by assumption) (fun KT hKT => ?_)
  refine tkT (by (simp only [gA, gB, gC]; rfl)) (by rfl) (by (intro w hSw; (simp only [Holds] at hSw); go_simp <;> with_reducible rfl)) ?_
  simp only [Act.put, pA, pB, pC]
  refine hKT _ ?_
  clear KT hKT
  refine wpAnyH_done (by kernel_rfl) ?_ _
  have HB4 := Lib.hid (HBd.out.trans (Bc.out.mono HB0.out.size))
  clear HS0 hlt hSn Bc
  go_wp2
  go_ret
  exact ⟨rfl, HB4.out⟩
/-- Is a number below 1 among them? -/
def lowR (l : List Int) : Bool := l.any (fun n => decide (n < 1))
theorem lowR_take {l : List Int} {k : Nat} (hk : k < l.length) : lowR (l.take (k + 1)) = (lowR (l.take k) || decide (l.getD k 0 < 1)) := by
  rw [take_snoc hk]; simp [lowR]
theorem lowR_at {l : List Int} {k : Nat} (hk : k < l.length) (h : l.getD k 0 < 1) : lowR l = true := by
  unfold lowR
  rw [List.any_eq_true]
  refine ⟨l.getD k 0, ?_, by simpa using h⟩
  rw [List.getD_eq_getElem?_getD, List.getElem?_eq_getElem hk]; exact List.getElem_mem hk
set_option maxRecDepth 1000000 in
theorem low_any (n : Int) (w : World) : Calls Tryd.prog 38 #[.int .i64 n] w fun e w' => e = .returned (.bool (decide (n < 1))) ∧ w' = w := by
  go_enter Tryd.func38, Tryd.ntmps38
  go_wp2
  go_ret
  exact ⟨rfl, rfl⟩
set_option maxRecDepth 1000000 in
set_option maxHeartbeats 4000000 in
theorem indexLow_any {w : World} {u : Value} {l : List Int} (hu : Row w u (ints l)) :
    Calls Tryd.prog 63 #[u, .func (.func 38) #[] #[]] w fun e w' => (∃ k : Int, e = .returned (.int .i64 k) ∧ (decide (0 ≤ k)) = lowR l) ∧ w' = w := by
  have HU := Lib.hid hu
  obtain ⟨ua, uc, rfl, hm1⟩ := hu.form
  simp only [ints_len] at *
  have hl1 : l.length ≤ 9223372036854775807 := by unfold maxLen at hm1; omega
  clear hu hm1
  go_enter Tryd.func63, Tryd.ntmps63
  go_wp2_with fail
  go_loop [8] (fun i => ∃ (k : Nat), k ≤ l.length ∧ i = .int .i64 k ∧ lowR (l.take k) = false) (fun i => l.length - (intOf i).toNat)
  case atStart => exact ⟨0, Nat.zero_le _, rfl, rfl⟩
  case round =>
    obtain ⟨k, hk, rfl, htk⟩ := hrel
    have HTK := Lib.hid htk
    clear htk
    by_cases hlt : k < l.length
    · have hlt2 : (k : Int) < (l.length : Int) := by omega
      obtain ⟨b1, o1, c1, he1, hc1, _, _⟩ := row_at (p := k) HU.out (by rw [ints_len]; exact hlt)
      rw [ints_at l k hlt] at hc1
      simp only [ints_len, Value.slice.injEq, true_and] at he1
      obtain ⟨rfl, rfl⟩ := he1
      have HNX := Lib.hid (lowR_take hlt)
      have HAT := Lib.hid (fun h => lowR_at hlt h)
      generalize l.getD k 0 = x at *
      go_wp2_with fail
      refine (low_any x _).mono ?_
      rintro e w2 ⟨rfl, rfl⟩
      by_cases hx : x < 1
      · have hxd := decide_eq_true hx
        have HD := Lib.hid (HAT.out hx)
        go_wp2
        go_ret
        exact ⟨⟨_, rfl, by rw [HD.out]; exact decide_eq_true (by omega)⟩, rfl⟩
      · have hxd := decide_eq_false hx
        have HD := Lib.hid (show lowR (l.take (k + 1)) = false by rw [HNX.out, HTK.out, hxd]; rfl)
        go_wp2_with fail
        go_round
        case rel => exact ⟨k + 1, by omega, by go_num, HD.out⟩
        case measure => simp [intOf]; omega
    · obtain rfl : k = l.length := by omega
      have hlt2 : ¬ (l.length : Int) < (l.length : Int) := by omega
      go_wp2
      go_ret
      exact ⟨⟨_, rfl, by have := HTK.out; rw [List.take_length] at this; rw [this]; rfl⟩, rfl⟩
set_option maxRecDepth 1000000 in
theorem containsLow_any {w : World} {u : Value} {l : List Int} (hu : Row w u (ints l)) :
    Calls Tryd.prog 37 #[u, .func (.func 38) #[] #[]] w fun e w' => e = .returned (.bool (lowR l)) ∧ w' = w := by
  have HC := Lib.hid (indexLow_any hu)
  obtain ⟨ua, uc, rfl, hm1⟩ := hu.form
  clear hu hm1
  go_enter Tryd.func37, Tryd.ntmps37
  go_wp2_with fail
  refine HC.out.mono ?_
  rintro e w2 ⟨⟨k, rfl, hk⟩, rfl⟩
  have HK := Lib.hid hk
  clear HC hk
  go_wp2
  go_ret
  exact ⟨by rw [← HK.out]; rfl, rfl⟩
end Go.Proofs.YtpdeffpmfbplnaaDoor
