/- The plain mathematics of what a plan costs. -/
import Derived.Test.YtgplajofemencaaGreatXTSched
import Derived.Test.YtgplajofemencaaGreatYD
import Derived.Deep.CutRange
namespace Go.Proofs.YtgplajofemencaaGreat

theorem sub_len : ∀ {R D : List Int}, R.Nodup → (∀ x ∈ R, x ∈ D) → R.length ≤ D.length
  | [], _, _, _ => by simp
  | x :: R, D, hn, h => by
    have hx := h x (by simp)
    have hn' := List.nodup_cons.1 hn
    have := sub_len (R := R) (D := D.erase x) hn'.2 (fun y hy => by
      have hne : y ≠ x := fun e => hn'.1 (by rw [← e]; exact hy)
      exact (List.mem_erase_of_ne hne).2 (h y (by simp [hy])))
    rw [List.length_erase_of_mem hx] at this
    have h0 : 0 < D.length := List.length_pos_of_mem hx
    simp; omega
def upTo (n : Nat) : List Int := (List.range n).map (fun (i : Nat) => (i : Int) + 1)
theorem upTo_mem (n : Nat) (i : Int) : i ∈ upTo n ↔ 1 ≤ i ∧ i ≤ n := by
  unfold upTo
  simp only [List.mem_map, List.mem_range]
  constructor
  · rintro ⟨k, hk, rfl⟩; omega
  · rintro ⟨h1, h2⟩; exact ⟨(i - 1).toNat, by omega, by omega⟩
theorem upTo_nodup (n : Nat) : (upTo n).Nodup := by
  unfold upTo
  refine List.Pairwise.map _ (fun a b h => ?_) List.nodup_range
  intro e; exact h (by omega)
theorem upTo_len (n : Nat) : (upTo n).length = n := by simp [upTo]
/-- Stops that are told once each are no more than there are; if one is missing they are less. -/
theorem rng_len {D : List Int} {n : Nat} (h : D.Nodup) (hr : ∀ i ∈ D, 1 ≤ i ∧ i ≤ (n : Int)) : D.length ≤ n := by
  have := sub_len (R := D) (D := upTo n) h (fun x hx => (upTo_mem n x).2 (hr x hx))
  rwa [upTo_len] at this
theorem rng_full {D : List Int} {n : Nat} (h : ∀ i : Int, 1 ≤ i → i ≤ n → i ∈ D) : n ≤ D.length := by
  have := sub_len (R := upTo n) (D := D) (upTo_nodup n) (fun x hx => by have := (upTo_mem n x).1 hx; exact h x this.1 this.2)
  rwa [upTo_len] at this

/-- What is wrong with a route by itself. -/
def errR (I : Ins) (l : List Int) : Int := if l = [] then 1 else errT I l
def firstE (I : Ins) : List (List Int) → Int
  | [] => 0
  | l :: L => if errR I l = 0 then firstE I L else errR I l
theorem firstE_snoc (I : Ins) (l : List Int) : ∀ L, firstE I (L ++ [l]) = if firstE I L = 0 then errR I l else firstE I L
  | [] => by
    by_cases h : errR I l = 0 <;> simp [firstE, h]
  | m :: L => by
    rw [List.cons_append, firstE, firstE, firstE_snoc I l L]
    by_cases h : errR I m = 0
    · rw [if_pos h, if_pos h]
    · rw [if_neg h, if_neg h, if_neg h]
theorem firstE_stays (I : Ins) (M : List (List Int)) : ∀ L, firstE I L ≠ 0 → firstE I (L ++ M) = firstE I L
  | [], h => absurd rfl h
  | m :: L, h => by
    rw [firstE] at h
    rw [List.cons_append, firstE, firstE]
    by_cases h1 : errR I m = 0
    · rw [if_pos h1] at h; rw [if_pos h1, if_pos h1]; exact firstE_stays I M L h
    · rw [if_neg h1, if_neg h1]
theorem firstE_zero (I : Ins) : ∀ L, firstE I L = 0 ↔ ∀ l ∈ L, errR I l = 0
  | [] => by simp [firstE]
  | m :: L => by
    rw [firstE]
    by_cases h : errR I m = 0
    · rw [if_pos h, firstE_zero I L]; simp [h]
    · rw [if_neg h]; simp [h]
theorem errR_zero {I : Ins} {l : List Int} (h : errR I l = 0) : l ≠ [] ∧ errT I l = 0 := by
  unfold errR at h
  by_cases hl : l = []
  · rw [if_pos hl] at h; simp at h
  · rw [if_neg hl] at h; exact ⟨hl, h⟩
theorem errT_good {I : Ins} {l : List Int} (h : errT I l = 0) : mayB I = true ∧ GoodR I l := by
  obtain ⟨s, hs⟩ := errT_zero h
  obtain ⟨h1, h2, _, _⟩ := timesE_ok hs
  exact ⟨h1, goE_good _ _ h2⟩
theorem far_bds {I : Ins} {l : List Int} (h : errT I l = 0) : 0 ≤ farT I l ∧ farT I l ≤ 2000000 := by
  obtain ⟨s, hs⟩ := errT_zero h
  obtain ⟨h1, h2, _, _⟩ := timesE_ok hs
  have hb := goE_bds (fine_of h1) _ _ h2
  have hf := farF_bd s.last (nth I.l 0)
  unfold farT
  rw [hs]
  show 0 ≤ s.far + farF s.last (nth I.l 0) ∧ s.far + farF s.last (nth I.l 0) ≤ 2000000
  have := hb.2.1
  have hg := goE_good _ _ h2
  have hp := (fine_of h1).p1
  have hl : l.length ≤ 32 := rng_len hg.nodup (fun i hi => by have := hg.rng i hi; omega)
  omega
/-- How far all go. -/
def farS (I : Ins) : List (List Int) → Int
  | [] => 0
  | l :: L => farT I l + farS I L
theorem farS_snoc (I : Ins) (l : List Int) : ∀ L, farS I (L ++ [l]) = farS I L + farT I l
  | [] => by simp [farS]
  | m :: L => by rw [List.cons_append, farS, farS, farS_snoc I l L]; omega
theorem farS_bds {I : Ins} : ∀ L, firstE I L = 0 → 0 ≤ farS I L ∧ farS I L ≤ 2000000 * L.length
  | [], _ => by simp [farS]
  | l :: L, h => by
    have hz := (firstE_zero I _).1 h
    have h1 := far_bds (errR_zero (hz l (by simp))).2
    have h2 := farS_bds L ((firstE_zero I _).2 (fun m hm => hz m (by simp [hm])))
    simp only [farS, List.length_cons]
    omega
/-- What is wrong with all routes together. -/
def togE (p : Int) (D : List Int) : Int := if ¬ D.Nodup then 5 else if (D.length : Int) < 2 * p then 4 else 0
def costE (I : Ins) (L : List (List Int)) : Int := if mayB I = false then 1 else if I.c < L.length then 6 else if firstE I L ≠ 0 then firstE I L else togE I.p L.flatten
def costN (I : Ins) (L : List (List Int)) : Int := if costE I L = 0 then farS I L else 0
theorem flat_rng {I : Ins} {L : List (List Int)} (h : firstE I L = 0) : ∀ i ∈ L.flatten, 1 ≤ i ∧ i ≤ 2 * I.p := by
  intro i hi
  obtain ⟨l, hl, hil⟩ := List.mem_flatten.1 hi
  exact (errT_good (errR_zero ((firstE_zero I L).1 h l hl)).2).2.rng i hil
theorem flat_snoc (L : List (List Int)) (l : List Int) : (L ++ [l]).flatten = L.flatten ++ l := by simp
theorem costN_ok {I : Ins} {L : List (List Int)} (h : costE I L = 0) : costN I L = farS I L := by unfold costN; rw [if_pos h]
theorem costE_of {I : Ins} {L : List (List Int)} (h1 : mayB I = true) (h2 : (L.length : Int) ≤ I.c) (h3 : firstE I L = 0) : costE I L = togE I.p L.flatten := by
  unfold costE
  rw [if_neg (by simp [h1]), if_neg (by omega), if_neg (by simpa using h3)]
theorem togE_none {p : Int} {D : List Int} (h1 : D.Nodup) (h2 : (D.length : Int) < 2 * p) : togE p D = 4 := by unfold togE; rw [if_neg (by simpa using h1), if_pos h2]
theorem togE_ok {p : Int} {D : List Int} (h1 : D.Nodup) (h2 : ¬ (D.length : Int) < 2 * p) : togE p D = 0 := by unfold togE; rw [if_neg (by simpa using h1), if_neg h2]
theorem togE_twice {p : Int} {D : List Int} (h1 : ¬ D.Nodup) : togE p D = 5 := by unfold togE; rw [if_pos h1]
end Go.Proofs.YtgplajofemencaaGreat
/- Plans in another order. -/
namespace Go.Proofs.YtgplajofemencaaGreat
open Go.ChangeShapes Go.WideShapes Go.ChangeAt Go.RowKit

end Go.Proofs.YtgplajofemencaaGreat
/- What a plan costs, and what is wrong with it. -/
namespace Go.Proofs.YtgplajofemencaaGreat
open Go.ChangeShapes Go.WideShapes Go.ChangeAt Go.RowKit

set_option maxRecDepth 1000000 in
set_option maxHeartbeats 1000000 in
theorem farOf_any {w : World} {v rv : Value} {I : Ins} {l : List Int} (hr : SRow w v I.l) (hl : Row w rv (ints l)) :
    Calls Tryz.prog 33 #[insV I v, rv] w fun e w' => (∃ n, e = .returned (.tuple #[.int .i64 n, .int .i64 (errR I l)]) ∧ (errR I l = 0 → n = farT I l)) ∧ Below w.heap.size w w' := by
  have HR := Lib.hid (hr.below ((Below.refl _ w).alloc (Nat.le_refl _) (boxI I v)))
  have HL := Lib.hid (hl.below ((Below.refl _ w).alloc (Nat.le_refl _) (boxI I v)))
  have HB0 := Lib.hid ((Below.refl _ w).alloc (Nat.le_refl _) (boxI I v))
  obtain ⟨ad, cap, rfl, _⟩ := hr.form
  obtain ⟨ra, rc, rfl, hm⟩ := hl.form
  simp only [ints_len] at *
  have hm1 : l.length ≤ 9223372036854775807 := by unfold maxLen at hm; omega
  clear hr hl hm
  unfold insV
  by_cases he : l = []
  · have h0 : (l.length : Int) = 0 := by rw [he]; rfl
    have HE := Lib.hid (show errR I l = 1 by unfold errR; rw [if_pos he])
    go_enter Tryz.func33, Tryz.ntmps33
    go_wp2
    refine bodyPost_ret (v := .tuple #[.int .i64 0, .int .i64 1]) (by simp [results, Tryz.results33, go_sem]) rfl ?_
    exact ⟨⟨0, by rw [HE.out], fun h => by rw [HE.out] at h; simp at h⟩, HB0.out⟩
  · have h0 : ¬ (l.length : Int) = 0 := by have := List.length_pos_iff.2 he; omega
    have HE := Lib.hid (show errR I l = errT I l by unfold errR; rw [if_neg he])
    go_enter Tryz.func33, Tryz.ntmps33
    go_wp2_with fail
    change Calls _ _ #[insV I (.slice ad I.l.length cap), _] (w.alloc (boxI I (.slice ad I.l.length cap))) _
    generalize w.alloc (boxI I (.slice ad I.l.length cap)) = W at *
    refine (times_any HR.out HL.out).mono ?_
    rintro e w2 ⟨u, rfl, hu, hb⟩
    have HB2 := Lib.hid (HB0.out.trans (hb.mono HB0.out.size))
    clear hu hb
    go_wp2
    refine bodyPost_ret (v := .tuple #[.int .i64 (farT I l), .int .i64 (errT I l)]) (by simp [results, Tryz.results33, go_sem]) rfl ?_
    exact ⟨⟨_, by rw [HE.out], fun _ => rfl⟩, HB2.out⟩
def noneSeen : Array Value := #[.bool false, .bool false, .bool false, .bool false, .bool false, .bool false, .bool false, .bool false, .bool false, .bool false, .bool false, .bool false, .bool false, .bool false, .bool false, .bool false, .bool false, .bool false, .bool false, .bool false, .bool false, .bool false, .bool false, .bool false, .bool false, .bool false, .bool false, .bool false, .bool false, .bool false, .bool false, .bool false, .bool false]
theorem noneSeen_eq : noneSeen = ((seenB []).map Value.bool).toArray := by rw [seenB_nil]; rfl
def worldT (w : World) (I : Ins) (v u : Value) : World := ((w.alloc (boxI I v)).alloc (boxP u)).alloc (.cells noneSeen 96)
theorem worldT_facts (w : World) (I : Ins) (v u : Value) : (worldT w I v u).cell? ⟨w.heap.size + 1, 0, none⟩ = some u ∧ (worldT w I v u).heap[w.heap.size + 2]? = some (.cells ((seenB []).map Value.bool).toArray 96 (0, 0)) ∧ Below w.heap.size w (worldT w I v u) := by
  have b1 := (Below.refl w.heap.size w).alloc (Nat.le_refl _) (boxI I v)
  have b2 := b1.alloc b1.size (boxP u)
  refine ⟨?_, ?_, b2.alloc b2.size _⟩
  · have h1 := heap_alloc_new (w.alloc (boxI I v)) (boxP u)
    rw [show (w.alloc (boxI I v)).heap.size = w.heap.size + 1 by simp] at h1
    have b3 := (Below.refl ((w.alloc (boxI I v)).alloc (boxP u)).heap.size ((w.alloc (boxI I v)).alloc (boxP u))).alloc (Nat.le_refl _) (.cells noneSeen 96)
    rw [show (worldT w I v u).cell? ⟨w.heap.size + 1, 0, none⟩ = ((w.alloc (boxI I v)).alloc (boxP u)).cell? ⟨w.heap.size + 1, 0, none⟩ from b3.cell (p := ⟨w.heap.size + 1, 0, none⟩) (by show w.heap.size + 1 < _; simp)]
    rw [cell_of_row _ _ _ _ _ _ h1]; rfl
  · rw [← noneSeen_eq]
    have h1 := heap_alloc_new ((w.alloc (boxI I v)).alloc (boxP u)) (.cells noneSeen 96)
    rw [show ((w.alloc (boxI I v)).alloc (boxP u)).heap.size = w.heap.size + 2 by simp] at h1
    exact h1
theorem pre_flat (L : List (List Int)) (k j : Nat) (hk : k < L.length) : ∃ Z, L.flatten = ((L.take k).flatten ++ (L.getD k []).take j) ++ Z := by
  refine ⟨(L.getD k []).drop j ++ (L.drop (k + 1)).flatten, ?_⟩
  have h := split_at L k hk
  have h2 := congrArg List.flatten h
  rw [List.flatten_append, List.flatten_cons] at h2
  rw [h2, List.append_assoc, ← List.append_assoc (List.take j _), List.take_append_drop]
theorem nodup_pre {A Z L : List Int} (h : L = A ++ Z) (hn : L.Nodup) : A.Nodup := by
  rw [h] at hn; exact (List.nodup_append.1 hn).1
theorem nodup_snoc {A : List Int} {x : Int} (h : A.Nodup) (hx : x ∉ A) : (A ++ [x]).Nodup := by
  rw [List.nodup_append]
  exact ⟨h, by simp, fun a ha b hb => by simp at hb; subst hb; exact fun e => hx (by rw [← e]; exact ha)⟩
theorem bools_cell {w : World} {N : Nat} {D : List Int} (h : w.heap[N]? = some (.cells ((seenB D).map Value.bool).toArray 96 (0, 0))) (m : Nat) (hm : m < 33) : w.cell? ⟨N, m, none⟩ = some (.bool (decide ((m : Int) ∈ D))) := by
  rw [cell_of_row w N m _ _ _ h, List.getElem?_toArray, List.getElem?_map]
  have := seenB_at D m hm
  rw [List.getD_eq_getElem?_getD] at this
  rw [List.getElem?_eq_getElem (by rw [seenB_len]; exact hm)] at this ⊢
  simp only [Option.getD_some] at this
  simp [this]
theorem bools_set {w : World} {N : Nat} {D : List Int} (h : w.heap[N]? = some (.cells ((seenB D).map Value.bool).toArray 96 (0, 0))) (m : Nat) : (w.setCell ⟨N, m, none⟩ (.bool true)).heap[N]? = some (.cells ((seenB (D ++ [(m : Int)])).map Value.bool).toArray 96 (0, 0)) := by
  rw [heap_setCell_same w N m _ _ _ h, ← seenB_snoc]
  simp [List.map_set]
set_option maxRecDepth 1000000 in
set_option maxHeartbeats 4000000 in
theorem wrongTogether_any {w : World} {v u : Value} {I : Ins} {L : List (List Int)} (hv : SRow w v I.l) (hr : IsLL w u L) (hp : 0 ≤ I.p ∧ I.p ≤ 16) (hrng : ∀ i ∈ L.flatten, 1 ≤ i ∧ i ≤ 2 * I.p) :
    Calls Tryz.prog 34 #[insV I v, planV u] w fun e w' => e = .returned (.int .i64 (togE I.p L.flatten)) ∧ Below w.heap.size w w' := by
  have H := Lib.hid hr
  have HG := Lib.hid hrng
  obtain ⟨ad, cap, rfl, _⟩ := hv.form
  obtain ⟨la, lc, rfl, hlm⟩ := hr.form
  have hlm1 : L.length ≤ 9223372036854775807 := by unfold maxLen at hlm; omega
  have e1 : IntKind.i64.wrap (2 * I.p) = 2 * I.p := IntWalk.i64_in _ (by omega)
  clear hr hv hrng hlm
  unfold insV planV
  go_enter Tryz.func34, Tryz.ntmps34
  go_upto_region 3 with fail
  obtain ⟨hx, hs, hb⟩ := worldT_facts w I (.slice ad I.l.length cap) (.slice la L.length lc)
  change Code.wp _ _ _ _ (worldT w I (.slice ad I.l.length cap) (.slice la L.length lc))
  generalize worldT w I (.slice ad I.l.length cap) (.slice la L.length lc) = W at *
  have HS := Lib.hid hs
  have HB := Lib.hid hb
  clear hs hb e1
  go_wp2_with fail
  go_loopw [6, 17] (fun ms i wr => ∃ (k : Nat) (D : List Int), k ≤ L.length ∧ i = .int .i64 k ∧ D = (L.take k).flatten ∧ D.Nodup ∧ ms = .int .i64 (2 * I.p - D.length) ∧ wr.heap[w.heap.size + 2]? = some (.cells ((seenB D).map Value.bool).toArray 96 (0, 0)) ∧ Below w.heap.size w wr) (fun _ i _ => L.length - (intOf i).toNat)
  case atStart => exact ⟨0, [], Nat.zero_le _, rfl, rfl, List.nodup_nil, by simp, HS.out, HB.out⟩
  case round =>
    obtain ⟨k, D, hk, rfl, hD, hnd, rfl, hsn, hbw⟩ := hrel
    have HD := Lib.hid hD
    have HND := Lib.hid hnd
    have HSN := Lib.hid hsn
    have HBW := Lib.hid hbw
    clear hD hnd hsn hx HS HB
    by_cases hlt : k < L.length
    · have hlt2 : (k : Int) < (L.length : Int) := by omega
      obtain ⟨tb, off, a1, n1, c1, rfl, htb, hcw, hn1, hm1, hrow⟩ := ll_at H.out k hlt
      have hc := (hbw.cell (p := ⟨tb, off + k, none⟩) htb).trans hcw
      have HRow := Lib.hid hrow
      have HP := Lib.hid (fun j => pre_flat L k j hlt)
      have HT := Lib.hid (take_getD hlt)
      generalize L.getD k [] = l at *
      subst hn1
      have hm2 : l.length ≤ 9223372036854775807 := by unfold maxLen at hm1; omega
      clear hrow hm1 hcw hbw
      go_wp2_with fail
      clear hc
      obtain ⟨wo, hwo⟩ : ∃ wo, wo = wr := ⟨_, rfl⟩
      subst hwo
      go_loopw [6, 23] (fun ms i wr => ∃ (j : Nat) (D' : List Int), j ≤ l.length ∧ i = .int .i64 j ∧ D' = D ++ l.take j ∧ D'.Nodup ∧ ms = .int .i64 (2 * I.p - D'.length) ∧ wr.heap[w.heap.size + 2]? = some (.cells ((seenB D').map Value.bool).toArray 96 (0, 0)) ∧ Below w.heap.size w wr) (fun _ i _ => l.length - (intOf i).toNat)
      case atStart => exact ⟨0, D, Nat.zero_le _, rfl, by simp, HND.out, rfl, HSN.out, HBW.out⟩
      case round =>
        obtain ⟨j, D', hj, rfl, hD', hnd', rfl, hsn, hbw⟩ := hrel
        have HD' := Lib.hid hD'
        have HND' := Lib.hid hnd'
        have HSN' := Lib.hid hsn
        have HBW' := Lib.hid hbw
        have HRow' := Lib.hid (HRow.out.below hbw)
        clear hD' hnd' hsn hbw
        by_cases hjl : j < l.length
        · have hjl2 : (j : Int) < (l.length : Int) := by omega
          obtain ⟨rb, ro, rc, he, hcell, _, _⟩ := row_at (p := j) HRow'.out (by rw [ints_len]; exact hjl)
          rw [ints_at l j hjl] at hcell
          obtain ⟨Z, hZ⟩ := HP.out (j + 1)
          have htj : l.take (j + 1) = l.take j ++ [l.getD j 0] := take_snoc hjl
          rw [htj, ← HD.out, ← List.append_assoc, ← HD'.out] at hZ
          have hin := HG.out (l.getD j 0) (by rw [hZ]; simp)
          have HZ := Lib.hid hZ
          have HTJ := Lib.hid htj
          obtain ⟨m, hm⟩ : ∃ m : Nat, l.getD j 0 = (m : Int) := ⟨(l.getD j 0).toNat, by omega⟩
          rw [hm] at hcell hin
          have HMv := Lib.hid hm
          have hm33 : m < 33 := by omega
          have hb := bools_cell HSN'.out m hm33
          have hf := frozen_of_row _ (w.heap.size + 2) m _ _ HSN'.out
          simp only [ints_len, Value.slice.injEq, true_and] at he
          obtain ⟨rfl, rfl⟩ := he
          clear hZ htj hm
          by_cases hmem : (m : Int) ∈ D'
          · have hmd := decide_eq_true hmem
            rw [hmd] at hb
            have HE := Lib.hid (show togE I.p L.flatten = 5 from togE_twice (fun hh => by
              have h1 := nodup_pre HZ.out hh
              rw [HMv.out] at h1
              have := (List.nodup_append.1 h1).2.2 (m : Int) hmem (m : Int) (by simp)
              exact this rfl))
            go_wp2_with fail
            go_ret
            exact ⟨by rw [HE.out]; rfl, HBW'.out⟩
          · have hmd := decide_eq_false hmem
            rw [hmd] at hb
            have HN2 := Lib.hid (nodup_snoc HND'.out hmem)
            have HS2 := Lib.hid (bools_set HSN'.out m)
            have hlen : D'.length ≤ 32 := by
              refine rng_len HND'.out (fun i hi => ?_)
              have := HG.out i (by rw [HZ.out]; simp [hi])
              omega
            have HB2 := Lib.hid (HBW'.out.setCell (p := ⟨w.heap.size + 2, m, none⟩) (by show w.heap.size ≤ w.heap.size + 2; omega) (.bool true))
            have e2 : IntKind.i64.wrap (2 * I.p - (D'.length : Int) - 1) = 2 * I.p - (D'.length : Int) - 1 := IntWalk.i64_in _ (by omega)
            go_wp2_with fail
            go_roundw
            case rel => exact ⟨j + 1, D' ++ [(m : Int)], by omega, by go_num, by rw [HTJ.out, HD'.out, HMv.out]; simp, HN2.out, by simp; omega, HS2.out, HB2.out⟩
            case measure => simp [intOf]; omega
        · have hjl2 : ¬ (j : Int) < (l.length : Int) := by omega
          obtain rfl : j = l.length := by omega
          go_wp2_with fail
          go_roundw
          case rel => exact ⟨k + 1, D', by omega, by go_num, by rw [HT.out, HD'.out, HD.out, List.take_length]; simp, HND'.out, rfl, HSN'.out, HBW'.out⟩
          case measure => simp [intOf]; omega
    · obtain rfl : k = L.length := by omega
      have hl2 : ¬ (L.length : Int) < (L.length : Int) := by omega
      have HDD := Lib.hid (show D = L.flatten by have := HD.out; rwa [List.take_length] at this)
      clear hbw
      by_cases hms : (0 : Int) < 2 * I.p - (D.length : Int)
      · have HE := Lib.hid (show togE I.p L.flatten = 4 from togE_none (by rw [← HDD.out]; exact HND.out) (by rw [← HDD.out]; omega))
        go_wp2
        go_ret
        exact ⟨by rw [HE.out]; rfl, HBW.out⟩
      · have HE := Lib.hid (show togE I.p L.flatten = 0 from togE_ok (by rw [← HDD.out]; exact HND.out) (by rw [← HDD.out]; omega))
        go_wp2
        go_ret
        exact ⟨by rw [HE.out]; rfl, HBW.out⟩
end Go.Proofs.YtgplajofemencaaGreat
/- What Cost answers. -/
namespace Go.Proofs.YtgplajofemencaaGreat
open Go.ChangeShapes Go.WideShapes Go.ChangeAt Go.RowKit

def worldC (w : World) (I : Ins) (v u : Value) : World := (w.alloc (boxI I v)).alloc (boxP u)
theorem worldC_facts (w : World) (I : Ins) (v u : Value) : YBox (worldC w I v u) w.heap.size I v ∧ (worldC w I v u).heap[w.heap.size + 1]? = some (.cells #[u] 41 (0, 0)) ∧ Below w.heap.size w (worldC w I v u) ∧ w.heap.size + 2 = (worldC w I v u).heap.size := by
  have b1 := (Below.refl w.heap.size w).alloc (Nat.le_refl _) (boxI I v)
  have h1 := heap_alloc_new (w.alloc (boxI I v)) (boxP u)
  rw [show (w.alloc (boxI I v)).heap.size = w.heap.size + 1 by simp] at h1
  refine ⟨?_, h1, b1.alloc b1.size _, by simp [worldC]⟩
  have h2 : YBox (w.alloc (boxI I v)) w.heap.size I v := heap_alloc_new w (boxI I v)
  exact h2.later ((Below.refl _ _).alloc (Nat.le_refl _) (boxP u))
set_option maxRecDepth 1000000 in
set_option maxHeartbeats 4000000 in
theorem cost_any {w : World} {v u : Value} {I : Ins} {L : List (List Int)} (hv : SRow w v I.l) (hr : IsLL w u L) :
    Calls Tryz.prog 15 #[insV I v, planV u] w fun e w' => e = .returned (.tuple #[.int .i64 (costN I L), .int .i64 (costE I L)]) ∧ Below w.heap.size w w' := by
  have H := Lib.hid hr
  have HV := Lib.hid hv
  obtain ⟨ad, cap, rfl, _⟩ := hv.form
  obtain ⟨la, lc, rfl, hlm⟩ := hr.form
  have hlm1 : L.length ≤ 9223372036854775807 := by unfold maxLen at hlm; omega
  obtain ⟨hy, hx, hb, hsz⟩ := worldC_facts w I (.slice ad I.l.length cap) (.slice la L.length lc)
  have HY := Lib.hid hy
  have HX := Lib.hid hx
  have HB := Lib.hid hb
  have HSZ := Lib.hid hsz
  have c0 := hy.cells
  obtain ⟨c0, c1, c2, c3⟩ := c0
  clear hr hv hlm hy hx hb hsz
  unfold insV planV
  go_enter Tryz.func15, Tryz.ntmps15
  go_upto_region 1 with fail
  change Code.wp _ _ _ _ (worldC w I (.slice ad I.l.length cap) (.slice la L.length lc))
  generalize worldC w I (.slice ad I.l.length cap) (.slice la L.length lc) = W at *
  go_wp2_with fail
  change Calls _ _ #[insV I (.slice ad I.l.length cap)] _ _
  refine (may_any (HV.out.below HB.out)).mono ?_
  rintro e w1 ⟨rfl, hb⟩
  have HB1 := Lib.hid (HB.out.trans (hb.mono HB.out.size))
  have HY1 := Lib.hid (HY.out.later hb)
  have HX1 := Lib.hid (show w1.heap[w.heap.size + 1]? = some (.cells #[.slice la L.length lc] 41 (0, 0)) by rw [hb.block _ (by have := HSZ.out; omega)]; exact HX.out)
  have HSZ1 := Lib.hid (show w.heap.size + 2 ≤ w1.heap.size by have := HSZ.out; have := hb.size; omega)
  clear hb c0 c1 c2 c3
  cases hmay : mayB I with
  | false =>
    have HE := Lib.hid (show costE I L = 1 by unfold costE; rw [if_pos hmay])
    have HN := Lib.hid (show costN I L = 0 by unfold costN; rw [if_neg (by rw [HE.out]; simp)])
    go_wp2
    refine bodyPost_ret (v := .tuple #[.int .i64 0, .int .i64 1]) (by simp [results, Tryz.results15, go_sem]) rfl ?_
    exact ⟨by rw [HE.out, HN.out], HB1.out⟩
  | true =>
    have HMAY := Lib.hid hmay
    have HFI := Lib.hid (fine_of hmay)
    have HCC := Lib.hid ((inb_iff _ _ _).1 ((may_iff I).1 hmay).2.1)
    clear hmay
    obtain ⟨c0, c1, c2, c3⟩ := HY1.out.cells
    have x0 : w1.cell? ⟨w.heap.size + 1, 0, none⟩ = some (.slice la L.length lc) := by rw [cell_of_row w1 _ 0 _ _ _ HX1.out]; rfl
    by_cases hc : I.c < L.length
    · have HE := Lib.hid (show costE I L = 6 by unfold costE; rw [if_neg (by rw [HMAY.out]; simp), if_pos hc])
      have HN := Lib.hid (show costN I L = 0 by unfold costN; rw [if_neg (by rw [HE.out]; simp)])
      go_wp2
      refine bodyPost_ret (v := .tuple #[.int .i64 0, .int .i64 6]) (by simp [results, Tryz.results15, go_sem]) rfl ?_
      exact ⟨by rw [HE.out, HN.out], HB1.out⟩
    · have HC := Lib.hid hc
      go_wp2_with fail
      clear c0 c1 c2 c3 x0
      go_loopw [6, 26] (fun cs i wr => ∃ (k : Nat), k ≤ L.length ∧ i = .int .i64 k ∧ cs = .int .i64 (farS I (L.take k)) ∧ firstE I (L.take k) = 0 ∧ Below w.heap.size w wr ∧ Below (w.heap.size + 2) w1 wr) (fun _ i _ => L.length - (intOf i).toNat)
      case atStart => exact ⟨0, Nat.zero_le _, rfl, rfl, rfl, HB1.out, Below.refl _ _⟩
      case round =>
        obtain ⟨k, hk, rfl, rfl, hfe, hbw, hbw1⟩ := hrel
        have HFE := Lib.hid hfe
        have HBW := Lib.hid hbw
        have HBW1 := Lib.hid hbw1
        have HYr := Lib.hid (HY1.out.below (M := w.heap.size + 2) (by omega) hbw1)
        have HXr := Lib.hid (show wr.heap[w.heap.size + 1]? = some (.cells #[.slice la L.length lc] 41 (0, 0)) by rw [hbw1.block _ (by omega)]; exact HX1.out)
        have hk8 : L.length ≤ 8 := by have := HC.out; have := HCC.out; omega
        have hfb := farS_bds _ hfe
        have hkl : (L.take k).length ≤ 8 := by rw [List.length_take]; omega
        by_cases hlt : k < L.length
        · have hlt2 : (k : Int) < (L.length : Int) := by omega
          obtain ⟨tb, off, a1, n1, d1, rfl, htb, hcw, hn1, hm1, hrow⟩ := ll_at H.out k hlt
          have hcl := (hbw.cell (p := ⟨tb, off + k, none⟩) htb).trans hcw
          have HRow := Lib.hid (hrow.below hbw)
          have HT := Lib.hid (take_getD hlt)
          have HS := Lib.hid (show firstE I (L.take (k + 1)) ≠ 0 → firstE I L = firstE I (L.take (k + 1)) from fun h => by
            have := firstE_stays I (L.drop (k + 1)) (L.take (k + 1)) h
            rwa [List.take_append_drop] at this)
          generalize L.getD k [] = l at *
          subst hn1
          obtain ⟨c0, c1, c2, c3⟩ := HYr.out.cells
          clear hfe hbw hbw1 hcw hm1 hrow htb
          go_wp2_with fail
          change Calls _ _ #[insV I (.slice ad I.l.length cap), _] _ _
          refine (farOf_any (HV.out.below HBW.out) HRow.out).mono ?_
          rintro e w2 ⟨⟨far, rfl, hfar⟩, hb⟩
          have HB2 := Lib.hid (HBW.out.trans (hb.mono HBW.out.size))
          have HB21 := Lib.hid (HBW1.out.trans (hb.mono (by have := HSZ1.out; have := HBW1.out.size; omega)))
          have HFAR := Lib.hid hfar
          clear hb hfar c0 c1 c2 c3 hcl
          by_cases he : errR I l = 0
          · have hz := HFAR.out he
            have hfb2 := far_bds (errR_zero he).2
            rw [he, hz]
            have e2 : IntKind.i64.wrap (farS I (L.take k) + farT I l) = farS I (L.take k) + farT I l := IntWalk.i64_in _ (by omega)
            have HE1 := Lib.hid he
            clear he hz
            go_wp2_with fail
            go_roundw
            case rel => exact ⟨k + 1, by omega, by go_num, by rw [HT.out, farS_snoc], by rw [HT.out, firstE_snoc, if_pos HFE.out]; exact HE1.out, HB2.out, HB21.out⟩
            case measure => simp [intOf]; omega
          · have HE1 := Lib.hid (show firstE I L = errR I l by
              have h1 : firstE I (L.take (k + 1)) = errR I l := by rw [HT.out, firstE_snoc, if_pos HFE.out]
              rw [HS.out (by rw [h1]; exact he), h1])
            have HE := Lib.hid (show costE I L = errR I l by unfold costE; rw [if_neg (by rw [HMAY.out]; simp), if_neg (by have := HC.out; omega), HE1.out, if_pos he])
            have HN := Lib.hid (show costN I L = 0 by unfold costN; rw [if_neg (by rw [HE.out]; exact he)])
            generalize errR I l = er at *
            have heb : (er != 0) = true := by simpa using he
            go_wp2
            refine bodyPost_ret (v := .tuple #[.int .i64 0, .int .i64 er]) (by simp [results, Tryz.results15, go_sem]) rfl ?_
            exact ⟨by rw [HE.out, HN.out], HB2.out⟩
        · obtain rfl : k = L.length := by omega
          have hl2 : ¬ (L.length : Int) < (L.length : Int) := by omega
          obtain ⟨c0, c1, c2, c3⟩ := HYr.out.cells
          have x0 : wr.cell? ⟨w.heap.size + 1, 0, none⟩ = some (.slice la L.length lc) := by rw [cell_of_row wr _ 0 _ _ _ HXr.out]; rfl
          have HF := Lib.hid (show firstE I L = 0 by have := HFE.out; rwa [List.take_length] at this)
          have HFS := Lib.hid (show farS I (L.take L.length) = farS I L by rw [List.take_length])
          have HE := Lib.hid (costE_of HMAY.out (by have := HC.out; omega) HF.out)
          clear hfe hbw hbw1
          go_wp2_with fail
          change Calls _ _ #[insV I (.slice ad I.l.length cap), planV (.slice la L.length lc)] _ _
          refine (wrongTogether_any (HV.out.below HBW.out) (H.out.below HBW.out) ⟨HFI.out.p0, HFI.out.p1⟩ (flat_rng HF.out)).mono ?_
          rintro e w2 ⟨rfl, hb⟩
          have HB2 := Lib.hid (HBW.out.trans (hb.mono HBW.out.size))
          clear hb c0 c1 c2 c3 x0
          rw [← HE.out]
          have HNN := Lib.hid (show (costE I L = 0 → costN I L = farS I L) ∧ (costE I L ≠ 0 → costN I L = 0) from ⟨costN_ok, fun h => by unfold costN; rw [if_neg h]⟩)
          obtain ⟨er, her⟩ : ∃ er, costE I L = er := ⟨_, rfl⟩
          rw [her]
          have HER := Lib.hid her
          rw [her] at HNN
          clear her
          by_cases he : er = 0
          · have h1 := HNN.out.1 he
            have H1 := Lib.hid h1
            clear h1
            subst he
            go_wp2
            refine bodyPost_ret (v := .tuple #[.int .i64 (farS I L), .int .i64 0]) (by simp [results, Tryz.results15, go_sem]) rfl ?_
            exact ⟨by rw [H1.out, HER.out], HB2.out⟩
          · have H1 := Lib.hid (HNN.out.2 he)
            have heb : (er != 0) = true := by simpa using he
            go_wp2
            refine bodyPost_ret (v := .tuple #[.int .i64 0, .int .i64 er]) (by simp [results, Tryz.results15, go_sem]) rfl ?_
            exact ⟨by rw [H1.out, HER.out], HB2.out⟩
end Go.Proofs.YtgplajofemencaaGreat
