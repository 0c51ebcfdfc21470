/- What stopsMay and demandsMay answer. -/
import Derived.Test.YtolaiccgbngomaaICore
import Derived.Deep.RegionHeld3
namespace Go.Proofs.Ytolaiccgbngomaa
open Go.ChangeShapes Go.WideShapes Go.ChangeAt Go.RowKit

theorem stops_take {l : List Stp} {k : Nat} (hk : k < l.length) (h : stopsOk (l.take k) = true) (hx : stopOk (nth l k) = true) : stopsOk (l.take (k + 1)) = true := by
  rw [stops_iff] at *
  intro i hi
  have hi' : i < k + 1 := by simp at hi; omega
  rw [nth_take _ _ _ hi']
  by_cases c : i < k
  · have := h i (by simp; omega)
    rw [nth_take _ _ _ c] at this
    exact this
  · obtain rfl : i = k := by omega
    exact hx
theorem stops_not {l : List Stp} {k : Nat} (hk : k < l.length) (hx : stopOk (nth l k) = false) : stopsOk l = false := by
  cases h : stopsOk l with
  | false => rfl
  | true => rw [(stops_iff l).1 h k hk] at hx; simp at hx
set_option maxRecDepth 1000000 in
set_option maxHeartbeats 1000000 in
theorem stopsMay_any {w : World} {v : Value} {l : List Stp} (h : SRow w v l) :
    Calls Try.prog 30 #[v] w fun e w' => e = .returned (.bool (stopsOk l)) ∧ Below w.heap.size w w' := by
  have H := Lib.hid h
  obtain ⟨ad, cap, rfl, hm, _⟩ := h.form
  have hm1 : l.length ≤ 9223372036854775807 := by unfold maxLen at hm; omega
  clear h hm
  go_enter Try.func30, Try.ntmps30
  go_wp2_with fail
  go_loopw [8] (fun i wr => ∃ k : Nat, k ≤ l.length ∧ i = .int .i64 k ∧ stopsOk (l.take k) = true ∧ Below w.heap.size w wr) (fun i _ => l.length - (intOf i).toNat)
  case atStart => exact ⟨0, Nat.zero_le _, rfl, by simp [stopsOk], Below.refl _ _⟩
  case round =>
    obtain ⟨k, hk, rfl, hall, hbw⟩ := hrel
    have HA := Lib.hid hall
    have HBW := Lib.hid hbw
    have hsz := hbw.size
    clear hall hbw
    by_cases hlt : k < l.length
    · obtain ⟨tb, off, rfl, hat, htb⟩ := srow_at H.out k hlt
      obtain ⟨c0, c1, c2, c3, c4, c5⟩ := hat.below htb HBW.out
      have HST := Lib.hid (fun hx => stops_take hlt HA.out hx)
      have HSN := Lib.hid (fun hx => stops_not (k := k) hlt hx)
      generalize nth l k = t at *
      have HSO := Lib.hid (show stopOk t = ((inb 0 10000 t.x && inb 0 10000 t.y) && (inb 0 1048576 t.r && (inb t.r 1048576 t.u && inb 0 1000 t.s))) by unfold stopOk; rw [Bool.and_assoc])
      clear hat
      go_wp2_with fail
      refine (within2 _ 0 10000 t.x t.y (by go_simp) (by go_simp)).mono ?_
      rintro e w2 ⟨rfl, rfl⟩
      generalize (inb 0 10000 t.x && inb 0 10000 t.y) = b1 at HSO ⊢
      cases b1
      · have HD := Lib.hid (HSN.out HSO.out)
        go_wp2
        go_ret
        refine ⟨ret_bool HD.out.symm, ?_⟩
        repeat' (first | exact HBW.out | (refine Below.alloc ?_ ?_ _) | assumption | (simp; omega))
      go_wp2_with fail
      refine (within1 _ 0 1048576 t.r (by go_simp)).mono ?_
      rintro e w2 ⟨rfl, rfl⟩
      generalize inb 0 1048576 t.r = b2 at HSO ⊢
      cases b2
      · have HD := Lib.hid (HSN.out HSO.out)
        go_wp2
        go_ret
        refine ⟨ret_bool HD.out.symm, ?_⟩
        repeat' (first | exact HBW.out | (refine Below.alloc ?_ ?_ _) | assumption | (simp; omega))
      go_wp2_with fail
      refine (within1 _ t.r 1048576 t.u (by go_simp)).mono ?_
      rintro e w2 ⟨rfl, rfl⟩
      generalize inb t.r 1048576 t.u = b3 at HSO ⊢
      cases b3
      · have HD := Lib.hid (HSN.out HSO.out)
        go_wp2
        go_ret
        refine ⟨ret_bool HD.out.symm, ?_⟩
        repeat' (first | exact HBW.out | (refine Below.alloc ?_ ?_ _) | assumption | (simp; omega))
      go_wp2_with fail
      refine (within1 _ 0 1000 t.s (by go_simp)).mono ?_
      rintro e w2 ⟨rfl, rfl⟩
      generalize inb 0 1000 t.s = b4 at HSO ⊢
      cases b4
      · have HD := Lib.hid (HSN.out HSO.out)
        go_wp2
        go_ret
        refine ⟨ret_bool HD.out.symm, ?_⟩
        repeat' (first | exact HBW.out | (refine Below.alloc ?_ ?_ _) | assumption | (simp; omega))
      have HS := Lib.hid (HST.out HSO.out)
      go_wp2
      go_roundw
      case rel =>
        refine ⟨k + 1, by omega, by go_num, HS.out, ?_⟩
        repeat' (first | exact HBW.out | (refine Below.alloc ?_ ?_ _) | assumption | (simp; omega))
      case measure => simp [intOf]; omega
    · obtain rfl : k = l.length := by omega
      rw [List.take_length] at HA
      clear hlt hk
      go_wp2
      go_ret
      exact ⟨ret_bool HA.out.symm, HBW.out⟩

theorem dem_take {T B : List Stp} {k : Nat} (h : ∀ i, i < k → demAt T B i) (hx : demAt T B k) : ∀ i, i < k + 1 → demAt T B i := by
  intro i hi
  by_cases c : i < k
  · exact h i c
  · obtain rfl : i = k := by omega
    exact hx
theorem dem_not {T B : List Stp} {k : Nat} (hk : k < T.length) (hx : ¬ demAt T B k) : demOk T B = false := decide_eq_false (fun h => hx (h k hk))
set_option maxRecDepth 1000000 in
set_option maxHeartbeats 1000000 in
theorem demands_any {w : World} {v u : Value} {T B : List Stp} (h : SRow w v T) (h2 : SRow w u B) (hl : T.length ≤ B.length) :
    Calls Try.prog 32 #[v, u] w fun e w' => e = .returned (.bool (demOk T B)) ∧ Below w.heap.size w w' := by
  have H := Lib.hid h
  have H2 := Lib.hid h2
  obtain ⟨ad, cap, rfl, hm, _⟩ := h.form
  obtain ⟨ad2, cap2, rfl, hm2, _⟩ := h2.form
  have hm1 : T.length ≤ 9223372036854775807 := by unfold maxLen at hm; omega
  have hm3 : B.length ≤ 9223372036854775807 := by unfold maxLen at hm2; omega
  clear h h2 hm hm2
  go_enter Try.func32, Try.ntmps32
  go_wp2_with fail
  go_loopw [9] (fun i wr => ∃ k : Nat, k ≤ T.length ∧ i = .int .i64 k ∧ (∀ i, i < k → demAt T B i) ∧ Below w.heap.size w wr) (fun i _ => T.length - (intOf i).toNat)
  case atStart => exact ⟨0, Nat.zero_le _, rfl, fun i hi => by omega, Below.refl _ _⟩
  case round =>
    obtain ⟨k, hk, rfl, hall, hbw⟩ := hrel
    have HA := Lib.hid hall
    have HBW := Lib.hid hbw
    have hsz := hbw.size
    clear hall hbw
    by_cases hlt : k < T.length
    · obtain ⟨tb, off, rfl, hat, htb⟩ := srow_at H.out k hlt
      obtain ⟨tb2, off2, rfl, hat2, htb2⟩ := srow_at H2.out k (by omega)
      obtain ⟨c0, c1, c2, c3, c4, c5⟩ := hat.below htb HBW.out
      obtain ⟨_, _, e2, _⟩ := hat2.below htb2 HBW.out
      have hb1 : (k : Int) < (T.length : Int) := by omega
      have hb2 : (k : Int) < (B.length : Int) := by omega
      have hb3 : k < B.length := by omega
      have hne : ¬ tb2 = wr.heap.size := by omega
      have HST := Lib.hid (fun hx => dem_take HA.out (k := k) (T := T) (B := B) hx)
      have HSN := Lib.hid (fun hx => dem_not (k := k) (B := B) hlt hx)
      have HDA := Lib.hid (show demAt T B k ↔ inb 1 1000 (nth T k).d = true ∧ (nth B k).d = -(nth T k).d from Iff.rfl)
      generalize nth T k = t at *
      generalize nth B k = s at *
      clear hat hat2
      go_wp2_with fail
      have m2 : (wr.alloc (.cells #[.int .i64 t.x, .int .i64 t.y, .int .i64 t.d, .int .i64 t.r, .int .i64 t.u, .int .i64 t.s] 38)).cell? ⟨wr.heap.size, 2, none⟩ = some (.int .i64 t.d) := by go_simp
      have n2 : (wr.alloc (.cells #[.int .i64 t.x, .int .i64 t.y, .int .i64 t.d, .int .i64 t.r, .int .i64 t.u, .int .i64 t.s] 38)).cell? ⟨tb2, off2 + k * 6 + 2, none⟩ = some (.int .i64 s.d) := by rw [((Below.refl _ wr).alloc (Nat.le_refl _) _).cell (p := ⟨tb2, off2 + k * 6 + 2, none⟩) (by have := hsz; simp; omega)]; exact e2
      have HB1 := Lib.hid (HBW.out.alloc hsz (.cells #[.int .i64 t.x, .int .i64 t.y, .int .i64 t.d, .int .i64 t.r, .int .i64 t.u, .int .i64 t.s] 38))
      have hN : wr.heap.size < (wr.alloc (.cells #[.int .i64 t.x, .int .i64 t.y, .int .i64 t.d, .int .i64 t.r, .int .i64 t.u, .int .i64 t.s] 38)).heap.size := by simp
      generalize wr.alloc (.cells #[.int .i64 t.x, .int .i64 t.y, .int .i64 t.d, .int .i64 t.r, .int .i64 t.u, .int .i64 t.s] 38) = W at *
      have hW2 : tb2 < W.heap.size := by omega
      have hszW := HB1.out.size
      clear c0 c1 c2 c3 c4 c5 e2
      generalize wr.heap.size = N at *
      have key : (inb 1 1000 t.d = false) ∨ (inb 1 1000 t.d = true ∧ (s.d != -t.d) = true ∧ IntKind.i64.wrap (-t.d) = -t.d) ∨ (inb 1 1000 t.d = true ∧ (s.d != -t.d) = false ∧ IntKind.i64.wrap (-t.d) = -t.d) := by
        cases hi : inb 1 1000 t.d with
        | false => exact .inl rfl
        | true =>
          have := (inb_iff _ _ _).1 hi
          have hw : IntKind.i64.wrap (-t.d) = -t.d := IntWalk.i64_in _ (by omega)
          cases hq : (s.d != -t.d) with
          | false => exact .inr (.inr ⟨rfl, rfl, hw⟩)
          | true => exact .inr (.inl ⟨rfl, rfl, hw⟩)
      rcases key with hi | ⟨hi, hq, hw⟩ | ⟨hi, hq, hw⟩
      all_goals
        have HS0 := Lib.hid (show Holds [(⟨N, 2, none⟩, .int .i64 t.d), (⟨tb2, off2 + k * 6 + 2, none⟩, .int .i64 s.d)] W.drew from ⟨m2, n2, trivial⟩)
        have hlt := Lib.hid (show Lows W.drew.heap.size [((⟨N, 2, none⟩ : Addr), (.int .i64 t.d : Value)), (⟨tb2, off2 + k * 6 + 2, none⟩, .int .i64 s.d)] from ⟨hN, hW2, trivial⟩)
        have HB2 := Lib.hid HB1.out.drew
        clear m2 n2
      · have HD := Lib.hid (HSN.out (fun h => by have := (HDA.out.1 h).1; rw [hi] at this; simp at this))
        refine wp_region_held_drew (S := Holds [(⟨N, 2, none⟩, .int .i64 t.d), (⟨tb2, off2 + k * 6 + 2, none⟩, .int .i64 s.d)]) (by kernel_rfl) HS0.out (fun hSn => ?_)
        have Bc := Lib.hid (Below.refl W.drew.heap.size W.drew)
        refine wpAnyH_take (i := 0) (oi := ?oz1) (v := ?vz1) ?iz1 (by kernel_rfl) (by kernel_rfl) (by kernel_rfl) ?qz1 (Or.inl ⟨?gz1, ?hz1⟩) (by assumption) ?rz1
        case iz1 => (simp only [List.getElem?_toArray, List.getElem?_cons_zero]; rfl)
        case qz1 => exact fun _ _ _ h => h
        case gz1 => rfl
        case hz1 => (intro w hSw; (simp only [Holds] at hSw); go_simp <;> with_reducible rfl)
        simp only [Act.put, List.setIfInBounds_toArray, List.set_cons_zero, List.set_cons_succ]
        refine wpAnyH_take (i := 1) (oi := ?oz2) (v := ?vz2) ?iz2 (by kernel_rfl) (by kernel_rfl) (by kernel_rfl) ?qz2 (Or.inl ⟨?gz2, ?hz2⟩) (by assumption) ?rz2
        case iz2 => (simp only [List.getElem?_toArray, List.getElem?_cons_zero, List.getElem?_cons_succ]; rfl)
        case qz2 => exact fun _ _ _ h => h
        case gz2 => rfl
        case hz2 => (intro w hSw; (simp only [Holds] at hSw); go_simp <;> with_reducible rfl)
        simp only [Act.put, List.setIfInBounds_toArray, List.set_cons_zero, List.set_cons_succ]
        refine wpAnyH_ready (rs := [2]) (by kernel_rfl) (by simp) ?_
        refine AllReadyH.cons (o := ?oz3) ?iz3 (fun K hK => ?kz3) AllReadyH.nil
        case iz3 => (simp only [List.getElem?_toArray, List.getElem?_cons_zero, List.getElem?_cons_succ]; rfl)
        go_simp
        refine held_more hK HS0.out hlt (Bc.out.alloc Bc.out.size _) (fun Bc hSn => ?_)
        refine wpAnyH_ready (rs := [3]) (by kernel_rfl) (by simp) ?_
        refine AllReadyH.cons (o := ?oz4) ?iz4 (fun K hK => ?kz4) AllReadyH.nil
        case iz4 => (simp only [List.getElem?_toArray, List.getElem?_cons_zero, List.getElem?_cons_succ]; rfl)
        go_simp
        refine (within1 _ 1 1000 t.d (by go_simp)).mono ?_
        rw [hi]
        rintro e w' ⟨rfl, rfl⟩
        refine held_more hK HS0.out hlt Bc.out (fun Bc hSn => ?_)
        refine wpAnyH_take (i := 4) (oi := ?oz5) (v := ?vz5) ?iz5 (by kernel_rfl) (by kernel_rfl) (by kernel_rfl) ?qz5 (Or.inl ⟨?gz5, ?hz5⟩) (by assumption) ?rz5
        case iz5 => (simp only [List.getElem?_toArray, List.getElem?_cons_zero, List.getElem?_cons_succ]; rfl)
        case qz5 => exact fun _ _ _ h => h
        case gz5 => rfl
        case hz5 => (intro w hSw; (simp only [Holds] at hSw); go_simp <;> with_reducible rfl)
        simp only [Act.put, List.setIfInBounds_toArray, List.set_cons_zero, List.set_cons_succ]
        refine wpAnyH_take (i := 5) (oi := ?oz6) (v := ?vz6) ?iz6 (by kernel_rfl) (by kernel_rfl) (by kernel_rfl) ?qz6 (Or.inl ⟨?gz6, ?hz6⟩) (by assumption) ?rz6
        case iz6 => (simp only [List.getElem?_toArray, List.getElem?_cons_zero, List.getElem?_cons_succ]; rfl)
        case qz6 => exact fun _ _ _ h => h
        case gz6 => rfl
        case hz6 => (intro w hSw; (simp only [Holds] at hSw); go_simp <;> with_reducible rfl)
        simp only [Act.put, List.setIfInBounds_toArray, List.set_cons_zero, List.set_cons_succ]
        refine wpAnyH_take (i := 6) (oi := ?oz7) (v := undef) ?iz7 (by kernel_rfl) (by kernel_rfl) (by kernel_rfl) ?qz7 (Or.inr ⟨?gz7, rfl⟩) (by assumption) ?rz7
        case iz7 => (simp only [List.getElem?_toArray, List.getElem?_cons_zero, List.getElem?_cons_succ]; rfl)
        case qz7 => exact fun _ _ _ h => h
        case gz7 => rfl
        simp only [Act.put, List.setIfInBounds_toArray, List.set_cons_zero, List.set_cons_succ]
        refine wpAnyH_take (i := 7) (oi := ?oz8) (v := undef) ?iz8 (by kernel_rfl) (by kernel_rfl) (by kernel_rfl) ?qz8 (Or.inr ⟨?gz8, rfl⟩) (by assumption) ?rz8
        case iz8 => (simp only [List.getElem?_toArray, List.getElem?_cons_zero, List.getElem?_cons_succ]; rfl)
        case qz8 => exact fun _ _ _ h => h
        case gz8 => rfl
        simp only [Act.put, List.setIfInBounds_toArray, List.set_cons_zero, List.set_cons_succ]
        refine wpAnyH_take (i := 8) (oi := ?oz9) (v := undef) ?iz9 (by kernel_rfl) (by kernel_rfl) (by kernel_rfl) ?qz9 (Or.inr ⟨?gz9, rfl⟩) (by assumption) ?rz9
        case iz9 => (simp only [List.getElem?_toArray, List.getElem?_cons_zero, List.getElem?_cons_succ]; rfl)
        case qz9 => exact fun _ _ _ h => h
        case gz9 => rfl
        simp only [Act.put, List.setIfInBounds_toArray, List.set_cons_zero, List.set_cons_succ]
        refine wpAnyH_take (i := 9) (oi := ?oz10) (v := undef) ?iz10 (by kernel_rfl) (by kernel_rfl) (by kernel_rfl) ?qz10 (Or.inr ⟨?gz10, rfl⟩) (by assumption) ?rz10
        case iz10 => (simp only [List.getElem?_toArray, List.getElem?_cons_zero, List.getElem?_cons_succ]; rfl)
        case qz10 => exact fun _ _ _ h => h
        case gz10 => rfl
        simp only [Act.put, List.setIfInBounds_toArray, List.set_cons_zero, List.set_cons_succ]
        refine wpAnyH_take (i := 10) (oi := ?oz11) (v := undef) ?iz11 (by kernel_rfl) (by kernel_rfl) (by kernel_rfl) ?qz11 (Or.inr ⟨?gz11, rfl⟩) (by assumption) ?rz11
        case iz11 => (simp only [List.getElem?_toArray, List.getElem?_cons_zero, List.getElem?_cons_succ]; rfl)
        case qz11 => exact fun _ _ _ h => h
        case gz11 => rfl
        simp only [Act.put, List.setIfInBounds_toArray, List.set_cons_zero, List.set_cons_succ]
        refine wpAnyH_take (i := 11) (oi := ?oz12) (v := undef) ?iz12 (by kernel_rfl) (by kernel_rfl) (by kernel_rfl) ?qz12 (Or.inr ⟨?gz12, rfl⟩) (by assumption) ?rz12
        case iz12 => (simp only [List.getElem?_toArray, List.getElem?_cons_zero, List.getElem?_cons_succ]; rfl)
        case qz12 => exact fun _ _ _ h => h
        case gz12 => rfl
        simp only [Act.put, List.setIfInBounds_toArray, List.set_cons_zero, List.set_cons_succ]
        refine wpAnyH_take (i := 12) (oi := ?oz13) (v := undef) ?iz13 (by kernel_rfl) (by kernel_rfl) (by kernel_rfl) ?qz13 (Or.inr ⟨?gz13, rfl⟩) (by assumption) ?rz13
        case iz13 => (simp only [List.getElem?_toArray, List.getElem?_cons_zero, List.getElem?_cons_succ]; rfl)
        case qz13 => exact fun _ _ _ h => h
        case gz13 => rfl
        simp only [Act.put, List.setIfInBounds_toArray, List.set_cons_zero, List.set_cons_succ]
        refine wpAnyH_take (i := 13) (oi := ?oz14) (v := undef) ?iz14 (by kernel_rfl) (by kernel_rfl) (by kernel_rfl) ?qz14 (Or.inr ⟨?gz14, rfl⟩) (by assumption) ?rz14
        case iz14 => (simp only [List.getElem?_toArray, List.getElem?_cons_zero, List.getElem?_cons_succ]; rfl)
        case qz14 => exact fun _ _ _ h => h
        case gz14 => rfl
        simp only [Act.put, List.setIfInBounds_toArray, List.set_cons_zero, List.set_cons_succ]
        refine wpAnyH_take (i := 14) (oi := ?oz15) (v := undef) ?iz15 (by kernel_rfl) (by kernel_rfl) (by kernel_rfl) ?qz15 (Or.inr ⟨?gz15, rfl⟩) (by assumption) ?rz15
        case iz15 => (simp only [List.getElem?_toArray, List.getElem?_cons_zero, List.getElem?_cons_succ]; rfl)
        case qz15 => exact fun _ _ _ h => h
        case gz15 => rfl
        simp only [Act.put, List.setIfInBounds_toArray, List.set_cons_zero, List.set_cons_succ]
        refine wpAnyH_take (i := 15) (oi := ?oz16) (v := ?vz16) ?iz16 (by kernel_rfl) (by kernel_rfl) (by kernel_rfl) ?qz16 (Or.inl ⟨?gz16, ?hz16⟩) (by assumption) ?rz16
        case iz16 => (simp only [List.getElem?_toArray, List.getElem?_cons_zero, List.getElem?_cons_succ]; rfl)
        case qz16 => exact fun _ _ _ h => h
        case gz16 => rfl
        case hz16 => (intro w hSw; (simp only [Holds] at hSw); go_simp <;> with_reducible rfl)
        simp only [Act.put, List.setIfInBounds_toArray, List.set_cons_zero, List.set_cons_succ]
        refine wpAnyH_done (by kernel_rfl) ?_ _
        go_wp2
        go_ret
        exact ⟨ret_bool HD.out.symm, HB2.out.trans (Bc.out.mono HB2.out.size)⟩
      · have HD := Lib.hid (HSN.out (fun h => by have := (HDA.out.1 h).2; simp [this] at hq))
        refine wp_region_held_drew (S := Holds [(⟨N, 2, none⟩, .int .i64 t.d), (⟨tb2, off2 + k * 6 + 2, none⟩, .int .i64 s.d)]) (by kernel_rfl) HS0.out (fun hSn => ?_)
        have Bc := Lib.hid (Below.refl W.drew.heap.size W.drew)
        refine wpAnyH_take (i := 0) (oi := ?oz17) (v := ?vz17) ?iz17 (by kernel_rfl) (by kernel_rfl) (by kernel_rfl) ?qz17 (Or.inl ⟨?gz17, ?hz17⟩) (by assumption) ?rz17
        case iz17 => (simp only [List.getElem?_toArray, List.getElem?_cons_zero]; rfl)
        case qz17 => exact fun _ _ _ h => h
        case gz17 => rfl
        case hz17 => (intro w hSw; (simp only [Holds] at hSw); go_simp <;> with_reducible rfl)
        simp only [Act.put, List.setIfInBounds_toArray, List.set_cons_zero, List.set_cons_succ]
        refine wpAnyH_take (i := 1) (oi := ?oz18) (v := ?vz18) ?iz18 (by kernel_rfl) (by kernel_rfl) (by kernel_rfl) ?qz18 (Or.inl ⟨?gz18, ?hz18⟩) (by assumption) ?rz18
        case iz18 => (simp only [List.getElem?_toArray, List.getElem?_cons_zero, List.getElem?_cons_succ]; rfl)
        case qz18 => exact fun _ _ _ h => h
        case gz18 => rfl
        case hz18 => (intro w hSw; (simp only [Holds] at hSw); go_simp <;> with_reducible rfl)
        simp only [Act.put, List.setIfInBounds_toArray, List.set_cons_zero, List.set_cons_succ]
        refine wpAnyH_ready (rs := [2]) (by kernel_rfl) (by simp) ?_
        refine AllReadyH.cons (o := ?oz19) ?iz19 (fun K hK => ?kz19) AllReadyH.nil
        case iz19 => (simp only [List.getElem?_toArray, List.getElem?_cons_zero, List.getElem?_cons_succ]; rfl)
        go_simp
        refine held_more hK HS0.out hlt (Bc.out.alloc Bc.out.size _) (fun Bc hSn => ?_)
        refine wpAnyH_ready (rs := [3]) (by kernel_rfl) (by simp) ?_
        refine AllReadyH.cons (o := ?oz20) ?iz20 (fun K hK => ?kz20) AllReadyH.nil
        case iz20 => (simp only [List.getElem?_toArray, List.getElem?_cons_zero, List.getElem?_cons_succ]; rfl)
        go_simp
        refine (within1 _ 1 1000 t.d (by go_simp)).mono ?_
        rw [hi]
        rintro e w' ⟨rfl, rfl⟩
        refine held_more hK HS0.out hlt Bc.out (fun Bc hSn => ?_)
        refine wpAnyH_take (i := 4) (oi := ?oz21) (v := ?vz21) ?iz21 (by kernel_rfl) (by kernel_rfl) (by kernel_rfl) ?qz21 (Or.inl ⟨?gz21, ?hz21⟩) (by assumption) ?rz21
        case iz21 => (simp only [List.getElem?_toArray, List.getElem?_cons_zero, List.getElem?_cons_succ]; rfl)
        case qz21 => exact fun _ _ _ h => h
        case gz21 => rfl
        case hz21 => (intro w hSw; (simp only [Holds] at hSw); go_simp <;> with_reducible rfl)
        simp only [Act.put, List.setIfInBounds_toArray, List.set_cons_zero, List.set_cons_succ]
        refine wpAnyH_take (i := 5) (oi := ?oz22) (v := ?vz22) ?iz22 (by kernel_rfl) (by kernel_rfl) (by kernel_rfl) ?qz22 (Or.inl ⟨?gz22, ?hz22⟩) (by assumption) ?rz22
        case iz22 => (simp only [List.getElem?_toArray, List.getElem?_cons_zero, List.getElem?_cons_succ]; rfl)
        case qz22 => exact fun _ _ _ h => h
        case gz22 => rfl
        case hz22 => (intro w hSw; (simp only [Holds] at hSw); go_simp <;> with_reducible rfl)
        simp only [Act.put, List.setIfInBounds_toArray, List.set_cons_zero, List.set_cons_succ]
        refine wpAnyH_take (i := 6) (oi := ?oz23) (v := ?vz23) ?iz23 (by kernel_rfl) (by kernel_rfl) (by kernel_rfl) ?qz23 (Or.inl ⟨?gz23, ?hz23⟩) (by assumption) ?rz23
        case iz23 => (simp only [List.getElem?_toArray, List.getElem?_cons_zero, List.getElem?_cons_succ]; rfl)
        case qz23 => exact fun _ _ _ h => h
        case gz23 => rfl
        case hz23 => (intro w hSw; (simp only [Holds] at hSw); go_simp <;> with_reducible rfl)
        simp only [Act.put, List.setIfInBounds_toArray, List.set_cons_zero, List.set_cons_succ]
        refine wpAnyH_take (i := 7) (oi := ?oz24) (v := ?vz24) ?iz24 (by kernel_rfl) (by kernel_rfl) (by kernel_rfl) ?qz24 (Or.inl ⟨?gz24, ?hz24⟩) (by assumption) ?rz24
        case iz24 => (simp only [List.getElem?_toArray, List.getElem?_cons_zero, List.getElem?_cons_succ]; rfl)
        case qz24 => exact fun _ _ _ h => h
        case gz24 => rfl
        case hz24 => (intro w hSw; (simp only [Holds] at hSw); go_simp <;> with_reducible rfl)
        simp only [Act.put, List.setIfInBounds_toArray, List.set_cons_zero, List.set_cons_succ]
        refine wpAnyH_take (i := 8) (oi := ?oz25) (v := ?vz25) ?iz25 (by kernel_rfl) (by kernel_rfl) (by kernel_rfl) ?qz25 (Or.inl ⟨?gz25, ?hz25⟩) (by assumption) ?rz25
        case iz25 => (simp only [List.getElem?_toArray, List.getElem?_cons_zero, List.getElem?_cons_succ]; rfl)
        case qz25 => exact fun _ _ _ h => h
        case gz25 => rfl
        case hz25 => (intro w hSw; (simp only [Holds] at hSw); go_simp <;> with_reducible rfl)
        simp only [Act.put, List.setIfInBounds_toArray, List.set_cons_zero, List.set_cons_succ]
        refine wpAnyH_take (i := 9) (oi := ?oz26) (v := ?vz26) ?iz26 (by kernel_rfl) (by kernel_rfl) (by kernel_rfl) ?qz26 (Or.inl ⟨?gz26, ?hz26⟩) (by assumption) ?rz26
        case iz26 => (simp only [List.getElem?_toArray, List.getElem?_cons_zero, List.getElem?_cons_succ]; rfl)
        case qz26 => exact fun _ _ _ h => h
        case gz26 => rfl
        case hz26 => (intro w hSw; (simp only [Holds] at hSw); go_simp <;> with_reducible rfl)
        simp only [Act.put, List.setIfInBounds_toArray, List.set_cons_zero, List.set_cons_succ]
        refine wpAnyH_take (i := 10) (oi := ?oz27) (v := ?vz27) ?iz27 (by kernel_rfl) (by kernel_rfl) (by kernel_rfl) ?qz27 (Or.inl ⟨?gz27, ?hz27⟩) (by assumption) ?rz27
        case iz27 => (simp only [List.getElem?_toArray, List.getElem?_cons_zero, List.getElem?_cons_succ]; rfl)
        case qz27 => exact fun _ _ _ h => h
        case gz27 => rfl
        case hz27 => (intro w hSw; (simp only [Holds] at hSw); go_simp <;> with_reducible rfl)
        simp only [Act.put, List.setIfInBounds_toArray, List.set_cons_zero, List.set_cons_succ]
        refine wpAnyH_take (i := 11) (oi := ?oz28) (v := ?vz28) ?iz28 (by kernel_rfl) (by kernel_rfl) (by kernel_rfl) ?qz28 (Or.inl ⟨?gz28, ?hz28⟩) (by assumption) ?rz28
        case iz28 => (simp only [List.getElem?_toArray, List.getElem?_cons_zero, List.getElem?_cons_succ]; rfl)
        case qz28 => exact fun _ _ _ h => h
        case gz28 => rfl
        case hz28 => (intro w hSw; (simp only [Holds] at hSw); go_simp <;> with_reducible rfl)
        simp only [Act.put, List.setIfInBounds_toArray, List.set_cons_zero, List.set_cons_succ]
        refine wpAnyH_take (i := 12) (oi := ?oz29) (v := ?vz29) ?iz29 (by kernel_rfl) (by kernel_rfl) (by kernel_rfl) ?qz29 (Or.inl ⟨?gz29, ?hz29⟩) (by assumption) ?rz29
        case iz29 => (simp only [List.getElem?_toArray, List.getElem?_cons_zero, List.getElem?_cons_succ]; rfl)
        case qz29 => exact fun _ _ _ h => h
        case gz29 => rfl
        case hz29 => (intro w hSw; (simp only [Holds] at hSw); go_simp <;> with_reducible rfl)
        simp only [Act.put, List.setIfInBounds_toArray, List.set_cons_zero, List.set_cons_succ]
        refine wpAnyH_take (i := 13) (oi := ?oz30) (v := ?vz30) ?iz30 (by kernel_rfl) (by kernel_rfl) (by kernel_rfl) ?qz30 (Or.inl ⟨?gz30, ?hz30⟩) (by assumption) ?rz30
        case iz30 => (simp only [List.getElem?_toArray, List.getElem?_cons_zero, List.getElem?_cons_succ]; rfl)
        case qz30 => exact fun _ _ _ h => h
        case gz30 => rfl
        case hz30 => (intro w hSw; (simp only [Holds] at hSw); go_simp <;> with_reducible rfl)
        simp only [Act.put, List.setIfInBounds_toArray, List.set_cons_zero, List.set_cons_succ]
        refine wpAnyH_take (i := 14) (oi := ?oz31) (v := ?vz31) ?iz31 (by kernel_rfl) (by kernel_rfl) (by kernel_rfl) ?qz31 (Or.inl ⟨?gz31, ?hz31⟩) (by assumption) ?rz31
        case iz31 => (simp only [List.getElem?_toArray, List.getElem?_cons_zero, List.getElem?_cons_succ]; rfl)
        case qz31 => exact fun _ _ _ h => h
        case gz31 => rfl
        case hz31 => (intro w hSw; (simp only [Holds] at hSw); go_simp <;> with_reducible rfl)
        simp only [Act.put, List.setIfInBounds_toArray, List.set_cons_zero, List.set_cons_succ]
        refine wpAnyH_take (i := 15) (oi := ?oz32) (v := ?vz32) ?iz32 (by kernel_rfl) (by kernel_rfl) (by kernel_rfl) ?qz32 (Or.inl ⟨?gz32, ?hz32⟩) (by assumption) ?rz32
        case iz32 => (simp only [List.getElem?_toArray, List.getElem?_cons_zero, List.getElem?_cons_succ]; rfl)
        case qz32 => exact fun _ _ _ h => h
        case gz32 => rfl
        case hz32 => (intro w hSw; (simp only [Holds] at hSw); go_simp <;> with_reducible rfl)
        simp only [Act.put, List.setIfInBounds_toArray, List.set_cons_zero, List.set_cons_succ]
        refine wpAnyH_done (by kernel_rfl) ?_ _
        go_wp2
        go_ret
        exact ⟨ret_bool HD.out.symm, HB2.out.trans (Bc.out.mono HB2.out.size)⟩
      · have HS := Lib.hid (HST.out (HDA.out.2 ⟨hi, by simpa using hq⟩))
        refine wp_region_held_drew (S := Holds [(⟨N, 2, none⟩, .int .i64 t.d), (⟨tb2, off2 + k * 6 + 2, none⟩, .int .i64 s.d)]) (by kernel_rfl) HS0.out (fun hSn => ?_)
        have Bc := Lib.hid (Below.refl W.drew.heap.size W.drew)
        refine wpAnyH_take (i := 0) (oi := ?oz33) (v := ?vz33) ?iz33 (by kernel_rfl) (by kernel_rfl) (by kernel_rfl) ?qz33 (Or.inl ⟨?gz33, ?hz33⟩) (by assumption) ?rz33
        case iz33 => (simp only [List.getElem?_toArray, List.getElem?_cons_zero]; rfl)
        case qz33 => exact fun _ _ _ h => h
        case gz33 => rfl
        case hz33 => (intro w hSw; (simp only [Holds] at hSw); go_simp <;> with_reducible rfl)
        simp only [Act.put, List.setIfInBounds_toArray, List.set_cons_zero, List.set_cons_succ]
        refine wpAnyH_take (i := 1) (oi := ?oz34) (v := ?vz34) ?iz34 (by kernel_rfl) (by kernel_rfl) (by kernel_rfl) ?qz34 (Or.inl ⟨?gz34, ?hz34⟩) (by assumption) ?rz34
        case iz34 => (simp only [List.getElem?_toArray, List.getElem?_cons_zero, List.getElem?_cons_succ]; rfl)
        case qz34 => exact fun _ _ _ h => h
        case gz34 => rfl
        case hz34 => (intro w hSw; (simp only [Holds] at hSw); go_simp <;> with_reducible rfl)
        simp only [Act.put, List.setIfInBounds_toArray, List.set_cons_zero, List.set_cons_succ]
        refine wpAnyH_ready (rs := [2]) (by kernel_rfl) (by simp) ?_
        refine AllReadyH.cons (o := ?oz35) ?iz35 (fun K hK => ?kz35) AllReadyH.nil
        case iz35 => (simp only [List.getElem?_toArray, List.getElem?_cons_zero, List.getElem?_cons_succ]; rfl)
        go_simp
        refine held_more hK HS0.out hlt (Bc.out.alloc Bc.out.size _) (fun Bc hSn => ?_)
        refine wpAnyH_ready (rs := [3]) (by kernel_rfl) (by simp) ?_
        refine AllReadyH.cons (o := ?oz36) ?iz36 (fun K hK => ?kz36) AllReadyH.nil
        case iz36 => (simp only [List.getElem?_toArray, List.getElem?_cons_zero, List.getElem?_cons_succ]; rfl)
        go_simp
        refine (within1 _ 1 1000 t.d (by go_simp)).mono ?_
        rw [hi]
        rintro e w' ⟨rfl, rfl⟩
        refine held_more hK HS0.out hlt Bc.out (fun Bc hSn => ?_)
        refine wpAnyH_take (i := 4) (oi := ?oz37) (v := ?vz37) ?iz37 (by kernel_rfl) (by kernel_rfl) (by kernel_rfl) ?qz37 (Or.inl ⟨?gz37, ?hz37⟩) (by assumption) ?rz37
        case iz37 => (simp only [List.getElem?_toArray, List.getElem?_cons_zero, List.getElem?_cons_succ]; rfl)
        case qz37 => exact fun _ _ _ h => h
        case gz37 => rfl
        case hz37 => (intro w hSw; (simp only [Holds] at hSw); go_simp <;> with_reducible rfl)
        simp only [Act.put, List.setIfInBounds_toArray, List.set_cons_zero, List.set_cons_succ]
        refine wpAnyH_take (i := 5) (oi := ?oz38) (v := ?vz38) ?iz38 (by kernel_rfl) (by kernel_rfl) (by kernel_rfl) ?qz38 (Or.inl ⟨?gz38, ?hz38⟩) (by assumption) ?rz38
        case iz38 => (simp only [List.getElem?_toArray, List.getElem?_cons_zero, List.getElem?_cons_succ]; rfl)
        case qz38 => exact fun _ _ _ h => h
        case gz38 => rfl
        case hz38 => (intro w hSw; (simp only [Holds] at hSw); go_simp <;> with_reducible rfl)
        simp only [Act.put, List.setIfInBounds_toArray, List.set_cons_zero, List.set_cons_succ]
        refine wpAnyH_take (i := 6) (oi := ?oz39) (v := ?vz39) ?iz39 (by kernel_rfl) (by kernel_rfl) (by kernel_rfl) ?qz39 (Or.inl ⟨?gz39, ?hz39⟩) (by assumption) ?rz39
        case iz39 => (simp only [List.getElem?_toArray, List.getElem?_cons_zero, List.getElem?_cons_succ]; rfl)
        case qz39 => exact fun _ _ _ h => h
        case gz39 => rfl
        case hz39 => (intro w hSw; (simp only [Holds] at hSw); go_simp <;> with_reducible rfl)
        simp only [Act.put, List.setIfInBounds_toArray, List.set_cons_zero, List.set_cons_succ]
        refine wpAnyH_take (i := 7) (oi := ?oz40) (v := ?vz40) ?iz40 (by kernel_rfl) (by kernel_rfl) (by kernel_rfl) ?qz40 (Or.inl ⟨?gz40, ?hz40⟩) (by assumption) ?rz40
        case iz40 => (simp only [List.getElem?_toArray, List.getElem?_cons_zero, List.getElem?_cons_succ]; rfl)
        case qz40 => exact fun _ _ _ h => h
        case gz40 => rfl
        case hz40 => (intro w hSw; (simp only [Holds] at hSw); go_simp <;> with_reducible rfl)
        simp only [Act.put, List.setIfInBounds_toArray, List.set_cons_zero, List.set_cons_succ]
        refine wpAnyH_take (i := 8) (oi := ?oz41) (v := ?vz41) ?iz41 (by kernel_rfl) (by kernel_rfl) (by kernel_rfl) ?qz41 (Or.inl ⟨?gz41, ?hz41⟩) (by assumption) ?rz41
        case iz41 => (simp only [List.getElem?_toArray, List.getElem?_cons_zero, List.getElem?_cons_succ]; rfl)
        case qz41 => exact fun _ _ _ h => h
        case gz41 => rfl
        case hz41 => (intro w hSw; (simp only [Holds] at hSw); go_simp <;> with_reducible rfl)
        simp only [Act.put, List.setIfInBounds_toArray, List.set_cons_zero, List.set_cons_succ]
        refine wpAnyH_take (i := 9) (oi := ?oz42) (v := ?vz42) ?iz42 (by kernel_rfl) (by kernel_rfl) (by kernel_rfl) ?qz42 (Or.inl ⟨?gz42, ?hz42⟩) (by assumption) ?rz42
        case iz42 => (simp only [List.getElem?_toArray, List.getElem?_cons_zero, List.getElem?_cons_succ]; rfl)
        case qz42 => exact fun _ _ _ h => h
        case gz42 => rfl
        case hz42 => (intro w hSw; (simp only [Holds] at hSw); go_simp <;> with_reducible rfl)
        simp only [Act.put, List.setIfInBounds_toArray, List.set_cons_zero, List.set_cons_succ]
        refine wpAnyH_take (i := 10) (oi := ?oz43) (v := ?vz43) ?iz43 (by kernel_rfl) (by kernel_rfl) (by kernel_rfl) ?qz43 (Or.inl ⟨?gz43, ?hz43⟩) (by assumption) ?rz43
        case iz43 => (simp only [List.getElem?_toArray, List.getElem?_cons_zero, List.getElem?_cons_succ]; rfl)
        case qz43 => exact fun _ _ _ h => h
        case gz43 => rfl
        case hz43 => (intro w hSw; (simp only [Holds] at hSw); go_simp <;> with_reducible rfl)
        simp only [Act.put, List.setIfInBounds_toArray, List.set_cons_zero, List.set_cons_succ]
        refine wpAnyH_take (i := 11) (oi := ?oz44) (v := ?vz44) ?iz44 (by kernel_rfl) (by kernel_rfl) (by kernel_rfl) ?qz44 (Or.inl ⟨?gz44, ?hz44⟩) (by assumption) ?rz44
        case iz44 => (simp only [List.getElem?_toArray, List.getElem?_cons_zero, List.getElem?_cons_succ]; rfl)
        case qz44 => exact fun _ _ _ h => h
        case gz44 => rfl
        case hz44 => (intro w hSw; (simp only [Holds] at hSw); go_simp <;> with_reducible rfl)
        simp only [Act.put, List.setIfInBounds_toArray, List.set_cons_zero, List.set_cons_succ]
        refine wpAnyH_take (i := 12) (oi := ?oz45) (v := ?vz45) ?iz45 (by kernel_rfl) (by kernel_rfl) (by kernel_rfl) ?qz45 (Or.inl ⟨?gz45, ?hz45⟩) (by assumption) ?rz45
        case iz45 => (simp only [List.getElem?_toArray, List.getElem?_cons_zero, List.getElem?_cons_succ]; rfl)
        case qz45 => exact fun _ _ _ h => h
        case gz45 => rfl
        case hz45 => (intro w hSw; (simp only [Holds] at hSw); go_simp <;> with_reducible rfl)
        simp only [Act.put, List.setIfInBounds_toArray, List.set_cons_zero, List.set_cons_succ]
        refine wpAnyH_take (i := 13) (oi := ?oz46) (v := ?vz46) ?iz46 (by kernel_rfl) (by kernel_rfl) (by kernel_rfl) ?qz46 (Or.inl ⟨?gz46, ?hz46⟩) (by assumption) ?rz46
        case iz46 => (simp only [List.getElem?_toArray, List.getElem?_cons_zero, List.getElem?_cons_succ]; rfl)
        case qz46 => exact fun _ _ _ h => h
        case gz46 => rfl
        case hz46 => (intro w hSw; (simp only [Holds] at hSw); go_simp <;> with_reducible rfl)
        simp only [Act.put, List.setIfInBounds_toArray, List.set_cons_zero, List.set_cons_succ]
        refine wpAnyH_take (i := 14) (oi := ?oz47) (v := ?vz47) ?iz47 (by kernel_rfl) (by kernel_rfl) (by kernel_rfl) ?qz47 (Or.inl ⟨?gz47, ?hz47⟩) (by assumption) ?rz47
        case iz47 => (simp only [List.getElem?_toArray, List.getElem?_cons_zero, List.getElem?_cons_succ]; rfl)
        case qz47 => exact fun _ _ _ h => h
        case gz47 => rfl
        case hz47 => (intro w hSw; (simp only [Holds] at hSw); go_simp <;> with_reducible rfl)
        simp only [Act.put, List.setIfInBounds_toArray, List.set_cons_zero, List.set_cons_succ]
        refine wpAnyH_take (i := 15) (oi := ?oz48) (v := ?vz48) ?iz48 (by kernel_rfl) (by kernel_rfl) (by kernel_rfl) ?qz48 (Or.inl ⟨?gz48, ?hz48⟩) (by assumption) ?rz48
        case iz48 => (simp only [List.getElem?_toArray, List.getElem?_cons_zero, List.getElem?_cons_succ]; rfl)
        case qz48 => exact fun _ _ _ h => h
        case gz48 => rfl
        case hz48 => (intro w hSw; (simp only [Holds] at hSw); go_simp <;> with_reducible rfl)
        simp only [Act.put, List.setIfInBounds_toArray, List.set_cons_zero, List.set_cons_succ]
        refine wpAnyH_done (by kernel_rfl) ?_ _
        go_wp2
        go_roundw
        case rel => exact ⟨k + 1, by omega, by go_num, HS.out, HB2.out.trans (Bc.out.mono HB2.out.size)⟩
        case measure => simp [intOf]; omega
    · obtain rfl : k = T.length := by omega
      have HD := Lib.hid (show demOk T B = true from decide_eq_true HA.out)
      clear hlt hk
      go_wp2
      go_ret
      exact ⟨ret_bool HD.out.symm, HBW.out⟩
end Go.Proofs.Ytolaiccgbngomaa
