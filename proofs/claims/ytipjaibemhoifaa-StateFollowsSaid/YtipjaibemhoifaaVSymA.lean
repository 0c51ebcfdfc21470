/- Two runs are merged, one of which is one row. -/
import Derived.Test.YtipjaibemhoifaaVIns
namespace Go.Proofs.Ytipjaibemhoifaa
open Go.ChangeShapes Go.WideShapes Go.ChangeAt Go.RowKit

theorem split_at (D : List (List Int)) (t : Nat) (ht : t < D.length) : D = D.take t ++ D.getD t [] :: D.drop (t + 1) := by
  rw [List.getD_eq_getElem?_getD, List.getElem?_eq_getElem ht]
  simp
theorem sorted_upto {D : List (List Int)} (h : SortedK D) (t : Nat) (ht : t < D.length) : ∀ z ∈ D.take (t + 1), key z ≤ key (D.getD t []) := by
  intro z hz
  have e := split_at D t ht
  have h2 := h
  rw [SortedK, e] at h2
  rw [List.take_add_one, List.getElem?_eq_getElem ht] at hz
  simp only [List.mem_append, Option.toList_some, List.mem_singleton] at hz
  rcases hz with hz | rfl
  · exact (List.pairwise_append.1 h2).2.2 z hz _ (by simp)
  · rw [List.getD_eq_getElem?_getD, List.getElem?_eq_getElem ht]; simp
theorem sorted_from {D : List (List Int)} (h : SortedK D) (t : Nat) (ht : t < D.length) : ∀ z ∈ D.drop t, key (D.getD t []) ≤ key z := by
  intro z hz
  have e := split_at D t ht
  have h2 := h
  rw [SortedK, e] at h2
  have h3 := (List.pairwise_cons.1 (List.pairwise_append.1 h2).2.1).1
  rw [List.drop_eq_getElem_cons ht] at hz
  simp only [List.mem_cons] at hz
  rcases hz with rfl | hz
  · rw [List.getD_eq_getElem?_getD, List.getElem?_eq_getElem ht]; simp
  · exact h3 z hz
theorem SortedK.take {D : List (List Int)} (h : SortedK D) (t : Nat) : SortedK (D.take t) := List.Pairwise.sublist (List.take_sublist t D) h
theorem SortedK.drop {D : List (List Int)} (h : SortedK D) (t : Nat) : SortedK (D.drop t) := List.Pairwise.sublist (List.drop_sublist t D) h
/-- Behind a search by halves: what is ahead, what behind. -/
theorem below_at {D : List (List Int)} (h : SortedK D) {s : Nat} {c : Int} (hs : s ≤ D.length) (hb : s = 0 ∨ key (D.getD (s - 1) []) < c) : ∀ z ∈ D.take s, key z < c := by
  intro z hz
  rcases hb with rfl | hb
  · simp at hz
  · cases s with
    | zero => simp at hz
    | succ t =>
      have := sorted_upto h t (by omega) z hz
      simp at hb; rw [List.getD_eq_getElem?_getD] at this; omega
theorem upto_at {D : List (List Int)} (h : SortedK D) {s : Nat} {c : Int} (hs : s ≤ D.length) (hb : s = 0 ∨ key (D.getD (s - 1) []) ≤ c) : ∀ z ∈ D.take s, key z ≤ c := fun z hz => by
  have := below_at (c := c + 1) h hs (hb.imp id (fun h => by omega)) z hz
  omega
theorem from_at {D : List (List Int)} (h : SortedK D) {s : Nat} {c : Int} (hs : s ≤ D.length) (hb : s = D.length ∨ c ≤ key (D.getD s [])) : ∀ z ∈ D.drop s, c ≤ key z := by
  intro z hz
  rcases hb with rfl | hb
  · simp at hz
  · by_cases hl : s < D.length
    · have := sorted_from h s hl z hz
      omega
    · rw [List.drop_eq_nil_of_le (by omega)] at hz; simp at hz
theorem above_at {D : List (List Int)} (h : SortedK D) {s : Nat} {c : Int} (hs : s ≤ D.length) (hb : s = D.length ∨ c < key (D.getD s [])) : ∀ z ∈ D.drop s, c < key z := fun z hz => by
  have := from_at (c := c + 1) h hs (hb.imp id (fun h => by omega)) z hz
  omega
/-- One row ahead of a run goes behind all that is below it. -/
theorem stab_front {x : List Int} {D : List (List Int)} (h : SortedK D) {s : Nat} (hs : s ≤ D.length) (h1 : s = 0 ∨ key (D.getD (s - 1) []) < key x) (h2 : s = D.length ∨ key x ≤ key (D.getD s [])) : Stab ([x] ++ D) (D.take s ++ x :: D.drop s) := by
  have a1 := below_at h hs h1
  have a2 := from_at h hs h2
  have := stab_merge (A1 := []) (A2 := [x]) (B1 := D.take s) (B2 := D.drop s) (Y1 := D.take s) (Y2 := x :: D.drop s) (stab_self (h.take s))
    (stab_self (List.pairwise_cons.2 ⟨a2, h.drop s⟩)) (by simp) (fun y hy z hz => by have := a1 y hy; have := a2 z hz; omega) (by simp) (fun y hy z hz => by simp at hz; subst hz; exact a1 y hy)
  simpa using this
theorem stab_behind {y : List Int} {A : List (List Int)} (h : SortedK A) {s : Nat} (hs : s ≤ A.length) (h1 : s = 0 ∨ key (A.getD (s - 1) []) ≤ key y) (h2 : s = A.length ∨ key y < key (A.getD s [])) : Stab (A ++ [y]) (A.take s ++ y :: A.drop s) := by
  have a1 := upto_at h hs h1
  have a2 := above_at h hs h2
  exact stab_snoc (by rw [List.take_append_drop]; exact stab_self h) a1 a2
theorem getD_in (P D S : List (List Int)) (t i : Nat) (ht : t < D.length) (hi : i = P.length + t) : (P ++ (D ++ S)).getD i [] = D.getD t [] := by
  subst hi
  rw [List.getD_eq_getElem?_getD, List.getD_eq_getElem?_getD, List.getElem?_append_right (by omega), show P.length + t - P.length = t by omega, List.getElem?_append_left ht]

set_option maxRecDepth 1000000 in
set_option maxHeartbeats 4000000 in
theorem symMerge_front {w : World} {B g n cap : Nat} (P D S : List (List Int)) (x : List Int) (a m b : Nat) (ha : a = P.length) (hm : m = a + 1) (hb : b = m + D.length) (hf : Full (P ++ ([x] ++ (D ++ S)))) (hs : SortedK D)
    (h : OwnLL w B (.slice (some ⟨g, 0, none⟩) n cap) (P ++ ([x] ++ (D ++ S)))) (hn : n ≤ 1000000) :
    Calls Try.prog 110 #[.slice (some ⟨g, 0, none⟩) n cap, .int .i64 a, .int .i64 m, .int .i64 b, .func (.func 79) #[] #[]] w fun e w' => e = .returned (.tuple #[]) ∧ (∃ Y, Stab ([x] ++ D) Y ∧ OwnLL w' B (.slice (some ⟨g, 0, none⟩) n cap) (P ++ (Y ++ S))) ∧ Below B w w' := by
  have hlen := h.num
  simp only [List.length_append, List.length_singleton] at hlen
  have H := Lib.hid h
  have HF := Lib.hid hf
  have HS := Lib.hid hs
  have HA := Lib.hid ha
  have HM := Lib.hid hm
  have HB := Lib.hid hb
  have HL := Lib.hid hlen
  have e1 : IntKind.i64.wrap ((m : Int) - (a : Int)) = 1 := by rw [IntWalk.i64_in _ (by omega)]; omega
  have hmn : m ≤ n := by omega
  have hbn : b ≤ n := by omega
  clear h hf hs ha hm hb hlen
  go_enter Try.func110, Try.ntmps110
  go_wp2_with fail
  go_loopw [10, 11] (fun i j wr => ∃ (s r : Nat), i = .int .i64 ((m + s : Nat) : Int) ∧ j = .int .i64 ((m + r : Nat) : Int) ∧ s ≤ r ∧ r ≤ D.length ∧ (s = 0 ∨ key (D.getD (s - 1) []) < key x) ∧ (r = D.length ∨ key x ≤ key (D.getD r [])) ∧ OwnLL wr B (.slice (some ⟨g, 0, none⟩) n cap) (P ++ ([x] ++ (D ++ S))) ∧ Below B w wr) (fun i j _ => (intOf j).toNat - (intOf i).toNat)
  case atStart => exact ⟨0, D.length, by simp, by rw [HB.out], by omega, Nat.le_refl _, .inl rfl, .inl rfl, H.out, Below.refl _ _⟩
  case round =>
    obtain ⟨s, r, rfl, rfl, hsr, hr, h1, h2, ho, hbw⟩ := hrel
    have HO := Lib.hid ho
    have HBW := Lib.hid hbw
    have H1 := Lib.hid h1
    have H2 := Lib.hid h2
    have hrl : m + r ≤ b := by have := HB.out; omega
    obtain ⟨i, hi⟩ : ∃ i, i = m + s := ⟨_, rfl⟩
    obtain ⟨j, hj⟩ : ∃ j, j = m + r := ⟨_, rfl⟩
    rw [← hi, ← hj]
    have HI := Lib.hid hi
    have HJ := Lib.hid hj
    have hij : i ≤ n ∧ j ≤ n := by omega
    have HLen := Lib.hid (show (P ++ ([x] ++ (D ++ S))).length = n from ho.num.symm)
    by_cases hlt : i < j
    · obtain ⟨c, hc⟩ : ∃ c, c = (i + j) / 2 := ⟨_, rfl⟩
      obtain ⟨t, ht⟩ : ∃ t, t = c - m := ⟨_, rfl⟩
      have HT := Lib.hid (show t < r ∧ s ≤ t ∧ c = m + t by omega)
      have hcn : c < n := by omega
      have hcj : c < j := by omega
      have hic : i ≤ c := by omega
      have e2 : IntKind.i64.wrap ((i : Int) + (j : Int)) = (i : Int) + (j : Int) := IntWalk.i64_in _ (by omega)
      have e3 : ((i : Int) + (j : Int)) / 2 = (c : Int) := by omega
      have han : a < n := by have := HM.out; omega
      obtain ⟨ua, ul, uc, hu⟩ := ho.sl c (by rw [HLen.out]; exact hcn)
      obtain ⟨va, vl, vc, hv⟩ := ho.sl a (by rw [HLen.out]; exact han)
      have hk := ho.cmp HF.out c a (by rw [HLen.out]; exact hcn) (by rw [HLen.out]; exact han) _ _ hu hv
      have g1 : (P ++ ([x] ++ (D ++ S))).getD a [] = x := getD_mid _ _ _ _ HA.out
      have g2 : (P ++ ([x] ++ (D ++ S))).getD c [] = D.getD t [] := by
        rw [show P ++ ([x] ++ (D ++ S)) = (P ++ [x]) ++ (D ++ S) by simp]
        exact getD_in _ _ _ t c (by have := HT.out; omega) (by have := HT.out; have := HM.out; have := HA.out; simp; omega)
      rw [g1, g2] at hk
      have hdec := cmpI_neg (key (D.getD t [])) (key x)
      generalize cmpI (key (D.getD t [])) (key x) = q at *
      clear ho hbw h1 h2 hi hj hc ht hij g1 g2
      by_cases hq : q < 0
      · have HXY := Lib.hid (show key (D.getD t []) < key x by simpa [hq] using hdec)
        clear hdec
        go_wp2_with fail
        go_quiet ((go_at_call 79; exact Calls.quiet_of (hk _)))
        have HO2 := Lib.hid (HO.out.drew nq)
        have HB2 := Lib.hid (below_drewN HBW.out nq)
        clear hu hv hk
        generalize wr.drewN nq = w2 at *
        go_wp2_with fail
        go_roundw
        case rel => exact ⟨t + 1, r, by have := HT.out; rw [show m + (t + 1) = c + 1 by omega]; go_num, by rw [← HJ.out], by have := HT.out; omega, hr, .inr HXY.out, H2.out, HO2.out, HB2.out⟩
        case measure => simp [intOf]; omega
      · have HXY := Lib.hid (show ¬ key (D.getD t []) < key x by simpa [hq] using hdec)
        clear hdec
        go_wp2_with fail
        go_quiet ((go_at_call 79; exact Calls.quiet_of (hk _)))
        have HO2 := Lib.hid (HO.out.drew nq)
        have HB2 := Lib.hid (below_drewN HBW.out nq)
        clear hu hv hk
        generalize wr.drewN nq = w2 at *
        go_wp2_with fail
        go_roundw
        case rel => exact ⟨s, t, by rw [← HI.out], by have := HT.out; rw [← this.2.2], by have := HT.out; omega, by have := HT.out; omega, H1.out, .inr (by have := HXY.out; omega), HO2.out, HB2.out⟩
        case measure => simp [intOf]; omega
    · obtain rfl : s = r := by omega
      have HST := Lib.hid (stab_front HS.out hr h1 h2)
      obtain ⟨q, hq⟩ : ∃ q, q = a + s := ⟨_, rfl⟩
      have hiq : i = q + 1 := by have := HM.out; omega
      have e2 : IntKind.i64.wrap ((i : Int) - 1) = (q : Int) := by rw [IntWalk.i64_in _ (by omega)]; omega
      have hji : j = i := by omega
      have hqn : q < n := by omega
      obtain ⟨D1, D2, hD, hD1, hD2⟩ : ∃ D1 D2, D = D1 ++ D2 ∧ D1 = D.take s ∧ D2 = D.drop s := ⟨_, _, (List.take_append_drop s D).symm, rfl, rfl⟩
      rw [← hD1, ← hD2] at HST
      have HD := Lib.hid hD
      have HDL := Lib.hid (show D1.length = s by rw [hD1, List.length_take]; omega)
      have HQ := Lib.hid hq
      clear ho hbw h1 h2 hi hj hij hD hD1 hD2 hq hiq hlt
      subst hji
      go_wp2_with fail
      clear e2
      go_loopw [13] (fun kv wr => ∃ (k : Nat) (Dt Dr : List (List Int)), kv = .int .i64 k ∧ D1 = Dt ++ Dr ∧ k = a + Dt.length ∧ OwnLL wr B (.slice (some ⟨g, 0, none⟩) n cap) (P ++ (Dt ++ x :: (Dr ++ (D2 ++ S)))) ∧ Below B w wr) (fun k _ => n - (intOf k).toNat)
      case atStart => exact ⟨a, [], D1, rfl, rfl, rfl, by have := HO.out; rw [HD.out] at this; simpa using this, HBW.out⟩
      case round =>
        obtain ⟨k, Dt, Dr, rfl, hDD, hk, ho, hbw⟩ := hrel
        have HO := Lib.hid ho
        have HBW := Lib.hid hbw
        have HDD := Lib.hid hDD
        have HK := Lib.hid hk
        have hlen2 : D1.length = Dt.length + Dr.length := by rw [hDD]; simp
        have hkq : k ≤ q := by have := HDL.out; have := HQ.out; omega
        have e2 : IntKind.i64.wrap ((j : Int) - 1) = (q : Int) := by have := HJ.out; have := HM.out; have := HQ.out; rw [IntWalk.i64_in _ (by omega)]; omega
        by_cases hlt : k < q
        · obtain ⟨y, Dr, rfl⟩ : ∃ y Z, Dr = y :: Z := by
            cases Dr with
            | nil => have := HDL.out; have := HQ.out; simp at hlen2; omega
            | cons y Z => exact ⟨y, Z, rfl⟩
          obtain ⟨k1, hk1⟩ : ∃ k1, k1 = k + 1 := ⟨_, rfl⟩
          have hPA : a = P.length := HA.out
          have hall : (P ++ (Dt ++ x :: (y :: Dr ++ (D2 ++ S)))).length = n := ho.num.symm
          have hk1n : k1 < n := by omega
          have hkn : k < n := by omega
          obtain ⟨ua, ul, uc, hu⟩ := ho.sl k (by omega)
          obtain ⟨va, vl, vc, hv⟩ := ho.sl k1 (by omega)
          obtain ⟨z, hz⟩ := cell?_setCell_some (w := wr) (p := ⟨g, k, none⟩) (x := .slice va vl vc) (q := ⟨g, k1, none⟩) hv
          have f1 := ho.free k
          have f2 := ho.free k1
          have HSW := Lib.hid (ho.swapped k k1 (by omega) (by omega) _ _ hu hv)
          have HE := Lib.hid (show swapL (P ++ (Dt ++ x :: (y :: Dr ++ (D2 ++ S)))) k k1 = P ++ ((Dt ++ [y]) ++ x :: (Dr ++ (D2 ++ S))) by
            have := swap_split (P ++ Dt) [] (Dr ++ (D2 ++ S)) x y k k1 (by simp; omega) (by simp; omega)
            simp only [List.append_assoc, List.cons_append, List.nil_append] at this ⊢
            exact this)
          have e4 : IntKind.i64.wrap ((k : Int) + 1) = (k1 : Int) := by rw [IntWalk.i64_in _ (by omega)]; omega
          have HK1 := Lib.hid hk1
          have hk1l : k < k1 := by omega
          clear ho hbw hDD hk hlen2 hk1 hPA hall
          go_wp2_with fail
          go_region
          go_wp2_with fail
          go_roundw
          case rel => exact ⟨k1, Dt ++ [y], Dr, rfl, by rw [HDD.out]; simp, by have := HK1.out; have := HK.out; simp; omega, by
            have := HSW.out.1
            rw [HE.out] at this
            exact this.drew 1, (HBW.out.trans HSW.out.2).drew⟩
          case measure => simp [intOf]; omega
        · have hlt2 : ¬ (k : Int) < (q : Int) := by omega
          obtain rfl : Dr = [] := List.eq_nil_of_length_eq_zero (by have := HDL.out; have := HQ.out; omega)
          have HDD2 := Lib.hid (show D1 = Dt by have := HDD.out; simpa using this)
          clear ho hbw hDD hk hlen2
          go_wp2
          (try simp only [Exit.inBlock, Exit.then]); refine bodyPost_ret (results_none rfl _ _ _) rfl ?_
          exact ⟨rfl, ⟨_, HST.out, by have := HO.out; rw [HDD2.out]; simpa using this⟩, HBW.out⟩
end Go.Proofs.Ytipjaibemhoifaa
