/- Two runs are merged, the second of which is one row. -/
import Derived.Test.YtipjaibemhoifaaVSymA
namespace Go.Proofs.Ytipjaibemhoifaa
open Go.ChangeShapes Go.WideShapes Go.ChangeAt Go.RowKit

set_option maxRecDepth 1000000 in
set_option maxHeartbeats 4000000 in
theorem symMerge_behind {w : World} {B g n cap : Nat} (P A S : List (List Int)) (y : List Int) (a m b : Nat) (ha : a = P.length) (hm : m = a + A.length) (hb : b = m + 1) (hA2 : 2 ≤ A.length) (hf : Full (P ++ (A ++ y :: S))) (hs : SortedK A)
    (h : OwnLL w B (.slice (some ⟨g, 0, none⟩) n cap) (P ++ (A ++ y :: S))) (hn : n ≤ 1000000) :
    Calls Try.prog 110 #[.slice (some ⟨g, 0, none⟩) n cap, .int .i64 a, .int .i64 m, .int .i64 b, .func (.func 79) #[] #[]] w fun e w' => e = .returned (.tuple #[]) ∧ (∃ Y, Stab (A ++ [y]) Y ∧ OwnLL w' B (.slice (some ⟨g, 0, none⟩) n cap) (P ++ (Y ++ S))) ∧ Below B w w' := by
  have hlen := h.num
  simp only [List.length_append, List.length_cons] at hlen
  have H := Lib.hid h
  have HF := Lib.hid hf
  have HS := Lib.hid hs
  have HA := Lib.hid ha
  have HM := Lib.hid hm
  have HB := Lib.hid hb
  have HL := Lib.hid hlen
  obtain ⟨al, hal⟩ : ∃ al, al = A.length := ⟨_, rfl⟩
  have e1 : IntKind.i64.wrap ((m : Int) - (a : Int)) = (al : Int) := by rw [IntWalk.i64_in _ (by omega)]; omega
  have e0 : ((al : Int) == 1) = false := by simp; omega
  have e2 : IntKind.i64.wrap ((b : Int) - (m : Int)) = 1 := by rw [IntWalk.i64_in _ (by omega)]; omega
  have hmn : m < n := by omega
  have hbn : b ≤ n := by omega
  have ham : a ≤ m := by omega
  clear h hf hs ha hm hb hlen hal
  go_enter Try.func110, Try.ntmps110
  go_wp2_with fail
  clear e1 e0 e2
  go_loopw [14, 15] (fun i j wr => ∃ (s r : Nat), i = .int .i64 ((a + s : Nat) : Int) ∧ j = .int .i64 ((a + r : Nat) : Int) ∧ s ≤ r ∧ r ≤ A.length ∧ (s = 0 ∨ key (A.getD (s - 1) []) ≤ key y) ∧ (r = A.length ∨ key y < key (A.getD r [])) ∧ OwnLL wr B (.slice (some ⟨g, 0, none⟩) n cap) (P ++ (A ++ y :: S)) ∧ Below B w wr) (fun i j _ => (intOf j).toNat - (intOf i).toNat)
  case atStart => exact ⟨0, A.length, by simp, by rw [HM.out], by omega, Nat.le_refl _, .inl rfl, .inl rfl, H.out, Below.refl _ _⟩
  case round =>
    obtain ⟨s, r, rfl, rfl, hsr, hr, h1, h2, ho, hbw⟩ := hrel
    have HO := Lib.hid ho
    have HBW := Lib.hid hbw
    have H1 := Lib.hid h1
    have H2 := Lib.hid h2
    have hrl : a + r ≤ m := by have := HM.out; omega
    obtain ⟨i, hi⟩ : ∃ i, i = a + s := ⟨_, rfl⟩
    obtain ⟨j, hj⟩ : ∃ j, j = a + r := ⟨_, rfl⟩
    rw [← hi, ← hj]
    have HI := Lib.hid hi
    have HJ := Lib.hid hj
    have hij : i ≤ n ∧ j ≤ n := by omega
    have HLen := Lib.hid (show (P ++ (A ++ y :: S)).length = n from ho.num.symm)
    by_cases hlt : i < j
    · obtain ⟨c, hc⟩ : ∃ c, c = (i + j) / 2 := ⟨_, rfl⟩
      obtain ⟨t, ht⟩ : ∃ t, t = c - a := ⟨_, rfl⟩
      have HT := Lib.hid (show t < r ∧ s ≤ t ∧ c = a + t by omega)
      have hcn : c < n := by omega
      have hcj : c < j := by omega
      have hic : i ≤ c := by omega
      have e2 : IntKind.i64.wrap ((i : Int) + (j : Int)) = (i : Int) + (j : Int) := IntWalk.i64_in _ (by omega)
      have e3 : ((i : Int) + (j : Int)) / 2 = (c : Int) := by omega
      obtain ⟨ua, ul, uc, hu⟩ := ho.sl m (by rw [HLen.out]; exact hmn)
      obtain ⟨va, vl, vc, hv⟩ := ho.sl c (by rw [HLen.out]; exact hcn)
      have hk := ho.cmp HF.out m c (by rw [HLen.out]; exact hmn) (by rw [HLen.out]; exact hcn) _ _ hu hv
      have g1 : (P ++ (A ++ y :: S)).getD m [] = y := by
        rw [← List.append_assoc]
        exact getD_mid _ _ _ _ (by have := HA.out; have := HM.out; simp; omega)
      have g2 : (P ++ (A ++ y :: S)).getD c [] = A.getD t [] := getD_in _ _ _ t c (by have := HT.out; omega) (by have := HT.out; have := HA.out; omega)
      rw [g1, g2] at hk
      have hdec := cmpI_neg (key y) (key (A.getD t []))
      generalize cmpI (key y) (key (A.getD t [])) = q at *
      clear ho hbw h1 h2 hi hj hc ht hij g1 g2
      by_cases hq : q < 0
      · have HXY := Lib.hid (show key y < key (A.getD t []) by simpa [hq] using hdec)
        clear hdec
        go_wp2_with fail
        go_quiet ((go_at_call 79; exact Calls.quiet_of (hk _)))
        have HO2 := Lib.hid (HO.out.drew nq)
        have HB2 := Lib.hid (below_drewN HBW.out nq)
        clear hu hv hk
        generalize wr.drewN nq = w2 at *
        go_wp2_with fail
        go_roundw
        case rel => exact ⟨s, t, by rw [← HI.out], by have := HT.out; rw [← this.2.2], by have := HT.out; omega, by have := HT.out; omega, H1.out, .inr HXY.out, HO2.out, HB2.out⟩
        case measure => simp [intOf]; omega
      · have hq2 : 0 ≤ q := by omega
        have hq3 : decide (q < 0) = false := by simpa using hq2
        have hq4 : decide (0 ≤ q) = true := by simpa using hq2
        have HXY := Lib.hid (show ¬ key y < key (A.getD t []) by simpa [hq] using hdec)
        clear hdec
        go_wp2_with fail
        go_quiet ((go_at_call 79; exact Calls.quiet_of (hk _)))
        have HO2 := Lib.hid (HO.out.drew nq)
        have HB2 := Lib.hid (below_drewN HBW.out nq)
        clear hu hv hk
        generalize wr.drewN nq = w2 at *
        go_wp2_with fail
        go_roundw
        case rel => exact ⟨t + 1, r, by have := HT.out; rw [show a + (t + 1) = c + 1 by omega]; go_num, by rw [← HJ.out], by have := HT.out; omega, hr, .inr (by have := HXY.out; simp only [Nat.add_sub_cancel]; omega), H2.out, HO2.out, HB2.out⟩
        case measure => simp [intOf]; omega
    · obtain rfl : s = r := by omega
      have HST := Lib.hid (stab_behind HS.out hr h1 h2)
      have hji : j = i := by omega
      obtain ⟨A1, A2, hD, hD1, hD2⟩ : ∃ A1 A2, A = A1 ++ A2 ∧ A1 = A.take s ∧ A2 = A.drop s := ⟨_, _, (List.take_append_drop s A).symm, rfl, rfl⟩
      rw [← hD1, ← hD2] at HST
      have HD := Lib.hid hD
      have HDL := Lib.hid (show A1.length = s by rw [hD1, List.length_take]; omega)
      clear ho hbw h1 h2 hi hj hij hD hD1 hD2 hlt
      subst hji
      go_wp2_with fail
      go_loopw [17] (fun kv wr => ∃ (k : Nat) (At Ar : List (List Int)), kv = .int .i64 k ∧ A2 = At ++ Ar ∧ k = a + (A1.length + At.length) ∧ OwnLL wr B (.slice (some ⟨g, 0, none⟩) n cap) (P ++ (A1 ++ (At ++ y :: (Ar ++ S)))) ∧ Below B w wr) (fun k _ => (intOf k).toNat)
      case atStart => exact ⟨m, A2, [], rfl, by simp, by have := HM.out; have h2 := HD.out; rw [h2] at this; simpa using this, by have := HO.out; rw [HD.out] at this; simpa using this, HBW.out⟩
      case round =>
        obtain ⟨k, At, Ar, rfl, hDD, hk, ho, hbw⟩ := hrel
        have HO := Lib.hid ho
        have HBW := Lib.hid hbw
        have HDD := Lib.hid hDD
        have HK := Lib.hid hk
        have hjs : j = a + A1.length := by have := HDL.out; have := HJ.out; omega
        have hall : (P ++ (A1 ++ (At ++ y :: (Ar ++ S)))).length = n := ho.num.symm
        by_cases hlt : j < k
        · obtain ⟨Z, z0, rfl⟩ : ∃ Z z, At = Z ++ [z] := by
            rcases List.eq_nil_or_concat At with h | ⟨Z, y, h⟩
            · subst h; simp at hk; omega
            · exact ⟨Z, y, by simpa using h⟩
          obtain ⟨kp, hkp⟩ : ∃ kp, kp = a + (A1.length + Z.length) := ⟨_, rfl⟩
          have hkk : k = kp + 1 := by simp at hk; omega
          have hPA : a = P.length := HA.out
          have hkn : k < n := by simp at hall hk; omega
          have hkpn : kp < n := by omega
          obtain ⟨ua, ul, uc, hu⟩ := ho.sl k (by omega)
          obtain ⟨va, vl, vc, hv⟩ := ho.sl kp (by omega)
          obtain ⟨z, hz⟩ := cell?_setCell_some (w := wr) (p := ⟨g, k, none⟩) (x := .slice va vl vc) (q := ⟨g, kp, none⟩) hv
          have f1 := ho.free k
          have f2 := ho.free kp
          have HSW := Lib.hid (ho.swapped k kp (by omega) (by omega) _ _ hu hv)
          have HE := Lib.hid (show swapL (P ++ (A1 ++ (Z ++ [z0] ++ y :: (Ar ++ S)))) k kp = P ++ (A1 ++ (Z ++ y :: ((z0 :: Ar) ++ S))) by
            have := swap_split (P ++ (A1 ++ Z)) [] (Ar ++ S) z0 y kp k (by simp; omega) (by simp; omega)
            rw [swapL_comm _ _ _ (by omega)]
            simp only [List.append_assoc, List.cons_append, List.nil_append] at this ⊢
            exact this)
          have e4 : IntKind.i64.wrap ((k : Int) - 1) = (kp : Int) := by rw [IntWalk.i64_in _ (by omega)]; omega
          have HK1 := Lib.hid hkk
          have HKP := Lib.hid hkp
          clear ho hbw hDD hk hkk hkp hPA hall hjs
          go_wp2_with fail
          go_region
          go_wp2_with fail
          go_roundw
          case rel => exact ⟨kp, Z, z0 :: Ar, rfl, by rw [HDD.out]; simp, HKP.out, by
            have := HSW.out.1
            rw [HE.out] at this
            exact this.drew 1, (HBW.out.trans HSW.out.2).drew⟩
          case measure => simp [intOf]; have := HK1.out; omega
        · have hlt2 : ¬ (j : Int) < (k : Int) := by omega
          obtain rfl : At = [] := List.eq_nil_of_length_eq_zero (by omega)
          have HDD2 := Lib.hid (show A2 = Ar by have := HDD.out; simpa using this)
          clear ho hbw hDD hk hall hjs
          go_wp2
          (try simp only [Exit.inBlock, Exit.then]); refine bodyPost_ret (results_none rfl _ _ _) rfl ?_
          exact ⟨rfl, ⟨_, HST.out, by have := HO.out; rw [HDD2.out]; simpa using this⟩, HBW.out⟩
end Go.Proofs.Ytipjaibemhoifaa
