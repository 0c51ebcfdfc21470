/- The insertion of rows, one by one. -/
import Derived.Test.YtipjaibemhoifaaVRot
namespace Go.Proofs.Ytipjaibemhoifaa
open Go.ChangeShapes Go.WideShapes Go.ChangeAt Go.RowKit

/-- No row is empty. -/
def Full (L : List (List Int)) : Prop := ∀ l ∈ L, l ≠ []
theorem Full.at {L : List (List Int)} (h : Full L) {i : Nat} (hi : i < L.length) : L.getD i [] ≠ [] := by
  rw [List.getD_eq_getElem?_getD, List.getElem?_eq_getElem hi]
  exact h _ (List.getElem_mem hi)
/-- The closure at two places of rows that a call has made. -/
theorem OwnLL.cmp {w : World} {B g n cap : Nat} {L : List (List Int)} (h : OwnLL w B (.slice (some ⟨g, 0, none⟩) n cap) L) (hf : Full L) (i j : Nat) (hi : i < L.length) (hj : j < L.length) (u v : Value) (hu : w.cell? ⟨g, i, none⟩ = some u) (hv : w.cell? ⟨g, j, none⟩ = some v) :
    ∀ m, Calls Try.prog 79 #[u, v] (w.drewN m) fun e w' => e = .returned (.int .i64 (cmpI (key (L.getD i [])) (key (L.getD j [])))) ∧ ∃ q, w' = (w.drewN m).drewN q := by
  intro m
  obtain ⟨u', hu', ru⟩ := h.has i hi
  obtain ⟨v', hv', rv⟩ := h.has j hj
  obtain rfl : u' = u := by rw [hu] at hu'; simpa using hu'.symm
  obtain rfl : v' = v := by rw [hv] at hv'; simpa using hv'.symm
  exact cmp_any (ru.below (below_drewN (Below.refl _ w) m)) (rv.below (below_drewN (Below.refl _ w) m)) (hf.at hi) (hf.at hj)
theorem getD_mid (A C : List (List Int)) (x : List Int) (i : Nat) (hi : i = A.length) : (A ++ x :: C).getD i [] = x := by
  subst hi; simp [List.getD_eq_getElem?_getD]
theorem own_fv : (79 : Nat) = 79 := rfl
set_option maxRecDepth 1000000 in
set_option maxHeartbeats 4000000 in
theorem insertion_any {w : World} {B g n cap : Nat} (P X S : List (List Int)) (a b : Nat) (ha : a = P.length) (hb : b = P.length + X.length) (hf : Full (P ++ (X ++ S)))
    (h : OwnLL w B (.slice (some ⟨g, 0, none⟩) n cap) (P ++ (X ++ S))) (hn : n ≤ 1000000) :
    Calls Try.prog 109 #[.slice (some ⟨g, 0, none⟩) n cap, .int .i64 a, .int .i64 b, .func (.func 79) #[] #[]] w fun e w' => e = .returned (.tuple #[]) ∧ (∃ Y, Stab X Y ∧ OwnLL w' B (.slice (some ⟨g, 0, none⟩) n cap) (P ++ (Y ++ S))) ∧ Below B w w' := by
  have hlen := h.num
  simp only [List.length_append] at hlen
  have HF := Lib.hid hf
  have HA := Lib.hid ha
  have HB := Lib.hid hb
  have HL := Lib.hid hlen
  have H := Lib.hid h
  have hbn : b ≤ 1000000 := by omega
  have hab : a ≤ b := by omega
  -- nothing at all is in order
  have e0 : IntKind.i64.wrap ((a : Int) + 1) = ((a + 1 : Nat) : Int) := by rw [IntWalk.i64_in _ (by omega)]; simp
  obtain ⟨a1, ha1⟩ : ∃ x, x = a + 1 := ⟨_, rfl⟩
  rw [← ha1] at e0
  have HA1 := Lib.hid ha1
  clear h hf ha hb hlen ha1
  go_enter Try.func109, Try.ntmps109
  go_wp2_with fail
  clear e0
  go_loopw [8] (fun i wr => ∃ (k : Nat) (X1 X2 Y : List (List Int)), i = .int .i64 k ∧ X = X1 ++ X2 ∧ ((k = a + X1.length ∧ 1 ≤ k ∧ k ≤ b) ∨ (X = [] ∧ k = a + 1)) ∧ k ≤ b + 1 ∧ Stab X1 Y ∧ OwnLL wr B (.slice (some ⟨g, 0, none⟩) n cap) (P ++ (Y ++ (X2 ++ S))) ∧ Below B w wr) (fun i _ => b + 2 - (intOf i).toNat)
  case atStart =>
    cases hX : X with
    | nil => exact ⟨a1, [], [], [], rfl, rfl, .inr ⟨rfl, HA1.out⟩, by have := HA1.out; omega, stab_nil, by have := H.out; rw [hX] at this; simpa using this, Below.refl _ _⟩
    | cons x X => exact ⟨a1, [x], X, [x], rfl, rfl, .inl ⟨HA1.out, by have := HA1.out; omega, by have := HB.out; have := HA.out; have := HA1.out; rw [hX] at *; simp at *; omega⟩, by have := HA1.out; omega, stab_one x, by have := H.out; rw [hX] at this; simpa using this, Below.refl _ _⟩
  case round =>
    obtain ⟨k, X1, X2, Y, rfl, hX, hk, hkb, hst, ho, hbw⟩ := hrel
    have HO := Lib.hid ho
    have HBW := Lib.hid hbw
    have HST := Lib.hid hst
    have HX := Lib.hid hX
    have HK := Lib.hid hk
    have hk0 : k ≤ 1000001 := by omega
    clear ho hbw hst hX hk
    by_cases hlt : k < b
    · obtain ⟨hk, hk1, hkb2⟩ : k = a + X1.length ∧ 1 ≤ k ∧ k ≤ b := by
        rcases HK.out with h | ⟨h, h2⟩
        · exact h
        · have := HB.out; have := HA.out; rw [h] at *; simp at *; omega
      obtain ⟨x, X2, rfl⟩ : ∃ x Z, X2 = x :: Z := by
        cases X2 with
        | nil => have := HX.out; have := HB.out; have := HA.out; rw [HX.out] at *; simp at *; omega
        | cons x Z => exact ⟨x, Z, rfl⟩
      have HK1 := Lib.hid hk
      obtain ⟨wo, hwo⟩ : ∃ wo, wo = wr := ⟨_, rfl⟩
      subst hwo
      clear hk
      go_wp2_with fail
      go_loopw [9] (fun jv wr => ∃ (j : Nat) (Y1 Y2 : List (List Int)), jv = .int .i64 j ∧ Y = Y1 ++ Y2 ∧ j = a + Y1.length ∧ (∀ y ∈ Y2, key x < key y) ∧ OwnLL wr B (.slice (some ⟨g, 0, none⟩) n cap) (P ++ (Y1 ++ x :: (Y2 ++ (X2 ++ S)))) ∧ Below B w wr) (fun j _ => (intOf j).toNat)
      case atStart => exact ⟨k, Y, [], rfl, by simp, by have := HST.out.len; have := HK1.out; omega, by simp, by have := HO.out; simpa using this, HBW.out⟩
      case round =>
        obtain ⟨j, Y1, Y2, rfl, hY, hj, hbig, ho, hbw⟩ := hrel
        have HO := Lib.hid ho
        have HBW := Lib.hid hbw
        have HY := Lib.hid hY
        have HJ := Lib.hid hj
        have HG := Lib.hid hbig
        have hPY : (P ++ (Y1 ++ x :: (Y2 ++ (X2 ++ S)))).length = n := by have := HO.out.num; exact this.symm
        have hyl : Y.length = X1.length := HST.out.len
        have hFF : Full (P ++ (Y1 ++ x :: (Y2 ++ (X2 ++ S)))) := by
          intro l hl
          refine HF.out l ?_
          have hm := fun z => HST.out.mem z
          rw [HX.out]
          rw [HY.out] at hm
          simp only [List.mem_append, List.mem_cons] at hl hm ⊢
          rcases hl with h | h | h | h | h | h
          · exact .inl h
          · exact .inr (.inl (.inl ((hm l).1 (.inl h))))
          · exact .inr (.inl (.inr (.inl h)))
          · exact .inr (.inl (.inl ((hm l).1 (.inr h))))
          · exact .inr (.inl (.inr (.inr h)))
          · exact .inr (.inr h)
        have hj0 : j ≤ 1000000 := by have := HA.out; simp at hPY; omega
        have HST2 := Lib.hid (show (∀ y ∈ Y1, key y ≤ key x) → Stab (X1 ++ [x]) (Y1 ++ x :: Y2) from fun hh => stab_snoc (by rw [← HY.out]; exact HST.out) hh HG.out)
        by_cases hja : a < j
        · obtain ⟨Z, y, rfl⟩ : ∃ Z y, Y1 = Z ++ [y] := by
            rcases List.eq_nil_or_concat Y1 with h | ⟨Z, y, h⟩
            · subst h; simp at hj; omega
            · exact ⟨Z, y, by simpa using h⟩
          obtain ⟨jp, hjp⟩ : ∃ jp, jp = a + Z.length := ⟨_, rfl⟩
          have hjj : j = jp + 1 := by simp at hj; omega
          have hP : P.length = a := HA.out.symm
          have hl : (P ++ (Z ++ [y] ++ x :: (Y2 ++ (X2 ++ S)))) = (P ++ Z) ++ y :: ([] ++ x :: (Y2 ++ (X2 ++ S))) := by simp
          have hjn : j < n := by simp at hPY hj; omega
          have hjpn : jp < n := by omega
          have gx : (P ++ (Z ++ [y] ++ x :: (Y2 ++ (X2 ++ S)))).getD j [] = x := by
            rw [show (P ++ (Z ++ [y] ++ x :: (Y2 ++ (X2 ++ S)))) = (P ++ Z ++ [y]) ++ x :: (Y2 ++ (X2 ++ S)) by simp]
            exact getD_mid _ _ _ _ (by simp; omega)
          have gy : (P ++ (Z ++ [y] ++ x :: (Y2 ++ (X2 ++ S)))).getD jp [] = y := by
            rw [hl]
            exact getD_mid _ _ _ _ (by simp; omega)
          obtain ⟨ua, ul, uc, hu⟩ := ho.sl j (by omega)
          obtain ⟨va, vl, vc, hv⟩ := ho.sl jp (by omega)
          have hc := ho.cmp hFF j jp (by omega) (by omega) _ _ hu hv
          rw [gx, gy] at hc
          have hdec := cmpI_neg (key x) (key y)
          have HLL := Lib.hid (show j < (P ++ (Z ++ [y] ++ x :: (Y2 ++ (X2 ++ S)))).length ∧ jp < (P ++ (Z ++ [y] ++ x :: (Y2 ++ (X2 ++ S)))).length from ⟨by omega, by omega⟩)
          have HE := Lib.hid (show swapL (P ++ (Z ++ [y] ++ x :: (Y2 ++ (X2 ++ S)))) j jp = P ++ (Z ++ x :: ((y :: Y2) ++ (X2 ++ S))) by
            rw [swapL_comm _ _ _ (by omega), hl, swap_split (P ++ Z) [] (Y2 ++ (X2 ++ S)) y x jp j (by simp; omega) (by simp; omega)]
            simp)
          have e1 : IntKind.i64.wrap ((j : Int) - 1) = (jp : Int) := by rw [IntWalk.i64_in _ (by omega)]; omega
          have HJJ := Lib.hid hjj
          have HJP := Lib.hid hjp
          have hja2 : (a : Int) < (j : Int) := by omega
          have HC := Lib.hid hc
          generalize cmpI (key x) (key y) = c at *
          clear ho hbw hY hj hbig hPY hyl hFF hl gx gy hjj hjp hP hc
          have hc2 := HC.out
          by_cases hc0 : c < 0
          · have hxy : key x < key y := by simpa [hc0] using hdec
            have HXY := Lib.hid hxy
            clear hdec hxy
            go_wp2_with fail
            go_quiet ((go_at_call 79; exact Calls.quiet_of (hc2 _)))
            have hu2 : (wr.drewN nq).cell? ⟨g, j, none⟩ = some (.slice ua ul uc) := hu
            have hv2 : (wr.drewN nq).cell? ⟨g, jp, none⟩ = some (.slice va vl vc) := hv
            have HO2 := Lib.hid (HO.out.drew nq)
            have HB2 := Lib.hid (below_drewN HBW.out nq)
            clear hu hv hc2 HC
            generalize wr.drewN nq = w2 at *
            have HS := Lib.hid (HO2.out.swapped j jp HLL.out.1 HLL.out.2 _ _ hu2 hv2)
            obtain ⟨z, hz⟩ := cell?_setCell_some (w := w2) (p := ⟨g, j, none⟩) (x := .slice va vl vc) (q := ⟨g, jp, none⟩) hv2
            have f1 := HO2.out.free j
            have f2 := HO2.out.free jp
            go_wp2_with fail
            go_region
            go_wp2_with fail
            go_roundw
            case rel => exact ⟨jp, Z, y :: Y2, rfl, by rw [HY.out]; simp, HJP.out, by
              intro z hz
              simp only [List.mem_cons] at hz
              rcases hz with rfl | hz
              · exact HXY.out
              · exact HG.out z hz, by
              have := HS.out.1
              rw [HE.out] at this
              exact this.drew 1, (HB2.out.trans HS.out.2).drew⟩
            case measure => simp [intOf]; have := HJJ.out; omega
          · have hxy : ¬ key x < key y := by simpa [hc0] using hdec
            have HXY := Lib.hid hxy
            clear hdec hxy
            go_wp2_with fail
            go_quiet ((go_at_call 79; exact Calls.quiet_of (hc2 _)))
            have HO2 := Lib.hid (HO.out.drew nq)
            have HB2 := Lib.hid (below_drewN HBW.out nq)
            clear hu hv hc2 HC
            generalize wr.drewN nq = w2 at *
            have HY1 := Lib.hid (show Stab (X1 ++ [x]) (Z ++ [y] ++ x :: Y2) from HST2.out (by
              have hs : SortedK (Z ++ [y]) := by
                have := HST.out.1
                rw [HY.out] at this
                exact (List.pairwise_append.1 this).1
              intro z hz
              simp only [List.mem_append, List.mem_singleton] at hz
              have hxy := HXY.out
              rcases hz with hz | rfl
              · have := (List.pairwise_append.1 hs).2.2 z hz y (by simp)
                omega
              · omega))
            go_wp2_with fail
            go_roundw
            case rel => exact ⟨k + 1, X1 ++ [x], X2, Z ++ [y] ++ x :: Y2, by go_num, by rw [HX.out]; simp, .inl ⟨by have := HK1.out; simp; omega, by omega, by omega⟩, by omega, HY1.out, by have := HO2.out; simpa using this, HB2.out⟩
            case measure => simp [intOf]; omega
        · have hja2 : ¬ (a : Int) < (j : Int) := by omega
          obtain rfl : Y1 = [] := List.eq_nil_of_length_eq_zero (by omega)
          have HY1 := Lib.hid (show Stab (X1 ++ [x]) (x :: Y2) from HST2.out (by simp))
          clear ho hbw hY hj hbig hPY hyl hFF
          go_wp2_with fail
          go_quiet (fail)
          have HO2 := Lib.hid (HO.out.drew nq)
          have HB2 := Lib.hid (below_drewN HBW.out nq)
          generalize wr.drewN nq = w2 at *
          go_wp2_with fail
          go_roundw
          case rel => exact ⟨k + 1, X1 ++ [x], X2, x :: Y2, by go_num, by rw [HX.out]; simp, .inl ⟨by have := HK1.out; simp; omega, by omega, by omega⟩, by omega, HY1.out, by have := HO2.out; simpa using this, HB2.out⟩
          case measure => simp [intOf]; omega
    · have e1 : X2 = [] := by
        have h1 := HB.out
        have h2 := HA.out
        have h3 := HX.out
        have h4 : X.length = X1.length + X2.length := by rw [h3]; simp
        rcases HK.out with h | ⟨h, _⟩
        · exact List.eq_nil_of_length_eq_zero (by omega)
        · rw [h] at h4; simp at h4; exact List.eq_nil_of_length_eq_zero (by omega)
      subst e1
      have HXX := Lib.hid (show X1 = X by have := HX.out; simpa using this.symm)
      have hlt2 : ¬ (k : Int) < (b : Int) := by omega
      go_wp2
      go_end0
      exact ⟨rfl, ⟨Y, by rw [← HXX.out]; exact HST.out, by have := HO.out; simpa using this⟩, HBW.out⟩
end Go.Proofs.Ytipjaibemhoifaa
