/- At most forty rows are put in order, those that are equal as they were. -/
import Derived.Test.YtjpdhicpkcmjgaaDoorVSymC
import Derived.Deep.CutBlock
namespace Go.Proofs.YtjpdhicpkcmjgaaDoor
open Go.ChangeShapes Go.WideShapes Go.ChangeAt Go.RowKit

set_option maxRecDepth 1000000 in
set_option maxHeartbeats 8000000 in
theorem stable_any {w : World} {B g n cap : Nat} {L : List (List Int)} (hf : Full L) (h : OwnLL w B (.slice (some ⟨g, 0, none⟩) n cap) L) (hn : n ≤ 40) :
    Calls Tryd.prog 57 #[.slice (some ⟨g, 0, none⟩) n cap, .int .i64 n, .func (.func 34) #[] #[]] w fun e w' => e = .returned (.tuple #[]) ∧ OwnLL w' B (.slice (some ⟨g, 0, none⟩) n cap) (sortL L) ∧ Below B w w' := by
  have hlen := h.num
  obtain ⟨X1, X2, hX, hx1, hx2⟩ : ∃ X1 X2, L = X1 ++ X2 ∧ X1 = L.take 20 ∧ X2 = L.drop 20 := ⟨_, _, (List.take_append_drop 20 L).symm, rfl, rfl⟩
  have l1 : X1.length = min 20 n := by rw [hx1, List.length_take, hlen]
  have l2 : X2.length = n - 20 := by rw [hx2, List.length_drop, hlen]
  clear hx1 hx2
  have H := Lib.hid h
  have HF := Lib.hid hf
  have HX := Lib.hid hX
  have HL := Lib.hid hlen
  have HL1 := Lib.hid l1
  have HL2 := Lib.hid l2
  have HFs := Lib.hid (show ∀ Y1 Y2, (∀ x, x ∈ Y1 → x ∈ X1) → (∀ x, x ∈ Y2 → x ∈ X2) → Full (Y1 ++ Y2) from fun Y1 Y2 h1 h2 l hl => by
    refine hf l ?_
    rw [hX]
    simp only [List.mem_append] at hl ⊢
    exact hl.imp (h1 l) (h2 l))
  have hn1 : n ≤ 1000000 := by omega
  clear h hf hX hlen l1 l2
  go_enter Tryd.func57, Tryd.ntmps57
  go_upto_block 0 with fail
  go_cut [7] from 10 (fun av wx => (∃ (k : Nat) (Y1 Y2 : List (List Int)), k ≤ 2 ∧ 20 * k ≤ n ∧ n < 20 * k + 20 ∧ av = .int .i64 ((20 * k : Nat) : Int) ∧ (k = 0 → Y1 = X1) ∧ (1 ≤ k → Stab X1 Y1) ∧ (k ≤ 1 → Y2 = X2) ∧ (k = 2 → Stab X2 Y2) ∧ OwnLL wx B (.slice (some ⟨g, 0, none⟩) n cap) (Y1 ++ Y2)) ∧ Below B w wx)
  case first =>
    go_wp2_with fail
    go_loopw [7, 8] (fun av bv wr => ∃ (k : Nat) (Y1 Y2 : List (List Int)), k ≤ 2 ∧ 20 * k ≤ n ∧ av = .int .i64 ((20 * k : Nat) : Int) ∧ bv = .int .i64 ((20 * k + 20 : Nat) : Int) ∧ (k = 0 → Y1 = X1) ∧ (1 ≤ k → Stab X1 Y1) ∧ (k ≤ 1 → Y2 = X2) ∧ (k = 2 → Stab X2 Y2) ∧ OwnLL wr B (.slice (some ⟨g, 0, none⟩) n cap) (Y1 ++ Y2) ∧ Below B w wr) (fun av _ _ => 100 - (intOf av).toNat)
    case atStart => exact ⟨0, X1, X2, by omega, by omega, rfl, rfl, fun _ => rfl, fun h => by omega, fun _ => rfl, fun h => by omega, by rw [← HX.out]; exact H.out, Below.refl _ _⟩
    case round =>
      obtain ⟨k, Y1, Y2, hk, hkn, rfl, rfl, h1, h2, h3, h4, ho, hbw⟩ := hrel
      have HO := Lib.hid ho
      have HBW := Lib.hid hbw
      clear ho hbw
      obtain rfl | rfl | rfl : k = 0 ∨ k = 1 ∨ k = 2 := by omega
      · obtain rfl := h1 rfl
        obtain rfl := h3 (by omega)
        clear h1 h2 h3 h4
        by_cases hb : 20 ≤ n
        · have hb2 : (20 : Int) ≤ (n : Int) := by omega
          have HI := Lib.hid (insertion_any (w := wr) [] Y1 Y2 0 20 rfl (by have := HL1.out; simp; omega) (by rw [List.nil_append]; exact HFs.out _ _ (fun _ h => h) (fun _ h => h)) HO.out hn1)
          go_wp2_with fail
          refine HI.out.mono ?_
          rintro e w2 ⟨rfl, ⟨Y, hY, ho2⟩, hb2⟩
          have HY := Lib.hid hY
          have HO2 := Lib.hid ho2
          have HB2 := Lib.hid (HBW.out.trans hb2)
          clear hY ho2 hb2 HI
          go_wp2_with fail
          go_roundw
          case rel => exact ⟨1, Y, Y2, by omega, by omega, by simp, by simp, fun h => by omega, fun _ => HY.out, fun _ => rfl, fun h => by omega, by have := HO2.out; simpa using this, HB2.out⟩
          case measure => simp [intOf]
        · have hb2 : ¬ (20 : Int) ≤ (n : Int) := by omega
          go_wp2_with fail
          go_meet
          case rel => exact ⟨⟨0, Y1, Y2, by omega, by omega, by omega, rfl, fun _ => rfl, fun h => by omega, fun _ => rfl, fun h => by omega, HO.out⟩, HBW.out⟩
      · have hs1 := Lib.hid (h2 (by omega))
        obtain rfl := h3 (by omega)
        clear h1 h2 h3 h4
        by_cases hb : 40 ≤ n
        · have hb2 : (40 : Int) ≤ (n : Int) := by omega
          have HI := Lib.hid (insertion_any (w := wr) Y1 Y2 [] 20 40 (by have := HL1.out; have := hs1.out.len; omega) (by have := HL1.out; have := HL2.out; have := hs1.out.len; omega) (by rw [List.append_nil]; exact HFs.out _ _ (fun x h => (hs1.out.mem x).1 h) (fun _ h => h)) (by rw [List.append_nil]; exact HO.out) hn1)
          go_wp2_with fail
          refine HI.out.mono ?_
          rintro e w2 ⟨rfl, ⟨Y, hY, ho2⟩, hb2⟩
          have HY := Lib.hid hY
          have HO2 := Lib.hid ho2
          have HB2 := Lib.hid (HBW.out.trans hb2)
          clear hY ho2 hb2 HI
          go_wp2_with fail
          go_roundw
          case rel => exact ⟨2, Y1, Y, by omega, by omega, by simp, by simp, fun h => by omega, fun _ => hs1.out, fun h => by omega, fun _ => HY.out, by have := HO2.out; simpa using this, HB2.out⟩
          case measure => simp [intOf]
        · have hb2 : ¬ (40 : Int) ≤ (n : Int) := by omega
          go_wp2_with fail
          go_meet
          case rel => exact ⟨⟨1, Y1, Y2, by omega, by omega, by omega, rfl, fun h => by omega, fun _ => hs1.out, fun _ => rfl, fun h => by omega, HO.out⟩, HBW.out⟩
      · have hs1 := Lib.hid (h2 (by omega))
        have hs2 := Lib.hid (h4 rfl)
        clear h1 h2 h3 h4
        have hb2 : ¬ (60 : Int) ≤ (n : Int) := by omega
        go_wp2_with fail
        go_meet
        case rel => exact ⟨⟨2, Y1, Y2, by omega, by omega, by omega, rfl, fun h => by omega, fun _ => hs1.out, fun h => by omega, fun _ => hs2.out, HO.out⟩, HBW.out⟩
  case rest =>
    obtain ⟨⟨k, Y1, Y2, hk, hkn, hkn2, rfl, h1, h2, h3, h4, ho⟩, hbw⟩ := hcut
    have HO := Lib.hid ho
    have HBW := Lib.hid hbw
    have HI := Lib.hid (show Calls Tryd.prog 76 #[.slice (some ⟨g, 0, none⟩) n cap, .int .i64 ((20 * k : Nat) : Int), .int .i64 n, .func (.func 34) #[] #[]] wc fun e w' => e = .returned (.tuple #[]) ∧ (∃ Z1 Z2, Stab X1 Z1 ∧ Stab X2 Z2 ∧ OwnLL w' B (.slice (some ⟨g, 0, none⟩) n cap) (Z1 ++ Z2)) ∧ Below B wc w' from by
      obtain rfl | rfl | rfl : k = 0 ∨ k = 1 ∨ k = 2 := by omega
      · obtain rfl := h1 rfl
        obtain rfl := h3 (by omega)
        have e2 : Y2 = [] := List.eq_nil_of_length_eq_zero (by have := HL2.out; omega)
        subst e2
        refine (insertion_any (w := wc) [] Y1 [] 0 n rfl (by have := HL1.out; simp; omega) (by rw [List.nil_append]; exact HFs.out _ _ (fun _ h => h) (fun _ h => h)) ho hn1).mono ?_
        rintro e w2 ⟨rfl, ⟨Y, hY, ho2⟩, hb2⟩
        exact ⟨rfl, ⟨Y, [], hY, stab_nil, ho2⟩, hb2⟩
      · have hs1 := h2 (by omega)
        obtain rfl := h3 (by omega)
        refine (insertion_any (w := wc) Y1 Y2 [] 20 n (by have := HL1.out; have := hs1.len; omega) (by have := HL1.out; have := HL2.out; have := hs1.len; omega) (by rw [List.append_nil]; exact HFs.out _ _ (fun x h => (hs1.mem x).1 h) (fun _ h => h)) (by rw [List.append_nil]; exact ho) hn1).mono ?_
        rintro e w2 ⟨rfl, ⟨Y, hY, ho2⟩, hb2⟩
        exact ⟨rfl, ⟨Y1, Y, hs1, hY, by simpa using ho2⟩, hb2⟩
      · have hs1 := h2 (by omega)
        have hs2 := h4 rfl
        refine (insertion_any (w := wc) (Y1 ++ Y2) [] [] 40 n (by have := HL1.out; have := HL2.out; have := hs1.len; have := hs2.len; simp; omega) (by have := HL1.out; have := HL2.out; have := hs1.len; have := hs2.len; simp; omega) (by rw [List.append_nil, List.append_nil]; exact HFs.out _ _ (fun x h => (hs1.mem x).1 h) (fun x h => (hs2.mem x).1 h)) (by rw [List.append_nil, List.append_nil]; exact ho) hn1).mono ?_
        rintro e w2 ⟨rfl, ⟨Y, hY, ho2⟩, hb2⟩
        have hY0 : Y = [] := hY.eq stab_nil
        subst hY0
        exact ⟨rfl, ⟨Y1, Y2, hs1, hs2, by simpa using ho2⟩, hb2⟩)
    clear ho hbw h1 h2 h3 h4
    obtain ⟨ak, hak⟩ : ∃ ak, ak = 20 * k := ⟨_, rfl⟩
    rw [← hak] at HI ⊢
    clear hak hk hkn hkn2
    go_wp2_with fail
    refine HI.out.mono ?_
    rintro e w2 ⟨rfl, ⟨Z1, Z2, hz1, hz2, ho2⟩, hb2⟩
    have HZ1 := Lib.hid hz1
    have HZ2 := Lib.hid hz2
    have HO2 := Lib.hid ho2
    have HB2 := Lib.hid (HBW.out.trans hb2)
    have HZL := Lib.hid (show Z1.length = min 20 n ∧ Z2.length = n - 20 from ⟨by have := HL1.out; have := hz1.len; omega, by have := HL2.out; have := hz2.len; omega⟩)
    have HFZ := Lib.hid (show Full (Z1 ++ Z2) from HFs.out _ _ (fun x h => (hz1.mem x).1 h) (fun x h => (hz2.mem x).1 h))
    have HSL := Lib.hid (show ∀ Y, Stab (Z1 ++ Z2) Y → sortL L = Y from fun Y hY => by
      refine sortL_eq ⟨hY.1, fun k => ?_⟩
      rw [hY.2, HX.out, atKey_append, atKey_append, hz1.2, hz2.2])
    clear hz1 hz2 ho2 hb2 HI
    go_wp2_with fail
    go_loopw [6] (fun bs wr => (∃ L', OwnLL wr B (.slice (some ⟨g, 0, none⟩) n cap) L' ∧ ((bs = .int .i64 20 ∧ L' = Z1 ++ Z2) ∨ (bs = .int .i64 40 ∧ L' = sortL L))) ∧ Below B w wr) (fun bs _ => 100 - (intOf bs).toNat)
    case atStart => exact ⟨⟨_, HO2.out, .inl ⟨rfl, rfl⟩⟩, HB2.out⟩
    case round =>
      obtain ⟨⟨L', ho, hor⟩, hbw⟩ := hrel
      rcases hor with ⟨rfl, rfl⟩ | ⟨rfl, rfl⟩
      · have HO := Lib.hid ho
        have HBW := Lib.hid hbw
        clear ho hbw
        by_cases hlt : 20 < n
        · have hlt2 : (20 : Int) < (n : Int) := by omega
          have hl1 : Z1.length = 20 := by have := HZL.out; omega
          have HME := Lib.hid (show ∀ bb : Nat, bb = n → _ from fun bb hbb => symMerge_any (B := B) (g := g) (cap := cap) hn1 (n + 1) wr [] Z1 Z2 [] 0 20 bb (by have := HZL.out; omega) rfl (by simp [hl1]) (by have := HZL.out; omega) (by omega) (by have := HZL.out; omega) (by simpa using HFZ.out) HZ1.out.1 HZ2.out.1 (by simpa using HO.out))
          obtain ⟨wo, hwo⟩ : ∃ wo, wo = wr := ⟨_, rfl⟩
          subst hwo
          by_cases h40 : n = 40
          · have h402 : (40 : Int) ≤ (n : Int) := by omega
            have h403 : ¬ (60 : Int) < (n : Int) := by omega
            have h404 : ¬ (80 : Int) ≤ (n : Int) := by omega
            have HN40 := Lib.hid h40
            clear h40
            go_wp2_with fail
            go_loopw [7, 8] (fun av bv wr => (av = .int .i64 0 ∧ bv = .int .i64 40 ∧ wr = wo) ∨ (av = .int .i64 40 ∧ bv = .int .i64 80 ∧ OwnLL wr B (.slice (some ⟨g, 0, none⟩) n cap) (sortL L) ∧ Below B w wr)) (fun av _ _ => 100 - (intOf av).toNat)
            case atStart => exact .inl ⟨rfl, rfl, rfl⟩
            case round =>
              rcases hrel with ⟨rfl, rfl, rfl⟩ | ⟨rfl, rfl, ho, hbw⟩
              · go_wp2_with fail
                refine (HME.out 40 HN40.out.symm).mono ?_
                rintro e w2 ⟨rfl, ⟨Y, hY, ho2⟩, hb2⟩
                have HY := Lib.hid (HSL.out Y hY)
                have HO2 := Lib.hid ho2
                have HB3 := Lib.hid (HBW.out.trans hb2)
                clear hY ho2 hb2
                go_wp2_with fail
                go_roundw
                case rel => exact .inr ⟨rfl, rfl, by rw [HY.out]; simpa using HO2.out, HB3.out⟩
                case measure => simp [intOf]
              · have HO2 := Lib.hid ho
                have HB3 := Lib.hid hbw
                clear ho hbw
                go_wp2_with fail
                go_roundw
                case rel => exact ⟨⟨_, HO2.out, .inr ⟨rfl, rfl⟩⟩, HB3.out⟩
                case measure => simp [intOf]
          · have h402 : ¬ (40 : Int) ≤ (n : Int) := by omega
            clear h40
            go_wp2_with fail
            go_loopw [7, 8] (fun av bv wr => av = .int .i64 0 ∧ bv = .int .i64 40 ∧ wr = wo) (fun av _ _ => 100 - (intOf av).toNat)
            case atStart => exact ⟨rfl, rfl, rfl⟩
            case round =>
              obtain ⟨rfl, rfl, rfl⟩ := hrel
              go_wp2_with fail
              refine (HME.out n rfl).mono ?_
              rintro e w2 ⟨rfl, ⟨Y, hY, ho2⟩, hb2⟩
              have HY := Lib.hid (HSL.out Y hY)
              have HO2 := Lib.hid ho2
              have HB3 := Lib.hid (HBW.out.trans hb2)
              clear hY ho2 hb2
              go_wp2_with fail
              go_roundw
              case rel => exact ⟨⟨_, HO2.out, .inr ⟨rfl, by rw [HY.out]; simp⟩⟩, HB3.out⟩
              case measure => simp [intOf]
        · have hlt2 : ¬ (20 : Int) < (n : Int) := by omega
          have e2 : Z2 = [] := List.eq_nil_of_length_eq_zero (by have := HZL.out; omega)
          have HE := Lib.hid (show sortL L = Z1 ++ Z2 from HSL.out _ (stab_self (by rw [e2, List.append_nil]; exact HZ1.out.1)))
          clear e2
          go_wp2
          go_end0
          exact ⟨rfl, by rw [HE.out]; exact HO.out, HBW.out⟩
      · have hlt2 : ¬ (40 : Int) < (n : Int) := by omega
        have HO := Lib.hid ho
        have HBW := Lib.hid hbw
        clear ho hbw
        go_wp2
        go_end0
        exact ⟨rfl, HO.out, HBW.out⟩
end Go.Proofs.YtjpdhicpkcmjgaaDoor
