/- Two runs change places. -/
import Derived.Test.YtipjaibemhoifaaVSwap
namespace Go.Proofs.Ytipjaibemhoifaa
open Go.ChangeShapes Go.WideShapes Go.ChangeAt Go.RowKit

set_option maxRecDepth 1000000 in
set_option maxHeartbeats 4000000 in
theorem rotate_any {w : World} {B g n cap : Nat} {fv : Value} (P U V S : List (List Int)) (a m b : Nat) (ha : a = P.length) (hm : m = P.length + U.length) (hb : b = P.length + U.length + V.length) (hU : 0 < U.length) (hV : 0 < V.length)
    (h : OwnLL w B (.slice (some ⟨g, 0, none⟩) n cap) (P ++ (U ++ (V ++ S)))) (hn : n ≤ 1000000) :
    Calls Try.prog 113 #[.slice (some ⟨g, 0, none⟩) n cap, .int .i64 a, .int .i64 m, .int .i64 b, fv] w fun e w' => e = .returned (.tuple #[]) ∧ OwnLL w' B (.slice (some ⟨g, 0, none⟩) n cap) (P ++ (V ++ (U ++ S))) ∧ Below B w w' := by
  have hlen := h.num
  simp only [List.length_append] at hlen
  obtain ⟨T, hT⟩ : ∃ T, T = P ++ (V ++ (U ++ S)) := ⟨_, rfl⟩
  rw [← hT]
  have H := Lib.hid h
  have HT := Lib.hid hT
  have HM := Lib.hid hm
  have HL := Lib.hid hlen
  obtain ⟨ul, hul⟩ : ∃ k, k = U.length := ⟨_, rfl⟩
  obtain ⟨vl, hvl⟩ : ∃ k, k = V.length := ⟨_, rfl⟩
  have e1 : IntKind.i64.wrap ((m : Int) - (a : Int)) = (ul : Int) := by rw [IntWalk.i64_in _ (by omega)]; omega
  have e2 : IntKind.i64.wrap ((b : Int) - (m : Int)) = (vl : Int) := by rw [IntWalk.i64_in _ (by omega)]; omega
  have HU := Lib.hid hul
  have HV := Lib.hid hvl
  have hu0 : 0 < ul := by omega
  have hv0 : 0 < vl := by omega
  clear h hT ha hm hb hlen hU hV hul hvl
  go_enter Try.func113, Try.ntmps113
  go_wp2_with fail
  clear e1 e2
  go_loopw [10, 11] (fun i j wr => ∃ (k l : Nat) (P' U' V' S' : List (List Int)), i = .int .i64 k ∧ j = .int .i64 l ∧ k = U'.length ∧ l = V'.length ∧ 0 < k ∧ 0 < l ∧ m = P'.length + k ∧ P' ++ (V' ++ (U' ++ S')) = T ∧ P'.length + (k + (l + S'.length)) = n ∧ OwnLL wr B (.slice (some ⟨g, 0, none⟩) n cap) (P' ++ (U' ++ (V' ++ S'))) ∧ Below B w wr) (fun i j _ => (intOf i).toNat + (intOf j).toNat)
  case atStart => exact ⟨ul, vl, P, U, V, S, rfl, rfl, HU.out, HV.out, hu0, hv0, by rw [HU.out]; exact HM.out, HT.out.symm, by have := HL.out; have := HU.out; have := HV.out; omega, H.out, Below.refl _ _⟩
  case round =>
    obtain ⟨k, l, P', U', V', S', rfl, rfl, hk, hl, hk0, hl0, hmm, hTT, hnn, ho, hbw⟩ := hrel
    have HO := Lib.hid ho
    have HBW := Lib.hid hbw
    have HTT := Lib.hid hTT
    have HNN := Lib.hid hnn
    have hkb : k < 1000000 := by omega
    have hlb : l < 1000000 := by omega
    clear ho hbw hTT hnn
    obtain ⟨p, hp⟩ : ∃ p, p = P'.length := ⟨_, rfl⟩
    have hmp : m = p + k := by omega
    have HP := Lib.hid hp
    have HMP := Lib.hid hmp
    have HK := Lib.hid hk
    have HLv := Lib.hid hl
    have e1 : IntKind.i64.wrap ((m : Int) - (k : Int)) = (p : Int) := by rw [IntWalk.i64_in _ (by have := HNN.out; have := HMP.out; have := HP.out; omega)]; omega
    clear hp hk hl hmm hmp
    by_cases hkl : k = l
    · subst hkl
      have HS := Lib.hid (swapRange_any (w := wr) (fv := fv) P' U' [] V' S' p m k HP.out (by have := HP.out; have := HK.out; have := HMP.out; simp; omega) HK.out (by rw [← HK.out, ← HLv.out]) (by simpa using HO.out) hn)
      go_wp2_with fail
      refine HS.out.mono ?_
      rintro e w2 ⟨rfl, ho2, hb2⟩
      have HO2 := Lib.hid ho2
      have HB2 := Lib.hid hb2
      clear ho2 hb2
      go_wp2_with fail
      go_end0
      exact ⟨rfl, by rw [← HTT.out]; simpa using HO2.out, HBW.out.trans HB2.out⟩
    · have hkl2 : ¬ (k : Int) = (l : Int) := by omega
      by_cases hgt : l < k
      · have hgt2 : (l : Int) < (k : Int) := by omega
        obtain ⟨U1, U2, hU12, hU1⟩ : ∃ U1 U2, U' = U1 ++ U2 ∧ U1.length = l := ⟨U'.take l, U'.drop l, (List.take_append_drop _ _).symm, by have := HK.out; rw [List.length_take]; omega⟩
        have hl2 : U2.length = k - l := by have := HK.out; rw [hU12] at this; simp at this; omega
        have HS := Lib.hid (swapRange_any (w := wr) (fv := fv) P' U1 U2 V' S' p m l HP.out (by have := HP.out; have := HMP.out; omega) hU1.symm (by rw [hU1, ← HLv.out]) (by have := HO.out; rw [hU12] at this; simpa using this) hn)
        have HU12 := Lib.hid hU12
        have HU1 := Lib.hid hU1
        have HU2 := Lib.hid hl2
        clear hU12 hU1 hl2
        go_wp2_with fail
        refine HS.out.mono ?_
        rintro e w2 ⟨rfl, ho2, hb2⟩
        have HO2 := Lib.hid ho2
        have HB2 := Lib.hid (HBW.out.trans hb2)
        clear ho2 hb2 HS
        have e3 : IntKind.i64.wrap ((k : Int) - (l : Int)) = ((k - l : Nat) : Int) := by rw [IntWalk.i64_in _ (by omega)]; omega
        obtain ⟨kl, hkl3⟩ : ∃ x, x = k - l := ⟨_, rfl⟩
        rw [← hkl3] at e3
        have HKL := Lib.hid hkl3
        clear hkl3
        go_wp2_with fail
        go_roundw
        case rel => exact ⟨kl, l, P' ++ V', U2, U1, S', rfl, rfl, by rw [HU2.out]; exact HKL.out, HU1.out.symm, by have := HKL.out; omega, hl0, by have := HKL.out; have := HMP.out; have := HP.out; have := HLv.out; rw [List.length_append]; omega, by
          have := HTT.out
          rw [HU12.out] at this
          simpa using this, by have := HKL.out; have := HNN.out; have := HLv.out; rw [List.length_append]; omega, by have := HO2.out; simpa using this, HB2.out⟩
        case measure => simp [intOf]; have := HKL.out; omega
      · have hgt2 : ¬ (l : Int) < (k : Int) := by omega
        obtain ⟨V1, V2, hV12, hV2⟩ : ∃ V1 V2, V' = V1 ++ V2 ∧ V2.length = k := ⟨V'.take (l - k), V'.drop (l - k), (List.take_append_drop _ _).symm, by have := HLv.out; rw [List.length_drop]; omega⟩
        have hl2 : V1.length = l - k := by have := HLv.out; rw [hV12] at this; simp at this; omega
        obtain ⟨q, hq⟩ : ∃ q, q = p + l := ⟨_, rfl⟩
        have HS := Lib.hid (swapRange_any (w := wr) (fv := fv) P' U' V1 V2 S' p q k HP.out (by have := HP.out; have := HK.out; have := HMP.out; omega) HK.out (by rw [hV2, ← HK.out]) (by have := HO.out; rw [hV12] at this; simpa using this) hn)
        have HV12 := Lib.hid hV12
        have HV2 := Lib.hid hV2
        have HV1 := Lib.hid hl2
        have e4 : IntKind.i64.wrap ((m : Int) + (l : Int)) = (m : Int) + (l : Int) := IntWalk.i64_in _ (by have := HNN.out; have := HMP.out; have := HP.out; omega)
        have e5 : IntKind.i64.wrap ((m : Int) + (l : Int) - (k : Int)) = (q : Int) := by rw [IntWalk.i64_in _ (by have := HNN.out; have := HMP.out; have := HP.out; omega)]; have := HMP.out; omega
        clear hV12 hV2 hl2 hq
        go_wp2_with fail
        refine HS.out.mono ?_
        rintro e w2 ⟨rfl, ho2, hb2⟩
        have HO2 := Lib.hid ho2
        have HB2 := Lib.hid (HBW.out.trans hb2)
        clear ho2 hb2 HS e4 e5
        have e3 : IntKind.i64.wrap ((l : Int) - (k : Int)) = ((l - k : Nat) : Int) := by rw [IntWalk.i64_in _ (by omega)]; omega
        obtain ⟨lk, hlk⟩ : ∃ x, x = l - k := ⟨_, rfl⟩
        rw [← hlk] at e3
        have HLK := Lib.hid hlk
        clear hlk
        go_wp2_with fail
        go_roundw
        case rel => exact ⟨k, lk, P', V2, V1, U' ++ S', rfl, rfl, HV2.out.symm, by rw [HV1.out]; exact HLK.out, hk0, by have := HLK.out; omega, by have := HMP.out; have := HP.out; omega, by
          have := HTT.out
          rw [HV12.out] at this
          simpa using this, by have := HLK.out; have := HNN.out; have := HK.out; rw [List.length_append]; omega, by have := HO2.out; simpa using this, HB2.out⟩
        case measure => simp [intOf]; have := HLK.out; omega
end Go.Proofs.Ytipjaibemhoifaa
