/- Rows are put in order, those that are equal as they were. -/
import Derived.Test.YtipjaibemhoifaaVSymC
import Derived.Deep.CutBlock
namespace Go.Proofs.Ytipjaibemhoifaa
open Go.ChangeShapes Go.WideShapes Go.ChangeAt Go.RowKit

/-- Each run of s rows, one behind the other, is in order. -/
def Chunk (s : Nat) (Y : List (List Int)) : Prop := ∀ i, SortedK ((Y.drop (i * s)).take s)
theorem sortedK_nil : SortedK [] := List.Pairwise.nil
theorem chunk_nil (s : Nat) : Chunk s [] := fun i => by rw [List.drop_nil, List.take_nil]; exact sortedK_nil
theorem chunk_split {s : Nat} {A R : List (List Int)} (hA : A.length = s) (h : Chunk s (A ++ R)) : SortedK A ∧ Chunk s R := by
  constructor
  · have := h 0
    rw [Nat.zero_mul, List.drop_zero, List.take_left' hA] at this
    exact this
  · intro i
    have := h (i + 1)
    rw [Nat.succ_mul, Nat.add_comm, ← List.drop_drop, List.drop_left' hA] at this
    exact this
theorem chunk_snoc {s c : Nat} {P A : List (List Int)} (hP : P.length = c * s) (hA : A.length ≤ s) (h : Chunk s P) (hs : SortedK A) : Chunk s (P ++ A) := by
  intro i
  rcases Nat.lt_trichotomy i c with hi | rfl | hi
  · have h1 : (i + 1) * s ≤ c * s := Nat.mul_le_mul_right s hi
    rw [Nat.succ_mul] at h1
    rw [List.drop_append_of_le_length (by omega), List.take_append_of_le_length (by rw [List.length_drop]; omega)]
    exact h i
  · rw [List.drop_left' hP, List.take_of_length_le hA]; exact hs
  · have h1 : (c + 1) * s ≤ i * s := Nat.mul_le_mul_right s hi
    rw [Nat.succ_mul] at h1
    rw [List.drop_eq_nil_of_le (by rw [List.length_append]; omega), List.take_nil]
    exact sortedK_nil
theorem chunk_all {s : Nat} {Y : List (List Int)} (h : Chunk s Y) (hl : Y.length ≤ s) : SortedK Y := by
  have := h 0
  rw [Nat.zero_mul, List.drop_zero, List.take_of_length_le hl] at this
  exact this
/-- The same rows for each first number, in the same order. -/
def SameK (X Y : List (List Int)) : Prop := ∀ k, atKey k Y = atKey k X
theorem SameK.mid {X P A Y S : List (List Int)} (h : SameK X (P ++ (A ++ S))) (hY : Stab A Y) : SameK X (P ++ (Y ++ S)) := fun k => by
  rw [← h k]; simp only [atKey_append, hY.2]
theorem SameK.full {X Y : List (List Int)} (h : SameK X Y) (hf : Full X) : Full Y := fun l hl => hf l ((same_mem h l).1 hl)
theorem SameK.sort {X Y : List (List Int)} (h : SameK X Y) (hs : SortedK Y) : sortL X = Y := sortL_eq ⟨hs, h⟩
set_option maxRecDepth 1000000 in
set_option maxHeartbeats 8000000 in
theorem stable_any {w : World} {B g n cap : Nat} {L : List (List Int)} (hf : Full L) (h : OwnLL w B (.slice (some ⟨g, 0, none⟩) n cap) L) (hn : n ≤ 1000000) :
    Calls Try.prog 99 #[.slice (some ⟨g, 0, none⟩) n cap, .int .i64 n, .func (.func 79) #[] #[]] w fun e w' => e = .returned (.tuple #[]) ∧ OwnLL w' B (.slice (some ⟨g, 0, none⟩) n cap) (sortL L) ∧ Below B w w' := by
  have H := Lib.hid h
  have HF := Lib.hid hf
  clear h hf
  go_enter Try.func99, Try.ntmps99
  go_wp2_with fail
  go_loopw [7, 8] (fun av bv wr => ∃ (a b c : Nat) (P R : List (List Int)), av = .int .i64 a ∧ bv = .int .i64 b ∧ Hid (P.length = a ∧ a = c * 20 ∧ b = a + 20) ∧ Chunk 20 P ∧ SameK L (P ++ R) ∧ OwnLL wr B (.slice (some ⟨g, 0, none⟩) n cap) (P ++ R) ∧ Below B w wr) (fun av _ _ => n + 1 - (intOf av).toNat)
  case atStart => exact ⟨0, 20, 0, [], L, rfl, rfl, Lib.hid ⟨rfl, rfl, rfl⟩, chunk_nil _, fun _ => rfl, H.out, Below.refl _ _⟩
  case round =>
    obtain ⟨a, b, c, P, R, rfl, rfl, HP, hch, hsm, ho, hbw⟩ := hrel
    have HO := Lib.hid ho
    have HBW := Lib.hid hbw
    have HCH := Lib.hid hch
    have HSM := Lib.hid hsm
    have HNL := Lib.hid (show n = P.length + R.length by have := ho.num; rwa [List.length_append] at this)
    have hab : a ≤ n := by have := HNL.out; have := HP.out.1; omega
    have hbb : b ≤ n + 20 := by have := HP.out; omega
    clear ho hbw hch hsm
    by_cases hlt : b ≤ n
    · have hlt2 : (b : Int) ≤ (n : Int) := by omega
      obtain ⟨A, R', hR, hA⟩ : ∃ A R', R = A ++ R' ∧ A.length = 20 := ⟨R.take 20, R.drop 20, (List.take_append_drop 20 R).symm, by rw [List.length_take]; have := HNL.out; have := HP.out; omega⟩
      subst hR
      have HA := Lib.hid hA
      clear hA
      have HI := Lib.hid (insertion_any (w := wr) P A R' a b HP.out.1.symm (by have := HP.out; have := HA.out; omega) (HSM.out.full HF.out) HO.out hn)
      go_wp2_with fail
      refine HI.out.mono ?_
      rintro e w2 ⟨rfl, ⟨Y, hY, ho2⟩, hb2⟩
      have HY := Lib.hid hY
      have HO2 := Lib.hid ho2
      have HB2 := Lib.hid (HBW.out.trans hb2)
      clear hY ho2 hb2 HI
      go_wp2_with fail
      go_roundw
      case rel =>
        have hy := HY.out.len
        have ha := HA.out
        have hp := HP.out
        exact ⟨b, b + 20, c + 1, P ++ Y, R', rfl, by go_num, Lib.hid ⟨by rw [List.length_append]; omega, by omega, rfl⟩, chunk_snoc (c := c) (by omega) (by omega) HCH.out HY.out.1, by have := HSM.out.mid HY.out; rwa [← List.append_assoc] at this, by have := HO2.out; rwa [← List.append_assoc] at this, HB2.out⟩
      case measure => have hp := HP.out; simp [intOf]; omega
    · have hlt2 : ¬ (b : Int) ≤ (n : Int) := by omega
      have HI := Lib.hid (insertion_any (w := wr) P R [] a n HP.out.1.symm HNL.out (by rw [List.append_nil]; exact HSM.out.full HF.out) (by rw [List.append_nil]; exact HO.out) hn)
      go_wp2_with fail
      refine HI.out.mono ?_
      rintro e w2 ⟨rfl, ⟨Y, hY, ho2⟩, hb2⟩
      rw [List.append_nil] at ho2
      have HO2 := Lib.hid ho2
      have HB2 := Lib.hid (HBW.out.trans hb2)
      have HCH2 := Lib.hid (chunk_snoc (c := c) (by have := HP.out; omega) (by have := hY.len; have := HP.out; have := HNL.out; omega) HCH.out hY.1)
      have HSM2 := Lib.hid (show SameK L (P ++ Y) by have := SameK.mid (S := []) (by rw [List.append_nil]; exact HSM.out) hY; rwa [List.append_nil] at this)
      generalize P ++ Y = L2 at *
      clear hY ho2 hb2 HI HSM HCH HP HNL HO HBW hab hbb hlt hlt2
      go_wp2_with fail
      go_loopw [6] (fun sv wr => ∃ (s : Nat) (Y : List (List Int)), sv = .int .i64 s ∧ 1 ≤ s ∧ s ≤ 2000000 ∧ Chunk s Y ∧ SameK L Y ∧ OwnLL wr B (.slice (some ⟨g, 0, none⟩) n cap) Y ∧ Below B w wr) (fun sv _ => n - (intOf sv).toNat)
      case atStart => exact ⟨20, L2, rfl, by omega, by omega, HCH2.out, HSM2.out, HO2.out, HB2.out⟩
      case round =>
        obtain ⟨s, Y, rfl, hs1, hs2, hch, hsm, ho, hbw⟩ := hrel
        have HO := Lib.hid ho
        have HBW := Lib.hid hbw
        have HCH := Lib.hid hch
        have HSM := Lib.hid hsm
        have HNL := Lib.hid ho.num
        clear ho hbw hch hsm HCH2 HSM2 HO2 HB2
        by_cases hlt : s < n
        · have hlt2 : (s : Int) < (n : Int) := by omega
          obtain ⟨wo, hwo⟩ : ∃ wo, wo = wr := ⟨_, rfl⟩
          subst hwo
          go_wp2_with fail
          go_loopw [7, 8] (fun av bv wr => ∃ (a b c : Nat) (P R : List (List Int)), av = .int .i64 a ∧ bv = .int .i64 b ∧ Hid (P.length = a ∧ a = c * (2 * s) ∧ b = a + 2 * s) ∧ Chunk (2 * s) P ∧ Chunk s R ∧ SameK L (P ++ R) ∧ OwnLL wr B (.slice (some ⟨g, 0, none⟩) n cap) (P ++ R) ∧ Below B w wr) (fun av _ _ => n + 1 - (intOf av).toNat)
          case atStart => exact ⟨0, 2 * s, 0, [], Y, rfl, by go_num, Lib.hid ⟨rfl, by omega, by omega⟩, chunk_nil _, HCH.out, HSM.out, HO.out, HBW.out⟩
          case round =>
            obtain ⟨a, b, c, P, R, rfl, rfl, HP, hchp, hchr, hsm, ho, hbw⟩ := hrel
            have HOi := Lib.hid ho
            have HBWi := Lib.hid hbw
            have HCP := Lib.hid hchp
            have HCR := Lib.hid hchr
            have HSMi := Lib.hid hsm
            have HNLi := Lib.hid (show n = P.length + R.length by have := ho.num; rwa [List.length_append] at this)
            have hab : a ≤ n := by have := HNLi.out; have := HP.out.1; omega
            have hbb : b ≤ n + 2 * s := by have := HP.out; omega
            clear ho hbw hchp hchr hsm
            have e0 : IntKind.i64.wrap ((a : Int) + (s : Int)) = ((a + s : Nat) : Int) := by rw [IntWalk.i64_in _ (by omega)]; simp
            obtain ⟨m, hm⟩ : ∃ x, x = a + s := ⟨_, rfl⟩
            rw [← hm] at e0
            have hmm : m ≤ n + s := by omega
            have HM := Lib.hid hm
            clear hm
            by_cases hb : b ≤ n
            · have hb2 : (b : Int) ≤ (n : Int) := by omega
              obtain ⟨A, D, R', hR, hA, hD⟩ : ∃ A D R', R = A ++ (D ++ R') ∧ A.length = s ∧ D.length = s := by
                have h1 := HNLi.out
                have h2 := HP.out
                refine ⟨R.take s, (R.drop s).take s, (R.drop s).drop s, by rw [List.take_append_drop, List.take_append_drop], by rw [List.length_take]; omega, by rw [List.length_take, List.length_drop]; omega⟩
              subst hR
              have HA := Lib.hid hA
              have HD := Lib.hid hD
              have hc1 := chunk_split hA HCR.out
              have hc2 := chunk_split hD hc1.2
              have HC1 := Lib.hid hc1.1
              have HC2 := Lib.hid hc2
              have HI := Lib.hid (symMerge_any (B := B) (g := g) (cap := cap) hn (A.length + D.length + 1) wr P A D R' a m b (by omega) HP.out.1.symm (by have := HM.out; omega) (by have := HM.out; have := HP.out; omega) (by omega) (by omega) (HSMi.out.full HF.out) hc1.1 hc2.1 HOi.out)
              clear hA hD hc1 hc2
              go_wp2_with fail
              refine HI.out.mono ?_
              rintro e w2 ⟨rfl, ⟨Z, hZ, ho2⟩, hb2⟩
              have HZ := Lib.hid hZ
              have HO2 := Lib.hid ho2
              have HB2 := Lib.hid (HBWi.out.trans hb2)
              clear hZ ho2 hb2 HI e0
              go_wp2_with fail
              go_roundw
              case rel =>
                have hz := HZ.out.len
                rw [List.length_append] at hz
                have ha := HA.out
                have hd := HD.out
                have hp := HP.out
                refine ⟨b, b + 2 * s, c + 1, P ++ Z, R', rfl, by go_num, Lib.hid ⟨by rw [List.length_append]; omega, by rw [Nat.succ_mul]; omega, rfl⟩, chunk_snoc (c := c) (by omega) (by omega) HCP.out HZ.out.1, HC2.out.2, ?_, by have := HO2.out; rwa [← List.append_assoc] at this, HB2.out⟩
                have := SameK.mid (P := P) (S := R') (A := A ++ D) (X := L) (by rw [List.append_assoc A]; exact HSMi.out) HZ.out
                rwa [← List.append_assoc] at this
              case measure => have hp := HP.out; simp [intOf]; omega
            · have hb2 : ¬ (b : Int) ≤ (n : Int) := by omega
              have hlt3 : n - 2 * s < n - s := by omega
              by_cases hmn : m < n
              · have hmn2 : (m : Int) < (n : Int) := by omega
                obtain ⟨A, D, hR, hA⟩ : ∃ A D, R = A ++ D ∧ A.length = s := ⟨R.take s, R.drop s, (List.take_append_drop s R).symm, by rw [List.length_take]; have := HNLi.out; have := HP.out; have := HM.out; omega⟩
                subst hR
                have hc1 := chunk_split hA HCR.out
                have hnl := HNLi.out
                rw [List.length_append] at hnl
                have hD1 : D.length ≤ s := by have := HP.out; omega
                have hD2 : 0 < D.length := by have := HP.out; have := HM.out; omega
                have hsD := chunk_all hc1.2 hD1
                have HI := Lib.hid (symMerge_any (B := B) (g := g) (cap := cap) hn (A.length + D.length + 1) wr P A D [] a m n (by omega) HP.out.1.symm (by have := HM.out; omega) (by have := HM.out; have := HP.out; omega) (by omega) (by omega) (by rw [List.append_nil]; exact HSMi.out.full HF.out) hc1.1 hsD (by rw [List.append_nil]; exact HOi.out))
                have HLZ := Lib.hid (show A.length + D.length ≤ 2 * s by omega)
                clear hA hc1 hnl hD1 hD2 hsD
                go_wp2_with fail
                refine HI.out.mono ?_
                rintro e w2 ⟨rfl, ⟨Z, hZ, ho2⟩, hb2⟩
                rw [List.append_nil] at ho2
                have HZ := Lib.hid hZ
                have HO2 := Lib.hid ho2
                have HB2 := Lib.hid (HBWi.out.trans hb2)
                clear hZ ho2 hb2 HI e0
                go_wp2_with fail
                go_roundw
                case rel =>
                  have hz := HZ.out.len
                  rw [List.length_append] at hz
                  have hp := HP.out
                  have hl := HLZ.out
                  refine ⟨2 * s, P ++ Z, by go_num, by omega, by omega, chunk_snoc (c := c) (by omega) (by omega) HCP.out HZ.out.1, ?_, HO2.out, HB2.out⟩
                  have := SameK.mid (S := []) (A := A ++ D) (by rw [List.append_nil]; exact HSMi.out) HZ.out
                  rwa [List.append_nil] at this
                case measure => simp [intOf]; omega
              · have hmn2 : ¬ (m : Int) < (n : Int) := by omega
                have HR := Lib.hid (show SortedK R ∧ R.length ≤ 2 * s by
                  have h1 := HNLi.out
                  have h2 := HP.out
                  have h3 := HM.out
                  exact ⟨chunk_all HCR.out (by omega), by omega⟩)
                go_wp2_with fail
                go_roundw
                case rel =>
                  have hp := HP.out
                  exact ⟨2 * s, P ++ R, by go_num, by omega, by omega, chunk_snoc (c := c) (by omega) HR.out.2 HCP.out HR.out.1, HSMi.out, HOi.out, HBWi.out⟩
                case measure => simp [intOf]; omega
        · have hlt2 : ¬ (s : Int) < (n : Int) := by omega
          have HE := Lib.hid (HSM.out.sort (chunk_all HCH.out (by have := HNL.out; omega)))
          go_wp2
          go_end0
          exact ⟨rfl, by rw [HE.out]; exact HO.out, HBW.out⟩
end Go.Proofs.Ytipjaibemhoifaa
