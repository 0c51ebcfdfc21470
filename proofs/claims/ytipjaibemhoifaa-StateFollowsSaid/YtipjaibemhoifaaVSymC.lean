/- Two runs are merged. -/
import Derived.Test.YtipjaibemhoifaaVSymB
import Derived.Deep.CutRange
namespace Go.Proofs.Ytipjaibemhoifaa
open Go.ChangeShapes Go.WideShapes Go.ChangeAt Go.RowKit

theorem getD_le {D : List (List Int)} (h : SortedK D) {i j : Nat} (hij : i ≤ j) (hj : j < D.length) : key (D.getD i []) ≤ key (D.getD j []) := by
  refine sorted_upto h j hj _ ?_
  rw [List.getD_eq_getElem?_getD, List.getElem?_eq_getElem (by omega)]
  simp only [Option.getD_some]
  rw [List.mem_take_iff_getElem]
  exact ⟨i, by omega, rfl⟩
/-- Where two runs are cut so that what comes first of both is ahead. -/
theorem sym_cut {P A D S : List (List Int)} {a m b s e nn md : Nat} (ha : a = P.length) (hm : m = a + A.length) (hb : b = m + D.length) (hA : SortedK A) (hD : SortedK D) (h1 : a ≤ s) (h2 : s ≤ m) (h3 : m ≤ e) (h4 : e ≤ b) (hn : nn = md + m) (he : e + s = nn)
    (c1 : s = a ∨ e = b ∨ key ((P ++ (A ++ (D ++ S))).getD (s - 1) []) ≤ key ((P ++ (A ++ (D ++ S))).getD e [])) (c2 : s = m ∨ e = m ∨ key ((P ++ (A ++ (D ++ S))).getD (e - 1) []) < key ((P ++ (A ++ (D ++ S))).getD s [])) :
    ∃ A1 A2 D1 D2, A = A1 ++ A2 ∧ D = D1 ++ D2 ∧ s = a + A1.length ∧ m = s + A2.length ∧ md = s + D1.length ∧ e = md + A2.length ∧ b = e + D2.length ∧ SortedK A1 ∧ SortedK A2 ∧ SortedK D1 ∧ SortedK D2 ∧
      (∀ x ∈ A1, ∀ y ∈ A2, key x ≤ key y) ∧ (∀ x ∈ D1, ∀ y ∈ D2, key x ≤ key y) ∧ (∀ x ∈ A1, ∀ y ∈ D2, key x ≤ key y) ∧ ∀ x ∈ D1, ∀ y ∈ A2, key x < key y := by
  have l1 : (A.take (s - a)).length = s - a := by rw [List.length_take]; omega
  have l2 : (D.take (e - m)).length = e - m := by rw [List.length_take]; omega
  have pA := hA
  have pD := hD
  rw [SortedK, ← List.take_append_drop (s - a) A] at pA
  rw [SortedK, ← List.take_append_drop (e - m) D] at pD
  have gA : ∀ i, a ≤ i → i < m → (P ++ (A ++ (D ++ S))).getD i [] = A.getD (i - a) [] := fun i h5 h6 => getD_in _ _ _ _ _ (by omega) (by omega)
  have gD : ∀ i, m ≤ i → i < b → (P ++ (A ++ (D ++ S))).getD i [] = D.getD (i - m) [] := fun i h5 h6 => by
    rw [← List.append_assoc]
    exact getD_in _ _ _ _ _ (by omega) (by simp; omega)
  refine ⟨A.take (s - a), A.drop (s - a), D.take (e - m), D.drop (e - m), (List.take_append_drop _ _).symm, (List.take_append_drop _ _).symm, by omega, by rw [List.length_drop]; omega, by omega, by rw [List.length_drop]; omega, by rw [List.length_drop]; omega,
    hA.take _, hA.drop _, hD.take _, hD.drop _, (List.pairwise_append.1 pA).2.2, (List.pairwise_append.1 pD).2.2, fun x hx y hy => ?_, fun x hx y hy => ?_⟩
  · rcases c1 with h | h | h
    · rw [h] at hx; simp at hx
    · rw [List.drop_eq_nil_of_le (by omega)] at hy; simp at hy
    · by_cases hs : s = a
      · rw [hs] at hx; simp at hx
      · by_cases hq : e = b
        · rw [List.drop_eq_nil_of_le (by omega)] at hy; simp at hy
        · rw [gA (s - 1) (by omega) (by omega), gD e (by omega) (by omega)] at h
          have x1 := sorted_upto hA (s - 1 - a) (by omega) x (by rw [show s - 1 - a + 1 = s - a by omega]; exact hx)
          have y1 := sorted_from hD (e - m) (by omega) y hy
          omega
  · rcases c2 with h | h | h
    · rw [List.drop_eq_nil_of_le (by omega)] at hy; simp at hy
    · rw [h] at hx; simp at hx
    · by_cases hs : s = m
      · rw [List.drop_eq_nil_of_le (by omega)] at hy; simp at hy
      · by_cases hq : e = m
        · rw [hq] at hx; simp at hx
        · rw [gD (e - 1) (by omega) (by omega), gA s (by omega) (by omega)] at h
          have x1 := sorted_upto hD (e - 1 - m) (by omega) x (by rw [show e - 1 - m + 1 = e - m by omega]; exact hx)
          have y1 := sorted_from hA (s - a) (by omega) y hy
          omega

/-- What a merge of two runs promises. -/
def Merges (B g n cap N : Nat) : Prop := ∀ (w : World) (P A D S : List (List Int)) (a m b : Nat), A.length + D.length < N → a = P.length → m = a + A.length → b = m + D.length → 0 < A.length → 0 < D.length → Full (P ++ (A ++ (D ++ S))) → SortedK A → SortedK D →
    OwnLL w B (.slice (some ⟨g, 0, none⟩) n cap) (P ++ (A ++ (D ++ S))) →
    Calls Try.prog 110 #[.slice (some ⟨g, 0, none⟩) n cap, .int .i64 a, .int .i64 m, .int .i64 b, .func (.func 79) #[] #[]] w fun e w' => e = .returned (.tuple #[]) ∧ (∃ Y, Stab (A ++ D) Y ∧ OwnLL w' B (.slice (some ⟨g, 0, none⟩) n cap) (P ++ (Y ++ S))) ∧ Below B w w'

set_option maxRecDepth 1000000 in
set_option maxHeartbeats 8000000 in
theorem symMerge_split {w : World} {B g n cap : Nat} (P A D S : List (List Int)) (a m b : Nat) (IH : Merges B g n cap (A.length + D.length)) (ha : a = P.length) (hm : m = a + A.length) (hb : b = m + D.length) (hA2 : 2 ≤ A.length) (hD2 : 2 ≤ D.length) (hf : Full (P ++ (A ++ (D ++ S)))) (hsA : SortedK A) (hsD : SortedK D)
    (h : OwnLL w B (.slice (some ⟨g, 0, none⟩) n cap) (P ++ (A ++ (D ++ S)))) (hn : n ≤ 1000000) :
    Calls Try.prog 110 #[.slice (some ⟨g, 0, none⟩) n cap, .int .i64 a, .int .i64 m, .int .i64 b, .func (.func 79) #[] #[]] w fun e w' => e = .returned (.tuple #[]) ∧ (∃ Y, Stab (A ++ D) Y ∧ OwnLL w' B (.slice (some ⟨g, 0, none⟩) n cap) (P ++ (Y ++ S))) ∧ Below B w w' := by
  have hlen := h.num
  have HLen := Lib.hid hlen
  simp only [List.length_append] at hlen
  have H := Lib.hid h
  have HF := Lib.hid hf
  have HSA := Lib.hid hsA
  have HSD := Lib.hid hsD
  have HA := Lib.hid ha
  have HM := Lib.hid hm
  have HB := Lib.hid hb
  have HI := Lib.hid IH
  have HL := Lib.hid hlen
  obtain ⟨al, hal⟩ : ∃ al, al = A.length := ⟨_, rfl⟩
  obtain ⟨dl, hdl⟩ : ∃ dl, dl = D.length := ⟨_, rfl⟩
  obtain ⟨md, hmd⟩ : ∃ md, md = (a + b) / 2 := ⟨_, rfl⟩
  obtain ⟨nn, hnn⟩ : ∃ nn, nn = md + m := ⟨_, rfl⟩
  obtain ⟨pp, hpp⟩ : ∃ pp, pp = nn - 1 := ⟨_, rfl⟩
  have e1 : IntKind.i64.wrap ((m : Int) - (a : Int)) = (al : Int) := by rw [IntWalk.i64_in _ (by omega)]; omega
  have e0 : ((al : Int) == 1) = false := by simp; omega
  have e2 : IntKind.i64.wrap ((b : Int) - (m : Int)) = (dl : Int) := by rw [IntWalk.i64_in _ (by omega)]; omega
  have e3 : ((dl : Int) == 1) = false := by simp; omega
  have e4 : IntKind.i64.wrap ((a : Int) + (b : Int)) = (a : Int) + (b : Int) := IntWalk.i64_in _ (by omega)
  have e5 : ((a : Int) + (b : Int)) / 2 = (md : Int) := by omega
  have e6 : IntKind.i64.wrap ((md : Int) + (m : Int)) = (nn : Int) := by rw [IntWalk.i64_in _ (by omega)]; omega
  have e7 : IntKind.i64.wrap ((nn : Int) - 1) = (pp : Int) := by rw [IntWalk.i64_in _ (by omega)]; omega
  have hbn : b ≤ n := by omega
  have hord : a < md ∧ md < b ∧ a < m ∧ m < b := by omega
  have HN := Lib.hid hnn
  have HPP := Lib.hid hpp
  -- where the search goes
  obtain ⟨lo, hi, hlh⟩ : ∃ lo hi, (md < m → lo + b = nn ∧ hi = md) ∧ (¬ md < m → lo = a ∧ hi = m) ∧ a ≤ lo ∧ lo ≤ hi ∧ hi ≤ m ∧ hi ≤ md ∧ nn ≤ lo + b ∧ (lo = a ∨ lo + b = nn) ∧ (hi = m ∨ hi = md) := by
    by_cases hq : md < m
    · exact ⟨nn - b, md, fun _ => ⟨by omega, rfl⟩, fun h => absurd hq h, by omega, by omega, by omega, by omega, by omega, by omega, by omega⟩
    · exact ⟨a, m, fun h => absurd h hq, fun _ => ⟨rfl, rfl⟩, by omega, by omega, by omega, by omega, by omega, by omega, by omega⟩
  have HLH := Lib.hid hlh
  clear h hf hsA hsD ha hm hb hlen hal hdl hmd hnn hpp IH hlh
  go_enter Try.func110, Try.ntmps110
  go_upto_if 140 with fail
  clear e1 e0 e2 e3 e4 e5 e6
  go_cut [20, 21] from 138 (fun v1 v2 wx => v1 = .int .i64 lo ∧ v2 = .int .i64 hi ∧ wx = w)
  case first =>
    by_cases hq : md < m
    · have hq2 : (md : Int) < (m : Int) := by omega
      have hd := decide_eq_true hq2
      have hd1 := decide_eq_true hq
      have e8 : IntKind.i64.wrap ((nn : Int) - (b : Int)) = (lo : Int) := by have := HLH.out.1 hq; have := HN.out; rw [IntWalk.i64_in _ (by omega)]; omega
      go_wp2_with fail
      go_meet
      case rel => exact ⟨rfl, by rw [(HLH.out.1 hq).2], rfl⟩
    · have hq2 : ¬ (md : Int) < (m : Int) := by omega
      have hd := decide_eq_false hq2
      have hd1 := decide_eq_false hq
      go_wp2_with fail
      go_meet
      case rel => exact ⟨by rw [(HLH.out.2.1 hq).1], by rw [(HLH.out.2.1 hq).2], rfl⟩
  case rest =>
    obtain ⟨rfl, rfl, rfl⟩ := hcut
    obtain ⟨w0, hw0⟩ : ∃ w0, w0 = wc := ⟨_, rfl⟩
    subst hw0
    have HR := Lib.hid HLH.out.2.2
    clear HLH
    go_wp2_with fail
    clear e7
    go_loopw [20, 21] (fun i j wr => ∃ (s r : Nat), i = .int .i64 (s : Int) ∧ j = .int .i64 (r : Int) ∧ lo ≤ s ∧ s ≤ r ∧ r ≤ hi ∧ (s = lo ∨ key ((P ++ (A ++ (D ++ S))).getD (s - 1) []) ≤ key ((P ++ (A ++ (D ++ S))).getD (nn - s) [])) ∧ (r = hi ∨ key ((P ++ (A ++ (D ++ S))).getD (nn - r - 1) []) < key ((P ++ (A ++ (D ++ S))).getD r [])) ∧ OwnLL wr B (.slice (some ⟨g, 0, none⟩) n cap) (P ++ (A ++ (D ++ S))) ∧ Below B w0 wr) (fun i j _ => (intOf j).toNat - (intOf i).toNat)
    case atStart => exact ⟨lo, hi, rfl, rfl, Nat.le_refl _, HR.out.2.1, Nat.le_refl _, .inl rfl, .inl rfl, H.out, Below.refl _ _⟩
    case round =>
      obtain ⟨s, r, rfl, rfl, hls, hsr, hrh, h1, h2, ho, hbw⟩ := hrel
      have HO := Lib.hid ho
      have HBW := Lib.hid hbw
      have H1 := Lib.hid h1
      have H2 := Lib.hid h2
      by_cases hlt : s < r
      · obtain ⟨c, hc⟩ : ∃ c, c = (s + r) / 2 := ⟨_, rfl⟩
        obtain ⟨pc, hpc⟩ : ∃ pc, pc = pp - c := ⟨_, rfl⟩
        have hR := HR.out
        have hN := HN.out
        have hP := HPP.out
        have hcr : c < r := by omega
        have hsc : s ≤ c := by omega
        have hcm : c < n := by omega
        have hpn : pc < n := by omega
        have HPC := Lib.hid (show nn - (c + 1) = pc ∧ nn - c - 1 = pc by omega)
        have e2 : IntKind.i64.wrap ((s : Int) + (r : Int)) = (s : Int) + (r : Int) := IntWalk.i64_in _ (by omega)
        have e3 : ((s : Int) + (r : Int)) / 2 = (c : Int) := by omega
        have e4 : IntKind.i64.wrap ((pp : Int) - (c : Int)) = (pc : Int) := by rw [IntWalk.i64_in _ (by omega)]; omega
        obtain ⟨ua, ul, uc, hu⟩ := ho.sl pc (by rw [← HLen.out]; exact hpn)
        obtain ⟨va, vl, vc, hv⟩ := ho.sl c (by rw [← HLen.out]; exact hcm)
        have hk := ho.cmp HF.out pc c (by rw [← HLen.out]; exact hpn) (by rw [← HLen.out]; exact hcm) _ _ hu hv
        have hdec := cmpI_neg (key ((P ++ (A ++ (D ++ S))).getD pc [])) (key ((P ++ (A ++ (D ++ S))).getD c []))
        generalize cmpI (key ((P ++ (A ++ (D ++ S))).getD pc [])) (key ((P ++ (A ++ (D ++ S))).getD c [])) = q at *
        have hrb : r < 9223372036854775807 := by omega
        clear ho hbw h1 h2 hc hpc hR hN hP
        by_cases hq : q < 0
        · have HXY := Lib.hid (show key ((P ++ (A ++ (D ++ S))).getD pc []) < key ((P ++ (A ++ (D ++ S))).getD c []) by simpa [hq] using hdec)
          clear hdec
          go_wp2_with fail
          go_quiet ((go_at_call 79; exact Calls.quiet_of (hk _)))
          have HO2 := Lib.hid (HO.out.drew nq)
          have HB2 := Lib.hid (below_drewN HBW.out nq)
          clear hu hv hk
          generalize wr.drewN nq = w2 at *
          go_wp2_with fail
          go_roundw
          case rel => exact ⟨s, c, rfl, rfl, hls, hsc, by omega, H1.out, .inr (by rw [HPC.out.2]; exact HXY.out), HO2.out, HB2.out⟩
          case measure => simp [intOf]; omega
        · have HXY := Lib.hid (show ¬ key ((P ++ (A ++ (D ++ S))).getD pc []) < key ((P ++ (A ++ (D ++ S))).getD c []) by simpa [hq] using hdec)
          have hq2 : 0 ≤ q := by omega
          have hq3 : decide (q < 0) = false := by simpa using hq2
          have hq4 : decide (0 ≤ q) = true := by simpa using hq2
          clear hdec
          go_wp2_with fail
          go_quiet ((go_at_call 79; exact Calls.quiet_of (hk _)))
          have HO2 := Lib.hid (HO.out.drew nq)
          have HB2 := Lib.hid (below_drewN HBW.out nq)
          clear hu hv hk
          generalize wr.drewN nq = w2 at *
          go_wp2_with fail
          go_roundw
          case rel => exact ⟨c + 1, r, by go_num, rfl, by omega, by omega, hrh, .inr (by rw [HPC.out.1, Nat.add_sub_cancel]; have := HXY.out; omega), H2.out, HO2.out, HB2.out⟩
          case measure => simp [intOf]; omega
      · obtain rfl : s = r := by omega
        have hR := HR.out
        have hN := HN.out
        obtain ⟨e, he⟩ : ∃ e, e = nn - s := ⟨_, rfl⟩
        have e2 : IntKind.i64.wrap ((nn : Int) - (s : Int)) = (e : Int) := by rw [IntWalk.i64_in _ (by omega)]; omega
        obtain ⟨A1, A2, D1, D2, hA12, hD12, l1, l2, l3, l4, l5, s1, s2, s3, s4, o1, o2, o3, o4⟩ := sym_cut (P := P) (A := A) (D := D) (S := S) (e := e) HA.out HM.out HB.out HSA.out HSD.out (by omega : a ≤ s) (by omega) (by omega) (by omega) hN (by omega)
          (by
            rcases h1 with h | h
            · rcases hR.2.2.2.2.2.1 with h' | h'
              · exact .inl (by omega)
              · exact .inr (.inl (by omega))
            · rw [he]; exact .inr (.inr h))
          (by
            rcases h2 with h | h
            · rcases hR.2.2.2.2.2.2 with h' | h'
              · exact .inl (by omega)
              · exact .inr (.inl (by omega))
            · rw [he]; exact .inr (.inr h))
        have HAA := Lib.hid hA12
        have HDD := Lib.hid hD12
        have HLs := Lib.hid (And.intro l1 (And.intro l2 (And.intro l3 (And.intro l4 l5))))
        have HSs := Lib.hid (And.intro s1 (And.intro s2 (And.intro s3 s4)))
        have HOs := Lib.hid (And.intro o1 (And.intro o2 (And.intro o3 o4)))
        clear ho hbw h1 h2 hR hN he hlt hA12 hD12 l1 l2 l3 l4 l5 s1 s2 s3 s4 o1 o2 o3 o4 HR
        have HF1 := Lib.hid (show Full (P ++ (A1 ++ (D1 ++ (A2 ++ (D2 ++ S))))) from fun l hl => by
          refine HF.out l ?_
          rw [HAA.out, HDD.out]
          simp only [List.mem_append] at hl ⊢
          rcases hl with h | h | h | h | h | h
          · exact .inl h
          · exact .inr (.inl (.inl h))
          · exact .inr (.inr (.inl (.inl h)))
          · exact .inr (.inl (.inr h))
          · exact .inr (.inr (.inl (.inr h)))
          · exact .inr (.inr (.inr h)))
        obtain ⟨w1, hw1⟩ : ∃ w1, w1 = wr := ⟨_, rfl⟩
        subst hw1
        go_upto_region 39 with fail
        go_cut [185] from 178 (fun v wx => v = .bool (decide (s < m ∧ m < e)) ∧ wx = w1)
        case first =>
          by_cases q1 : s < m
          · by_cases q2 : m < e
            · have d1 := decide_eq_true q1
              have d2 := decide_eq_true q2
              go_wp2_with fail
              go_meet
              case rel => exact ⟨by simp [q1, q2], rfl⟩
            · have d1 := decide_eq_true q1
              have d2 := decide_eq_false q2
              go_wp2_with fail
              go_meet
              case rel => exact ⟨by simp [q2], rfl⟩
          · have d1 := decide_eq_false q1
            go_wp2_with fail
            go_meet
            case rel => exact ⟨by simp [q1], rfl⟩
        case rest =>
          obtain ⟨rfl, hw2⟩ := hcut
          subst hw2
          go_upto_if 185 with fail
          go_cut [] from 178 (fun wx => OwnLL wx B (.slice (some ⟨g, 0, none⟩) n cap) (P ++ (A1 ++ (D1 ++ (A2 ++ (D2 ++ S))))) ∧ Below B w0 wx)
          case first =>
            by_cases q1 : s < m ∧ m < e
            · have d1 := decide_eq_true q1
              have hL := HLs.out
              have HRO := Lib.hid (rotate_any (w := wc) (fv := .func (.func 79) #[] #[]) (P ++ A1) A2 D1 (D2 ++ S) s m e (by have := HA.out; simp; omega) (by have := HA.out; simp; omega) (by have := HA.out; simp; omega) (by omega) (by omega) (by have := HO.out; rw [HAA.out, HDD.out] at this; simpa using this) hn)
              clear hL
              go_wp2_with fail
              refine HRO.out.mono ?_
              rintro e w2 ⟨rfl, ho2, hb2⟩
              have HO2 := Lib.hid ho2
              have HB2 := Lib.hid (HBW.out.trans hb2)
              clear ho2 hb2 HRO
              go_wp2_with fail
              go_meet
              case rel => exact ⟨by have := HO2.out; simpa using this, HB2.out⟩
            · have d1 := decide_eq_false q1
              have hE : A2 = [] ∨ D1 = [] := by
                have hL := HLs.out
                by_cases q3 : s < m
                · exact .inr (List.eq_nil_of_length_eq_zero (by omega))
                · exact .inl (List.eq_nil_of_length_eq_zero (by omega))
              have HE := Lib.hid (show OwnLL wc B (.slice (some ⟨g, 0, none⟩) n cap) (P ++ (A1 ++ (D1 ++ (A2 ++ (D2 ++ S))))) from by
                have := HO.out
                rw [HAA.out, HDD.out] at this
                rcases hE with rfl | rfl <;> simpa using this)
              clear hE
              go_wp2_with fail
              go_meet
              case rel => exact ⟨HE.out, HBW.out⟩
          case rest =>
            obtain ⟨ho3, hbw3⟩ := hcut
            have HO3 := Lib.hid ho3
            have HB3 := Lib.hid hbw3
            obtain ⟨w3, hw3⟩ : ∃ w3, w3 = wc := ⟨_, rfl⟩
            subst hw3
            clear ho3 hbw3
            go_upto_region 41 with fail
            go_cut [199] from 192 (fun v wx => v = .bool (decide (a < s ∧ s < md)) ∧ wx = w3)
            case first =>
              by_cases q1 : a < s
              · by_cases q2 : s < md
                · have d1 := decide_eq_true q1
                  have d2 := decide_eq_true q2
                  go_wp2_with fail
                  go_meet
                  case rel => exact ⟨by simp [q1, q2], rfl⟩
                · have d1 := decide_eq_true q1
                  have d2 := decide_eq_false q2
                  go_wp2_with fail
                  go_meet
                  case rel => exact ⟨by simp [q2], rfl⟩
              · have d1 := decide_eq_false q1
                go_wp2_with fail
                go_meet
                case rel => exact ⟨by simp [q1], rfl⟩
            case rest =>
              obtain ⟨rfl, hw4⟩ := hcut
              subst hw4
              go_upto_if 199 with fail
              go_cut [] from 192 (fun wx => (∃ Y1, Stab (A1 ++ D1) Y1 ∧ OwnLL wx B (.slice (some ⟨g, 0, none⟩) n cap) (P ++ (Y1 ++ (A2 ++ (D2 ++ S))))) ∧ Below B w0 wx)
              case first =>
                by_cases q1 : a < s ∧ s < md
                · have d1 := decide_eq_true q1
                  have HRO := Lib.hid (HI.out wc P A1 D1 (A2 ++ (D2 ++ S)) a s md (by have hL := HLs.out; have := HM.out; have := HB.out; omega) HA.out HLs.out.1 HLs.out.2.2.1 (by have hL := HLs.out; omega) (by have hL := HLs.out; omega) HF1.out HSs.out.1 HSs.out.2.2.1 HO3.out)
                  go_wp2_with fail
                  refine HRO.out.mono ?_
                  rintro e w2 ⟨rfl, ho2, hb2⟩
                  have HO2 := Lib.hid ho2
                  have HB2 := Lib.hid (HB3.out.trans hb2)
                  clear ho2 hb2 HRO
                  go_wp2_with fail
                  go_meet
                  case rel => exact ⟨HO2.out, HB2.out⟩
                · have d1 := decide_eq_false q1
                  have HE := Lib.hid (show Stab (A1 ++ D1) (A1 ++ D1) from by
                    have hL := HLs.out
                    by_cases q3 : a < s
                    · obtain rfl : D1 = [] := List.eq_nil_of_length_eq_zero (by omega)
                      rw [List.append_nil]; exact stab_self HSs.out.1
                    · obtain rfl : A1 = [] := List.eq_nil_of_length_eq_zero (by omega)
                      exact stab_self HSs.out.2.2.1)
                  go_wp2_with fail
                  go_meet
                  case rel => exact ⟨⟨_, HE.out, by have := HO3.out; simpa using this⟩, HB3.out⟩
              case rest =>
                obtain ⟨⟨Y1, hY1, ho4⟩, hbw4⟩ := hcut
                have HY1 := Lib.hid hY1
                have HO4 := Lib.hid ho4
                have HB4 := Lib.hid hbw4
                have HYL := Lib.hid (show Y1.length = A1.length + D1.length by have := hY1.len; simpa using this)
                have HF2 := Lib.hid (show Full ((P ++ Y1) ++ (A2 ++ (D2 ++ S))) from fun l hl => by
                  refine HF1.out l ?_
                  have hm := hY1.mem l
                  simp only [List.mem_append] at hl hm ⊢
                  rcases hl with (h | h) | h
                  · exact .inl h
                  · rcases hm.1 h with h | h
                    · exact .inr (.inl h)
                    · exact .inr (.inr (.inl h))
                  · exact .inr (.inr (.inr h)))
                obtain ⟨w4, hw4⟩ : ∃ w4, w4 = wc := ⟨_, rfl⟩
                subst hw4
                clear ho4 hbw4 hY1
                go_upto_region 43 with fail
                go_cut [213] from 206 (fun v wx => v = .bool (decide (md < e ∧ e < b)) ∧ wx = w4)
                case first =>
                  by_cases q1 : md < e
                  · by_cases q2 : e < b
                    · have d1 := decide_eq_true q1
                      have d2 := decide_eq_true q2
                      go_wp2_with fail
                      go_meet
                      case rel => exact ⟨by simp [q1, q2], rfl⟩
                    · have d1 := decide_eq_true q1
                      have d2 := decide_eq_false q2
                      go_wp2_with fail
                      go_meet
                      case rel => exact ⟨by simp [q2], rfl⟩
                  · have d1 := decide_eq_false q1
                    go_wp2_with fail
                    go_meet
                    case rel => exact ⟨by simp [q1], rfl⟩
                case rest =>
                  obtain ⟨rfl, hw5⟩ := hcut
                  subst hw5
                  by_cases q1 : md < e ∧ e < b
                  · have d1 := decide_eq_true q1
                    have HRO := Lib.hid (HI.out wc (P ++ Y1) A2 D2 S md e b (by have hL := HLs.out; have := HM.out; have := HB.out; omega) (by have hL := HLs.out; have := HA.out; have := HYL.out; simp; omega) HLs.out.2.2.2.1 HLs.out.2.2.2.2 (by have hL := HLs.out; omega) (by have hL := HLs.out; omega) HF2.out HSs.out.2.1 HSs.out.2.2.2 (by have := HO4.out; simpa using this))
                    go_wp2_with fail
                    refine HRO.out.mono ?_
                    rintro e w2 ⟨rfl, ⟨Y2, hY2, ho2⟩, hb2⟩
                    have HO2 := Lib.hid ho2
                    have HY2 := Lib.hid hY2
                    have HB2 := Lib.hid (HB4.out.trans hb2)
                    clear ho2 hb2 hY2 HRO
                    go_wp2_with fail
                    go_end0
                    refine ⟨rfl, ⟨Y1 ++ Y2, ?_, by have := HO2.out; simpa using this⟩, HB2.out⟩
                    rw [HAA.out, HDD.out]
                    exact stab_merge HY1.out HY2.out HOs.out.1 HOs.out.2.1 HOs.out.2.2.1 HOs.out.2.2.2
                  · have d1 := decide_eq_false q1
                    have HE := Lib.hid (show Stab (A2 ++ D2) (A2 ++ D2) from by
                      have hL := HLs.out
                      by_cases q3 : md < e
                      · obtain rfl : D2 = [] := List.eq_nil_of_length_eq_zero (by omega)
                        rw [List.append_nil]; exact stab_self HSs.out.2.1
                      · obtain rfl : A2 = [] := List.eq_nil_of_length_eq_zero (by omega)
                        exact stab_self HSs.out.2.2.2)
                    go_wp2_with fail
                    go_end0
                    refine ⟨rfl, ⟨Y1 ++ (A2 ++ D2), ?_, by have := HO4.out; simpa using this⟩, HB4.out⟩
                    rw [HAA.out, HDD.out]
                    exact stab_merge HY1.out HE.out HOs.out.1 HOs.out.2.1 HOs.out.2.2.1 HOs.out.2.2.2
/-- Two runs in order are merged. -/
theorem symMerge_any {B g n cap : Nat} (hn : n ≤ 1000000) : ∀ N, Merges B g n cap N
  | 0 => fun _ _ _ _ _ _ _ _ h => absurd h (Nat.not_lt_zero _)
  | N + 1 => fun w P A D S a m b hN ha hm hb hA hD hf hsA hsD ho => by
    have ih := symMerge_any (B := B) (g := g) (cap := cap) hn N
    by_cases h1 : A.length = 1
    · obtain ⟨x, rfl⟩ := List.length_eq_one_iff.1 h1
      exact symMerge_front P D S x a m b ha (by simpa using hm) hb hf hsD ho hn
    · by_cases h2 : D.length = 1
      · obtain ⟨y, rfl⟩ := List.length_eq_one_iff.1 h2
        exact symMerge_behind P A S y a m b ha hm (by simpa using hb) (by omega) (by simpa using hf) hsA (by simpa using ho) hn
      · exact symMerge_split P A D S a m b (fun w P' A' D' S' a' m' b' h => ih w P' A' D' S' a' m' b' (by omega)) ha hm hb (by omega) (by omega) hf hsA hsD ho hn
end Go.Proofs.Ytipjaibemhoifaa
