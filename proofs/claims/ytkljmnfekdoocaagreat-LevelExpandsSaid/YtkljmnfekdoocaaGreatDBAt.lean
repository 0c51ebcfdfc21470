/- What the document's At answers. -/
import Derived.Test.YtkljmnfekdoocaaGreatBMore
import Derived.Test.YtkljmnfekdoocaaGreatPRef
namespace Go.Proofs.YtkljmnfekdoocaaGreat
open Go.ChangeShapes Go.WideShapes Go.ChangeAt Go.RowKit

set_option maxRecDepth 1000000 in
set_option maxHeartbeats 4000000 in
theorem dbat_any {w : World} {v : Value} {I : Ins} {s : Sta} (h : SRow w v I.l) (hs : SetsOk s) :
    Calls Tryz.prog 53 #[insV I v, staV s] w fun e w' => e = .returned (.int .i64 (boundS I s)) ∧ Below w.heap.size w w' := by
  have HR := Lib.hid h
  have HS := Lib.hid hs
  obtain ⟨ad, cap, rfl, _⟩ := h.form
  clear h hs
  unfold insV staV
  go_enter Tryz.func53, Tryz.ntmps53
  go_upto_region 1 with fail
  obtain ⟨k1, k2, k3⟩ := boxes_is w I (.slice ad I.l.length cap) s
  have HY := Lib.hid k1
  have HA := Lib.hid k2
  have HB := Lib.hid k3
  clear k1 k2 k3
  change Code.wp _ _ _ _ ((w.alloc (boxI I (.slice ad I.l.length cap))).alloc (boxSt s))
  generalize (w.alloc (boxI I (.slice ad I.l.length cap))).alloc (boxSt s) = W at *
  obtain ⟨y0, y1, y2, y3⟩ := HY.out.cells
  go_wp2_with fail
  clear y0 y1 y2 y3
  change Calls _ _ #[insV I (.slice ad I.l.length cap)] _ _
  refine (rnear_any (I := I) (HR.out.below HB.out)).mono ?_
  rintro e w1 ⟨u, rfl, hu, hb⟩
  have HA1 := Lib.hid (HA.out.later hb)
  have HB1 := Lib.hid (HB.out.trans (hb.mono HB.out.size))
  have HBW := Lib.hid HB.out.size
  clear hb HY HA HB
  have HN := Lib.hid (fun j => (⟨near_pos I j, near_hi I j⟩ : 0 ≤ (nearI I).getD j 0 ∧ (nearI I).getD j 0 ≤ 14143))
  have HE := Lib.hid (show boundS I s = if (nearI I).length < 2 then 0 else (nearI I).getD 0 0 + sumN (fun i => if has s.may ((i : Int) + 1) then 0 else (nearI I).getD (i + 1) 0) ((nearI I).length - 1) from rfl)
  have HL := Lib.hid (show (nearI I).length ≤ 33 by
    rw [near_len]
    split
    · next hm => exact (pmay_len hm).2
    · omega)
  change OwnI w1 W.heap.size u (nearI I) at hu
  generalize nearI I = N at *
  by_cases h0 : N.length < 2
  · obtain ⟨ua, uc, rfl⟩ := hu.shape
    have d1 : decide ((N.length : Int) < 2) = true := decide_eq_true (by omega)
    have d2 := decide_eq_true h0
    have HE2 := Lib.hid (show boundS I s = 0 by rw [HE.out, if_pos h0])
    clear h0 hu HE
    go_wp2
    go_ret
    exact ⟨by rw [HE2.out]; rfl, HB1.out⟩
  · have d1 : decide ((N.length : Int) < 2) = false := decide_eq_false (by omega)
    have d2 := decide_eq_false h0
    have HE2 := Lib.hid (show boundS I s = N.getD 0 0 + sumN (fun i => if has s.may ((i : Int) + 1) then 0 else N.getD (i + 1) 0) (N.length - 1) by rw [HE.out, if_neg h0])
    have H0 := Lib.hid h0
    obtain ⟨g, uc, rfl, hcap, hg, hcl⟩ := own_cells hu (by omega)
    have HC := Lib.hid hcl
    have HG := Lib.hid hg
    have c0 := hcl 0 (by omega)
    have i1 : (0 : Int) < (N.length : Int) := by omega
    have i2 : 0 < N.length := by omega
    have hl9 : N.length ≤ 9223372036854775807 := by have := HL.out; omega
    clear h0 hu HE hcl hg
    obtain ⟨f, hf⟩ : ∃ f : Nat → Int, (fun i : Nat => if has s.may ((i : Int) + 1) then 0 else N.getD (i + 1) 0) = f := ⟨_, rfl⟩
    have HF := Lib.hid (fun i : Nat => show f i = if has s.may ((i : Int) + 1) then 0 else N.getD (i + 1) 0 by rw [← hf])
    rw [hf] at HE2
    clear hf
    obtain ⟨n0, hn0⟩ : ∃ n0, N.getD 0 0 = n0 := ⟨_, rfl⟩
    have HN0 := Lib.hid (HN.out 0)
    rw [hn0] at c0 HE2 HN0
    clear hn0
    go_wp2_with fail
    clear c0
    go_loop [6, 7] (fun nn jj => ∃ (k : Nat) (x : Int), k + 1 ≤ N.length ∧ jj = .int .i64 ((k : Int) + 1) ∧ nn = .int .i64 x ∧ x = n0 + sumN f k ∧ 0 ≤ x ∧ x ≤ 14143 * ((k : Int) + 1)) (fun _ jj => N.length - (intOf jj).toNat)
    case atStart => exact ⟨0, n0, by have := H0.out; omega, rfl, rfl, by rw [sumN]; omega, HN0.out.1, by have := HN0.out.2; omega⟩
    case round =>
      obtain ⟨k, x, hk, rfl, rfl, hx, hx0, hx1⟩ := hrel
      by_cases hlt : k + 1 < N.length
      · have HX := Lib.hid hx
        have HXB := Lib.hid (And.intro hx0 hx1)
        have HK := Lib.hid hlt
        have b1 : (k : Int) + 1 < (N.length : Int) := by omega
        have b2 := decide_eq_true b1
        have b3 : (0 : Int) ≤ (k : Int) + 1 := by omega
        have b4 : ((k : Int) + 1).toNat = k + 1 := by omega
        have ck := HC.out (k + 1) hlt
        have hy := HN.out (k + 1)
        have hfk := HF.out k
        have b5 : IntKind.i64.wrap ((k : Int) + 1 + 1) = (k : Int) + 1 + 1 := IntWalk.i64_in _ (by have := HL.out; omega)
        have a6 := HA1.out.c6
        clear hx hx0 hx1 hk hlt
        generalize N.getD (k + 1) 0 = y at *
        have HY := Lib.hid hy
        clear hy
        go_wp2_with fail
        refine (erhas_any s.may _ _ HS.out.2.1).mono ?_
        rintro e w' ⟨rfl, rfl⟩
        have hl := HL.out
        have hkk := HK.out
        by_cases hh : has s.may ((k : Int) + 1) = true
        · rw [if_pos hh] at hfk
          rw [hh]
          have HFK := Lib.hid hfk
          clear hfk hh hl hkk
          go_wp2_with fail
          go_round
          case rel => exact ⟨k + 1, x, by have := HK.out; omega, by go_num, rfl, by rw [sumN, HFK.out]; have := HX.out; omega, HXB.out.1, by have := HXB.out.2; omega⟩
          case measure => have := HK.out; simp [intOf]; omega
        · have hh2 : has s.may ((k : Int) + 1) = false := by simpa using hh
          rw [if_neg hh] at hfk
          rw [hh2]
          have HFK := Lib.hid hfk
          have hy0 := HY.out
          have hxb := HXB.out
          have b6 : IntKind.i64.wrap (x + y) = x + y := IntWalk.i64_in _ (by omega)
          clear hfk hh hh2 hl hkk hy0 hxb
          go_wp2_with fail
          go_round
          case rel => exact ⟨k + 1, x + y, by have := HK.out; omega, by go_num, rfl, by rw [sumN, HFK.out]; have := HX.out; omega, by have := HXB.out.1; have := HY.out; omega, by have := HXB.out.2; have := HY.out; omega⟩
          case measure => have := HK.out; simp [intOf]; omega
      · have HX := Lib.hid hx
        have HK := Lib.hid (show N.length - 1 = k by omega)
        have b2 : decide ((k : Int) + 1 < (N.length : Int)) = false := decide_eq_false (by omega)
        clear hx hx0 hx1 hk hlt
        go_wp2
        go_ret
        exact ⟨by rw [HE2.out, HK.out, ← HX.out]; rfl, HB1.out⟩
end Go.Proofs.YtkljmnfekdoocaaGreat
