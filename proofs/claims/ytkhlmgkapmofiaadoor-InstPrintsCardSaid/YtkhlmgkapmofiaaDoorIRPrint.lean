/- The document's Print. -/
import Derived.Test.YtkhlmgkapmofiaaDoorIRMay
import Derived.Test.YtkhlmgkapmofiaaDoorIPrint
import Derived.Test.YtkhlmgkapmofiaaDoorRefp
namespace Go.Proofs.YtkhlmgkapmofiaaDoor
open Go.ChangeShapes Go.WideShapes Go.ChangeAt Go.RowKit

set_option maxRecDepth 1000000 in
set_option maxHeartbeats 2000000 in
theorem rprint_any {w : World} {v : Value} {I : Ins} (h : SRow w v I.l) :
    Calls Tryd.prog 14 #[insV I v] w fun e w' => Printed w w' I e := by
  have H := Lib.hid h
  obtain ⟨ad, cap, rfl, hm, hc, hcm⟩ := h.form
  clear h hm hc hcm
  unfold insV
  go_enter Tryd.func14, Tryd.ntmps14
  go_wp2_with fail
  change Calls _ _ _ (w.alloc (boxI I (.slice ad I.l.length cap))) _
  have HB1 := Lib.hid ((Below.refl _ w).alloc (Nat.le_refl _) (boxI I (.slice ad I.l.length cap)))
  have HS0 := Lib.hid (holds_box w I (.slice ad I.l.length cap))
  have hlt : w.heap.size < (w.alloc (boxI I (.slice ad I.l.length cap))).heap.size := by simp
  generalize w.alloc (boxI I (.slice ad I.l.length cap)) = W at *
  refine (rmay_any (H.out.below HB1.out)).mono ?_
  rintro e w1 ⟨rfl, hb⟩
  have HS1 := Holds.below hb HS0.out ⟨hlt, hlt, hlt, hlt, trivial⟩
  have HS1h := Lib.hid HS1
  simp only [cellsI, Holds] at HS1
  obtain ⟨c0, c1, c2, c3, _⟩ := HS1
  have HB2 := Lib.hid (HB1.out.trans (hb.mono HB1.out.size))
  have hz : w.heap.size < w1.heap.size := by have := hb.size; omega
  clear hb
  cases hmay : mayB I
  · have HM := Lib.hid hmay
    clear hmay
    go_wp2
    go_ret2
    exact .inl ⟨HM.out, rfl, HB2.out⟩
  · have HM := Lib.hid hmay
    have HL := Lib.hid (show I.l.length ≤ 100000 by have := (may_len hmay); omega)
    have HE := Lib.hid (H.out.below HB2.out)
    clear hmay
    go_wp2_with fail
    have hM0 := made_one (fix_new w1 (headI I) 3 (by decide) (by simp [headI, maxLen]))
    rw [show (w1.alloc (.cells (ints (headI I)).toArray 3)).heap.size = w1.heap.size + 1 by simp] at hM0
    have HM0 := Lib.hid hM0
    have HB0 := Lib.hid (((Below.refl _ w1).alloc (Nat.le_refl _) (.cells #[.int .i64 I.p, .int .i64 I.c, .int .i64 I.r] 3)).alloc (by simp) (.cells #[.slice (some ⟨w1.heap.size, 0, none⟩) 3 3] 45))
    have hLm : I.l.length ≤ 9223372036854775807 := by have := HL.out; omega
    clear hM0
    go_loopw [5, 6] (fun u i wr => ∃ k : Nat, k ≤ I.l.length ∧ i = .int .i64 k ∧ MadeLL wr w1.heap.size u (headI I :: (I.l.take k).map rowS) ∧ Below w1.heap.size w1 wr) (fun _ i _ => I.l.length - (intOf i).toNat)
    case atStart => exact ⟨0, Nat.zero_le _, rfl, HM0.out.less (by omega), HB0.out⟩
    case round =>
      obtain ⟨k, hk, rfl, hMk, hbw⟩ := hrel
      have HMk := Lib.hid hMk
      have HBW := Lib.hid hbw
      have hcc := Holds.below hbw HS1h.out ⟨hz, hz, hz, hz, trivial⟩
      simp only [cellsI, Holds] at hcc
      obtain ⟨_, _, _, b3, _⟩ := hcc
      clear hMk hbw
      by_cases hlt2 : k < I.l.length
      · obtain ⟨tb, off, rfl, hat, htb⟩ := srow_at HE.out k hlt2
        obtain ⟨e0, e1, e2, e3, e4, e5⟩ := hat.below htb HBW.out
        have HT := Lib.hid (lines_take I k hlt2)
        have hLn : (headI I :: (I.l.take k).map rowS).length ≤ 200000 := by have := HL.out; simp; omega
        generalize headI I :: (I.l.take k).map rowS = A at *
        generalize nth I.l k = t at *
        obtain ⟨ua, uc, rfl⟩ := HMk.out.shape
        have hsz := HBW.out.size
        have hn0 : (wr.alloc (.cells #[.int .i64 t.x, .int .i64 t.y, .int .i64 t.d, .int .i64 t.r, .int .i64 t.u, .int .i64 t.s] 36)).heap.size = wr.heap.size + 1 := by simp
        have hn1 : ((wr.alloc (.cells #[.int .i64 t.x, .int .i64 t.y, .int .i64 t.d, .int .i64 t.r, .int .i64 t.u, .int .i64 t.s] 36)).alloc (.cells #[.int .i64 t.x, .int .i64 t.y, .int .i64 t.d, .int .i64 t.r, .int .i64 t.u, .int .i64 t.s] 3)).heap.size = wr.heap.size + 2 := by simp
        have HN0 := Lib.hid hn0
        have HN1 := Lib.hid hn1
        have HBB := Lib.hid (((Below.refl _ wr).alloc (Nat.le_refl _) (.cells #[.int .i64 t.x, .int .i64 t.y, .int .i64 t.d, .int .i64 t.r, .int .i64 t.u, .int .i64 t.s] 36)).alloc (by simp) (.cells #[.int .i64 t.x, .int .i64 t.y, .int .i64 t.d, .int .i64 t.r, .int .i64 t.u, .int .i64 t.s] 3))
        have HM2 := Lib.hid (HMk.out.below HBB.out)
        have HB3 := Lib.hid (HBW.out.trans (HBB.out.mono hsz))
        have hF := fix_new (wr.alloc (.cells #[.int .i64 t.x, .int .i64 t.y, .int .i64 t.d, .int .i64 t.r, .int .i64 t.u, .int .i64 t.s] 36)) (rowS t) 3 (by decide) (by simp [rowS, maxLen])
        rw [hn0] at hF
        have HF := Lib.hid hF
        clear hat hn0 hn1 hF
        go_wp2_with (first | (at_builtin; refine app_fix rfl _ _ rfl _ _ A rfl ((wr.alloc (.cells #[.int .i64 t.x, .int .i64 t.y, .int .i64 t.d, .int .i64 t.r, .int .i64 t.u, .int .i64 t.s] 36)).alloc (.cells #[.int .i64 t.x, .int .i64 t.y, .int .i64 t.d, .int .i64 t.r, .int .i64 t.u, .int .i64 t.s] 3)) _ rfl HM2.out (rowS t) (wr.heap.size + 2) HN1.out rfl HF.out (by omega) (by rw [HN1.out]; omega) ?_))
        intro v' w' hmade hgrow
        have HN := Lib.hid hmade
        have HB4 := Lib.hid (grown_below hgrow HB3.out.size (fun q hq => by
          obtain ⟨vs, q1, _⟩ := HM2.out
          have := (World.ownsRow.lt q1 q hq).1; omega))
        clear hmade hgrow
        go_wp2
        go_roundw
        case rel => exact ⟨k + 1, by omega, by go_num, by rw [← HT.out]; exact HN.out, HB3.out.trans HB4.out⟩
        case measure => simp [intOf]; omega
      · obtain rfl : k = I.l.length := by omega
        rw [List.take_length] at HMk
        have HB3 := Lib.hid (HB2.out.trans (HBW.out.mono HB2.out.size))
        have HS3 := Lib.hid HB3.out.size
        clear hlt2 hk
        go_wp2_with fail
        refine (refPrint_any (show IsLL wr _ (linesI I) from HMk.out.is) (may_fits HM.out) (by have := may_text HM.out; omega)).mono ?_
        rintro e w3 ⟨pv, rfl, hpo, hb⟩
        have HP := Lib.hid hpo
        have HB4 := Lib.hid (HB3.out.trans (hb.mono HB3.out.size))
        clear hpo hb
        go_wp2
        go_ret2
        exact .inr ⟨HM.out, _, rfl, own_less HP.out HS3.out, HB4.out⟩
end Go.Proofs.YtkhlmgkapmofiaaDoor
