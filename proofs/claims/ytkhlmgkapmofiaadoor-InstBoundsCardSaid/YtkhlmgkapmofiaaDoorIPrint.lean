/- What Print answers. -/
import Derived.Test.YtkhlmgkapmofiaaDoorILin
import Derived.Test.YtkhlmgkapmofiaaDoorIMay
namespace Go.Proofs.YtkhlmgkapmofiaaDoor
open Go.ChangeShapes Go.WideShapes Go.ChangeAt Go.RowKit

theorem may_fits {I : Ins} (h : mayB I = true) : Fits (linesI I) := fun l hl n hn => by
  have := may_tiny h l hl n hn
  omega
/-- The answer of Print: nothing, or the text. -/
def Printed (w w' : World) (I : Ins) (e : Ending) : Prop :=
  (mayB I = false ∧ e = .returned (.tuple #[.slice none 0 0, .int .i64 1]) ∧ Below w.heap.size w w') ∨
  (mayB I = true ∧ ∃ v, e = .returned (.tuple #[v, .int .i64 0]) ∧ OwnB w' w.heap.size v (textOf (linesI I)) ∧ Below w.heap.size w w')
set_option maxRecDepth 1000000 in
set_option maxHeartbeats 1000000 in
theorem iprint_any {w : World} {v : Value} {I : Ins} (h : SRow w v I.l) (ht : Tab w.heap.size w) :
    Calls Tryd.prog 13 #[insV I v] w fun e w' => Printed w w' I e := by
  have H := Lib.hid h
  have HT := Lib.hid ht
  obtain ⟨ad, cap, rfl, hm, hc, hcm⟩ := h.form
  clear h ht hm hc hcm
  unfold insV
  go_enter Tryd.func13, Tryd.ntmps13
  go_wp2_with fail
  change Calls _ _ _ (w.alloc (boxI I (.slice ad I.l.length cap))) _
  have HB1 := Lib.hid ((Below.refl _ w).alloc (Nat.le_refl _) (boxI I (.slice ad I.l.length cap)))
  have HS0 := Lib.hid (holds_box w I (.slice ad I.l.length cap))
  have hlt : w.heap.size < (w.alloc (boxI I (.slice ad I.l.length cap))).heap.size := by simp
  generalize w.alloc (boxI I (.slice ad I.l.length cap)) = W at *
  refine (may_any (H.out.below HB1.out)).mono ?_
  rintro e w1 ⟨rfl, hb⟩
  have HS1 := Holds.below hb HS0.out ⟨hlt, hlt, hlt, hlt, trivial⟩
  simp only [cellsI, Holds] at HS1
  obtain ⟨c0, c1, c2, c3, _⟩ := HS1
  have HB2 := Lib.hid (HB1.out.trans (hb.mono HB1.out.size))
  clear hb
  cases hmay : mayB I
  · have HM := Lib.hid hmay
    clear hmay
    go_wp2
    go_ret2
    exact .inl ⟨HM.out, rfl, HB2.out⟩
  · have HM := Lib.hid hmay
    have HL := Lib.hid (show I.l.length ≤ 100000 by have := (may_len hmay); omega)
    clear hmay
    go_wp2_with fail
    refine (linesOf_any (H.out.below HB2.out) HL.out).mono ?_
    rintro e w2 ⟨u, rfl, hu, hb⟩
    have HU := Lib.hid hu
    have HB3 := Lib.hid (HB2.out.trans (hb.mono HB2.out.size))
    clear hu hb
    go_wp2_with fail
    refine (print_any HU.out.is (may_fits HM.out) (by have := may_text HM.out; omega) ((HT.out.on HB3.out).up HB3.out.size)).mono ?_
    rintro e w3 ⟨pv, rfl, hp, hb⟩
    have HP := Lib.hid hp
    have HB4 := Lib.hid (HB3.out.trans (hb.mono HB3.out.size))
    have HS3 := Lib.hid HB3.out.size
    clear hp hb
    go_wp2
    go_ret2
    exact .inr ⟨HM.out, _, rfl, own_less HP.out HS3.out, HB4.out⟩
end Go.Proofs.YtkhlmgkapmofiaaDoor
