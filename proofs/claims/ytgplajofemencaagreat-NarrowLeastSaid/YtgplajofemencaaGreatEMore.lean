/- The node ahead of all, as law 15 tells it. -/
import Derived.Test.YtgplajofemencaaGreatYF
import Derived.Test.YtgplajofemencaaGreatXN
import Derived.Test.YtgplajofemencaaGreatYI
import Derived.Test.YtgplajofemencaaGreatYL
namespace Go.Proofs.YtgplajofemencaaGreat
open Go.ChangeShapes Go.WideShapes Go.ChangeAt Go.RowKit

set_option maxRecDepth 1000000 in
set_option maxHeartbeats 4000000 in
theorem eroot_any {w : World} {v : Value} {I : Ins} (hr : SRow w v I.l) : Calls Tryz.prog 13 #[insV I v] w fun e w' => e = .returned (nodeV (rootS I) 0 (.slice none 0 0)) ∧ Below w.heap.size w w' := by
  have HR := Lib.hid hr
  obtain ⟨ad, cap, rfl, _⟩ := hr.form
  clear hr
  unfold insV
  go_enter Tryz.func13, Tryz.ntmps13
  go_upto_region 1 with fail
  obtain ⟨k1, k2, k3⟩ := boxes_in w I (.slice ad I.l.length cap) noughtS 0 (.slice none 0 0)
  have HY := Lib.hid k1
  have HN := Lib.hid k2
  have HB := Lib.hid k3
  clear k1 k2 k3
  change Code.wp _ _ _ _ ((w.alloc (boxI I (.slice ad I.l.length cap))).alloc (boxN noughtS 0 (.slice none 0 0)))
  generalize (w.alloc (boxI I (.slice ad I.l.length cap))).alloc (boxN noughtS 0 (.slice none 0 0)) = W at *
  obtain ⟨y0, y1, y2, y3⟩ := HY.out.cells
  go_wp2_with fail
  clear y0 y1 y2 y3
  change Calls _ _ #[insV I (.slice ad I.l.length cap)] _ _
  refine (sroot_any (HR.out.below HB.out)).mono ?_
  rintro e w1 ⟨rfl, hb⟩
  have HN1 := Lib.hid (HN.out.later hb)
  have HB1 := Lib.hid (HB.out.trans (hb.mono HB.out.size))
  clear hb HN HB HY
  obtain ⟨rs, hrs⟩ : ∃ s, rootS I = s := ⟨_, rfl⟩
  rw [hrs]
  have HRS := Lib.hid hrs
  clear hrs
  unfold staV
  go_wp2_with (refine wpList_store_node (by rfl) (.tmp 2) (.tmp 5) (by rfl) (w.heap.size + 1) _ _ _ ⟨rs, 0, none, 0, 0⟩ (by rfl) (by rfl) HN1.out ?_)
  intro WE hE hbE hoE hgE
  have z0 := hE.c0
  have z1 := hE.c1
  have z2 := hE.c2
  have z3 := hE.c3
  have z4 := hE.c4
  have z5 := hE.c5
  have z6 := hE.c6
  have z7 := hE.c7
  have z8 := hE.c8
  have z9 := hE.c9
  go_wp2
  exact bodyPost_ret (v := nodeV rs 0 (.slice none 0 0)) (by simp [results, Tryz.results13, go_sem, z0, z1, z2, z3, z4, z5, z6, z7, z8, z9, nodeV, RawN.u]) rfl ⟨by rw [HRS.out], HB1.out.trans (hbE _ (Nat.le_succ _))⟩
theorem root_ok {I : Ins} (hm : mayB I = true) : FitSt (rootS I) := by
  obtain ⟨⟨ts, hi⟩, hx⟩ := follow_inv hm [] _ _ (follow_nil I)
  have hf := fine_of hm
  have hp0 := hf.p0
  have hp1 := hf.p1
  have hc := (inb_iff _ _ _).1 ((may_iff I).1 hm).2.1
  obtain ⟨g1, _, g3, _⟩ := goE_bds hf _ _ hi.go
  have h1 := hi.posr
  have h2 := hi.carc
  have h3 := hi.car
  have h4 := hi.now
  have h5 := hi.load
  have h6 : (rootS I).first = 0 := by rw [root_may hm]
  refine ⟨?_, ?_, ?_, ?_, ?_⟩ <;> unfold Fit <;> omega
theorem root_fit (I : Ins) : FitSt (rootS I) := by
  cases hm : mayB I with
  | true => exact root_ok hm
  | false =>
    have : rootS I = noughtS := if_neg (by rw [hm]; decide)
    rw [this]
    unfold FitSt Fit noughtS
    decide
theorem root_setsE (I : Ins) : SetsOk (rootS I) := by
  unfold rootS
  split
  · exact ⟨by show (0 : Nat) < 18446744073709551616; decide, by show (0 : Nat) < 18446744073709551616; decide, by show (0 : Nat) < 18446744073709551616; decide⟩
  · unfold SetsOk noughtS; decide
end Go.Proofs.YtgplajofemencaaGreat
