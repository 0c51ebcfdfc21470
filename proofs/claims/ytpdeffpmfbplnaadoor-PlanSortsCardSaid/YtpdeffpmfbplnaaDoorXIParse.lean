/- What Print answers. -/
import Derived.Test.YtpdeffpmfbplnaaDoorXIForm
import Derived.Test.YtpdeffpmfbplnaaDoorXIMay
import Derived.Test.YtpdeffpmfbplnaaDoorIFrom
namespace Go.Proofs.YtpdeffpmfbplnaaDoor
open Go.ChangeShapes Go.WideShapes Go.ChangeAt Go.RowKit

theorem may_fits {I : Ins} (h : mayB I = true) : Fits (linesI I) := fun l hl n hn => by
  have := may_tiny h l hl n hn
  omega
/-- The answer of Print: nothing, or the text. -/
def Printed (w w' : World) (I : Ins) (e : Ending) : Prop :=
  (mayB I = false ∧ e = .returned (.tuple #[.slice none 0 0, .int .i64 1]) ∧ Below w.heap.size w w') ∨
  (mayB I = true ∧ ∃ v, e = .returned (.tuple #[v, .int .i64 0]) ∧ OwnB w' w.heap.size v (textOf (linesI I)) ∧ Below w.heap.size w w')
end Go.Proofs.YtpdeffpmfbplnaaDoor
/- What Parse answers. -/
namespace Go.Proofs.YtpdeffpmfbplnaaDoor
open Go.ChangeShapes Go.WideShapes Go.ChangeAt Go.RowKit

theorem cnt_ge : ∀ (L : List (List Int)), (∀ l ∈ L, l ≠ []) → L.length ≤ cnt L
  | [], _ => by simp [cnt]
  | l :: L, h => by
    have := cnt_ge L (fun x hx => h x (by simp [hx]))
    have := List.length_pos_iff.2 (h l (by simp))
    simp [cnt]; omega
theorem res_small (bs : List Int) : (resOf bs).length ≤ 5000 := by
  unfold resOf
  by_cases h : 4096 < bs.length
  · simp [h]
  · cases hp : parse bs with
    | none => simp [h]
    | some A =>
      obtain ⟨h1, h2⟩ := parse_good bs A hp
      have := cnt_ge A (fun l hl => (h1 l hl).1)
      simp [h]; omega
theorem pins_bad {bs : List Int} {k : Int} (hk : k ≠ 0) (h : perr bs = k) : pins bs = noIns := perr_bad (by rw [h]; exact hk)
theorem perr_1 {bs : List Int} (h : errOf bs ≠ 0) : perr bs = errOf bs := by unfold perr; rw [if_pos h]
theorem perr_2 {bs : List Int} (h : errOf bs = 0) (h2 : wf (resOf bs) = false) : perr bs = 2 := by unfold perr; simp [h, h2]
theorem perr_3 {bs : List Int} (h : errOf bs = 0) (h2 : wf (resOf bs) = true) (h3 : mayB (insOf (resOf bs)) = false) : perr bs = 1 := by unfold perr; simp [h, h2, h3]
theorem perr_4 {bs : List Int} (h : errOf bs = 0) (h2 : wf (resOf bs) = true) (h3 : mayB (insOf (resOf bs)) = true) : perr bs = 0 := by unfold perr; simp [h, h2, h3]
/-- The answer's block waits. -/
def ZBox (N : Nat) (w : World) : Prop := w.heap[N]? = some (.cells #[.int .i64 0, .int .i64 0, .int .i64 0, .slice none 0 0] 24 (0, 0))
theorem ZBox.below {N M : Nat} {w w' : World} (h : ZBox N w) (hN : N < M) (hb : Below M w w') : ZBox N w' := by unfold ZBox; rw [hb.block N hN]; exact h
theorem ZBox.cell {N : Nat} {w : World} (h : ZBox N w) (i : Nat) : w.cell? ⟨N, i, none⟩ = [Value.int .i64 0, .int .i64 0, .int .i64 0, .slice none 0 0][i]? := by rw [cell_of_row w N i _ _ _ h]; simp
theorem ZBox.free {N : Nat} {w : World} (h : ZBox N w) (i : Nat) : w.frozen? ⟨N, i, none⟩ = false := frozen_of_row w N i _ _ h
theorem zbox_new (w : World) : ZBox w.heap.size (w.alloc (.cells #[.int .i64 0, .int .i64 0, .int .i64 0, .slice none 0 0] 24)) := heap_alloc_new w _
/-- The answer of Parse. -/
def Parsed (w w' : World) (bs : List Int) (e : Ending) : Prop := ∃ v, e = .returned (.tuple #[insV (pins bs) v, .int .i64 (perr bs)]) ∧ OwnS w' w.heap.size v (pins bs).l ∧ Below w.heap.size w w'
theorem parsed_bad {w w' : World} {bs : List Int} {k : Int} (h : perr bs = k) (hk : k ≠ 0) (hb : Below w.heap.size w w') : Parsed w w' bs (.returned (.tuple #[.agg #[.int .i64 0, .int .i64 0, .int .i64 0, .slice none 0 0], .int .i64 k])) := by
  refine ⟨.slice none 0 0, ?_, ?_, hb⟩
  · rw [pins_bad hk h, h]; rfl
  · rw [pins_bad hk h]; exact ownS_nil _ _
set_option maxRecDepth 1000000 in
set_option maxHeartbeats 1000000 in
theorem parse_any {w : World} {tv : Value} {bs : List Int} (h : Row w tv (byts bs)) :
    Calls Tryd.prog 24 #[tv] w fun e w' => Parsed w w' bs e := by
  have H := Lib.hid h
  obtain ⟨ad, cap, rfl, _⟩ := h.form
  clear h
  go_enter Tryd.func24, Tryd.ntmps24
  go_wp2_with fail
  have HB0 := Lib.hid ((Below.refl _ w).alloc (Nat.le_refl _) (.cells #[.int .i64 0, .int .i64 0, .int .i64 0, .slice none 0 0] 24))
  have HZ0 := Lib.hid (zbox_new w)
  have hs0 : w.heap.size < (w.alloc (.cells #[.int .i64 0, .int .i64 0, .int .i64 0, .slice none 0 0] 24)).heap.size := by simp
  generalize w.alloc (.cells #[.int .i64 0, .int .i64 0, .int .i64 0, .slice none 0 0] 24) = W at *
  refine (lines_any (H.out.below HB0.out)).mono ?_
  rintro e w1 ⟨lv, rfl, hl, hb⟩
  have HL := Lib.hid (hl.is)
  obtain ⟨la, lc, rfl, _⟩ := hl.is.form
  have HZ1 := Lib.hid (HZ0.out.below hs0 hb)
  have HB1 := Lib.hid (HB0.out.trans (hb.mono HB0.out.size))
  have hs1 : w.heap.size < w1.heap.size := by have := hb.size; omega
  clear hl hb
  by_cases he : errOf bs = 0
  · rw [he]
    have HE := Lib.hid he
    clear he
    go_wp2_with fail
    refine (wellFormed_any HL.out).mono ?_
    rintro e w' ⟨rfl, rfl⟩
    cases hwf : wf (resOf bs)
    · have HP := Lib.hid (perr_2 HE.out hwf)
      clear hwf
      have z0 : w1.cell? ⟨w.heap.size, 0, none⟩ = some (.int .i64 0) := HZ1.out.cell 0
      have z1 : w1.cell? ⟨w.heap.size, 1, none⟩ = some (.int .i64 0) := HZ1.out.cell 1
      have z2 : w1.cell? ⟨w.heap.size, 2, none⟩ = some (.int .i64 0) := HZ1.out.cell 2
      have z3 : w1.cell? ⟨w.heap.size, 3, none⟩ = some (.slice none 0 0) := HZ1.out.cell 3
      have f0 := HZ1.out.free 0
      have f1 := HZ1.out.free 1
      have f2 := HZ1.out.free 2
      have f3 := HZ1.out.free 3
      go_wp2
      exact bodyPost_ret (v := .tuple #[.agg #[.int .i64 0, .int .i64 0, .int .i64 0, .slice none 0 0], .int .i64 2]) (by simp [results, Tryd.results24, go_sem, z0, z1, z2, z3]) rfl (parsed_bad HP.out (by decide) (by
        repeat' (first | exact HB1.out | (refine Below.setCell ?_ ?_ _) | (simp; omega) | simp)))
    · have HW := Lib.hid hwf
      clear hwf
      go_wp2_with fail
      refine (fromLines_any HL.out HW.out (by have := res_small bs; omega)).mono ?_
      rintro e w2 ⟨v, rfl, hv, hb⟩
      obtain ⟨va, vc, rfl⟩ := hv.shape
      have HV := Lib.hid hv
      have HZ2 := Lib.hid (HZ1.out.below hs1 hb)
      have HB2 := Lib.hid (HB1.out.trans (hb.mono HB1.out.size))
      have hs2 : w.heap.size < w2.heap.size := by have := hb.size; omega
      have hs12 := hb.size
      clear hv hb
      have HI := Lib.hid (show ∀ J, insOf (resOf bs) = J → (mayB J = true → perr bs = 0 ∧ pins bs = J) ∧ (mayB J = false → perr bs = 1) from fun J hJ => by
        subst hJ
        exact ⟨fun h => ⟨perr_4 HE.out HW.out h, by unfold pins; rw [if_pos (perr_4 HE.out HW.out h)]⟩, fun h => perr_3 HE.out HW.out h⟩)
      generalize hJ : insOf (resOf bs) = J at *
      have HJ := Lib.hid (HI.out J rfl)
      clear HI hJ
      unfold insV
      go_wp2_with fail
      change Calls _ _ _ (w2.alloc (boxI J (.slice va J.l.length vc))) _
      have HB3 := Lib.hid (HB2.out.alloc (by omega) (boxI J (.slice va J.l.length vc)))
      have HS0 := Lib.hid (holds_box w2 J (.slice va J.l.length vc))
      have HV3 := Lib.hid (HV.out.alloc (boxI J (.slice va J.l.length vc)))
      have HZ2b := Lib.hid (HZ2.out.below hs2 ((Below.refl _ w2).alloc (Nat.le_refl _) (boxI J (.slice va J.l.length vc))))
      have hltW : w2.heap.size < (w2.alloc (boxI J (.slice va J.l.length vc))).heap.size := by simp
      generalize w2.alloc (boxI J (.slice va J.l.length vc)) = W2 at *
      refine (may_any HV3.out.row).mono ?_
      rintro e w3 ⟨rfl, hb⟩
      have HS3 := Holds.below hb HS0.out ⟨hltW, hltW, hltW, hltW, trivial⟩
      simp only [cellsI, Holds] at HS3
      obtain ⟨c0, c1, c2, c3, _⟩ := HS3
      have HZ3 := Lib.hid (HZ2b.out.below (by omega) hb)
      have HB4 := Lib.hid (HB3.out.trans (hb.mono HB3.out.size))
      have HV4 := Lib.hid (HV3.out.below hb)
      clear hb
      have z0 : w3.cell? ⟨w.heap.size, 0, none⟩ = some (.int .i64 0) := HZ3.out.cell 0
      have z1 : w3.cell? ⟨w.heap.size, 1, none⟩ = some (.int .i64 0) := HZ3.out.cell 1
      have z2 : w3.cell? ⟨w.heap.size, 2, none⟩ = some (.int .i64 0) := HZ3.out.cell 2
      have z3 : w3.cell? ⟨w.heap.size, 3, none⟩ = some (.slice none 0 0) := HZ3.out.cell 3
      have f0 := HZ3.out.free 0
      have f1 := HZ3.out.free 1
      have f2 := HZ3.out.free 2
      have f3 := HZ3.out.free 3
      cases hmay : mayB J
      · have HP := Lib.hid (HJ.out.2 hmay)
        clear hmay
        go_wp2
        exact bodyPost_ret (v := .tuple #[.agg #[.int .i64 0, .int .i64 0, .int .i64 0, .slice none 0 0], .int .i64 1]) (by simp [results, Tryd.results24, go_sem, z0, z1, z2, z3]) rfl (parsed_bad HP.out (by decide) (by
          repeat' (first | exact HB4.out | (refine Below.setCell ?_ ?_ _) | (simp; omega) | simp)))
      · have HP := Lib.hid (HJ.out.1 hmay)
        clear hmay
        go_wp2
        exact bodyPost_ret (v := .tuple #[.agg #[.int .i64 J.p, .int .i64 J.c, .int .i64 J.r, .slice va J.l.length vc], .int .i64 0]) (by simp [results, Tryd.results24, go_sem, z0, z1, z2, z3]) rfl ⟨.slice va J.l.length vc, by rw [HP.out.1, HP.out.2]; rfl, by
          rw [HP.out.2]
          refine OwnS.less (B := w1.heap.size) ?_ (by omega)
          repeat' (first | exact HV4.out | (refine ownsRow_setCell_below ?_ ?_ _) | (simp; omega) | simp), by
          repeat' (first | exact HB4.out | (refine Below.setCell ?_ ?_ _) | (simp; omega) | simp)⟩
  · have HP := Lib.hid (perr_1 he)
    have hne : (errOf bs != 0) = true := by simp [he]
    have HN := Lib.hid he
    generalize errOf bs = ee at *
    have z0 : w1.cell? ⟨w.heap.size, 0, none⟩ = some (.int .i64 0) := HZ1.out.cell 0
    have z1 : w1.cell? ⟨w.heap.size, 1, none⟩ = some (.int .i64 0) := HZ1.out.cell 1
    have z2 : w1.cell? ⟨w.heap.size, 2, none⟩ = some (.int .i64 0) := HZ1.out.cell 2
    have z3 : w1.cell? ⟨w.heap.size, 3, none⟩ = some (.slice none 0 0) := HZ1.out.cell 3
    have f0 := HZ1.out.free 0
    have f1 := HZ1.out.free 1
    have f2 := HZ1.out.free 2
    have f3 := HZ1.out.free 3
    clear he
    go_wp2
    exact bodyPost_ret (v := .tuple #[.agg #[.int .i64 0, .int .i64 0, .int .i64 0, .slice none 0 0], .int .i64 ee]) (by simp [results, Tryd.results24, go_sem, z0, z1, z2, z3]) rfl (parsed_bad HP.out HN.out (by
      repeat' (first | exact HB1.out | (refine Below.setCell ?_ ?_ _) | (simp; omega) | simp)))
end Go.Proofs.YtpdeffpmfbplnaaDoor
