/- Whether a state covers another one: the program's answer, and the document's. -/
import Derived.Test.YtofapalakpkkpaaXR1
import Derived.Test.YtofapalakpkkpaaXE
import Derived.BigRegion
import Derived.Test.YtofapalakpkkpaaXSNext
namespace Go.Proofs.Ytofapalakpkkpaa
open Go.ChangeShapes Go.WideShapes Go.ChangeAt Go.RowKit

theorem covers_eq (a b : Sta) : decide (Covers a b) = (decide (a.pos = b.pos) && (decide (a.car ≤ b.car) && (decide (a.time ≤ b.time) && (decide (a.load ≤ b.load) && (decide (a.first ≤ b.first) && (within a.must b.must && (within a.on b.on && within b.may a.may))))))) := by
  rw [Bool.eq_iff_iff]
  simp only [decide_eq_true_eq, Bool.and_eq_true]
  rfl
set_option maxRecDepth 1000000 in
set_option maxHeartbeats 4000000 in
theorem covers_any {a b : Sta} (w : World) (ha : SetsOk a) (hb : SetsOk b) : Calls Try.prog 21 #[staV a, staV b] w fun e w' => e = .returned (.bool (decide (Covers a b))) ∧ Below w.heap.size w w' := by
  have HA := Lib.hid ha
  have HB := Lib.hid hb
  have HE := Lib.hid (covers_eq a b)
  clear ha hb
  unfold staV
  go_enter Try.func21, Try.ntmps21
  go_upto_region 1 with fail
  obtain ⟨k1, k2, k3⟩ := boxes_st w a b
  have HBL := Lib.hid k3
  change Code.wp _ _ _ _ ((w.alloc (boxSt a)).alloc (boxSt b))
  generalize (w.alloc (boxSt a)).alloc (boxSt b) = V at *
  have x0 := k1.c0
  have x1 := k1.c1
  have x2 := k1.c2
  have x3 := k1.c3
  have x4 := k1.c4
  have x5 := k1.c5
  have x6 := k1.c6
  have x7 := k1.c7
  have z0 := k2.c0
  have z1 := k2.c1
  have z2 := k2.c2
  have z3 := k2.c3
  have z4 := k2.c4
  have z5 := k2.c5
  have z6 := k2.c6
  have z7 := k2.c7
  clear k1 k2 k3
  by_cases g0 : a.pos = b.pos
  rotate_left
  · have e0 := decide_eq_false g0
    have b0 : (a.pos == b.pos) = false := by simp [g0]
    have E0 := Lib.hid e0
    clear g0
    go_wp2
    go_ret
    exact ⟨ret_bool (by rw [HE.out, E0.out]; rfl), HBL.out⟩
  have E0 := Lib.hid (decide_eq_true g0)
  have b0 : (a.pos == b.pos) = true := by simp [g0]
  clear g0
  by_cases g1 : a.car ≤ b.car
  rotate_left
  · have e1 := decide_eq_false g1
    have E1 := Lib.hid e1
    clear g1
    go_wp2
    go_ret
    exact ⟨ret_bool (by rw [HE.out, E0.out, E1.out]; rfl), HBL.out⟩
  have e1 := decide_eq_true g1
  have E1 := Lib.hid e1
  by_cases g2 : a.time ≤ b.time
  rotate_left
  · have e2 := decide_eq_false g2
    have E2 := Lib.hid e2
    clear g2
    go_wp2
    go_ret
    exact ⟨ret_bool (by rw [HE.out, E0.out, E1.out, E2.out]; rfl), HBL.out⟩
  have e2 := decide_eq_true g2
  have E2 := Lib.hid e2
  by_cases g3 : a.load ≤ b.load
  rotate_left
  · have e3 := decide_eq_false g3
    have E3 := Lib.hid e3
    clear g3
    go_wp2
    go_ret
    exact ⟨ret_bool (by rw [HE.out, E0.out, E1.out, E2.out, E3.out]; rfl), HBL.out⟩
  have e3 := decide_eq_true g3
  have E3 := Lib.hid e3
  by_cases g4 : a.first ≤ b.first
  rotate_left
  · have e4 := decide_eq_false g4
    have E4 := Lib.hid e4
    clear g4
    go_wp2
    go_ret
    exact ⟨ret_bool (by rw [HE.out, E0.out, E1.out, E2.out, E3.out, E4.out]; rfl), HBL.out⟩
  have e4 := decide_eq_true g4
  have E4 := Lib.hid e4
  go_wp2_with fail
  refine (ewithin_any _ _ _ HA.out.1 HB.out.1).mono ?_
  rintro e w' ⟨rfl, rfl⟩
  cases h5 : within a.must b.must
  · have E5 := Lib.hid h5
    clear h5
    go_wp2
    go_ret
    exact ⟨ret_bool (by rw [HE.out, E0.out, E1.out, E2.out, E3.out, E4.out, E5.out]; rfl), HBL.out⟩
  have E5 := Lib.hid h5
  clear h5
  go_wp2_with fail
  refine (ewithin_any _ _ _ HA.out.2.2 HB.out.2.2).mono ?_
  rintro e w' ⟨rfl, rfl⟩
  cases h6 : within a.on b.on
  · have E6 := Lib.hid h6
    clear h6
    go_wp2
    go_ret
    exact ⟨ret_bool (by rw [HE.out, E0.out, E1.out, E2.out, E3.out, E4.out, E5.out, E6.out]; rfl), HBL.out⟩
  have E6 := Lib.hid h6
  clear h6
  go_wp2_with fail
  refine (ewithin_any _ _ _ HB.out.2.1 HA.out.2.1).mono ?_
  rintro e w' ⟨rfl, rfl⟩
  go_wp2
  go_ret
  exact ⟨ret_bool (by rw [HE.out, E0.out, E1.out, E2.out, E3.out, E4.out, E5.out, E6.out]; rfl), HBL.out⟩
set_option maxRecDepth 1000000 in
set_option maxHeartbeats 4000000 in
theorem ycovers_any {a b : Sta} (w : World) (ha : SetsOk a) (hb : SetsOk b) : Calls Try.prog 22 #[staV a, staV b] w fun e w' => e = .returned (.bool (decide (Covers a b))) ∧ Below w.heap.size w w' := by
  have HA := Lib.hid ha
  have HB := Lib.hid hb
  have HE := Lib.hid (covers_eq a b)
  clear ha hb
  unfold staV
  go_enter Try.func22, Try.ntmps22
  go_upto_region 1 with fail
  obtain ⟨k1, k2, k3⟩ := boxes_st w a b
  have HBL := Lib.hid k3
  change Code.wp _ _ _ _ ((w.alloc (boxSt a)).alloc (boxSt b))
  generalize (w.alloc (boxSt a)).alloc (boxSt b) = V at *
  have x0 := k1.c0
  have x1 := k1.c1
  have x2 := k1.c2
  have x3 := k1.c3
  have x4 := k1.c4
  have x5 := k1.c5
  have x6 := k1.c6
  have x7 := k1.c7
  have z0 := k2.c0
  have z1 := k2.c1
  have z2 := k2.c2
  have z3 := k2.c3
  have z4 := k2.c4
  have z5 := k2.c5
  have z6 := k2.c6
  have z7 := k2.c7
  clear k1 k2 k3
  go_wp2_with fail
  refine (erwithin_any _ _ _ HA.out.1 HB.out.1).mono ?_
  rintro e w' ⟨rfl, rfl⟩
  obtain ⟨b5, h5⟩ : ∃ x, within a.must b.must = x := ⟨_, rfl⟩
  rw [h5]
  have E5 := Lib.hid h5
  clear h5
  go_wp2_with fail
  refine (erwithin_any _ _ _ HA.out.2.2 HB.out.2.2).mono ?_
  rintro e w' ⟨rfl, rfl⟩
  obtain ⟨b6, h6⟩ : ∃ x, within a.on b.on = x := ⟨_, rfl⟩
  rw [h6]
  have E6 := Lib.hid h6
  clear h6
  go_wp2_with fail
  refine (erwithin_any _ _ _ HB.out.2.1 HA.out.2.1).mono ?_
  rintro e w' ⟨rfl, rfl⟩
  obtain ⟨b7, h7⟩ : ∃ x, within b.may a.may = x := ⟨_, rfl⟩
  rw [h7]
  have E7 := Lib.hid h7
  clear h7
  by_cases g0 : a.pos = b.pos
  rotate_left
  · have e0 := decide_eq_false g0
    have b0 : (a.pos == b.pos) = false := by simp [g0]
    have E0 := Lib.hid e0
    clear g0
    go_wp2
    go_ret
    exact ⟨ret_bool (by rw [HE.out, E0.out]; rfl), HBL.out⟩
  have E0 := Lib.hid (decide_eq_true g0)
  have b0 : (a.pos == b.pos) = true := by simp [g0]
  clear g0
  by_cases g1 : a.car ≤ b.car
  rotate_left
  · have e1 := decide_eq_false g1
    have E1 := Lib.hid e1
    clear g1
    go_wp2
    go_ret
    exact ⟨ret_bool (by rw [HE.out, E0.out, E1.out]; rfl), HBL.out⟩
  have e1 := decide_eq_true g1
  have E1 := Lib.hid e1
  by_cases g2 : a.time ≤ b.time
  rotate_left
  · have e2 := decide_eq_false g2
    have E2 := Lib.hid e2
    clear g2
    go_wp2
    go_ret
    exact ⟨ret_bool (by rw [HE.out, E0.out, E1.out, E2.out]; rfl), HBL.out⟩
  have e2 := decide_eq_true g2
  have E2 := Lib.hid e2
  by_cases g3 : a.load ≤ b.load
  rotate_left
  · have e3 := decide_eq_false g3
    have E3 := Lib.hid e3
    clear g3
    go_wp2
    go_ret
    exact ⟨ret_bool (by rw [HE.out, E0.out, E1.out, E2.out, E3.out]; rfl), HBL.out⟩
  have e3 := decide_eq_true g3
  have E3 := Lib.hid e3
  by_cases g4 : a.first ≤ b.first
  rotate_left
  · have e4 := decide_eq_false g4
    have E4 := Lib.hid e4
    clear g4
    go_wp2
    go_ret
    exact ⟨ret_bool (by rw [HE.out, E0.out, E1.out, E2.out, E3.out, E4.out]; rfl), HBL.out⟩
  have e4 := decide_eq_true g4
  have E4 := Lib.hid e4
  cases b5 <;> cases b6
  · go_wp2
    go_ret
    exact ⟨ret_bool (by rw [HE.out, E0.out, E1.out, E2.out, E3.out, E4.out, E5.out, E6.out, E7.out]; rfl), HBL.out⟩
  · go_wp2
    go_ret
    exact ⟨ret_bool (by rw [HE.out, E0.out, E1.out, E2.out, E3.out, E4.out, E5.out, E6.out, E7.out]; rfl), HBL.out⟩
  · go_wp2
    go_ret
    exact ⟨ret_bool (by rw [HE.out, E0.out, E1.out, E2.out, E3.out, E4.out, E5.out, E6.out, E7.out]; rfl), HBL.out⟩
  · go_wp2
    go_ret
    exact ⟨ret_bool (by rw [HE.out, E0.out, E1.out, E2.out, E3.out, E4.out, E5.out, E6.out, E7.out]; rfl), HBL.out⟩
end Go.Proofs.Ytofapalakpkkpaa
/- A state is added to what was thrown together. -/
namespace Go.Proofs.Ytofapalakpkkpaa
open Go.ChangeShapes Go.WideShapes Go.ChangeAt Go.RowKit

theorem mn_eq (a b : Int) : (if a < b then a else b) = min b a := by omega
end Go.Proofs.Ytofapalakpkkpaa
/- States thrown together: the program's answer. -/
namespace Go.Proofs.Ytofapalakpkkpaa
open Go.ChangeShapes Go.WideShapes Go.ChangeAt Go.RowKit

theorem joinF_append : ∀ (a b : List Sta) (s : Sta), joinF s (a ++ b) = (joinF s a).bind (fun u => joinF u b)
  | [], b, s => rfl
  | x :: a, b, s => by
    rw [List.cons_append, joinF, joinF]
    split
    · exact joinF_append a b _
    · rfl
theorem join2_self (s : Sta) : join2 s s = s := by
  unfold join2
  simp
theorem joinF_self (s : Sta) (l : List Sta) : joinF s (s :: l) = joinF s l := by rw [joinF, if_pos rfl, join2_self]
theorem join_sets {s t : Sta} (hs : SetsOk s) (ht : SetsOk t) : SetsOk (join2 s t) := of_fits (fits_join (fits_of hs) (fits_of ht))
theorem joinF_take {m u : Sta} {l : List Sta} {k : Nat} {s : Sta} (h : joinF m (l.take k) = some u) (hs : l[k]? = some s) : joinF m (l.take (k + 1)) = if s.pos = u.pos then some (join2 u s) else none := by
  obtain ⟨hk, he⟩ := List.getElem?_eq_some_iff.1 hs
  rw [List.take_succ_eq_append_getElem hk, he, joinF_snoc, h]
  rfl
theorem joinF_fail {m : Sta} {l : List Sta} {k : Nat} (h : joinF m (l.take k) = none) : joinF m l = none := by
  rw [← List.take_append_drop k l, joinF_append, h]; rfl
/-- What is answered where nothing can be thrown together: noughts. -/
def jOf (l : List Sta) : Sta := (joinS l).getD noughtS
theorem jOf_some {l : List Sta} {u : Sta} (h : joinS l = some u) : jOf l = u := by unfold jOf; rw [h]; rfl
theorem jOf_none {l : List Sta} (h : joinS l = none) : jOf l = noughtS := by unfold jOf; rw [h]; rfl
end Go.Proofs.Ytofapalakpkkpaa
