/- A state is added to what was thrown together. -/
import Derived.Test.YtclepdnpclmegaaRRow
import Derived.BigRegion
namespace Go.Proofs.Ytclepdnpclmegaa
open Go.ChangeShapes Go.WideShapes Go.ChangeAt Go.RowKit

theorem mn_eq (a b : Int) : (if a < b then a else b) = min b a := by omega
set_option maxRecDepth 1000000 in
set_option maxHeartbeats 4000000 in
theorem xadd_no {w : World} {b : Nat} {m s : Sta} (hj : JoB w b m) (hm : SetsOk m) (hs : SetsOk s) (hp : ¬ s.pos = m.pos) :
    Calls Try.prog 18 #[.pointer (some ⟨b, 0, none⟩), staV s] w fun e w' => e = .returned (.bool false) ∧ JoB w' b m ∧ ∀ M, M ≤ b → Below M w w' := by
  have HJ := Lib.hid hj
  have HM := Lib.hid hm
  have HS := Lib.hid hs
  have HP := Lib.hid hp
  have hbl := hj.lt
  have b0 : (s.pos == m.pos) = false := by simp [hp]
  clear hj hm hs hp
  unfold staV
  go_enter Try.func18, Try.ntmps18
  go_upto_region 1 with fail
  have HT := Lib.hid (st_new w s)
  have HJ1 := Lib.hid (HJ.out.later ((Below.refl _ w).alloc (Nat.le_refl _) (boxSt s)))
  have HB := Lib.hid ((Below.refl w.heap.size w).alloc (Nat.le_refl _) (boxSt s))
  change Code.wp _ _ _ _ (w.alloc (boxSt s))
  generalize w.alloc (boxSt s) = V at *
  have hne : b ≠ w.heap.size := by omega
  have HBL := Lib.hid (Nat.le_of_lt hbl)
  clear hbl
  generalize w.heap.size = c at *
  have x0 := HT.out.c0
  have x1 := HT.out.c1
  have x2 := HT.out.c2
  have x3 := HT.out.c3
  have x4 := HT.out.c4
  have x5 := HT.out.c5
  have x6 := HT.out.c6
  have x7 := HT.out.c7
  have z0 := HJ1.out.c0
  have z1 := HJ1.out.c1
  have z2 := HJ1.out.c2
  have z3 := HJ1.out.c3
  have z4 := HJ1.out.c4
  have z5 := HJ1.out.c5
  have z6 := HJ1.out.c6
  have z7 := HJ1.out.c7
  go_wp2
  go_quiet (fail)
  go_wp2
  go_ret
  exact ⟨rfl, HJ1.out.later (below_drewN (Below.refl _ _) nq), fun M hM => below_drewN (HB.out.mono (Nat.le_trans hM HBL.out)) nq⟩
set_option maxRecDepth 1000000 in
set_option maxHeartbeats 4000000 in
theorem xadd_yes {w : World} {b : Nat} {m s : Sta} (hj : JoB w b m) (hm : SetsOk m) (hs : SetsOk s) (hp : s.pos = m.pos) :
    Calls Try.prog 18 #[.pointer (some ⟨b, 0, none⟩), staV s] w fun e w' => e = .returned (.bool true) ∧ JoB w' b (join2 m s) ∧ ∀ M, M ≤ b → Below M w w' := by
  have HJ := Lib.hid hj
  have HM := Lib.hid hm
  have HS := Lib.hid hs
  have HP := Lib.hid hp
  have hbl := hj.lt
  have b0 : (s.pos == m.pos) = true := by simp [hp]
  clear hj hm hs hp
  unfold staV
  go_enter Try.func18, Try.ntmps18
  go_upto_region 1 with fail
  have HT := Lib.hid (st_new w s)
  have HJ1 := Lib.hid (HJ.out.later ((Below.refl _ w).alloc (Nat.le_refl _) (boxSt s)))
  have HB := Lib.hid ((Below.refl w.heap.size w).alloc (Nat.le_refl _) (boxSt s))
  change Code.wp _ _ _ _ (w.alloc (boxSt s))
  generalize w.alloc (boxSt s) = V at *
  have hne : b ≠ w.heap.size := by omega
  have HBL := Lib.hid (Nat.le_of_lt hbl)
  clear hbl
  generalize w.heap.size = c at *
  have x0 := HT.out.c0
  have x1 := HT.out.c1
  have x2 := HT.out.c2
  have x3 := HT.out.c3
  have x4 := HT.out.c4
  have x5 := HT.out.c5
  have x6 := HT.out.c6
  have x7 := HT.out.c7
  have z0 := HJ1.out.c0
  have z1 := HJ1.out.c1
  have z2 := HJ1.out.c2
  have z3 := HJ1.out.c3
  have z4 := HJ1.out.c4
  have z5 := HJ1.out.c5
  have z6 := HJ1.out.c6
  have z7 := HJ1.out.c7
  go_wp2
  go_quiet (fail)
  have HBW := Lib.hid (show ∀ M, M ≤ b → Below M w (V.drewN nq) from fun M hM => below_drewN (HB.out.mono (Nat.le_trans hM HBL.out)) nq)
  have HTn := Lib.hid (HT.out.later (below_drewN (Below.refl _ V) nq))
  have HJn := Lib.hid (HJ1.out.later (below_drewN (Below.refl _ V) nq))
  clear HJ HJ1 HT HB HBL
  have HT := HTn
  have HJ1 := HJn
  clear HTn HJn
  clear x0 x1 x2 x3 x4 x5 x6 x7 z0 z1 z2 z3 z4 z5 z6 z7
  generalize V.drewN nq = W1 at *
  have a5 : bits .and .u64 (m.must : Int) (s.must : Int) = ((m.must &&& s.must : Nat) : Int) := bits_and_u64_nat _ _ HM.out.1 HS.out.1
  have a7 : bits .and .u64 (m.on : Int) (s.on : Int) = ((m.on &&& s.on : Nat) : Int) := bits_and_u64_nat _ _ HM.out.2.2 HS.out.2.2
  have a6 : bits .or .u64 (m.may : Int) (s.may : Int) = ((m.may ||| s.may : Nat) : Int) := bits_or_u64_nat _ _ HM.out.2.1 HS.out.2.1
  go_upto_region 3 with fail
  go_cut [] from 12 (fun wx => JoB wx b ⟨m.pos, (min m.car s.car), (min m.time s.time), m.load, m.first, m.must, m.may, m.on⟩ ∧ StB wx c s ∧ ∀ M, M ≤ b → Below M w wx)
  case first =>
    have x1 := HT.out.c1
    have x2 := HT.out.c2
    have z1 : W1.cell? ⟨b, 1, none⟩ = some (.int .i64 m.car) := HJ1.out.c1
    have z2 : W1.cell? ⟨b, 2, none⟩ = some (.int .i64 m.time) := HJ1.out.c2
    have f1 := HJ1.out.free 1
    have f2 := HJ1.out.free 2
    go_big_region
    rw [mn_eq s.car m.car]
    rw [mn_eq s.time m.time]
    go_wp2_with fail
    go_meet
    case rel => exact ⟨(((HJ1.out.set1 _).set2 _)).later (Below.refl _ _).drew, (((HT.out.other ⟨b, 1, none⟩ _ hne).other ⟨b, 2, none⟩ _ hne)).later (Below.refl _ _).drew, fun M hM => (((((HBW.out M hM).setCell (p := ⟨b, 1, none⟩) hM _)).setCell (p := ⟨b, 2, none⟩) hM _)).drew⟩
  case rest =>
  obtain ⟨hj1, ht1, hb1⟩ := hcut
  clear HJ1 HT HBW
  have HJ1 := Lib.hid hj1
  have HT := Lib.hid ht1
  have HBW := Lib.hid hb1
  clear hj1 ht1 hb1
  generalize wc = W2 at *
  go_upto_region 4 with fail
  go_cut [] from 12 (fun wx => JoB wx b ⟨m.pos, (min m.car s.car), (min m.time s.time), (min m.load s.load), (min m.first s.first), m.must, m.may, m.on⟩ ∧ StB wx c s ∧ ∀ M, M ≤ b → Below M w wx)
  case first =>
    have x3 := HT.out.c3
    have x4 := HT.out.c4
    have z3 : W2.cell? ⟨b, 3, none⟩ = some (.int .i64 m.load) := HJ1.out.c3
    have z4 : W2.cell? ⟨b, 4, none⟩ = some (.int .i64 m.first) := HJ1.out.c4
    have f3 := HJ1.out.free 3
    have f4 := HJ1.out.free 4
    go_big_region
    rw [mn_eq s.load m.load]
    rw [mn_eq s.first m.first]
    go_wp2_with fail
    go_meet
    case rel => exact ⟨(((HJ1.out.set3 _).set4 _)).later (Below.refl _ _).drew, (((HT.out.other ⟨b, 3, none⟩ _ hne).other ⟨b, 4, none⟩ _ hne)).later (Below.refl _ _).drew, fun M hM => (((((HBW.out M hM).setCell (p := ⟨b, 3, none⟩) hM _)).setCell (p := ⟨b, 4, none⟩) hM _)).drew⟩
  case rest =>
  obtain ⟨hj1, ht1, hb1⟩ := hcut
  clear HJ1 HT HBW
  have HJ1 := Lib.hid hj1
  have HT := Lib.hid ht1
  have HBW := Lib.hid hb1
  clear hj1 ht1 hb1
  generalize wc = W3 at *
  go_upto_region 5 with fail
  go_cut [] from 12 (fun wx => JoB wx b ⟨m.pos, (min m.car s.car), (min m.time s.time), (min m.load s.load), (min m.first s.first), m.must &&& s.must, m.may, m.on &&& s.on⟩ ∧ StB wx c s ∧ ∀ M, M ≤ b → Below M w wx)
  case first =>
    have x5 := HT.out.c5
    have x7 := HT.out.c7
    have z5 : W3.cell? ⟨b, 5, none⟩ = some (.int .u64 m.must) := HJ1.out.c5
    have z7 : W3.cell? ⟨b, 7, none⟩ = some (.int .u64 m.on) := HJ1.out.c7
    have f5 := HJ1.out.free 5
    have f7 := HJ1.out.free 7
    go_big_region
    go_wp2_with fail
    go_meet
    case rel => exact ⟨(((HJ1.out.set5 _).set7 _)).later (Below.refl _ _).drew, (((HT.out.other ⟨b, 5, none⟩ _ hne).other ⟨b, 7, none⟩ _ hne)).later (Below.refl _ _).drew, fun M hM => (((((HBW.out M hM).setCell (p := ⟨b, 5, none⟩) hM _)).setCell (p := ⟨b, 7, none⟩) hM _)).drew⟩
  case rest =>
  obtain ⟨hj1, ht1, hb1⟩ := hcut
  clear HJ1 HT HBW
  have HJ1 := Lib.hid hj1
  have HT := Lib.hid ht1
  have HBW := Lib.hid hb1
  clear hj1 ht1 hb1
  generalize wc = W4 at *
  go_upto_region 6 with fail
  go_cut [] from 12 (fun wx => JoB wx b ⟨m.pos, (min m.car s.car), (min m.time s.time), (min m.load s.load), (min m.first s.first), m.must &&& s.must, m.may ||| s.may, m.on &&& s.on⟩ ∧ StB wx c s ∧ ∀ M, M ≤ b → Below M w wx)
  case first =>
    have x6 := HT.out.c6
    have z6 : W4.cell? ⟨b, 6, none⟩ = some (.int .u64 m.may) := HJ1.out.c6
    have f6 := HJ1.out.free 6
    go_big_region
    go_wp2_with fail
    go_meet
    case rel => exact ⟨((HJ1.out.set6 _)).later (Below.refl _ _).drew, ((HT.out.other ⟨b, 6, none⟩ _ hne)).later (Below.refl _ _).drew, fun M hM => (((HBW.out M hM).setCell (p := ⟨b, 6, none⟩) hM _)).drew⟩
  case rest =>
  obtain ⟨hj1, ht1, hb1⟩ := hcut
  clear HJ1 HT HBW
  have HJ1 := Lib.hid hj1
  have HT := Lib.hid ht1
  have HBW := Lib.hid hb1
  clear hj1 ht1 hb1
  generalize wc = W5 at *
  go_wp2
  go_ret
  refine ⟨rfl, ?_, HBW.out⟩
  exact HJ1.out
end Go.Proofs.Ytclepdnpclmegaa
