/- Whether a state covers another one: the program's answer, and the document's. -/
import Derived.Test.YtpgbbnmflnhlbaaXR1
import Derived.Test.YtpgbbnmflnhlbaaXE
import Derived.BigRegion
import Derived.Test.YtpgbbnmflnhlbaaXSNext
namespace Go.Proofs.Ytpgbbnmflnhlbaa
open Go.ChangeShapes Go.WideShapes Go.ChangeAt Go.RowKit

theorem covers_eq (a b : Sta) : decide (Covers a b) = (decide (a.pos = b.pos) && (decide (a.car ≤ b.car) && (decide (a.time ≤ b.time) && (decide (a.load ≤ b.load) && (decide (a.first ≤ b.first) && (within a.must b.must && (within a.on b.on && within b.may a.may))))))) := by
  rw [Bool.eq_iff_iff]
  simp only [decide_eq_true_eq, Bool.and_eq_true]
  rfl
set_option maxRecDepth 1000000 in
set_option maxHeartbeats 4000000 in
theorem covers_any {a b : Sta} (w : World) (ha : SetsOk a) (hb : SetsOk b) : Calls Try.prog 65 #[staV a, staV b] w fun e w' => e = .returned (.bool (decide (Covers a b))) ∧ Below w.heap.size w w' := by
  have HA := Lib.hid ha
  have HB := Lib.hid hb
  have HE := Lib.hid (covers_eq a b)
  clear ha hb
  unfold staV
  go_enter Try.func65, Try.ntmps65
  go_upto_region 1 with fail
  obtain ⟨k1, k2, k3⟩ := boxes_st w a b
  have HBL := Lib.hid k3
  change Code.wp _ _ _ _ ((w.alloc (boxSt a)).alloc (boxSt b))
  generalize (w.alloc (boxSt a)).alloc (boxSt b) = V at *
  have x0 := k1.c0
  have x1 := k1.c1
  have x2 := k1.c2
  have x3 := k1.c3
  have x4 := k1.c4
  have x5 := k1.c5
  have x6 := k1.c6
  have x7 := k1.c7
  have z0 := k2.c0
  have z1 := k2.c1
  have z2 := k2.c2
  have z3 := k2.c3
  have z4 := k2.c4
  have z5 := k2.c5
  have z6 := k2.c6
  have z7 := k2.c7
  clear k1 k2 k3
  by_cases g0 : a.pos = b.pos
  rotate_left
  · have e0 := decide_eq_false g0
    have b0 : (a.pos == b.pos) = false := by simp [g0]
    have E0 := Lib.hid e0
    clear g0
    go_wp2
    go_ret
    exact ⟨ret_bool (by rw [HE.out, E0.out]; rfl), HBL.out⟩
  have E0 := Lib.hid (decide_eq_true g0)
  have b0 : (a.pos == b.pos) = true := by simp [g0]
  clear g0
  by_cases g1 : a.car ≤ b.car
  rotate_left
  · have e1 := decide_eq_false g1
    have E1 := Lib.hid e1
    clear g1
    go_wp2
    go_ret
    exact ⟨ret_bool (by rw [HE.out, E0.out, E1.out]; rfl), HBL.out⟩
  have e1 := decide_eq_true g1
  have E1 := Lib.hid e1
  by_cases g2 : a.time ≤ b.time
  rotate_left
  · have e2 := decide_eq_false g2
    have E2 := Lib.hid e2
    clear g2
    go_wp2
    go_ret
    exact ⟨ret_bool (by rw [HE.out, E0.out, E1.out, E2.out]; rfl), HBL.out⟩
  have e2 := decide_eq_true g2
  have E2 := Lib.hid e2
  by_cases g3 : a.load ≤ b.load
  rotate_left
  · have e3 := decide_eq_false g3
    have E3 := Lib.hid e3
    clear g3
    go_wp2
    go_ret
    exact ⟨ret_bool (by rw [HE.out, E0.out, E1.out, E2.out, E3.out]; rfl), HBL.out⟩
  have e3 := decide_eq_true g3
  have E3 := Lib.hid e3
  by_cases g4 : a.first ≤ b.first
  rotate_left
  · have e4 := decide_eq_false g4
    have E4 := Lib.hid e4
    clear g4
    go_wp2
    go_ret
    exact ⟨ret_bool (by rw [HE.out, E0.out, E1.out, E2.out, E3.out, E4.out]; rfl), HBL.out⟩
  have e4 := decide_eq_true g4
  have E4 := Lib.hid e4
  go_wp2_with fail
  refine (ewithin_any _ _ _ HA.out.1 HB.out.1).mono ?_
  rintro e w' ⟨rfl, rfl⟩
  cases h5 : within a.must b.must
  · have E5 := Lib.hid h5
    clear h5
    go_wp2
    go_ret
    exact ⟨ret_bool (by rw [HE.out, E0.out, E1.out, E2.out, E3.out, E4.out, E5.out]; rfl), HBL.out⟩
  have E5 := Lib.hid h5
  clear h5
  go_wp2_with fail
  refine (ewithin_any _ _ _ HA.out.2.2 HB.out.2.2).mono ?_
  rintro e w' ⟨rfl, rfl⟩
  cases h6 : within a.on b.on
  · have E6 := Lib.hid h6
    clear h6
    go_wp2
    go_ret
    exact ⟨ret_bool (by rw [HE.out, E0.out, E1.out, E2.out, E3.out, E4.out, E5.out, E6.out]; rfl), HBL.out⟩
  have E6 := Lib.hid h6
  clear h6
  go_wp2_with fail
  refine (ewithin_any _ _ _ HB.out.2.1 HA.out.2.1).mono ?_
  rintro e w' ⟨rfl, rfl⟩
  go_wp2
  go_ret
  exact ⟨ret_bool (by rw [HE.out, E0.out, E1.out, E2.out, E3.out, E4.out, E5.out, E6.out]; rfl), HBL.out⟩
end Go.Proofs.Ytpgbbnmflnhlbaa
/- A state is added to what was thrown together. -/
namespace Go.Proofs.Ytpgbbnmflnhlbaa
open Go.ChangeShapes Go.WideShapes Go.ChangeAt Go.RowKit

theorem mn_eq (a b : Int) : (if a < b then a else b) = min b a := by omega
set_option maxRecDepth 1000000 in
set_option maxHeartbeats 4000000 in
theorem xadd_no {w : World} {b : Nat} {m s : Sta} (hj : JoB w b m) (hm : SetsOk m) (hs : SetsOk s) (hp : ¬ s.pos = m.pos) :
    Calls Try.prog 148 #[.pointer (some ⟨b, 0, none⟩), staV s] w fun e w' => e = .returned (.bool false) ∧ JoB w' b m ∧ ∀ M, M ≤ b → Below M w w' := by
  have HJ := Lib.hid hj
  have HM := Lib.hid hm
  have HS := Lib.hid hs
  have HP := Lib.hid hp
  have hbl := hj.lt
  have b0 : (s.pos == m.pos) = false := by simp [hp]
  clear hj hm hs hp
  unfold staV
  go_enter Try.func148, Try.ntmps148
  go_upto_region 1 with fail
  have HT := Lib.hid (st_new w s)
  have HJ1 := Lib.hid (HJ.out.later ((Below.refl _ w).alloc (Nat.le_refl _) (boxSt s)))
  have HB := Lib.hid ((Below.refl w.heap.size w).alloc (Nat.le_refl _) (boxSt s))
  change Code.wp _ _ _ _ (w.alloc (boxSt s))
  generalize w.alloc (boxSt s) = V at *
  have hne : b ≠ w.heap.size := by omega
  have HBL := Lib.hid (Nat.le_of_lt hbl)
  clear hbl
  generalize w.heap.size = c at *
  have x0 := HT.out.c0
  have x1 := HT.out.c1
  have x2 := HT.out.c2
  have x3 := HT.out.c3
  have x4 := HT.out.c4
  have x5 := HT.out.c5
  have x6 := HT.out.c6
  have x7 := HT.out.c7
  have z0 := HJ1.out.c0
  have z1 := HJ1.out.c1
  have z2 := HJ1.out.c2
  have z3 := HJ1.out.c3
  have z4 := HJ1.out.c4
  have z5 := HJ1.out.c5
  have z6 := HJ1.out.c6
  have z7 := HJ1.out.c7
  go_wp2
  go_quiet (fail)
  go_wp2
  go_ret
  exact ⟨rfl, HJ1.out.later (below_drewN (Below.refl _ _) nq), fun M hM => below_drewN (HB.out.mono (Nat.le_trans hM HBL.out)) nq⟩
set_option maxRecDepth 1000000 in
set_option maxHeartbeats 4000000 in
theorem xadd_yes {w : World} {b : Nat} {m s : Sta} (hj : JoB w b m) (hm : SetsOk m) (hs : SetsOk s) (hp : s.pos = m.pos) :
    Calls Try.prog 148 #[.pointer (some ⟨b, 0, none⟩), staV s] w fun e w' => e = .returned (.bool true) ∧ JoB w' b (join2 m s) ∧ ∀ M, M ≤ b → Below M w w' := by
  have HJ := Lib.hid hj
  have HM := Lib.hid hm
  have HS := Lib.hid hs
  have HP := Lib.hid hp
  have hbl := hj.lt
  have b0 : (s.pos == m.pos) = true := by simp [hp]
  clear hj hm hs hp
  unfold staV
  go_enter Try.func148, Try.ntmps148
  go_upto_region 1 with fail
  have HT := Lib.hid (st_new w s)
  have HJ1 := Lib.hid (HJ.out.later ((Below.refl _ w).alloc (Nat.le_refl _) (boxSt s)))
  have HB := Lib.hid ((Below.refl w.heap.size w).alloc (Nat.le_refl _) (boxSt s))
  change Code.wp _ _ _ _ (w.alloc (boxSt s))
  generalize w.alloc (boxSt s) = V at *
  have hne : b ≠ w.heap.size := by omega
  have HBL := Lib.hid (Nat.le_of_lt hbl)
  clear hbl
  generalize w.heap.size = c at *
  have x0 := HT.out.c0
  have x1 := HT.out.c1
  have x2 := HT.out.c2
  have x3 := HT.out.c3
  have x4 := HT.out.c4
  have x5 := HT.out.c5
  have x6 := HT.out.c6
  have x7 := HT.out.c7
  have z0 := HJ1.out.c0
  have z1 := HJ1.out.c1
  have z2 := HJ1.out.c2
  have z3 := HJ1.out.c3
  have z4 := HJ1.out.c4
  have z5 := HJ1.out.c5
  have z6 := HJ1.out.c6
  have z7 := HJ1.out.c7
  go_wp2
  go_quiet (fail)
  have HBW := Lib.hid (show ∀ M, M ≤ b → Below M w (V.drewN nq) from fun M hM => below_drewN (HB.out.mono (Nat.le_trans hM HBL.out)) nq)
  have HTn := Lib.hid (HT.out.later (below_drewN (Below.refl _ V) nq))
  have HJn := Lib.hid (HJ1.out.later (below_drewN (Below.refl _ V) nq))
  clear HJ HJ1 HT HB HBL
  have HT := HTn
  have HJ1 := HJn
  clear HTn HJn
  clear x0 x1 x2 x3 x4 x5 x6 x7 z0 z1 z2 z3 z4 z5 z6 z7
  generalize V.drewN nq = W1 at *
  have a5 : bits .and .u64 (m.must : Int) (s.must : Int) = ((m.must &&& s.must : Nat) : Int) := bits_and_u64_nat _ _ HM.out.1 HS.out.1
  have a7 : bits .and .u64 (m.on : Int) (s.on : Int) = ((m.on &&& s.on : Nat) : Int) := bits_and_u64_nat _ _ HM.out.2.2 HS.out.2.2
  have a6 : bits .or .u64 (m.may : Int) (s.may : Int) = ((m.may ||| s.may : Nat) : Int) := bits_or_u64_nat _ _ HM.out.2.1 HS.out.2.1
  go_upto_region 3 with fail
  go_cut [] from 12 (fun wx => JoB wx b ⟨m.pos, (min m.car s.car), (min m.time s.time), m.load, m.first, m.must, m.may, m.on⟩ ∧ StB wx c s ∧ ∀ M, M ≤ b → Below M w wx)
  case first =>
    have x1 := HT.out.c1
    have x2 := HT.out.c2
    have z1 : W1.cell? ⟨b, 1, none⟩ = some (.int .i64 m.car) := HJ1.out.c1
    have z2 : W1.cell? ⟨b, 2, none⟩ = some (.int .i64 m.time) := HJ1.out.c2
    have f1 := HJ1.out.free 1
    have f2 := HJ1.out.free 2
    go_big_region
    rw [mn_eq s.car m.car]
    rw [mn_eq s.time m.time]
    go_wp2_with fail
    go_meet
    case rel => exact ⟨(((HJ1.out.set1 _).set2 _)).later (Below.refl _ _).drew, (((HT.out.other ⟨b, 1, none⟩ _ hne).other ⟨b, 2, none⟩ _ hne)).later (Below.refl _ _).drew, fun M hM => (((((HBW.out M hM).setCell (p := ⟨b, 1, none⟩) hM _)).setCell (p := ⟨b, 2, none⟩) hM _)).drew⟩
  case rest =>
  obtain ⟨hj1, ht1, hb1⟩ := hcut
  clear HJ1 HT HBW
  have HJ1 := Lib.hid hj1
  have HT := Lib.hid ht1
  have HBW := Lib.hid hb1
  clear hj1 ht1 hb1
  generalize wc = W2 at *
  go_upto_region 4 with fail
  go_cut [] from 12 (fun wx => JoB wx b ⟨m.pos, (min m.car s.car), (min m.time s.time), (min m.load s.load), (min m.first s.first), m.must, m.may, m.on⟩ ∧ StB wx c s ∧ ∀ M, M ≤ b → Below M w wx)
  case first =>
    have x3 := HT.out.c3
    have x4 := HT.out.c4
    have z3 : W2.cell? ⟨b, 3, none⟩ = some (.int .i64 m.load) := HJ1.out.c3
    have z4 : W2.cell? ⟨b, 4, none⟩ = some (.int .i64 m.first) := HJ1.out.c4
    have f3 := HJ1.out.free 3
    have f4 := HJ1.out.free 4
    go_big_region
    rw [mn_eq s.load m.load]
    rw [mn_eq s.first m.first]
    go_wp2_with fail
    go_meet
    case rel => exact ⟨(((HJ1.out.set3 _).set4 _)).later (Below.refl _ _).drew, (((HT.out.other ⟨b, 3, none⟩ _ hne).other ⟨b, 4, none⟩ _ hne)).later (Below.refl _ _).drew, fun M hM => (((((HBW.out M hM).setCell (p := ⟨b, 3, none⟩) hM _)).setCell (p := ⟨b, 4, none⟩) hM _)).drew⟩
  case rest =>
  obtain ⟨hj1, ht1, hb1⟩ := hcut
  clear HJ1 HT HBW
  have HJ1 := Lib.hid hj1
  have HT := Lib.hid ht1
  have HBW := Lib.hid hb1
  clear hj1 ht1 hb1
  generalize wc = W3 at *
  go_upto_region 5 with fail
  go_cut [] from 12 (fun wx => JoB wx b ⟨m.pos, (min m.car s.car), (min m.time s.time), (min m.load s.load), (min m.first s.first), m.must &&& s.must, m.may, m.on &&& s.on⟩ ∧ StB wx c s ∧ ∀ M, M ≤ b → Below M w wx)
  case first =>
    have x5 := HT.out.c5
    have x7 := HT.out.c7
    have z5 : W3.cell? ⟨b, 5, none⟩ = some (.int .u64 m.must) := HJ1.out.c5
    have z7 : W3.cell? ⟨b, 7, none⟩ = some (.int .u64 m.on) := HJ1.out.c7
    have f5 := HJ1.out.free 5
    have f7 := HJ1.out.free 7
    go_big_region
    go_wp2_with fail
    go_meet
    case rel => exact ⟨(((HJ1.out.set5 _).set7 _)).later (Below.refl _ _).drew, (((HT.out.other ⟨b, 5, none⟩ _ hne).other ⟨b, 7, none⟩ _ hne)).later (Below.refl _ _).drew, fun M hM => (((((HBW.out M hM).setCell (p := ⟨b, 5, none⟩) hM _)).setCell (p := ⟨b, 7, none⟩) hM _)).drew⟩
  case rest =>
  obtain ⟨hj1, ht1, hb1⟩ := hcut
  clear HJ1 HT HBW
  have HJ1 := Lib.hid hj1
  have HT := Lib.hid ht1
  have HBW := Lib.hid hb1
  clear hj1 ht1 hb1
  generalize wc = W4 at *
  go_upto_region 6 with fail
  go_cut [] from 12 (fun wx => JoB wx b ⟨m.pos, (min m.car s.car), (min m.time s.time), (min m.load s.load), (min m.first s.first), m.must &&& s.must, m.may ||| s.may, m.on &&& s.on⟩ ∧ StB wx c s ∧ ∀ M, M ≤ b → Below M w wx)
  case first =>
    have x6 := HT.out.c6
    have z6 : W4.cell? ⟨b, 6, none⟩ = some (.int .u64 m.may) := HJ1.out.c6
    have f6 := HJ1.out.free 6
    go_big_region
    go_wp2_with fail
    go_meet
    case rel => exact ⟨((HJ1.out.set6 _)).later (Below.refl _ _).drew, ((HT.out.other ⟨b, 6, none⟩ _ hne)).later (Below.refl _ _).drew, fun M hM => (((HBW.out M hM).setCell (p := ⟨b, 6, none⟩) hM _)).drew⟩
  case rest =>
  obtain ⟨hj1, ht1, hb1⟩ := hcut
  clear HJ1 HT HBW
  have HJ1 := Lib.hid hj1
  have HT := Lib.hid ht1
  have HBW := Lib.hid hb1
  clear hj1 ht1 hb1
  generalize wc = W5 at *
  go_wp2
  go_ret
  refine ⟨rfl, ?_, HBW.out⟩
  exact HJ1.out
end Go.Proofs.Ytpgbbnmflnhlbaa
/- States thrown together: the program's answer. -/
namespace Go.Proofs.Ytpgbbnmflnhlbaa
open Go.ChangeShapes Go.WideShapes Go.ChangeAt Go.RowKit

theorem joinF_append : ∀ (a b : List Sta) (s : Sta), joinF s (a ++ b) = (joinF s a).bind (fun u => joinF u b)
  | [], b, s => rfl
  | x :: a, b, s => by
    rw [List.cons_append, joinF, joinF]
    split
    · exact joinF_append a b _
    · rfl
theorem join2_self (s : Sta) : join2 s s = s := by
  unfold join2
  simp
theorem joinF_self (s : Sta) (l : List Sta) : joinF s (s :: l) = joinF s l := by rw [joinF, if_pos rfl, join2_self]
theorem join_sets {s t : Sta} (hs : SetsOk s) (ht : SetsOk t) : SetsOk (join2 s t) := of_fits (fits_join (fits_of hs) (fits_of ht))
theorem joinF_take {m u : Sta} {l : List Sta} {k : Nat} {s : Sta} (h : joinF m (l.take k) = some u) (hs : l[k]? = some s) : joinF m (l.take (k + 1)) = if s.pos = u.pos then some (join2 u s) else none := by
  obtain ⟨hk, he⟩ := List.getElem?_eq_some_iff.1 hs
  rw [List.take_succ_eq_append_getElem hk, he, joinF_snoc, h]
  rfl
theorem joinF_fail {m : Sta} {l : List Sta} {k : Nat} (h : joinF m (l.take k) = none) : joinF m l = none := by
  rw [← List.take_append_drop k l, joinF_append, h]; rfl
set_option maxRecDepth 1000000 in
set_option maxHeartbeats 4000000 in
theorem xall_any {w0 w : World} {b : Nat} {m : Sta} {l : List Sta} {v : Value} (hr : ARow w0 v l) (hw : Below w0.heap.size w0 w) (hb : w0.heap.size ≤ b) (hj : JoB w b m) (hm : SetsOk m) (hl : ∀ s ∈ l, SetsOk s) :
    Calls Try.prog 147 #[metV 148 b, v] w fun e w' => e = .returned (.bool (joinF m l).isSome) ∧ (∀ u, joinF m l = some u → JoB w' b u) ∧ ∀ M, M ≤ b → Below M w w' := by
  have HR := Lib.hid hr
  have HW := Lib.hid hw
  have HB := Lib.hid hb
  have HJ := Lib.hid hj
  have HM := Lib.hid hm
  have HL := Lib.hid hl
  obtain ⟨ad, cap, rfl, hlm, _⟩ := hr.form
  clear hr hw hb hj hm hl
  unfold maxLen at hlm
  unfold metV
  go_enter Try.func147, Try.ntmps147
  go_wp2_with fail
  go_loopw [9] (fun i wr => ∃ (k : Nat) (u : Sta), k ≤ l.length ∧ i = .int .i64 k ∧ joinF m (l.take k) = some u ∧ SetsOk u ∧ JoB wr b u ∧ ∀ M, M ≤ b → Below M w wr) (fun i _ => l.length - (intOf i).toNat)
  case atStart => exact ⟨0, m, Nat.zero_le _, rfl, rfl, HM.out, HJ.out, fun M _ => Below.refl M w⟩
  case round =>
    obtain ⟨k, u, hk, rfl, hju, hsu, hjo, hbw⟩ := hrel
    have HU := Lib.hid hju
    have HS := Lib.hid hsu
    have HO := Lib.hid hjo
    have HBW := Lib.hid hbw
    clear hju hsu hjo hbw
    by_cases hlt : k < l.length
    · have HK := Lib.hid hlt
      obtain ⟨s, hs⟩ : ∃ s, l[k]? = some s := ⟨_, List.getElem?_eq_getElem hlt⟩
      have HE := Lib.hid hs
      have HSS := Lib.hid (HL.out s (List.mem_of_getElem? hs))
      obtain ⟨tb, off, rfl, hat, _⟩ := arow_at (HR.out.below (HW.out.trans (HBW.out _ HB.out))) k s hs
      obtain ⟨c0, c1, c2, c3, c4, c5, c6, c7⟩ := hat
      clear hs
      have hki : (k : Int) < (l.length : Int) := by omega
      go_wp2_with fail
      clear c0 c1 c2 c3 c4 c5 c6 c7
      have HO2 := Lib.hid (HO.out.later ((Below.refl _ wr).alloc (Nat.le_refl _) (boxSt s)))
      have HBW2 := Lib.hid (show ∀ M, M ≤ b → Below M w (wr.alloc (boxSt s)) from fun M hM => (HBW.out M hM).alloc (Nat.le_trans hM (Nat.le_of_lt HO.out.lt)) (boxSt s))
      change Calls _ _ #[.pointer (some ⟨b, 0, none⟩), staV s] (wr.alloc (boxSt s)) _
      generalize wr.alloc (boxSt s) = w1 at *
      by_cases hp : s.pos = u.pos
      · have HN := Lib.hid (show joinF m (l.take (k + 1)) = some (join2 u s) by rw [joinF_take HU.out HE.out, if_pos hp])
        refine (xadd_yes HO2.out HS.out HSS.out hp).mono ?_
        rintro e w2 ⟨rfl, hjo, hbl⟩
        have HO3 := Lib.hid hjo
        have HBW3 := Lib.hid (show ∀ M, M ≤ b → Below M w w2 from fun M hM => (HBW2.out M hM).trans (hbl M hM))
        clear hjo hbl hp
        go_wp2
        go_roundw
        case rel => exact ⟨k + 1, join2 u s, by have := HK.out; omega, by go_num, HN.out, join_sets HS.out HSS.out, HO3.out, HBW3.out⟩
        case measure => have := HK.out; simp [intOf]; omega
      · have HN := Lib.hid (show joinF m l = none from joinF_fail (k := k + 1) (by rw [joinF_take HU.out HE.out, if_neg hp]))
        refine (xadd_no HO2.out HS.out HSS.out hp).mono ?_
        rintro e w2 ⟨rfl, hjo, hbl⟩
        have HBW3 := Lib.hid (show ∀ M, M ≤ b → Below M w w2 from fun M hM => (HBW2.out M hM).trans (hbl M hM))
        clear hjo hbl hp
        go_wp2
        go_ret
        refine ⟨by rw [HN.out]; rfl, ?_, HBW3.out⟩
        intro x hx
        rw [HN.out] at hx
        cases hx
    · obtain rfl : k = l.length := by omega
      have h := HU.out
      rw [List.take_length] at h
      have HN := Lib.hid h
      clear h
      go_wp2
      go_ret
      refine ⟨by rw [HN.out]; rfl, ?_, HBW.out⟩
      intro x hx
      rw [HN.out] at hx
      cases hx
      exact HO.out
/-- What is answered where nothing can be thrown together: noughts. -/
def jOf (l : List Sta) : Sta := (joinS l).getD noughtS
theorem jOf_some {l : List Sta} {u : Sta} (h : joinS l = some u) : jOf l = u := by unfold jOf; rw [h]; rfl
theorem jOf_none {l : List Sta} (h : joinS l = none) : jOf l = noughtS := by unfold jOf; rw [h]; rfl
set_option maxRecDepth 1000000 in
set_option maxHeartbeats 4000000 in
theorem xjoin_any {w : World} {l : List Sta} {v : Value} (hr : ARow w v l) (hl : ∀ s ∈ l, SetsOk s) :
    Calls Try.prog 109 #[v] w fun e w' => e = .returned (.tuple #[staV (jOf l), .bool (joinS l).isSome]) ∧ Below w.heap.size w w' := by
  have HR := Lib.hid hr
  have HL := Lib.hid hl
  obtain ⟨ad, cap, rfl, hlm, _⟩ := hr.form
  clear hr hl
  unfold maxLen at hlm
  cases l with
  | nil =>
    go_enter Try.func109, Try.ntmps109
    go_upto_region 1 with fail
    have HT := Lib.hid (st_new w noughtS)
    have HB := Lib.hid ((Below.refl w.heap.size w).alloc (Nat.le_refl _) (boxSt noughtS))
    change Code.wp _ _ _ _ (w.alloc (boxSt noughtS))
    generalize w.alloc (boxSt noughtS) = W at *
    have HNle := Lib.hid (Nat.le_refl w.heap.size)
    go_wp2_with (refine wpList_store_state (by rfl) (.tmp 2) (.tmp 8) (by rfl) w.heap.size _ noughtS (by rfl) (by rfl) HT.out ?_)
    intro WE hE hbE
    have z0 := hE.c0
    have z1 := hE.c1
    have z2 := hE.c2
    have z3 := hE.c3
    have z4 := hE.c4
    have z5 := hE.c5
    have z6 := hE.c6
    have z7 := hE.c7
    go_wp2
    exact bodyPost_ret (v := .tuple #[staV noughtS, .bool false]) (by simp [results, Try.results109, go_sem, z0, z1, z2, z3, z4, z5, z6, z7, staV]) rfl ⟨rfl, HB.out.trans (hbE _ HNle.out)⟩
  | cons s r =>
    have HJS := Lib.hid (show joinF s (s :: r) = joinS (s :: r) from joinF_self s r)
    have HSS := Lib.hid (HL.out s (by simp))
    obtain ⟨tb, off, rfl, hat, _⟩ := arow_at HR.out 0 s rfl
    have HAT := Lib.hid hat
    clear hat
    have HLE := Lib.hid (show (s :: r).length = r.length + 1 from rfl)
    obtain ⟨n, hn⟩ : ∃ n, n = (s :: r).length := ⟨_, rfl⟩
    have hn0 : (0 : Int) < (n : Int) := by rw [hn, HLE.out]; omega
    have hnz : ((n : Int) == 0) = false := by simp; omega
    rw [← hn] at HR hlm ⊢
    have HN := Lib.hid hn
    clear hn HLE
    go_enter Try.func109, Try.ntmps109
    go_upto_region 1 with fail
    have HT := Lib.hid (st_new w noughtS)
    have HB := Lib.hid ((Below.refl w.heap.size w).alloc (Nat.le_refl _) (boxSt noughtS))
    have HNle := Lib.hid (Nat.le_refl w.heap.size)
    have HAT1 := Lib.hid (show StAt _ tb off s by have h := arow_here (HR.out.below HB.out) 0 s rfl; rw [Nat.zero_mul] at h; exact h)
    change Code.wp _ _ _ _ (w.alloc (boxSt noughtS))
    generalize w.alloc (boxSt noughtS) = W at *
    obtain ⟨c0, c1, c2, c3, c4, c5, c6, c7⟩ := HAT1.out
    go_upto_region 4 with fail
    clear c0 c1 c2 c3 c4 c5 c6 c7
    have HJO := Lib.hid (jo_new W s)
    have HT2 := Lib.hid (HT.out.later ((Below.refl _ W).alloc (Nat.le_refl _) (boxJo s)))
    have HB2 := Lib.hid (HB.out.alloc HB.out.size (boxJo s))
    have HBS := Lib.hid HB.out.size
    have HTL := Lib.hid HT.out.lt
    change Code.wp _ _ _ _ (W.alloc (boxJo s))
    generalize W.alloc (boxJo s) = W2 at *
    clear HAT1 HT HB
    generalize W.heap.size = bj at *
    go_wp2_with fail
    refine (xall_any (w0 := w) HR.out HB2.out HBS.out HJO.out HSS.out HL.out).mono ?_
    rintro e w3 ⟨rfl, hu, hb⟩
    have HT3 := Lib.hid (HT2.out.below HTL.out (hb bj (Nat.le_refl _)))
    have HB3 := Lib.hid (HB2.out.trans (hb _ HBS.out))
    clear hb HT2 HB2
    have hjj := HJS.out
    cases hj : joinS (s :: r) with
    | none =>
      rw [hj] at hjj
      rw [hjj]
      have HE1 := Lib.hid (jOf_none hj)
      have HE2 := Lib.hid hj
      clear hu hj hjj HJS
      go_wp2_with (refine wpList_store_state (by rfl) (.tmp 2) (.tmp 16) (by rfl) w.heap.size _ noughtS (by rfl) (by rfl) HT3.out ?_)
      intro WE hE hbE
      have z0 := hE.c0
      have z1 := hE.c1
      have z2 := hE.c2
      have z3 := hE.c3
      have z4 := hE.c4
      have z5 := hE.c5
      have z6 := hE.c6
      have z7 := hE.c7
      go_wp2
      exact bodyPost_ret (v := .tuple #[staV noughtS, .bool false]) (by simp [results, Try.results109, go_sem, z0, z1, z2, z3, z4, z5, z6, z7, staV]) rfl ⟨by rw [HE1.out, HE2.out]; rfl, HB3.out.trans (hbE _ HNle.out)⟩
    | some u =>
      rw [hj] at hjj
      rw [hjj]
      have HE1 := Lib.hid (jOf_some hj)
      have HE2 := Lib.hid hj
      have HU := Lib.hid (hu u hjj)
      clear hu hj hjj HJS
      have q0 := HU.out.c0
      have q1 := HU.out.c1
      have q2 := HU.out.c2
      have q3 := HU.out.c3
      have q4 := HU.out.c4
      have q5 := HU.out.c5
      have q6 := HU.out.c6
      have q7 := HU.out.c7
      go_wp2_with (refine wpList_store_state (by rfl) (.tmp 2) (.tmp 17) (by rfl) w.heap.size _ u (by rfl) (by rfl) HT3.out ?_)
      clear q0 q1 q2 q3 q4 q5 q6 q7
      intro WE hE hbE
      have z0 := hE.c0
      have z1 := hE.c1
      have z2 := hE.c2
      have z3 := hE.c3
      have z4 := hE.c4
      have z5 := hE.c5
      have z6 := hE.c6
      have z7 := hE.c7
      go_wp2
      exact bodyPost_ret (v := .tuple #[staV u, .bool true]) (by simp [results, Try.results109, go_sem, z0, z1, z2, z3, z4, z5, z6, z7, staV]) rfl ⟨by rw [HE1.out, HE2.out]; rfl, HB3.out.trans (hbE _ HNle.out)⟩
end Go.Proofs.Ytpgbbnmflnhlbaa
