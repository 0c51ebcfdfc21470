/- States thrown together: the program's answer. -/
import Derived.Test.YtclepdnpclmegaaRAdd
import Derived.Test.YtclepdnpclmegaaXSNext
namespace Go.Proofs.Ytclepdnpclmegaa
open Go.ChangeShapes Go.WideShapes Go.ChangeAt Go.RowKit

theorem joinF_append : ∀ (a b : List Sta) (s : Sta), joinF s (a ++ b) = (joinF s a).bind (fun u => joinF u b)
  | [], b, s => rfl
  | x :: a, b, s => by
    rw [List.cons_append, joinF, joinF]
    split
    · exact joinF_append a b _
    · rfl
theorem join2_self (s : Sta) : join2 s s = s := by
  unfold join2
  simp
theorem joinF_self (s : Sta) (l : List Sta) : joinF s (s :: l) = joinF s l := by rw [joinF, if_pos rfl, join2_self]
theorem join_sets {s t : Sta} (hs : SetsOk s) (ht : SetsOk t) : SetsOk (join2 s t) := of_fits (fits_join (fits_of hs) (fits_of ht))
theorem joinF_take {m u : Sta} {l : List Sta} {k : Nat} {s : Sta} (h : joinF m (l.take k) = some u) (hs : l[k]? = some s) : joinF m (l.take (k + 1)) = if s.pos = u.pos then some (join2 u s) else none := by
  obtain ⟨hk, he⟩ := List.getElem?_eq_some_iff.1 hs
  rw [List.take_succ_eq_append_getElem hk, he, joinF_snoc, h]
  rfl
theorem joinF_fail {m : Sta} {l : List Sta} {k : Nat} (h : joinF m (l.take k) = none) : joinF m l = none := by
  rw [← List.take_append_drop k l, joinF_append, h]; rfl
set_option maxRecDepth 1000000 in
set_option maxHeartbeats 4000000 in
theorem xall_any {w0 w : World} {b : Nat} {m : Sta} {l : List Sta} {v : Value} (hr : ARow w0 v l) (hw : Below w0.heap.size w0 w) (hb : w0.heap.size ≤ b) (hj : JoB w b m) (hm : SetsOk m) (hl : ∀ s ∈ l, SetsOk s) :
    Calls Try.prog 17 #[metV 18 b, v] w fun e w' => e = .returned (.bool (joinF m l).isSome) ∧ (∀ u, joinF m l = some u → JoB w' b u) ∧ ∀ M, M ≤ b → Below M w w' := by
  have HR := Lib.hid hr
  have HW := Lib.hid hw
  have HB := Lib.hid hb
  have HJ := Lib.hid hj
  have HM := Lib.hid hm
  have HL := Lib.hid hl
  obtain ⟨ad, cap, rfl, hlm, _⟩ := hr.form
  clear hr hw hb hj hm hl
  unfold maxLen at hlm
  unfold metV
  go_enter Try.func17, Try.ntmps17
  go_wp2_with fail
  go_loopw [9] (fun i wr => ∃ (k : Nat) (u : Sta), k ≤ l.length ∧ i = .int .i64 k ∧ joinF m (l.take k) = some u ∧ SetsOk u ∧ JoB wr b u ∧ ∀ M, M ≤ b → Below M w wr) (fun i _ => l.length - (intOf i).toNat)
  case atStart => exact ⟨0, m, Nat.zero_le _, rfl, rfl, HM.out, HJ.out, fun M _ => Below.refl M w⟩
  case round =>
    obtain ⟨k, u, hk, rfl, hju, hsu, hjo, hbw⟩ := hrel
    have HU := Lib.hid hju
    have HS := Lib.hid hsu
    have HO := Lib.hid hjo
    have HBW := Lib.hid hbw
    clear hju hsu hjo hbw
    by_cases hlt : k < l.length
    · have HK := Lib.hid hlt
      obtain ⟨s, hs⟩ : ∃ s, l[k]? = some s := ⟨_, List.getElem?_eq_getElem hlt⟩
      have HE := Lib.hid hs
      have HSS := Lib.hid (HL.out s (List.mem_of_getElem? hs))
      obtain ⟨tb, off, rfl, hat, _⟩ := arow_at (HR.out.below (HW.out.trans (HBW.out _ HB.out))) k s hs
      obtain ⟨c0, c1, c2, c3, c4, c5, c6, c7⟩ := hat
      clear hs
      have hki : (k : Int) < (l.length : Int) := by omega
      go_wp2_with fail
      clear c0 c1 c2 c3 c4 c5 c6 c7
      have HO2 := Lib.hid (HO.out.later ((Below.refl _ wr).alloc (Nat.le_refl _) (boxSt s)))
      have HBW2 := Lib.hid (show ∀ M, M ≤ b → Below M w (wr.alloc (boxSt s)) from fun M hM => (HBW.out M hM).alloc (Nat.le_trans hM (Nat.le_of_lt HO.out.lt)) (boxSt s))
      change Calls _ _ #[.pointer (some ⟨b, 0, none⟩), staV s] (wr.alloc (boxSt s)) _
      generalize wr.alloc (boxSt s) = w1 at *
      by_cases hp : s.pos = u.pos
      · have HN := Lib.hid (show joinF m (l.take (k + 1)) = some (join2 u s) by rw [joinF_take HU.out HE.out, if_pos hp])
        refine (xadd_yes HO2.out HS.out HSS.out hp).mono ?_
        rintro e w2 ⟨rfl, hjo, hbl⟩
        have HO3 := Lib.hid hjo
        have HBW3 := Lib.hid (show ∀ M, M ≤ b → Below M w w2 from fun M hM => (HBW2.out M hM).trans (hbl M hM))
        clear hjo hbl hp
        go_wp2
        go_roundw
        case rel => exact ⟨k + 1, join2 u s, by have := HK.out; omega, by go_num, HN.out, join_sets HS.out HSS.out, HO3.out, HBW3.out⟩
        case measure => have := HK.out; simp [intOf]; omega
      · have HN := Lib.hid (show joinF m l = none from joinF_fail (k := k + 1) (by rw [joinF_take HU.out HE.out, if_neg hp]))
        refine (xadd_no HO2.out HS.out HSS.out hp).mono ?_
        rintro e w2 ⟨rfl, hjo, hbl⟩
        have HBW3 := Lib.hid (show ∀ M, M ≤ b → Below M w w2 from fun M hM => (HBW2.out M hM).trans (hbl M hM))
        clear hjo hbl hp
        go_wp2
        go_ret
        refine ⟨by rw [HN.out]; rfl, ?_, HBW3.out⟩
        intro x hx
        rw [HN.out] at hx
        cases hx
    · obtain rfl : k = l.length := by omega
      have h := HU.out
      rw [List.take_length] at h
      have HN := Lib.hid h
      clear h
      go_wp2
      go_ret
      refine ⟨by rw [HN.out]; rfl, ?_, HBW.out⟩
      intro x hx
      rw [HN.out] at hx
      cases hx
      exact HO.out
/-- What is answered where nothing can be thrown together: noughts. -/
def jOf (l : List Sta) : Sta := (joinS l).getD noughtS
theorem jOf_some {l : List Sta} {u : Sta} (h : joinS l = some u) : jOf l = u := by unfold jOf; rw [h]; rfl
theorem jOf_none {l : List Sta} (h : joinS l = none) : jOf l = noughtS := by unfold jOf; rw [h]; rfl
set_option maxRecDepth 1000000 in
set_option maxHeartbeats 4000000 in
theorem xjoin_any {w : World} {l : List Sta} {v : Value} (hr : ARow w v l) (hl : ∀ s ∈ l, SetsOk s) :
    Calls Try.prog 10 #[v] w fun e w' => e = .returned (.tuple #[staV (jOf l), .bool (joinS l).isSome]) ∧ Below w.heap.size w w' := by
  have HR := Lib.hid hr
  have HL := Lib.hid hl
  obtain ⟨ad, cap, rfl, hlm, _⟩ := hr.form
  clear hr hl
  unfold maxLen at hlm
  cases l with
  | nil =>
    go_enter Try.func10, Try.ntmps10
    go_upto_region 1 with fail
    have HT := Lib.hid (st_new w noughtS)
    have HB := Lib.hid ((Below.refl w.heap.size w).alloc (Nat.le_refl _) (boxSt noughtS))
    change Code.wp _ _ _ _ (w.alloc (boxSt noughtS))
    generalize w.alloc (boxSt noughtS) = W at *
    have HNle := Lib.hid (Nat.le_refl w.heap.size)
    go_wp2_with (refine wpList_store_state (by rfl) (.tmp 2) (.tmp 8) (by rfl) w.heap.size _ noughtS (by rfl) (by rfl) HT.out ?_)
    intro WE hE hbE
    have z0 := hE.c0
    have z1 := hE.c1
    have z2 := hE.c2
    have z3 := hE.c3
    have z4 := hE.c4
    have z5 := hE.c5
    have z6 := hE.c6
    have z7 := hE.c7
    go_wp2
    exact bodyPost_ret (v := .tuple #[staV noughtS, .bool false]) (by simp [results, Try.results10, go_sem, z0, z1, z2, z3, z4, z5, z6, z7, staV]) rfl ⟨rfl, HB.out.trans (hbE _ HNle.out)⟩
  | cons s r =>
    have HJS := Lib.hid (show joinF s (s :: r) = joinS (s :: r) from joinF_self s r)
    have HSS := Lib.hid (HL.out s (by simp))
    obtain ⟨tb, off, rfl, hat, _⟩ := arow_at HR.out 0 s rfl
    have HAT := Lib.hid hat
    clear hat
    have HLE := Lib.hid (show (s :: r).length = r.length + 1 from rfl)
    obtain ⟨n, hn⟩ : ∃ n, n = (s :: r).length := ⟨_, rfl⟩
    have hn0 : (0 : Int) < (n : Int) := by rw [hn, HLE.out]; omega
    have hnz : ((n : Int) == 0) = false := by simp; omega
    rw [← hn] at HR hlm ⊢
    have HN := Lib.hid hn
    clear hn HLE
    go_enter Try.func10, Try.ntmps10
    go_upto_region 1 with fail
    have HT := Lib.hid (st_new w noughtS)
    have HB := Lib.hid ((Below.refl w.heap.size w).alloc (Nat.le_refl _) (boxSt noughtS))
    have HNle := Lib.hid (Nat.le_refl w.heap.size)
    have HAT1 := Lib.hid (show StAt _ tb off s by have h := arow_here (HR.out.below HB.out) 0 s rfl; rw [Nat.zero_mul] at h; exact h)
    change Code.wp _ _ _ _ (w.alloc (boxSt noughtS))
    generalize w.alloc (boxSt noughtS) = W at *
    obtain ⟨c0, c1, c2, c3, c4, c5, c6, c7⟩ := HAT1.out
    go_upto_region 4 with fail
    clear c0 c1 c2 c3 c4 c5 c6 c7
    have HJO := Lib.hid (jo_new W s)
    have HT2 := Lib.hid (HT.out.later ((Below.refl _ W).alloc (Nat.le_refl _) (boxJo s)))
    have HB2 := Lib.hid (HB.out.alloc HB.out.size (boxJo s))
    have HBS := Lib.hid HB.out.size
    have HTL := Lib.hid HT.out.lt
    change Code.wp _ _ _ _ (W.alloc (boxJo s))
    generalize W.alloc (boxJo s) = W2 at *
    clear HAT1 HT HB
    generalize W.heap.size = bj at *
    go_wp2_with fail
    refine (xall_any (w0 := w) HR.out HB2.out HBS.out HJO.out HSS.out HL.out).mono ?_
    rintro e w3 ⟨rfl, hu, hb⟩
    have HT3 := Lib.hid (HT2.out.below HTL.out (hb bj (Nat.le_refl _)))
    have HB3 := Lib.hid (HB2.out.trans (hb _ HBS.out))
    clear hb HT2 HB2
    have hjj := HJS.out
    cases hj : joinS (s :: r) with
    | none =>
      rw [hj] at hjj
      rw [hjj]
      have HE1 := Lib.hid (jOf_none hj)
      have HE2 := Lib.hid hj
      clear hu hj hjj HJS
      go_wp2_with (refine wpList_store_state (by rfl) (.tmp 2) (.tmp 16) (by rfl) w.heap.size _ noughtS (by rfl) (by rfl) HT3.out ?_)
      intro WE hE hbE
      have z0 := hE.c0
      have z1 := hE.c1
      have z2 := hE.c2
      have z3 := hE.c3
      have z4 := hE.c4
      have z5 := hE.c5
      have z6 := hE.c6
      have z7 := hE.c7
      go_wp2
      exact bodyPost_ret (v := .tuple #[staV noughtS, .bool false]) (by simp [results, Try.results10, go_sem, z0, z1, z2, z3, z4, z5, z6, z7, staV]) rfl ⟨by rw [HE1.out, HE2.out]; rfl, HB3.out.trans (hbE _ HNle.out)⟩
    | some u =>
      rw [hj] at hjj
      rw [hjj]
      have HE1 := Lib.hid (jOf_some hj)
      have HE2 := Lib.hid hj
      have HU := Lib.hid (hu u hjj)
      clear hu hj hjj HJS
      have q0 := HU.out.c0
      have q1 := HU.out.c1
      have q2 := HU.out.c2
      have q3 := HU.out.c3
      have q4 := HU.out.c4
      have q5 := HU.out.c5
      have q6 := HU.out.c6
      have q7 := HU.out.c7
      go_wp2_with (refine wpList_store_state (by rfl) (.tmp 2) (.tmp 17) (by rfl) w.heap.size _ u (by rfl) (by rfl) HT3.out ?_)
      clear q0 q1 q2 q3 q4 q5 q6 q7
      intro WE hE hbE
      have z0 := hE.c0
      have z1 := hE.c1
      have z2 := hE.c2
      have z3 := hE.c3
      have z4 := hE.c4
      have z5 := hE.c5
      have z6 := hE.c6
      have z7 := hE.c7
      go_wp2
      exact bodyPost_ret (v := .tuple #[staV u, .bool true]) (by simp [results, Try.results10, go_sem, z0, z1, z2, z3, z4, z5, z6, z7, staV]) rfl ⟨by rw [HE1.out, HE2.out]; rfl, HB3.out.trans (hbE _ HNle.out)⟩
end Go.Proofs.Ytclepdnpclmegaa
