/- States thrown together: the document's answer. -/
import Derived.Test.YtclepdnpclmegaaRJoin
import Derived.Test.YtclepdnpclmegaaESets
import Derived.Test.YtclepdnpclmegaaXSNext
import Derived.Test.YtclepdnpclmegaaXTCar
namespace Go.Proofs.Ytclepdnpclmegaa
open Go.ChangeShapes Go.WideShapes Go.ChangeAt Go.RowKit

theorem yleast_any (a b : Int) (w : World) : Calls Try.prog 19 #[.int .i64 a, .int .i64 b] w fun e w' => e = .returned (.int .i64 (min a b)) ∧ w = w' := by
  by_cases h : a < b
  · have d := decide_eq_true h
    have HE := Lib.hid (show min a b = a by omega)
    clear h
    go_enter Try.func19, Try.ntmps19
    go_wp2
    go_ret
    exact ⟨ret_int HE.out.symm, rfl⟩
  · have d := decide_eq_false h
    have HE := Lib.hid (show min a b = b by omega)
    clear h
    go_enter Try.func19, Try.ntmps19
    go_wp2
    go_ret
    exact ⟨ret_int HE.out.symm, rfl⟩
theorem joinF_next {s u t : Sta} {r : List Sta} {k : Nat} (hk : 1 ≤ k) (h : joinF s (r.take (k - 1)) = some u) (hs : (s :: r)[k]? = some t) : joinF s (r.take (k + 1 - 1)) = if t.pos = u.pos then some (join2 u t) else none := by
  obtain ⟨j, rfl⟩ : ∃ j, k = j + 1 := ⟨k - 1, by omega⟩
  rw [Nat.add_sub_cancel] at h
  rw [show j + 1 + 1 - 1 = j + 1 from rfl]
  exact joinF_take h (by simpa using hs)
theorem holds_st {w : World} {b c : Nat} {s t : Sta} (h : StB w b s) (k : StB w c t) : Holds (cellsSt b s ++ cellsSt c t) w := Holds.app.2 ⟨h.holds, k.holds⟩
set_option maxRecDepth 1000000 in
set_option maxHeartbeats 8000000 in
theorem yjoin_any {w : World} {l : List Sta} {v : Value} (hr : ARow w v l) (hl : ∀ s ∈ l, SetsOk s) :
    Calls Try.prog 11 #[v] w fun e w' => e = .returned (.tuple #[staV (jOf l), .bool (joinS l).isSome]) ∧ Below w.heap.size w w' := by
  have HR := Lib.hid hr
  have HL := Lib.hid hl
  obtain ⟨ad, cap, rfl, hlm, _⟩ := hr.form
  clear hr hl
  unfold maxLen at hlm
  cases l with
  | nil =>
    go_enter Try.func11, Try.ntmps11
    go_upto_region 1 with fail
    have HT := Lib.hid (st_new w noughtS)
    have HB := Lib.hid ((Below.refl w.heap.size w).alloc (Nat.le_refl _) (boxSt noughtS))
    change Code.wp _ _ _ _ (w.alloc (boxSt noughtS))
    generalize w.alloc (boxSt noughtS) = W at *
    have HNle := Lib.hid (Nat.le_refl w.heap.size)
    go_wp2_with (refine wpList_store_state (by rfl) (.tmp 2) (.tmp 10) (by rfl) w.heap.size _ noughtS (by rfl) (by rfl) HT.out ?_)
    intro WE hE hbE
    have z0 := hE.c0
    have z1 := hE.c1
    have z2 := hE.c2
    have z3 := hE.c3
    have z4 := hE.c4
    have z5 := hE.c5
    have z6 := hE.c6
    have z7 := hE.c7
    go_wp2
    exact bodyPost_ret (v := .tuple #[staV noughtS, .bool false]) (by simp [results, Try.results11, go_sem, z0, z1, z2, z3, z4, z5, z6, z7, staV]) rfl ⟨rfl, HB.out.trans (hbE _ HNle.out)⟩
  | cons s r =>
    have HSS := Lib.hid (HL.out s (by simp))
    obtain ⟨tb, off, rfl, hat, _⟩ := arow_at HR.out 0 s rfl
    clear hat
    have HLE := Lib.hid (show (s :: r).length = r.length + 1 from rfl)
    obtain ⟨n, hn⟩ : ∃ n, n = (s :: r).length := ⟨_, rfl⟩
    have hn0 : (0 : Int) < (n : Int) := by rw [hn, HLE.out]; omega
    have hn1 : 1 ≤ n := by omega
    have hnz : ((n : Int) == 0) = false := by simp; omega
    rw [← hn] at HR hlm ⊢
    have HN := Lib.hid hn
    have HN2 := Lib.hid (show n = r.length + 1 by rw [hn]; rfl)
    clear hn HLE
    go_enter Try.func11, Try.ntmps11
    go_upto_region 1 with fail
    have HT := Lib.hid (st_new w noughtS)
    have HB := Lib.hid ((Below.refl w.heap.size w).alloc (Nat.le_refl _) (boxSt noughtS))
    have HNle := Lib.hid (Nat.le_refl w.heap.size)
    have HAT1 := Lib.hid (show StAt _ tb off s by have h := arow_here (HR.out.below HB.out) 0 s rfl; rw [Nat.zero_mul] at h; exact h)
    change Code.wp _ _ _ _ (w.alloc (boxSt noughtS))
    generalize w.alloc (boxSt noughtS) = W at *
    obtain ⟨c0, c1, c2, c3, c4, c5, c6, c7⟩ := HAT1.out
    go_upto_region 4 with fail
    clear c0 c1 c2 c3 c4 c5 c6 c7
    have HA := Lib.hid (st_new W s)
    have HT2 := Lib.hid (HT.out.later ((Below.refl _ W).alloc (Nat.le_refl _) (boxSt s)))
    have HB2 := Lib.hid (HB.out.alloc HB.out.size (boxSt s))
    have HTL := Lib.hid HT.out.lt
    change Code.wp _ _ _ _ (W.alloc (boxSt s))
    generalize W.alloc (boxSt s) = W2 at *
    clear HAT1 HT HB
    generalize W.heap.size = bj at *
    go_wp2_with fail
    go_loopw [5] (fun i wr => ∃ (k : Nat) (u : Sta), 1 ≤ k ∧ k ≤ n ∧ i = .int .i64 k ∧ joinF s (r.take (k - 1)) = some u ∧ SetsOk u ∧ StB wr w.heap.size noughtS ∧ StB wr bj u ∧ Below w.heap.size w wr) (fun i _ => n - (intOf i).toNat)
    case atStart => exact ⟨1, s, Nat.le_refl _, hn1, rfl, rfl, HSS.out, HT2.out, HA.out, HB2.out⟩
    case round =>
      obtain ⟨k, u, hk1, hk, rfl, hju, hsu, ht, ha, hbw⟩ := hrel
      clear HT2 HA HB2
      have HK1 := Lib.hid hk1
      have HU := Lib.hid hju
      have HS := Lib.hid hsu
      have HT := Lib.hid ht
      have HA := Lib.hid ha
      have HBW := Lib.hid hbw
      clear hju hsu ht ha hbw
      by_cases hlt : k < n
      rotate_left
      · obtain rfl : k = n := by omega
        have h := HU.out
        rw [show k - 1 = r.length by have := HN2.out; omega, List.take_length] at h
        have HE1 := Lib.hid (jOf_some (l := s :: r) h)
        have HE2 := Lib.hid (show joinS (s :: r) = some u from h)
        clear h hlt hk
        have q0 := HA.out.c0
        have q1 := HA.out.c1
        have q2 := HA.out.c2
        have q3 := HA.out.c3
        have q4 := HA.out.c4
        have q5 := HA.out.c5
        have q6 := HA.out.c6
        have q7 := HA.out.c7
        go_wp2_with (refine wpList_store_state (by rfl) (.tmp 2) (.tmp 68) (by rfl) w.heap.size _ u (by rfl) (by rfl) HT.out ?_)
        clear q0 q1 q2 q3 q4 q5 q6 q7
        intro WE hE hbE
        have z0 := hE.c0
        have z1 := hE.c1
        have z2 := hE.c2
        have z3 := hE.c3
        have z4 := hE.c4
        have z5 := hE.c5
        have z6 := hE.c6
        have z7 := hE.c7
        go_wp2
        exact bodyPost_ret (v := .tuple #[staV u, .bool true]) (by simp [results, Try.results11, go_sem, z0, z1, z2, z3, z4, z5, z6, z7, staV]) rfl ⟨by rw [HE1.out, HE2.out]; rfl, HBW.out.trans (hbE _ HNle.out)⟩
      have HK := Lib.hid hlt
      obtain ⟨t, ht⟩ : ∃ t, (s :: r)[k]? = some t := ⟨_, List.getElem?_eq_getElem (by rw [← HN.out]; exact hlt)⟩
      have HE := Lib.hid ht
      have HTS := Lib.hid (HL.out t (List.mem_of_getElem? ht))
      obtain ⟨c0, c1, c2, c3, c4, c5, c6, c7⟩ := arow_here (HR.out.below HBW.out) k t ht
      clear ht
      have hki : (k : Int) < (n : Int) := by omega
      clear hk hk1 hlt
      go_upto_region 8 with fail
      clear c0 c1 c2 c3 c4 c5 c6 c7
      have HX := Lib.hid (st_new wr t)
      have HTn := Lib.hid (HT.out.later ((Below.refl _ wr).alloc (Nat.le_refl _) (boxSt t)))
      have HAn := Lib.hid (HA.out.later ((Below.refl _ wr).alloc (Nat.le_refl _) (boxSt t)))
      have HBn := Lib.hid (HBW.out.alloc HBW.out.size (boxSt t))
      have HAX := Lib.hid (show bj < wr.heap.size from HA.out.lt)
      change Code.wp _ _ _ _ (wr.alloc (boxSt t))
      generalize wr.alloc (boxSt t) = V at *
      clear HT HA HBW
      generalize wr.heap.size = bx at *
      have q0 := HAn.out.c0
      have z0 := HX.out.c0
      by_cases hp : t.pos = u.pos
      rotate_left
      · have b0 : (t.pos == u.pos) = false := by simp [hp]
        have hno : joinF s r = none := by
          have h := joinF_next HK1.out HU.out HE.out
          rw [if_neg hp] at h
          exact joinF_fail h
        have HE1 := Lib.hid (jOf_none (l := s :: r) hno)
        have HE2 := Lib.hid (show joinS (s :: r) = none from hno)
        clear hno hp
        go_wp2_with (refine wpList_store_state (by rfl) (.tmp 2) (.tmp 29) (by rfl) w.heap.size _ noughtS (by rfl) (by rfl) HTn.out ?_)
        clear q0 z0
        intro WE hE hbE
        have z0 := hE.c0
        have z1 := hE.c1
        have z2 := hE.c2
        have z3 := hE.c3
        have z4 := hE.c4
        have z5 := hE.c5
        have z6 := hE.c6
        have z7 := hE.c7
        go_wp2
        exact bodyPost_ret (v := .tuple #[staV noughtS, .bool false]) (by simp [results, Try.results11, go_sem, z0, z1, z2, z3, z4, z5, z6, z7, staV]) rfl ⟨by rw [HE1.out, HE2.out]; rfl, HBn.out.trans (hbE _ HNle.out)⟩
      have b0 : (t.pos == u.pos) = true := by simp [hp]
      have HNX := Lib.hid (show joinF s (r.take (k + 1 - 1)) = some (join2 u t) by rw [joinF_next HK1.out HU.out HE.out, if_pos hp])
      have HJS := Lib.hid (join_sets HS.out HTS.out)
      clear hp
      go_upto_region 10 with fail
      clear q0 z0
      have HTd := Lib.hid (HTn.out.later (Below.refl _ V).drew)
      have HAd := Lib.hid (HAn.out.later (Below.refl _ V).drew)
      have HXd := Lib.hid (HX.out.later (Below.refl _ V).drew)
      have HBd := Lib.hid HBn.out.drew
      clear HTn HAn HX HBn
      refine wp_until (S := Holds (cellsSt bj u ++ cellsSt bx t)) (m := 38) (by kernel_rfl) ?_
      generalize V.drew = wd at *
      have hSn : Holds (cellsSt bj u ++ cellsSt bx t) wd := holds_st HAd.out HXd.out
      have HHA := Lib.hid (show ∀ w', Below wd.heap.size wd w' → Holds (cellsSt bj u ++ cellsSt bx t) w' from fun w' hb' => holds_st (HAd.out.later hb') (HXd.out.later hb'))
      simp only [cellsSt, List.cons_append, List.nil_append] at HHA hSn ⊢
      refine until_take (i := 0) (oi := ?oz1) (v := ?vz1) ?iz1 (by kernel_rfl) (by kernel_rfl) (by kernel_rfl) (by kernel_rfl) (by kernel_rfl) ?qz1 (Or.inl ⟨?gz1, ?hz1⟩) (by assumption) ?rz1
      case iz1 => (simp only [List.getElem?_toArray, List.getElem?_cons_zero]; rfl)
      case qz1 => exact fun _ _ _ h => h
      case gz1 => rfl
      case hz1 => (intro w hSw; (simp only [Holds] at hSw); go_simp <;> with_reducible rfl)
      simp only [Act.put, List.setIfInBounds_toArray, List.set_cons_zero, List.set_cons_succ]
      refine until_take (i := 1) (oi := ?oz2) (v := ?vz2) ?iz2 (by kernel_rfl) (by kernel_rfl) (by kernel_rfl) (by kernel_rfl) (by kernel_rfl) ?qz2 (Or.inl ⟨?gz2, ?hz2⟩) (by assumption) ?rz2
      case iz2 => (simp only [List.getElem?_toArray, List.getElem?_cons_zero, List.getElem?_cons_succ]; rfl)
      case qz2 => exact fun _ _ _ h => h
      case gz2 => rfl
      case hz2 => (intro w hSw; (simp only [Holds] at hSw); go_simp <;> with_reducible rfl)
      simp only [Act.put, List.setIfInBounds_toArray, List.set_cons_zero, List.set_cons_succ]
      refine until_take (i := 2) (oi := ?oz3) (v := ?vz3) ?iz3 (by kernel_rfl) (by kernel_rfl) (by kernel_rfl) (by kernel_rfl) (by kernel_rfl) ?qz3 (Or.inl ⟨?gz3, ?hz3⟩) (by assumption) ?rz3
      case iz3 => (simp only [List.getElem?_toArray, List.getElem?_cons_zero, List.getElem?_cons_succ]; rfl)
      case qz3 => exact fun _ _ _ h => h
      case gz3 => rfl
      case hz3 => (intro w hSw; (simp only [Holds] at hSw); go_simp <;> with_reducible rfl)
      simp only [Act.put, List.setIfInBounds_toArray, List.set_cons_zero, List.set_cons_succ]
      refine until_take (i := 3) (oi := ?oz4) (v := ?vz4) ?iz4 (by kernel_rfl) (by kernel_rfl) (by kernel_rfl) (by kernel_rfl) (by kernel_rfl) ?qz4 (Or.inl ⟨?gz4, ?hz4⟩) (by assumption) ?rz4
      case iz4 => (simp only [List.getElem?_toArray, List.getElem?_cons_zero, List.getElem?_cons_succ]; rfl)
      case qz4 => exact fun _ _ _ h => h
      case gz4 => rfl
      case hz4 => (intro w hSw; (simp only [Holds] at hSw); go_simp <;> with_reducible rfl)
      simp only [Act.put, List.setIfInBounds_toArray, List.set_cons_zero, List.set_cons_succ]
      refine until_take (i := 4) (oi := ?oz5) (v := ?vz5) ?iz5 (by kernel_rfl) (by kernel_rfl) (by kernel_rfl) (by kernel_rfl) (by kernel_rfl) ?qz5 (Or.inl ⟨?gz5, ?hz5⟩) (by assumption) ?rz5
      case iz5 => (simp only [List.getElem?_toArray, List.getElem?_cons_zero, List.getElem?_cons_succ]; rfl)
      case qz5 => exact fun _ _ _ h => h
      case gz5 => rfl
      case hz5 => (intro w hSw; (simp only [Holds] at hSw); go_simp <;> with_reducible rfl)
      simp only [Act.put, List.setIfInBounds_toArray, List.set_cons_zero, List.set_cons_succ]
      refine until_take (i := 5) (oi := ?oz6) (v := ?vz6) ?iz6 (by kernel_rfl) (by kernel_rfl) (by kernel_rfl) (by kernel_rfl) (by kernel_rfl) ?qz6 (Or.inl ⟨?gz6, ?hz6⟩) (by assumption) ?rz6
      case iz6 => (simp only [List.getElem?_toArray, List.getElem?_cons_zero, List.getElem?_cons_succ]; rfl)
      case qz6 => exact fun _ _ _ h => h
      case gz6 => rfl
      case hz6 => (intro w hSw; (simp only [Holds] at hSw); go_simp <;> with_reducible rfl)
      simp only [Act.put, List.setIfInBounds_toArray, List.set_cons_zero, List.set_cons_succ]
      refine until_take (i := 7) (oi := ?oz7) (v := ?vz7) ?iz7 (by kernel_rfl) (by kernel_rfl) (by kernel_rfl) (by kernel_rfl) (by kernel_rfl) ?qz7 (Or.inl ⟨?gz7, ?hz7⟩) (by assumption) ?rz7
      case iz7 => (simp only [List.getElem?_toArray, List.getElem?_cons_zero, List.getElem?_cons_succ]; rfl)
      case qz7 => exact fun _ _ _ h => h
      case gz7 => rfl
      case hz7 => (intro w hSw; (simp only [Holds] at hSw); go_simp <;> with_reducible rfl)
      simp only [Act.put, List.setIfInBounds_toArray, List.set_cons_zero, List.set_cons_succ]
      refine until_take (i := 8) (oi := ?oz8) (v := ?vz8) ?iz8 (by kernel_rfl) (by kernel_rfl) (by kernel_rfl) (by kernel_rfl) (by kernel_rfl) ?qz8 (Or.inl ⟨?gz8, ?hz8⟩) (by assumption) ?rz8
      case iz8 => (simp only [List.getElem?_toArray, List.getElem?_cons_zero, List.getElem?_cons_succ]; rfl)
      case qz8 => exact fun _ _ _ h => h
      case gz8 => rfl
      case hz8 => (intro w hSw; (simp only [Holds] at hSw); go_simp <;> with_reducible rfl)
      simp only [Act.put, List.setIfInBounds_toArray, List.set_cons_zero, List.set_cons_succ]
      refine until_take (i := 9) (oi := ?oz9) (v := ?vz9) ?iz9 (by kernel_rfl) (by kernel_rfl) (by kernel_rfl) (by kernel_rfl) (by kernel_rfl) ?qz9 (Or.inl ⟨?gz9, ?hz9⟩) (by assumption) ?rz9
      case iz9 => (simp only [List.getElem?_toArray, List.getElem?_cons_zero, List.getElem?_cons_succ]; rfl)
      case qz9 => exact fun _ _ _ h => h
      case gz9 => rfl
      case hz9 => (intro w hSw; (simp only [Holds] at hSw); go_simp <;> with_reducible rfl)
      simp only [Act.put, List.setIfInBounds_toArray, List.set_cons_zero, List.set_cons_succ]
      refine until_take (i := 10) (oi := ?oz10) (v := ?vz10) ?iz10 (by kernel_rfl) (by kernel_rfl) (by kernel_rfl) (by kernel_rfl) (by kernel_rfl) ?qz10 (Or.inl ⟨?gz10, ?hz10⟩) (by assumption) ?rz10
      case iz10 => (simp only [List.getElem?_toArray, List.getElem?_cons_zero, List.getElem?_cons_succ]; rfl)
      case qz10 => exact fun _ _ _ h => h
      case gz10 => rfl
      case hz10 => (intro w hSw; (simp only [Holds] at hSw); go_simp <;> with_reducible rfl)
      simp only [Act.put, List.setIfInBounds_toArray, List.set_cons_zero, List.set_cons_succ]
      refine until_take (i := 12) (oi := ?oz11) (v := ?vz11) ?iz11 (by kernel_rfl) (by kernel_rfl) (by kernel_rfl) (by kernel_rfl) (by kernel_rfl) ?qz11 (Or.inl ⟨?gz11, ?hz11⟩) (by assumption) ?rz11
      case iz11 => (simp only [List.getElem?_toArray, List.getElem?_cons_zero, List.getElem?_cons_succ]; rfl)
      case qz11 => exact fun _ _ _ h => h
      case gz11 => rfl
      case hz11 => (intro w hSw; (simp only [Holds] at hSw); go_simp <;> with_reducible rfl)
      simp only [Act.put, List.setIfInBounds_toArray, List.set_cons_zero, List.set_cons_succ]
      refine until_take (i := 13) (oi := ?oz12) (v := ?vz12) ?iz12 (by kernel_rfl) (by kernel_rfl) (by kernel_rfl) (by kernel_rfl) (by kernel_rfl) ?qz12 (Or.inl ⟨?gz12, ?hz12⟩) (by assumption) ?rz12
      case iz12 => (simp only [List.getElem?_toArray, List.getElem?_cons_zero, List.getElem?_cons_succ]; rfl)
      case qz12 => exact fun _ _ _ h => h
      case gz12 => rfl
      case hz12 => (intro w hSw; (simp only [Holds] at hSw); go_simp <;> with_reducible rfl)
      simp only [Act.put, List.setIfInBounds_toArray, List.set_cons_zero, List.set_cons_succ]
      refine until_take (i := 14) (oi := ?oz13) (v := ?vz13) ?iz13 (by kernel_rfl) (by kernel_rfl) (by kernel_rfl) (by kernel_rfl) (by kernel_rfl) ?qz13 (Or.inl ⟨?gz13, ?hz13⟩) (by assumption) ?rz13
      case iz13 => (simp only [List.getElem?_toArray, List.getElem?_cons_zero, List.getElem?_cons_succ]; rfl)
      case qz13 => exact fun _ _ _ h => h
      case gz13 => rfl
      case hz13 => (intro w hSw; (simp only [Holds] at hSw); go_simp <;> with_reducible rfl)
      simp only [Act.put, List.setIfInBounds_toArray, List.set_cons_zero, List.set_cons_succ]
      refine until_take (i := 15) (oi := ?oz14) (v := ?vz14) ?iz14 (by kernel_rfl) (by kernel_rfl) (by kernel_rfl) (by kernel_rfl) (by kernel_rfl) ?qz14 (Or.inl ⟨?gz14, ?hz14⟩) (by assumption) ?rz14
      case iz14 => (simp only [List.getElem?_toArray, List.getElem?_cons_zero, List.getElem?_cons_succ]; rfl)
      case qz14 => exact fun _ _ _ h => h
      case gz14 => rfl
      case hz14 => (intro w hSw; (simp only [Holds] at hSw); go_simp <;> with_reducible rfl)
      simp only [Act.put, List.setIfInBounds_toArray, List.set_cons_zero, List.set_cons_succ]
      refine until_take (i := 17) (oi := ?oz15) (v := ?vz15) ?iz15 (by kernel_rfl) (by kernel_rfl) (by kernel_rfl) (by kernel_rfl) (by kernel_rfl) ?qz15 (Or.inl ⟨?gz15, ?hz15⟩) (by assumption) ?rz15
      case iz15 => (simp only [List.getElem?_toArray, List.getElem?_cons_zero, List.getElem?_cons_succ]; rfl)
      case qz15 => exact fun _ _ _ h => h
      case gz15 => rfl
      case hz15 => (intro w hSw; (simp only [Holds] at hSw); go_simp <;> with_reducible rfl)
      simp only [Act.put, List.setIfInBounds_toArray, List.set_cons_zero, List.set_cons_succ]
      refine until_take (i := 18) (oi := ?oz16) (v := ?vz16) ?iz16 (by kernel_rfl) (by kernel_rfl) (by kernel_rfl) (by kernel_rfl) (by kernel_rfl) ?qz16 (Or.inl ⟨?gz16, ?hz16⟩) (by assumption) ?rz16
      case iz16 => (simp only [List.getElem?_toArray, List.getElem?_cons_zero, List.getElem?_cons_succ]; rfl)
      case qz16 => exact fun _ _ _ h => h
      case gz16 => rfl
      case hz16 => (intro w hSw; (simp only [Holds] at hSw); go_simp <;> with_reducible rfl)
      simp only [Act.put, List.setIfInBounds_toArray, List.set_cons_zero, List.set_cons_succ]
      refine until_take (i := 19) (oi := ?oz17) (v := ?vz17) ?iz17 (by kernel_rfl) (by kernel_rfl) (by kernel_rfl) (by kernel_rfl) (by kernel_rfl) ?qz17 (Or.inl ⟨?gz17, ?hz17⟩) (by assumption) ?rz17
      case iz17 => (simp only [List.getElem?_toArray, List.getElem?_cons_zero, List.getElem?_cons_succ]; rfl)
      case qz17 => exact fun _ _ _ h => h
      case gz17 => rfl
      case hz17 => (intro w hSw; (simp only [Holds] at hSw); go_simp <;> with_reducible rfl)
      simp only [Act.put, List.setIfInBounds_toArray, List.set_cons_zero, List.set_cons_succ]
      refine until_take (i := 20) (oi := ?oz18) (v := ?vz18) ?iz18 (by kernel_rfl) (by kernel_rfl) (by kernel_rfl) (by kernel_rfl) (by kernel_rfl) ?qz18 (Or.inl ⟨?gz18, ?hz18⟩) (by assumption) ?rz18
      case iz18 => (simp only [List.getElem?_toArray, List.getElem?_cons_zero, List.getElem?_cons_succ]; rfl)
      case qz18 => exact fun _ _ _ h => h
      case gz18 => rfl
      case hz18 => (intro w hSw; (simp only [Holds] at hSw); go_simp <;> with_reducible rfl)
      simp only [Act.put, List.setIfInBounds_toArray, List.set_cons_zero, List.set_cons_succ]
      refine until_take (i := 22) (oi := ?oz19) (v := ?vz19) ?iz19 (by kernel_rfl) (by kernel_rfl) (by kernel_rfl) (by kernel_rfl) (by kernel_rfl) ?qz19 (Or.inl ⟨?gz19, ?hz19⟩) (by assumption) ?rz19
      case iz19 => (simp only [List.getElem?_toArray, List.getElem?_cons_zero, List.getElem?_cons_succ]; rfl)
      case qz19 => exact fun _ _ _ h => h
      case gz19 => rfl
      case hz19 => (intro w hSw; (simp only [Holds] at hSw); go_simp <;> with_reducible rfl)
      simp only [Act.put, List.setIfInBounds_toArray, List.set_cons_zero, List.set_cons_succ]
      refine until_take (i := 23) (oi := ?oz20) (v := ?vz20) ?iz20 (by kernel_rfl) (by kernel_rfl) (by kernel_rfl) (by kernel_rfl) (by kernel_rfl) ?qz20 (Or.inl ⟨?gz20, ?hz20⟩) (by assumption) ?rz20
      case iz20 => (simp only [List.getElem?_toArray, List.getElem?_cons_zero, List.getElem?_cons_succ]; rfl)
      case qz20 => exact fun _ _ _ h => h
      case gz20 => rfl
      case hz20 => (intro w hSw; (simp only [Holds] at hSw); go_simp <;> with_reducible rfl)
      simp only [Act.put, List.setIfInBounds_toArray, List.set_cons_zero, List.set_cons_succ]
      refine until_take (i := 24) (oi := ?oz21) (v := ?vz21) ?iz21 (by kernel_rfl) (by kernel_rfl) (by kernel_rfl) (by kernel_rfl) (by kernel_rfl) ?qz21 (Or.inl ⟨?gz21, ?hz21⟩) (by assumption) ?rz21
      case iz21 => (simp only [List.getElem?_toArray, List.getElem?_cons_zero, List.getElem?_cons_succ]; rfl)
      case qz21 => exact fun _ _ _ h => h
      case gz21 => rfl
      case hz21 => (intro w hSw; (simp only [Holds] at hSw); go_simp <;> with_reducible rfl)
      simp only [Act.put, List.setIfInBounds_toArray, List.set_cons_zero, List.set_cons_succ]
      refine until_take (i := 25) (oi := ?oz22) (v := ?vz22) ?iz22 (by kernel_rfl) (by kernel_rfl) (by kernel_rfl) (by kernel_rfl) (by kernel_rfl) ?qz22 (Or.inl ⟨?gz22, ?hz22⟩) (by assumption) ?rz22
      case iz22 => (simp only [List.getElem?_toArray, List.getElem?_cons_zero, List.getElem?_cons_succ]; rfl)
      case qz22 => exact fun _ _ _ h => h
      case gz22 => rfl
      case hz22 => (intro w hSw; (simp only [Holds] at hSw); go_simp <;> with_reducible rfl)
      simp only [Act.put, List.setIfInBounds_toArray, List.set_cons_zero, List.set_cons_succ]
      refine until_take (i := 27) (oi := ?oz23) (v := ?vz23) ?iz23 (by kernel_rfl) (by kernel_rfl) (by kernel_rfl) (by kernel_rfl) (by kernel_rfl) ?qz23 (Or.inl ⟨?gz23, ?hz23⟩) (by assumption) ?rz23
      case iz23 => (simp only [List.getElem?_toArray, List.getElem?_cons_zero, List.getElem?_cons_succ]; rfl)
      case qz23 => exact fun _ _ _ h => h
      case gz23 => rfl
      case hz23 => (intro w hSw; (simp only [Holds] at hSw); go_simp <;> with_reducible rfl)
      simp only [Act.put, List.setIfInBounds_toArray, List.set_cons_zero, List.set_cons_succ]
      refine until_take (i := 28) (oi := ?oz24) (v := ?vz24) ?iz24 (by kernel_rfl) (by kernel_rfl) (by kernel_rfl) (by kernel_rfl) (by kernel_rfl) ?qz24 (Or.inl ⟨?gz24, ?hz24⟩) (by assumption) ?rz24
      case iz24 => (simp only [List.getElem?_toArray, List.getElem?_cons_zero, List.getElem?_cons_succ]; rfl)
      case qz24 => exact fun _ _ _ h => h
      case gz24 => rfl
      case hz24 => (intro w hSw; (simp only [Holds] at hSw); go_simp <;> with_reducible rfl)
      simp only [Act.put, List.setIfInBounds_toArray, List.set_cons_zero, List.set_cons_succ]
      refine until_take (i := 29) (oi := ?oz25) (v := ?vz25) ?iz25 (by kernel_rfl) (by kernel_rfl) (by kernel_rfl) (by kernel_rfl) (by kernel_rfl) ?qz25 (Or.inl ⟨?gz25, ?hz25⟩) (by assumption) ?rz25
      case iz25 => (simp only [List.getElem?_toArray, List.getElem?_cons_zero, List.getElem?_cons_succ]; rfl)
      case qz25 => exact fun _ _ _ h => h
      case gz25 => rfl
      case hz25 => (intro w hSw; (simp only [Holds] at hSw); go_simp <;> with_reducible rfl)
      simp only [Act.put, List.setIfInBounds_toArray, List.set_cons_zero, List.set_cons_succ]
      refine until_take (i := 30) (oi := ?oz26) (v := ?vz26) ?iz26 (by kernel_rfl) (by kernel_rfl) (by kernel_rfl) (by kernel_rfl) (by kernel_rfl) ?qz26 (Or.inl ⟨?gz26, ?hz26⟩) (by assumption) ?rz26
      case iz26 => (simp only [List.getElem?_toArray, List.getElem?_cons_zero, List.getElem?_cons_succ]; rfl)
      case qz26 => exact fun _ _ _ h => h
      case gz26 => rfl
      case hz26 => (intro w hSw; (simp only [Holds] at hSw); go_simp <;> with_reducible rfl)
      simp only [Act.put, List.setIfInBounds_toArray, List.set_cons_zero, List.set_cons_succ]
      refine until_take (i := 32) (oi := ?oz27) (v := ?vz27) ?iz27 (by kernel_rfl) (by kernel_rfl) (by kernel_rfl) (by kernel_rfl) (by kernel_rfl) ?qz27 (Or.inl ⟨?gz27, ?hz27⟩) (by assumption) ?rz27
      case iz27 => (simp only [List.getElem?_toArray, List.getElem?_cons_zero, List.getElem?_cons_succ]; rfl)
      case qz27 => exact fun _ _ _ h => h
      case gz27 => rfl
      case hz27 => (intro w hSw; (simp only [Holds] at hSw); go_simp <;> with_reducible rfl)
      simp only [Act.put, List.setIfInBounds_toArray, List.set_cons_zero, List.set_cons_succ]
      refine until_take (i := 33) (oi := ?oz28) (v := ?vz28) ?iz28 (by kernel_rfl) (by kernel_rfl) (by kernel_rfl) (by kernel_rfl) (by kernel_rfl) ?qz28 (Or.inl ⟨?gz28, ?hz28⟩) (by assumption) ?rz28
      case iz28 => (simp only [List.getElem?_toArray, List.getElem?_cons_zero, List.getElem?_cons_succ]; rfl)
      case qz28 => exact fun _ _ _ h => h
      case gz28 => rfl
      case hz28 => (intro w hSw; (simp only [Holds] at hSw); go_simp <;> with_reducible rfl)
      simp only [Act.put, List.setIfInBounds_toArray, List.set_cons_zero, List.set_cons_succ]
      refine until_take (i := 34) (oi := ?oz29) (v := ?vz29) ?iz29 (by kernel_rfl) (by kernel_rfl) (by kernel_rfl) (by kernel_rfl) (by kernel_rfl) ?qz29 (Or.inl ⟨?gz29, ?hz29⟩) (by assumption) ?rz29
      case iz29 => (simp only [List.getElem?_toArray, List.getElem?_cons_zero, List.getElem?_cons_succ]; rfl)
      case qz29 => exact fun _ _ _ h => h
      case gz29 => rfl
      case hz29 => (intro w hSw; (simp only [Holds] at hSw); go_simp <;> with_reducible rfl)
      simp only [Act.put, List.setIfInBounds_toArray, List.set_cons_zero, List.set_cons_succ]
      refine until_take (i := 35) (oi := ?oz30) (v := ?vz30) ?iz30 (by kernel_rfl) (by kernel_rfl) (by kernel_rfl) (by kernel_rfl) (by kernel_rfl) ?qz30 (Or.inl ⟨?gz30, ?hz30⟩) (by assumption) ?rz30
      case iz30 => (simp only [List.getElem?_toArray, List.getElem?_cons_zero, List.getElem?_cons_succ]; rfl)
      case qz30 => exact fun _ _ _ h => h
      case gz30 => rfl
      case hz30 => (intro w hSw; (simp only [Holds] at hSw); go_simp <;> with_reducible rfl)
      simp only [Act.put, List.setIfInBounds_toArray, List.set_cons_zero, List.set_cons_succ]
      refine until_ready (rs := [6]) (by kernel_rfl) (by simp) ?_
      refine (NextU.cons (o := ?oz31) ?iz31 (fun K hK => ?kz31) NextU.nil)
      case iz31 => (simp only [List.getElem?_toArray, List.getElem?_cons_zero, List.getElem?_cons_succ]; rfl)
      go_simp
      refine (yleast_any _ _ _).mono ?_
      rintro e w' ⟨rfl, rfl⟩
      refine hK.out _ _ (HHA.out _ (Below.refl _ _)) (fun hSn => ?_)
      clear hK
      refine until_ready (rs := [11]) (by kernel_rfl) (by simp) ?_
      refine (NextU.cons (o := ?oz32) ?iz32 (fun K hK => ?kz32) NextU.nil)
      case iz32 => (simp only [List.getElem?_toArray, List.getElem?_cons_zero, List.getElem?_cons_succ]; rfl)
      go_simp
      refine (yleast_any _ _ _).mono ?_
      rintro e w' ⟨rfl, rfl⟩
      refine hK.out _ _ (HHA.out _ (Below.refl _ _)) (fun hSn => ?_)
      clear hK
      refine until_ready (rs := [16]) (by kernel_rfl) (by simp) ?_
      refine (NextU.cons (o := ?oz33) ?iz33 (fun K hK => ?kz33) NextU.nil)
      case iz33 => (simp only [List.getElem?_toArray, List.getElem?_cons_zero, List.getElem?_cons_succ]; rfl)
      go_simp
      refine (yleast_any _ _ _).mono ?_
      rintro e w' ⟨rfl, rfl⟩
      refine hK.out _ _ (HHA.out _ (Below.refl _ _)) (fun hSn => ?_)
      clear hK
      refine until_ready (rs := [21]) (by kernel_rfl) (by simp) ?_
      refine (NextU.cons (o := ?oz34) ?iz34 (fun K hK => ?kz34) NextU.nil)
      case iz34 => (simp only [List.getElem?_toArray, List.getElem?_cons_zero, List.getElem?_cons_succ]; rfl)
      go_simp
      refine (yleast_any _ _ _).mono ?_
      rintro e w' ⟨rfl, rfl⟩
      refine hK.out _ _ (HHA.out _ (Below.refl _ _)) (fun hSn => ?_)
      clear hK
      refine until_ready (rs := [26]) (by kernel_rfl) (by simp) ?_
      refine (NextU.cons (o := ?oz35) ?iz35 (fun K hK => ?kz35) NextU.nil)
      case iz35 => (simp only [List.getElem?_toArray, List.getElem?_cons_zero, List.getElem?_cons_succ]; rfl)
      go_simp
      refine (erand_any _ _ _ HS.out.1 HTS.out.1).mono ?_
      rintro e w' ⟨rfl, rfl⟩
      refine hK.out _ _ (HHA.out _ (Below.refl _ _)) (fun hSn => ?_)
      clear hK
      refine until_ready (rs := [31]) (by kernel_rfl) (by simp) ?_
      refine (NextU.cons (o := ?oz36) ?iz36 (fun K hK => ?kz36) NextU.nil)
      case iz36 => (simp only [List.getElem?_toArray, List.getElem?_cons_zero, List.getElem?_cons_succ]; rfl)
      go_simp
      refine (eror_any _ _ _ HS.out.2.1 HTS.out.2.1).mono ?_
      rintro e w5 ⟨rfl, hb⟩
      have HT5 := Lib.hid (HTd.out.later hb)
      have HA5 := Lib.hid (HAd.out.later hb)
      have HX5 := Lib.hid (HXd.out.later hb)
      have HB5 := Lib.hid (HBd.out.trans (hb.mono HBd.out.size))
      refine hK.out _ _ (HHA.out _ hb) (fun hSn => ?_)
      clear hK HHA HTd HAd HXd HBd hb
      have HHA := Lib.hid (show ∀ w', Below w5.heap.size w5 w' → Holds (cellsSt bj u ++ cellsSt bx t) w' from fun w' hb' => holds_st (HA5.out.later hb') (HX5.out.later hb'))
      simp only [cellsSt, List.cons_append, List.nil_append] at HHA
      refine until_ready (rs := [36]) (by kernel_rfl) (by simp) ?_
      refine (NextU.cons (o := ?oz37) ?iz37 (fun K hK => ?kz37) NextU.nil)
      case iz37 => (simp only [List.getElem?_toArray, List.getElem?_cons_zero, List.getElem?_cons_succ]; rfl)
      go_simp
      refine (erand_any _ _ _ HS.out.2.2 HTS.out.2.2).mono ?_
      rintro e w' ⟨rfl, rfl⟩
      refine hK.out _ _ (HHA.out _ (Below.refl _ _)) (fun hSn => ?_)
      clear hK
      refine until_take (i := 37) (oi := ?oz38) (v := ?vz38) ?iz38 (by kernel_rfl) (by kernel_rfl) (by kernel_rfl) (by kernel_rfl) (by kernel_rfl) ?qz38 (Or.inl ⟨?gz38, ?hz38⟩) (by assumption) ?rz38
      case iz38 => (simp only [List.getElem?_toArray, List.getElem?_cons_zero, List.getElem?_cons_succ]; rfl)
      case qz38 => exact fun _ _ _ h => h
      case gz38 => rfl
      case hz38 => (intro w hSw; (simp only [Holds] at hSw); go_simp <;> with_reducible rfl)
      simp only [Act.put, List.setIfInBounds_toArray, List.set_cons_zero, List.set_cons_succ]
      refine until_ready (rs := [38]) (by kernel_rfl) (by simp) ?_
      refine (NextU.late (o := ?oz39) ?iz39 (by first | exact Or.inl rfl | exact Or.inr (by kernel_rfl)) (fun K hK => ?kz39) NextU.nil)
      case iz39 => (simp only [List.getElem?_toArray, List.getElem?_cons_zero, List.getElem?_cons_succ]; rfl)
      refine wp_store_state (.tmp 4) (.tmp 67) (by rfl) bj _ (join2 u t) (by rfl) (by rfl) HA5.out ?_
      intro w6 h6 hb6
      have HA6 := Lib.hid h6
      have HT6 := Lib.hid (HT5.out.below HTL.out (hb6 _ (Nat.le_refl _)))
      have HB6 := Lib.hid (HB5.out.trans (hb6 _ (Nat.le_of_lt HTL.out)))
      refine hK.out _ _ ?_
      clear hK
      refine until_done (by kernel_rfl) ?_ _
      clear hSn h6 hb6
      go_wp2
      go_roundw
      case rel => exact ⟨k + 1, join2 u t, by omega, by have := HK.out; omega, by go_num, HNX.out, HJS.out, HT6.out, HA6.out, HB6.out⟩
      case measure => have := HK.out; simp [intOf]; omega
end Go.Proofs.Ytclepdnpclmegaa
