/- What tour.cut and rising answer. -/
import Derived.Test.YtipjaibemhoifaaUForm
import Derived.Test.YtipjaibemhoifaaVRefS
import Derived.Deep.LoopGhost
namespace Go.Proofs.Ytipjaibemhoifaa
open Go.ChangeShapes Go.WideShapes Go.ChangeAt Go.RowKit

theorem cutP_ahead (A : List (List Int)) : ∀ (R : List Int) (S : List (List Int)) (c : List Int), R.foldl cutStep (A ++ S, c) = (A ++ (R.foldl cutStep (S, c)).1, (R.foldl cutStep (S, c)).2)
  | [], S, c => rfl
  | x :: R, S, c => by
    rw [List.foldl_cons, List.foldl_cons]
    unfold cutStep
    by_cases hx : 0 < x
    · rw [if_pos hx, if_pos hx]; exact cutP_ahead A R S _
    · rw [if_neg hx, if_neg hx]
      simp only
      rw [List.append_assoc]
      exact cutP_ahead A R _ _
theorem cut_next {A R : List Int} (h : ∀ x ∈ A, 0 < x) : cutL (A ++ 0 :: R) = A :: cutL R := by
  have := cutP_ahead [A] R [] []
  unfold cutL cutP
  rw [List.foldl_append, fold_pos A [] [] h, List.foldl_cons, show cutStep ([], [] ++ A) 0 = ([A] ++ [], []) by simp [cutStep], this]
  simp
theorem cut_one {A : List Int} (h : ∀ x ∈ A, 0 < x) : cutL A = [A] := by
  unfold cutL cutP; rw [fold_pos A [] [] h]; simp
theorem cut_nil : cutL [] = [[]] := rfl
theorem full_cons {l : List Int} {L : List (List Int)} : Full (l :: L) ↔ l ≠ [] ∧ Full L := by
  constructor
  · intro h; exact ⟨h l (by simp), fun x hx => h x (by simp [hx])⟩
  · rintro ⟨h1, h2⟩ x hx
    simp only [List.mem_cons] at hx
    rcases hx with rfl | hx
    · exact h1
    · exact h2 x hx
theorem cut_full_ne {R : List Int} (h : Full (cutL R)) : R ≠ [] := by
  rintro rfl
  rw [cut_nil] at h
  exact h [] (by simp) rfl
/-- The length of a slice. -/
def lenV : Value → Nat
  | .slice _ n _ => n
  | _ => 0
/-- What is cut, at a 0 that is the first one. -/
theorem cut_at {R : List Int} {k : Nat} (hk : k < R.length) (h0 : ∀ x ∈ R, 0 ≤ x) (hA : ∀ x ∈ R.take k, x ≠ 0) (hx : R.getD k 0 = 0) (hF : Full (cutL R)) :
    cutL R = R.take k :: cutL (R.drop (k + 1)) ∧ R.take k ≠ [] ∧ 0 < k ∧ Full (cutL (R.drop (k + 1))) ∧ k + 1 < R.length := by
  have e : R = R.take k ++ 0 :: R.drop (k + 1) := by
    have := List.take_append_drop k R
    rw [List.drop_eq_getElem_cons hk] at this
    rw [List.getD_eq_getElem?_getD, List.getElem?_eq_getElem hk] at hx
    simp only [Option.getD_some] at hx
    rw [hx] at this
    exact this.symm
  have hp : ∀ x ∈ R.take k, 0 < x := fun x hx => by have := h0 x (List.mem_of_mem_take hx); have := hA x hx; omega
  have hc : cutL R = R.take k :: cutL (R.drop (k + 1)) := by
    have := cut_next (R := R.drop (k + 1)) hp
    rwa [← e] at this
  rw [hc, full_cons] at hF
  refine ⟨hc, hF.1, ?_, hF.2, ?_⟩
  · rcases Nat.eq_zero_or_pos k with h | h
    · rw [h] at hF; exact absurd rfl hF.1
    · exact h
  · have := cut_full_ne hF.2
    have := List.length_pos_iff.2 this
    rw [List.length_drop] at this
    omega
theorem take_all_ne {R : List Int} {k : Nat} (hk : k < R.length) (h : ∀ x ∈ R.take k, x ≠ 0) (hx : R.getD k 0 ≠ 0) : ∀ x ∈ R.take (k + 1), x ≠ 0 := by
  intro x h1
  rw [take_snoc hk] at h1
  rcases List.mem_append.1 h1 with h2 | h2
  · exact h x h2
  · rw [List.mem_singleton.1 h2]; exact hx
set_option maxRecDepth 1000000 in
set_option maxHeartbeats 4000000 in
theorem cut_any {w : World} {v : Value} {t : List Int} (h : Row w v (ints t)) (h0 : ∀ x ∈ t, 0 ≤ x) (hF : Full (cutL t)) (hlen : t.length ≤ 1048576) :
    Calls Try.prog 47 #[v] w fun e w' => ∃ u, e = .returned u ∧ OwnLL w' w.heap.size u (cutL t) ∧ Below w.heap.size w w' := by
  have H := Lib.hid h
  have H0 := Lib.hid h0
  have HF := Lib.hid hF
  obtain ⟨ad, cap, rfl, hm⟩ := h.form
  rw [ints_len] at *
  clear h h0 hF hm
  go_enter Try.func47, Try.ntmps47
  go_wp2
  go_step3
  go_wp2
  go_step3
  go_wp2
  go_loopw [0, 3] (fun tv out wr => ∃ (D : List (List Int)) (R : List Int), Row w tv (ints R) ∧ OwnLL wr w.heap.size out D ∧ D ++ cutL R = cutL t ∧ (∀ x ∈ R, 0 ≤ x) ∧ Full (cutL R) ∧ 2 * D.length + R.length ≤ t.length ∧ Below w.heap.size w wr) (fun tv _ _ => lenV tv)
  case atStart => exact ⟨[], t, H.out, ownLL_nil _ _, rfl, H0.out, HF.out, by simp, Below.refl _ _⟩
  case round =>
    obtain ⟨D, R, hr, ho, hc, hp, hf, hl, hbw⟩ := hrel
    have hpos := List.length_pos_iff.2 (cut_full_ne hf)
    obtain ⟨b, off, cp, rfl, _, hmx, hblt⟩ := row_at (p := 0) hr (by rw [ints_len]; exact hpos)
    rw [ints_len] at *
    obtain ⟨oa, oc, hov⟩ := ho.shape
    obtain ⟨dn, hdn⟩ : ∃ dn, dn = D.length := ⟨_, rfl⟩
    rw [← hdn] at hov
    subst hov
    have HDN := Lib.hid hdn
    have HRw := Lib.hid hr
    have HR := Lib.hid (hr.below hbw)
    have HO := Lib.hid ho
    have HC := Lib.hid hc
    have HPo := Lib.hid hp
    have HFu := Lib.hid hf
    have HL := Lib.hid hl
    have HBW := Lib.hid hbw
    have hrl : R.length ≤ 1048576 := by omega
    clear hr ho hc hp hf hl hbw hmx hdn
    obtain ⟨wo, hwo⟩ : ∃ wo, wo = wr := ⟨_, rfl⟩
    subst hwo
    go_wp2_with fail
    go_loop [0, 3, 8] (fun tv ov i => ∃ k : Nat, k ≤ R.length ∧ tv = .slice (some ⟨b, off, none⟩) R.length cp ∧ ov = .slice oa dn oc ∧ i = .int .i64 k ∧ ∀ x ∈ R.take k, x ≠ 0) (fun _ _ i => R.length - (intOf i).toNat)
    case atStart => exact ⟨0, Nat.zero_le _, rfl, rfl, rfl, by simp⟩
    case round =>
      obtain ⟨k, hk, rfl, rfl, rfl, hA⟩ := hrel
      have HA := Lib.hid hA
      clear hA
      by_cases hlt : k < R.length
      · have hlt2 : (k : Int) < (R.length : Int) := by omega
        obtain ⟨b1, o1, c1, he1, hc1, _, _⟩ := row_at (p := k) HR.out (by rw [ints_len]; exact hlt)
        rw [ints_at R k hlt] at hc1
        simp only [ints_len, Value.slice.injEq, Option.some.injEq, Addr.mk.injEq, true_and, and_true] at he1
        obtain ⟨⟨rfl, rfl⟩, rfl⟩ := he1
        have HN := Lib.hid (fun h => take_all_ne hlt HA.out h)
        have HCT := Lib.hid (fun h => cut_at hlt HPo.out HA.out h HFu.out)
        generalize R.getD k 0 = x at *
        by_cases hx : x = 0
        · have hxb : (x == 0) = true := by simp [hx]
          have HX := Lib.hid (HCT.out hx)
          have hk1 : k + 1 < R.length := HX.out.2.2.2.2
          have hcap : R.length ≤ cp := by obtain ⟨_, a, c, h1, h2, _⟩ := HR.out; simp [ints_len] at h1 h2; omega
          have HT := Lib.hid (HR.out.head k (by omega))
          have htl := HRw.out.tail (k + 1) (by omega) _ rfl
          rw [if_neg (by omega)] at htl
          have HTL := Lib.hid htl
          have HK := Lib.hid (HX.out.2.1)
          have hsz : D.length ≤ 1000000 := by have := HL.out; omega
          have ij0 : IntKind.i64.wrap ((k : Int) + 1) = (k : Int) + 1 := IntWalk.i64_in _ (by omega)
          have ij1 : (k : Int) + 1 ≤ (R.length : Int) := by omega
          have ij3 : (0 : Int) ≤ (k : Int) + 1 := by omega
          have ij4 : (R.length : Int) ≤ (cp : Int) := by omega
          have ij5 : ((k : Int) + 1).toNat = k + 1 := by omega
          clear hx HCT HN htl
          go_wp2_with fail
          refine (copied_any HT.out HK.out (by rw [List.length_take]; omega)).mono ?_
          rintro e w2 ⟨u, rfl, hu, hb⟩
          have HU2 := Lib.hid (hu.less HBW.out.size)
          have HO2 := Lib.hid (HO.out.below hb)
          have HB2 := Lib.hid (HBW.out.trans (hb.mono HBW.out.size))
          clear hu hb
          obtain ⟨ua, uc, rfl⟩ := HU2.out.shape
          generalize (R.take k).length = tk at *
          go_wp2_with (first | (at_builtin; refine app_line rfl _ _ rfl w.heap.size _ _ rfl w2 _ rfl HO2.out (R.take k) rfl HU2.out hsz HB2.out.size ?_))
          intro v' w3 own grown
          have HO3 := Lib.hid own
          have HB3 := Lib.hid (madeL HB2.out HO2.out grown)
          clear own grown
          go_wp2_with fail
          have hk0 := HX.out.2.2.1
          have hl := HL.out
          refine ⟨⟨D ++ [R.take k], R.drop (k + 1), HTL.out, HO3.out, by rw [List.append_assoc, List.singleton_append, ← HX.out.1]; exact HC.out, fun x hx => HPo.out x (List.mem_of_mem_drop hx), HX.out.2.2.2.1, by rw [List.length_append, List.length_singleton, List.length_drop]; omega, HB3.out⟩, by simp only [lenV]; omega⟩
        · have hxb : (x == 0) = false := by simp [hx]
          have HN2 := Lib.hid (HN.out hx)
          clear hx HN HCT
          go_wp2_with fail
          go_round
          case rel => exact ⟨k + 1, by omega, rfl, rfl, by go_num, HN2.out⟩
          case measure => simp [intOf]; omega
      · obtain rfl : k = R.length := by omega
        have hl2 : ¬ (R.length : Int) < (R.length : Int) := by omega
        have HC1 := Lib.hid (show cutL R = [R] from cut_one (fun x hx => by have := HA.out x (by rwa [List.take_length]); have := HPo.out x hx; omega))
        go_wp2_with fail
        refine (copied_any HR.out (cut_full_ne HFu.out) (by omega)).mono ?_
        rintro e w2 ⟨u, rfl, hu, hb⟩
        have HU2 := Lib.hid (hu.less HBW.out.size)
        have HO2 := Lib.hid (HO.out.below hb)
        have HB2 := Lib.hid (HBW.out.trans (hb.mono HBW.out.size))
        clear hu hb
        obtain ⟨ua, uc, rfl⟩ := HU2.out.shape
        have hsz : D.length ≤ 1000000 := by have := HL.out; omega
        go_wp2_with (first | (at_builtin; refine app_line rfl _ _ rfl w.heap.size _ _ rfl w2 _ rfl HO2.out R rfl HU2.out hsz HB2.out.size ?_))
        intro v' w3 own grown
        have HO3 := Lib.hid own
        have HB3 := Lib.hid (madeL HB2.out HO2.out grown)
        clear own grown
        go_wp2
        rw [Exit.noGoto_ret]
        go_ret
        exact ⟨_, rfl, by rw [← HC.out, HC1.out]; exact HO3.out, HB3.out⟩
instance (L : List (List Int)) : Decidable (RiseL L) := decidable_of_iff (∀ k, k < L.length → k + 1 < L.length → key (L.getD k []) < key (L.getD (k + 1) []))
  ⟨fun h k hk => h k (by omega) hk, fun h k _ hk => h k hk⟩
theorem rise_next {L : List (List Int)} {k : Nat} (h : ∀ i, i + 1 < k → key (L.getD i []) < key (L.getD (i + 1) [])) (h0 : 0 < k) (h1 : key (L.getD (k - 1) []) < key (L.getD k [])) : ∀ i, i + 1 < k + 1 → key (L.getD i []) < key (L.getD (i + 1) []) := by
  intro i hi
  by_cases he : i + 1 = k
  · subst he; simpa using h1
  · exact h i (by omega)
theorem rise_bad {L : List (List Int)} {k : Nat} (hk : k < L.length) (h0 : 0 < k) (h1 : key (L.getD k []) ≤ key (L.getD (k - 1) [])) : ¬ RiseL L := by
  intro h
  have := h (k - 1) (by omega)
  rw [show k - 1 + 1 = k by omega] at this
  omega
theorem key_row {w : World} {ad : Option Addr} {n cap : Nat} {l : List Int} (h : Row w (.slice ad n cap) (ints l)) (hl : l ≠ []) : ∃ b off, ad = some ⟨b, off, none⟩ ∧ w.cell? ⟨b, off, none⟩ = some (.int .i64 (key l)) ∧ n = l.length ∧ (0 : Int) < (l.length : Int) := by
  have hp := List.length_pos_iff.2 hl
  obtain ⟨b, off, c, he, hc, _, _⟩ := row_at (p := 0) h (by rw [ints_len]; exact hp)
  rw [ints_at l 0 hp, Nat.add_zero] at hc
  simp only [Value.slice.injEq, ints_len] at he
  exact ⟨b, off, he.1, hc, he.2.1, by omega⟩
set_option maxRecDepth 1000000 in
set_option maxHeartbeats 4000000 in
theorem rising_any {w : World} {v : Value} {L : List (List Int)} (h : IsLL w v L) (hF : Full L) :
    Calls Try.prog 48 #[v] w fun e w' => e = .returned (.bool (decide (RiseL L))) ∧ Below w.heap.size w w' := by
  have H := Lib.hid h
  have HF := Lib.hid hF
  obtain ⟨ad, cap, rfl, hm⟩ := h.form
  have hm1 : L.length ≤ 9223372036854775807 := by unfold maxLen at hm; omega
  clear h hF hm
  go_enter Try.func48, Try.ntmps48
  go_wp2_with fail
  go_loopw [3] (fun i wr => ∃ k : Nat, 1 ≤ k ∧ i = .int .i64 k ∧ (∀ i, i + 1 < k → i + 1 < L.length → key (L.getD i []) < key (L.getD (i + 1) [])) ∧ Below w.heap.size w wr) (fun i _ => L.length - (intOf i).toNat)
  case atStart => exact ⟨1, Nat.le_refl _, rfl, fun i hi => by omega, Below.refl _ _⟩
  case round =>
    obtain ⟨k, hk, rfl, hp, hbw⟩ := hrel
    have HP := Lib.hid hp
    have HBW := Lib.hid hbw
    clear hp hbw
    by_cases hlt : k < L.length
    · have hlt2 : (k : Int) < (L.length : Int) := by omega
      have hk1 : k - 1 < L.length := by omega
      have hll := H.out.below HBW.out
      obtain ⟨b1, o1, a1, n1, c1, rfl, _, hc1, hn1, _, hw1⟩ := ll_at hll k hlt
      obtain ⟨b2, o2, a2, n2, c2, he2, _, hc2, hn2, _, hw2⟩ := ll_at hll (k - 1) hk1
      simp only [Option.some.injEq, Addr.mk.injEq, and_true] at he2
      obtain ⟨rfl, rfl⟩ := he2
      obtain ⟨d1, p1, rfl, hd1, rfl, hp1⟩ := key_row hw1 (HF.out.at hlt)
      obtain ⟨d2, p2, rfl, hd2, rfl, hp2⟩ := key_row hw2 (HF.out.at hk1)
      have HN := Lib.hid (show key (L.getD (k - 1) []) < key (L.getD k []) → (∀ i, i + 1 < k + 1 → i + 1 < L.length → key (L.getD i []) < key (L.getD (i + 1) [])) from fun h i hi hil => rise_next (fun i hi => HP.out i hi (by omega)) (by omega) h i hi)
      have HB := Lib.hid (fun h => decide_eq_false (rise_bad hlt (by omega) h))
      generalize key (L.getD k []) = x at *
      generalize key (L.getD (k - 1) []) = y at *
      have ij0 : IntKind.i64.wrap ((k : Int) - 1) = ((k - 1 : Nat) : Int) := by rw [IntWalk.i64_in _ (by omega)]; omega
      have ij1 : ((k - 1 : Nat) : Int) < (L.length : Int) := by omega
      generalize (L.getD k []).length = m1 at *
      generalize (L.getD (k - 1) []).length = m2 at *
      obtain ⟨j, hj⟩ : ∃ j, k - 1 = j := ⟨_, rfl⟩
      rw [hj] at hc2 ij0 ij1
      clear hll hw1 hw2 hj hk1
      by_cases hxy : x ≤ y
      · have HD := Lib.hid (HB.out hxy)
        clear HB HN
        go_wp2_with fail
        go_quiet (fail)
        have HB2 := Lib.hid (below_drewN HBW.out nq)
        go_wp2
        go_ret
        exact ⟨ret_bool HD.out.symm, HB2.out⟩
      · have HN2 := Lib.hid (HN.out (by omega))
        clear HB HN
        go_wp2_with fail
        go_quiet (fail)
        have HB2 := Lib.hid (below_drewN HBW.out nq)
        clear hc1 hc2 hd1 hd2
        generalize wr.drewN nq = w2 at *
        go_wp2_with fail
        go_roundw
        case rel => exact ⟨k + 1, by omega, by go_num, HN2.out, HB2.out⟩
        case measure => simp [intOf]; omega
    · have hl2 : ¬ (k : Int) < (L.length : Int) := by omega
      have HD := Lib.hid (show decide (RiseL L) = true from decide_eq_true (fun i hi => HP.out i (by omega) hi))
      go_wp2
      go_ret
      exact ⟨ret_bool HD.out.symm, HBW.out⟩
end Go.Proofs.Ytipjaibemhoifaa
