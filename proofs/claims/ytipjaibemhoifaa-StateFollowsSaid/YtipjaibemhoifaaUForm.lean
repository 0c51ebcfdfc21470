/- What tour.formed, copied, cut and rising answer. -/
import Derived.Test.YtipjaibemhoifaaJMath
import Derived.Test.YtipjaibemhoifaaXPMat
import Derived.ArgAppend
namespace Go.Proofs.Ytipjaibemhoifaa
open Go.ChangeShapes Go.WideShapes Go.ChangeAt Go.RowKit

theorem form_pre {t : List Int} (h0 : t ≠ []) : FormT t ↔ PreT t ∧ t.getD (t.length - 1) 0 ≠ 0 := by
  rw [form_iff h0, pre_full]
  unfold cutL
  rw [full_snoc]
  constructor
  · rintro ⟨h1, h2, h3⟩
    exact ⟨⟨h1, h2⟩, fun h => h3 ((last_cut t h0).2 (by omega))⟩
  · rintro ⟨⟨h1, h2⟩, h3⟩
    refine ⟨h1, h2, fun h => (last_cut t h0).1 h ?_⟩
    have := h1 _ (getD_mem1 (i := t.length - 1) (by have := List.length_pos_iff.2 h0; omega))
    omega
def PreK (t : List Int) (k : Nat) : Prop := ∀ i, i < k → 0 ≤ t.getD i 0 ∧ (t.getD i 0 = 0 → 0 < i ∧ t.getD (i - 1) 0 ≠ 0)
/-- The number ahead of number k; ahead of the first one a 0. -/
def lastK (t : List Int) (k : Nat) : Int := (0 :: t).getD k 0
theorem lastK_succ (t : List Int) (k : Nat) : lastK t (k + 1) = t.getD k 0 := by simp [lastK, List.getD_eq_getElem?_getD]
theorem lastK_zero (t : List Int) : lastK t 0 = 0 := rfl
theorem lastK_pos {t : List Int} {k : Nat} (h : 0 < k) : lastK t k = t.getD (k - 1) 0 := by
  obtain ⟨j, rfl⟩ : ∃ j, k = j + 1 := ⟨k - 1, by omega⟩
  rw [lastK_succ, Nat.add_sub_cancel]
theorem preK_next {t : List Int} {k : Nat} (h : PreK t k) (h1 : ¬ t.getD k 0 < 0) (h2 : ¬ (t.getD k 0 = 0 ∧ lastK t k = 0)) : PreK t (k + 1) := by
  intro i hi
  by_cases he : i = k
  · subst he
    refine ⟨by omega, fun h3 => ?_⟩
    rcases Nat.eq_zero_or_pos i with h4 | h4
    · exact absurd ⟨h3, by rw [h4]; rfl⟩ h2
    · exact ⟨h4, fun h5 => h2 ⟨h3, by rw [lastK_pos h4]; exact h5⟩⟩
  · exact h i (by omega)
theorem preK_bad {t : List Int} {k : Nat} (hk : k < t.length) (h : t.getD k 0 < 0 ∨ (t.getD k 0 = 0 ∧ lastK t k = 0)) : ¬ FormT t := by
  intro hF
  have h0 : t ≠ [] := by rintro rfl; cases hk
  have hp := ((form_pre h0).1 hF).1 k hk
  rcases h with h | ⟨h1, h2⟩
  · omega
  · have h3 := hp.2 h1
    rw [lastK_pos h3.1] at h2
    exact h3.2 h2
theorem preK_end {t : List Int} (h0 : t ≠ []) (h : PreK t t.length) : FormT t ↔ lastK t t.length ≠ 0 := by
  rw [form_pre h0, lastK_pos (List.length_pos_iff.2 h0)]
  exact ⟨fun h1 => h1.2, fun h1 => ⟨h, h1⟩⟩
instance (t : List Int) : Decidable (FormT t) := by unfold FormT; infer_instance
set_option maxRecDepth 1000000 in
set_option maxHeartbeats 4000000 in
theorem formed_any {w : World} {v : Value} {t : List Int} (h : Row w v (ints t)) (h0 : t ≠ []) :
    Calls Try.prog 46 #[v] w fun e w' => e = .returned (.bool (decide (FormT t))) ∧ w' = w := by
  have H := Lib.hid h
  have H0 := Lib.hid h0
  obtain ⟨ad, cap, rfl, hm⟩ := h.form
  rw [ints_len] at *
  have hm1 : t.length ≤ 9223372036854775807 := by unfold maxLen at hm; omega
  clear h h0 hm
  go_enter Try.func46, Try.ntmps46
  go_wp2_with fail
  go_loop [3, 8] (fun lv i => ∃ k : Nat, k ≤ t.length ∧ i = .int .i64 k ∧ lv = .int .i64 (lastK t k) ∧ PreK t k) (fun _ i => t.length - (intOf i).toNat)
  case atStart => exact ⟨0, Nat.zero_le _, rfl, rfl, fun i hi => absurd hi (Nat.not_lt_zero i)⟩
  case round =>
    obtain ⟨k, hk, rfl, rfl, hp⟩ := hrel
    have HP := Lib.hid hp
    clear hp
    by_cases hlt : k < t.length
    · have hlt2 : (k : Int) < (t.length : Int) := by omega
      obtain ⟨b1, o1, c1, he1, hc1, _, _⟩ := row_at (p := k) H.out (by rw [ints_len]; exact hlt)
      rw [ints_at t k hlt] at hc1
      simp only [ints_len, Value.slice.injEq, true_and] at he1
      obtain ⟨rfl, rfl⟩ := he1
      have HNX := Lib.hid (fun h1 h2 => preK_next (t := t) HP.out h1 h2)
      have HBD := Lib.hid (fun h => preK_bad (t := t) hlt h)
      have HLS := Lib.hid (lastK_succ t k)
      generalize t.getD k 0 = x at *
      generalize lastK t k = y at *
      by_cases h1 : x < 0
      · have HD := Lib.hid (decide_eq_false (HBD.out (.inl h1)))
        go_wp2
        go_ret
        exact ⟨ret_bool HD.out.symm, rfl⟩
      · by_cases h2 : x = 0
        · have h2b : (x == 0) = true := by simp [h2]
          by_cases h3 : y = 0
          · have h3b : (y == 0) = true := by simp [h3]
            have HD := Lib.hid (decide_eq_false (HBD.out (.inr ⟨h2, h3⟩)))
            clear h2 h3
            go_wp2
            go_ret
            exact ⟨ret_bool HD.out.symm, rfl⟩
          · have h3b : (y == 0) = false := by simp [h3]
            have HN := Lib.hid (HNX.out h1 (fun h => h3 h.2))
            clear h2 h3
            go_wp2_with fail
            go_round
            case rel => exact ⟨k + 1, by omega, by go_num, by rw [HLS.out], HN.out⟩
            case measure => simp [intOf]; omega
        · have h2b : (x == 0) = false := by simp [h2]
          have HN := Lib.hid (HNX.out h1 (fun h => h2 h.1))
          clear h2
          go_wp2_with fail
          go_round
          case rel => exact ⟨k + 1, by omega, by go_num, by rw [HLS.out], HN.out⟩
          case measure => simp [intOf]; omega
    · obtain rfl : k = t.length := by omega
      have hl2 : ¬ (t.length : Int) < (t.length : Int) := by omega
      have HE := Lib.hid (preK_end H0.out HP.out)
      generalize lastK t t.length = y at *
      clear hlt hk
      by_cases h3 : y = 0
      · have h3b : (y != 0) = false := by simp [h3]
        have HD := Lib.hid (decide_eq_false (show ¬ FormT t from fun hF => HE.out.1 hF h3))
        clear h3
        go_wp2
        go_ret
        exact ⟨ret_bool HD.out.symm, rfl⟩
      · have h3b : (y != 0) = true := by simp [h3]
        have HD := Lib.hid (decide_eq_true (HE.out.2 h3))
        clear h3
        go_wp2
        go_ret
        exact ⟨ret_bool HD.out.symm, rfl⟩
/-- A copy of numbers, put behind a slice that has no room. -/
theorem app_copy {w : World} {ops : Array Oper} {rest : List Oper} {o : Oper} {a : Act} {Q : Exit → Act → World → Prop} (hgd : o.guard = none) (s x : Operand)
    (ho : o.op = .call { callee := .builtin .append, args := #[s, x], argTypes := #[34, 34] }) (ao : Addr) (hs : a.eval s = .slice (some ao) 0 0)
    (u : Value) (xs : List Int) (hx : a.eval x = u) (hr : Row w u (ints xs)) (h0 : xs ≠ []) (hlen : xs.length ≤ 10000000)
    (h : ∀ v' w', OwnI w' w.heap.size v' xs → w.grownBy w' none → wpList Try.prog ops Q rest (a.put o.dst v') w') : wpList Try.prog ops Q (o :: rest) a w := by
  obtain ⟨i0, hi, hz0, hz1, hz2⟩ := info_parts infoInt
  obtain ⟨hm, ad, cap, rfl, hc, ⟨hc2, hn⟩, hcell⟩ := hr
  rw [ints_len] at *
  have hpos := List.length_pos_iff.2 h0
  cases ad with
  | none => have := hn rfl; omega
  | some ad =>
    refine wpList_append_grows w hgd s x 34 ho 3 i0 _ 1 8 Try.underlying34 hi hz0 hz1 hz2 rfl (by decide) (some ao) 0 0 [] hs (fun h => by cases h) rfl (fun _ _ j u hj => by simp at hj) ad xs.length cap (ints xs) hx (by rw [ints_len]; omega) ?_ ?_ (by omega) (by unfold maxLen; omega) (by omega) ?_
    · intro j w0 hj
      rcases hcell with h0 | ⟨b, off, he, hcc⟩
      · rw [h0] at hj; simp at hj
      · simp at he
        subst he
        have hjl : j < xs.length := by
          rcases Nat.lt_or_ge j xs.length with h | h
          · exact h
          · rw [List.getElem?_eq_none (by rw [ints_len]; exact h)] at hj; simp at hj
        rw [add_off, hcc j hjl, hj]
    · intro u hu
      simp only [ints, List.mem_map] at hu
      obtain ⟨n, _, rfl⟩ := hu
      rfl
    · intro v' w' h1 h2
      refine h v' w' ?_ h2
      unfold OwnI
      have := h1
      rw [Nat.zero_add, List.nil_append] at this
      exact this
set_option maxRecDepth 1000000 in
set_option maxHeartbeats 1000000 in
theorem copied_any {w : World} {v : Value} {l : List Int} (h : Row w v (ints l)) (hl : l ≠ []) (hlen : l.length ≤ 10000000) :
    Calls Try.prog 81 #[v] w fun e w' => ∃ u, e = .returned u ∧ OwnI w' w.heap.size u l ∧ Below w.heap.size w w' := by
  have H := Lib.hid h
  have HL := Lib.hid hl
  obtain ⟨b, off, cap, rfl, _⟩ := row_at (p := 0) h (by rw [ints_len]; exact List.length_pos_iff.2 hl)
  rw [ints_len] at *
  clear h hl
  go_enter Try.func81, Try.ntmps81
  go_wp2_with (first | (at_builtin; refine app_copy rfl _ _ rfl _ rfl _ l rfl H.out HL.out hlen ?_))
  intro v' w' own grown
  have HO := Lib.hid own
  have HB := Lib.hid ((Below.refl w.heap.size w).grown grown (Nat.le_refl _) (fun k hk => by cases hk))
  clear own grown
  go_wp2
  go_ret
  exact ⟨_, rfl, HO.out, HB.out⟩
end Go.Proofs.Ytipjaibemhoifaa
