/- ScanNumber holds for every two numbers of Go's int and both signs, where the library's tables start as its text lays them (the card ties that); there is no further condition. -/
import Derived.Test.YtoggniamnedepaaDoorRows
import Derived.Test.YtoggniamnedepaaDoorTie
import Derived.Test.YtoggniamnedepaaDoorCards
import Derived.Test.YtoggniamnedepaaDoorLaid
import Derived.SevenTiedAt
import Derived.Test.YtoggniamnedepaaDoorLaid
namespace Go.Proofs.YtoggniamnedepaaDoor.scanNumber
open Go.ChangeShapes Go.WideShapes Go.ChangeAt Go.RowKit

theorem row_one (w : World) (n : Int) : IsLL ((w.alloc (.cells #[.int .i64 n] 3)).alloc (.cells #[.slice (some ⟨w.heap.size, 0, none⟩) 1 1] 27)) (.slice (some ⟨w.heap.size + 1, 0, none⟩) 1 1) [[n]] := by
  have h1 := heap_alloc_new w (.cells #[.int .i64 n] 3)
  have h2 := heap_alloc_new (w.alloc (.cells #[.int .i64 n] 3)) (.cells #[.slice (some ⟨w.heap.size, 0, none⟩) 1 1] 27)
  have hs : (w.alloc (.cells #[.int .i64 n] 3)).heap.size = w.heap.size + 1 := by simp
  rw [hs] at h2
  have h3 := heap_alloc_old (w.alloc (.cells #[.int .i64 n] 3)) (.cells #[.slice (some ⟨w.heap.size, 0, none⟩) 1 1] 27) (r := w.heap.size) (by omega)
  rw [h1] at h3
  refine ⟨[.slice (some ⟨w.heap.size, 0, none⟩) 1 1], ⟨by simp [maxLen], _, _, rfl, by simp, ⟨by simp [maxLen], by simp⟩, .inr ⟨_, _, rfl, fun i hi => ?_⟩⟩, ⟨by simp [maxLen, ints], _, _, rfl, by simp [ints], ⟨by simp [maxLen], by simp⟩, .inr ⟨_, _, rfl, fun i hi => ?_⟩⟩, trivial⟩
  · have : i = 0 := by simp at hi; omega
    subst this
    rw [cell_of_row _ _ _ _ _ _ h2]; rfl
  · have : i = 0 := by simp [ints] at hi; omega
    subst this
    rw [cell_of_row _ _ _ _ _ _ h3]; rfl
theorem one_text (n : Nat) : textOf [[(n : Int)]] = decI n ++ [10] := by
  simp only [textOf, lineT, List.append_nil]
  rw [itoaI_pos _ (by omega)]
  simp
theorem row_cut {w : World} {g cap : Nat} {zs : List Int} {c : Int} (h : Row w (.slice (some ⟨g, 0, none⟩) (zs ++ [c]).length cap) (byts (zs ++ [c]))) : Row w (.slice (some ⟨g, 0, none⟩) zs.length cap) (byts zs) := by
  have hc := fun i (hi : i < zs.length) => row_here h i (by simp [byts]; omega)
  obtain ⟨hm, a, cap', he, hl, ⟨hm2, hn⟩, _⟩ := h
  simp [byts_len] at he hl hm
  obtain ⟨rfl, rfl⟩ := he
  refine ⟨by rw [byts_len]; omega, _, _, by rw [byts_len], by rw [byts_len]; omega, ⟨hm2, by simp⟩, ?_⟩
  by_cases h0 : zs = []
  · left; subst h0; rfl
  · refine .inr ⟨_, _, rfl, fun i hi => ?_⟩
    rw [byts_len] at hi
    have h1 := hc i hi
    rw [byts_at _ _ (by simp; omega)] at h1
    rw [h1, byts_at _ _ hi]
    congr 2
    rw [List.getD_eq_getElem?_getD, List.getD_eq_getElem?_getD, List.getElem?_append_left hi]
theorem digs_noughts : ∀ (k : Nat) (d : List Int), digs 0 (List.replicate k 48 ++ d) = digs 0 d
  | 0, d => rfl
  | k + 1, d => by
    rw [List.replicate_succ, List.cons_append]
    show (if (48 : Int) < 48 ∨ 57 < (48 : Int) then none else digs (10 * 0 + (48 - 48)) (List.replicate k 48 ++ d)) = _
    rw [if_neg (by decide)]
    exact digs_noughts k d
/-- The law's text: a minus, noughts, the digits. -/
def numT (minus : Bool) (k n : Nat) : List Int := (if minus then [45] else []) ++ List.replicate k 48 ++ decI n
theorem zeros_in (k n : Nat) : ∀ c ∈ List.replicate k 48 ++ decI n, 48 ≤ c ∧ c ≤ 57 := by
  intro c hc
  simp only [List.mem_append, List.mem_replicate] at hc
  rcases hc with ⟨_, rfl⟩ | hc
  · decide
  · exact decI_in n c hc
theorem numT_plain (minus : Bool) (k n : Nat) : Plain (numT minus k n) := by
  intro c hc
  unfold numT at hc
  rw [List.append_assoc, List.mem_append] at hc
  rcases hc with hc | hc
  · cases minus <;> simp at hc
    omega
  · have := zeros_in k n c hc; omega
theorem numT_some (minus : Bool) (k n : Nat) : numT minus k n ≠ [] := by
  intro e
  have h1 := congrArg List.length e
  have h2 := decI_pos n
  unfold numT at h1
  simp only [List.length_append, List.length_nil] at h1
  omega
theorem numT_word (minus : Bool) (k n : Nat) : wordS (numT minus k n) = if 12 < k + (decI n).length then none else some (if minus then -(n : Int) else n) := by
  have hp := decI_pos n
  unfold numT
  cases minus
  · simp only [Bool.false_eq_true, if_false, List.nil_append]
    have hh : (List.replicate k (48 : Int) ++ decI n).head? ≠ some 45 := by
      intro e
      match hd : List.replicate k (48 : Int) ++ decI n with
      | [] => rw [hd] at e; simp at e
      | c :: t =>
        rw [hd] at e
        simp at e
        have := zeros_in k n c (by rw [hd]; simp)
        omega
    unfold wordS
    rw [if_neg hh, digs_noughts, decI_digs]
    simp only [List.length_append, List.length_replicate]
    by_cases h : 12 < k + (decI n).length
    · rw [if_pos h, if_pos (.inr h)]
    · rw [if_neg h, if_neg (by omega)]
  · simp only [if_true, List.cons_append, List.nil_append]
    rw [wordS_minus, digs_noughts, decI_digs]
    simp only [List.length_append, List.length_replicate]
    by_cases h : 12 < k + (decI n).length
    · rw [if_pos h, if_pos (.inr h)]
    · rw [if_neg h, if_neg (by omega)]
      simp
theorem numT_err (minus : Bool) (k n : Nat) (hk : k ≤ 12) (hl : (decI n).length ≤ 12) :
    (12 < k + (decI n).length → errOf (numT minus k n) = 2) ∧ (¬ 12 < k + (decI n).length → errOf (numT minus k n) = 0 ∧ resOf (numT minus k n) = [[if minus then -(n : Int) else n]]) := by
  have hlen : (numT minus k n).length ≤ 4096 := by
    unfold numT
    cases minus <;> simp <;> omega
  have hp := parse_word (numT minus k n) (numT_some minus k n) (numT_plain minus k n)
  rw [numT_word] at hp
  unfold errOf resOf
  rw [hp]
  simp only [show ¬ 4096 < (numT minus k n).length by omega, if_false]
  constructor
  · intro h; rw [if_pos h]; rfl
  · intro h; rw [if_neg h]; exact ⟨rfl, rfl⟩
set_option maxRecDepth 1000000 in
set_option maxHeartbeats 1000000 in
theorem walk (a0 : Int) (a1 : Int) (a2 : Bool) (w : World) (hT : Tab w.heap.size w) :
    Calls Tryd.prog 6 #[.int .i64 a0, .int .i64 a1, .bool a2] w fun e w' => e = .returned (.bool true) ∧ Below w.heap.size w w' := by
  have HT := Lib.hid hT
  clear hT
  by_cases hin : 0 ≤ a0 ∧ a0 < 1000000000000 ∧ 0 ≤ a1 ∧ a1 ≤ 12
  · obtain ⟨h1, h2, h3, h4⟩ := hin
    obtain ⟨n, rfl⟩ : ∃ n : Nat, a0 = n := ⟨a0.toNat, by omega⟩
    obtain ⟨k, rfl⟩ : ∃ k : Nat, a1 = k := ⟨a1.toNat, by omega⟩
    have d1 : decide ((n : Int) < 0) = false := decide_eq_false (by omega)
    have d2 : decide ((1000000000000 : Int) ≤ (n : Int)) = false := decide_eq_false (by omega)
    have d3 : decide ((k : Int) < 0) = false := decide_eq_false (by omega)
    have d4 : decide ((12 : Int) < (k : Int)) = false := decide_eq_false (by omega)
    have hn : n < 1000000000000 := by omega
    have hk : k ≤ 12 := by omega
    clear h1 h2 h3 h4
    have HLen := Lib.hid (decI_len 11 n (by omega))
    have HPos := Lib.hid (decI_pos n)
    go_enter Tryd.func6, Tryd.ntmps6
    go_wp2_with fail
    refine (awake_any _).mono ?_
    rintro e w1 ⟨rfl, hb⟩
    have HB := Lib.hid hb
    clear hb
    go_wp2_with fail
    have B0 := Lib.hid (((HB.out.alloc HB.out.size (.cells #[.int .i64 (n : Int)] 3))).alloc (by have := HB.out.size; simp; omega) (.cells #[.slice (some ⟨w1.heap.size, 0, none⟩) 1 1] 27))
    refine (print_any (row_one w1 n) (fun l hl m hm => by simp at hl; subst hl; simp at hm; subst hm; omega) (by rw [one_text]; have := HLen.out; simp; omega) ((HT.out.on B0.out).up B0.out.size)).mono ?_
    rw [one_text]
    rintro e w3 ⟨pv, rfl, hp, b3⟩
    have B3 := Lib.hid (B0.out.trans (b3.mono B0.out.size))
    obtain ⟨g, cg, rfl⟩ := own_some hp (by simp)
    have hpr := hp.row
    have HPR := Lib.hid (row_cut hpr)
    have hcg : (decI n).length + 1 ≤ cg := by
      obtain ⟨_, _, _, he, hc, _⟩ := hpr
      simp [byts_len] at he hc
      omega
    clear hp b3 hpr B0
    simp only [List.length_append, List.length_cons, List.length_nil] at *
    obtain ⟨want, hwant⟩ : ∃ x : Int, (if a2 then -(n : Int) else n) = x := ⟨_, rfl⟩
    obtain ⟨pre, hpre⟩ : ∃ x : List Int, (if a2 then [45] else []) = x := ⟨_, rfl⟩
    have HN1 := Lib.hid (numT_err a2 k n hk HLen.out)
    rw [show numT a2 k n = pre ++ List.replicate k 48 ++ decI n by rw [← hpre]; rfl, hwant] at HN1
    have hpl : pre.length ≤ 1 := by rw [← hpre]; split <;> simp
    obtain ⟨q, hq⟩ : ∃ q, (decI n).length = q := ⟨_, rfl⟩
    rw [hq] at HPR HLen HPos hcg HN1 ⊢
    have HQ := Lib.hid hq
    have hq1 : 1 ≤ q := HPos.out
    have hq2 : q ≤ 12 := HLen.out
    clear hq HLen HPos
    have d5 : decide ((q : Int) + 1 < 2) = false := decide_eq_false (by omega)
    have B33 := Lib.hid (Below.refl w3.heap.size w3)
    have en : IntKind.i64.wrap (-(n : Int)) = -(n : Int) := IntWalk.i64_in _ (by omega)
    refine Or.elim (Bool.eq_false_or_eq_true a2) (fun ha => ?pa) (fun ha => ?pb)
    case' pa =>
      subst ha
      have HPre := Lib.hid hpre
      obtain ⟨wn, hwn⟩ : ∃ x : Int, -(n : Int) = x := ⟨_, rfl⟩
      have hwe : (want == wn) = true := by rw [← hwant, ← hwn]; simp
      have en2 : IntKind.i64.wrap (-(n : Int)) = wn := by rw [en, hwn]
      clear hwant hpre hwn en
      have R0 := Lib.hid (ownB_nil w3 w3.heap.size)
      go_wp2_with (first | (at_builtin; refine app_bytes rfl _ _ rfl w3.heap.size _ [] rfl (R0.out.alloc _) _ [45] rfl (row_new _ _) (by simp) (by simp) ?_))
      intro v4 w4 o4 g4 t4
      have O4 := Lib.hid (show OwnB w4 w3.heap.size v4 pre by rw [← HPre.out]; simpa using o4)
      have B4 := Lib.hid (made_alloc B33.out R0.out g4)
      clear o4 g4 t4 R0 HPre
      go_wp2_with fail
    case' pb =>
      subst ha
      have HPre := Lib.hid hpre
      have hwe : (want == (n : Int)) = true := by rw [← hwant]; simp
      have O4 := Lib.hid (show OwnB w3 w3.heap.size (.slice none 0 0) pre by rw [← HPre.out]; exact ownB_nil _ _)
      have B4 := Lib.hid (show Below w3.heap.size w3 w3 from B33.out)
      clear hwant hpre HPre
      go_wp2_with fail
    all_goals
      go_loopw [9, 11] (fun tx i wr => ∃ j : Nat, j ≤ k ∧ i = .int .i64 j ∧ OwnB wr w3.heap.size tx (pre ++ List.replicate j 48) ∧ Below w3.heap.size w3 wr) (fun _ i _ => k - (intOf i).toNat)
      case atStart => exact ⟨0, Nat.zero_le _, rfl, by simpa using O4.out, B4.out⟩
      case round =>
        obtain ⟨j, hj, rfl, ho, hbw⟩ := hrel
        have HO := Lib.hid ho
        have HBW := Lib.hid hbw
        clear ho hbw
        by_cases hlt : j < k
        · go_wp2_with (first | (at_builtin; refine app_bytes rfl _ _ rfl w3.heap.size _ (pre ++ List.replicate j 48) rfl (HO.out.alloc _) _ [48] rfl (row_new _ _) (by simp; omega) (by have := HBW.out.size; simp; omega) ?_))
          intro v5 w5 o5 g5 t5
          have O5 := Lib.hid (show OwnB w5 w3.heap.size v5 (pre ++ List.replicate (j + 1) 48) by rw [List.replicate_succ']; simpa using o5)
          have B5 := Lib.hid (made_alloc HBW.out HO.out g5)
          clear o5 g5 t5
          go_wp2
          go_roundw
          case rel =>
            first | exact ⟨j + 1, by omega, by go_num, O5.out, B5.out⟩ | exact ⟨_, _, _, _, _, _, _, _, _, _, ⟨j + 1, by omega, rfl, O5.out, B5.out⟩, rfl⟩
          case measure => simp [intOf]; omega
        · obtain rfl : j = k := by omega
          clear hlt hj
          have eq1 : IntKind.i64.wrap (q : Int) = (q : Int) := IntWalk.i64_in _ (by omega)
          go_wp2_with (first | (at_builtin; refine app_bytes rfl _ _ rfl w3.heap.size _ (pre ++ List.replicate j 48) rfl HO.out _ (decI n) rfl (HPR.out.below HBW.out) (by rw [HQ.out]; simp; omega) HBW.out.size ?_))
          intro v6 w6 o6 g6 t6
          have O6 := Lib.hid (show OwnB w6 w3.heap.size v6 (pre ++ List.replicate j 48 ++ decI n) by simpa using o6)
          have B6 := Lib.hid (made HBW.out HO.out g6)
          clear o6 g6 t6
          go_wp2_with fail
          refine (lines_any O6.out.row).mono ?_
          rintro e w7 ⟨x, rfl, hx, b7⟩
          have B7 := Lib.hid ((B3.out.trans (B6.out.mono B3.out.size)).trans (b7.mono (Nat.le_trans B3.out.size B6.out.size)))
          by_cases h12 : 12 < j + q
          · rw [HN1.out.1 h12]
            have d6 : decide ((12 : Int) < (j : Int) + (q : Int)) = true := decide_eq_true (by omega)
            have e7 : IntKind.i64.wrap ((j : Int) + ((q : Int) + 1)) = (j : Int) + (q : Int) + 1 := by rw [IntWalk.i64_in _ (by omega)]; omega
            have e8 : IntKind.i64.wrap ((j : Int) + (q : Int)) = (j : Int) + (q : Int) := IntWalk.i64_in _ (by omega)
            clear hx b7
            go_wp2
            go_ret
            exact ⟨rfl, B7.out⟩
          · obtain ⟨q1, q2⟩ := HN1.out.2 h12
            rw [q1]
            rw [q2] at hx
            have d6 : decide ((12 : Int) < (j : Int) + (q : Int)) = false := decide_eq_false (by omega)
            have e8 : IntKind.i64.wrap ((j : Int) + (q : Int)) = (j : Int) + (q : Int) := IntWalk.i64_in _ (by omega)
            have hx2 := hx.is
            obtain ⟨ax, cx, rfl, _⟩ := hx2.form
            obtain ⟨ta, oa, a1, n1, c1, rfl, _, e1, hn1, _, r1⟩ := ll_at hx2 0 (by simp)
            obtain ⟨t1, o1, rfl, e2, _⟩ := row_cell r1 0 (by simp [ints])
            simp [ints] at e2 hn1
            subst hn1
            simp only [Nat.add_zero] at e1
            clear hx hx2 b7 r1 q1 q2
            go_wp2
            go_ret
            exact ⟨rfl, B7.out⟩
  · have key : decide (a0 < 0) = true ∨ (decide (a0 < 0) = false ∧ decide (1000000000000 ≤ a0) = true) ∨ (decide (a0 < 0) = false ∧ decide (1000000000000 ≤ a0) = false ∧ decide (a1 < 0) = true) ∨ (decide (a0 < 0) = false ∧ decide (1000000000000 ≤ a0) = false ∧ decide (a1 < 0) = false ∧ decide (12 < a1) = true) := by
      simp only [decide_eq_true_eq, decide_eq_false_iff_not]; omega
    clear hin
    rcases key with h0 | ⟨h0, h1⟩ | ⟨h0, h1, h2⟩ | ⟨h0, h1, h2, h3⟩
    all_goals
      go_enter Tryd.func6, Tryd.ntmps6
      go_wp2_with fail
      refine (awake_any _).mono ?_
      rintro e w1 ⟨rfl, hb⟩
      have HB := Lib.hid hb
      clear hb
      go_wp2
      go_ret
      exact ⟨rfl, HB.out⟩

set_option maxRecDepth 100000 in
theorem lifted (os : Os) (started : os.Started) (H : Type) (enc : TypeId × Value → H) :
    ReturnsInHanded {} Tryd.checked os 6 .any (fun w args => (Rows.scanNumberSpec.pre enc Tryd.prog Tryd.f6 [] false w args ∧ laidMetH Tryd.prog Rows.scanNumberRow.laid w) ∧ sizedMet enc Tryd.prog Tryd.f6 (OpenSpec.ofChange Rows.scanNumberSpec) false w args)
      (Rows.scanNumberSpec.post enc Tryd.prog Tryd.f6 false true false false) := by
  refine returnsInHanded_of_change_and (C := Tryd.checked) (X := fun w _ => laidMetH Tryd.prog Rows.scanNumberRow.laid w) (fun _ _ _ hh h => h.of_heap hh) own started (by kernel_rfl) Tryd.func6
    (ChangeSpec.witness_shaped (enc := enc) (C := Tryd.checked) (os := os) (X := fun w _ => laidMetH Tryd.prog Rows.scanNumberRow.laid w) false (World.doorLaid Tryd.prog 24 os) #[.int .i64 0, .int .i64 0, .bool false] 8 rfl (World.shaped_of_RefB (by kernel_rfl) (by kernel_rfl)) (by kernel_rfl) (by kernel_rfl) (by kernel_rfl) (door_met os _)) ?_
  intro W base args ds gs before hval0 hW _ _ hL _
  have hval : ∀ (j : Nat) t v, Tryd.f6.params[j]? = some t → args[j]? = some v → Value.okWide Tryd.prog W .any base t v := hval0
  have hW' := hW
  obtain ⟨p, q, hA0, hV, rfl, hfz, hnd⟩ := hW
  have hA : DataW.TrodAll enc Tryd.prog W 0 (fun _ => true) true Tryd.f6.params.toList args.toList ds p := hA0
  rw [Tryd.params6] at hA hval
  obtain ⟨v0, vs0, d0, ds0, p0, q0, hargs, rfl, rfl, h0, r0⟩ := trodAll_cons hA
  obtain ⟨v1, vs1, d1, ds1, p1, q1, rfl, rfl, rfl, h1, r1⟩ := trodAll_cons r0
  obtain ⟨v2, vs2, d2, ds2, p2, q2, rfl, rfl, rfl, h2, r2⟩ := trodAll_cons r1
  obtain ⟨rfl, rfl, rfl⟩ := trodAll_nil r2
  obtain rfl : args = #[v0, v1, v2] := by cases args; simp_all
  obtain ⟨rfl, rfl⟩ := trodVars_none hV
  have k0 := h0
  have lt0 : ∀ x ∈ p0, x.block < W.heap.size := by obtain ⟨m, hm⟩ := k0; exact DataW.trod_lt m _ _ _ hm
  have k1 := h1
  have lt1 : ∀ x ∈ p1, x.block < W.heap.size := by obtain ⟨m, hm⟩ := k1; exact DataW.trod_lt m _ _ _ hm
  have k2 := h2
  have lt2 : ∀ x ∈ p2, x.block < W.heap.size := by obtain ⟨m, hm⟩ := k2; exact DataW.trod_lt m _ _ _ hm
  obtain ⟨a0, rfl, rfl, rfl, i0⟩ := open_int Tryd.underlying3 (hval 0 3 v0 rfl rfl) h0
  obtain ⟨a1, rfl, rfl, rfl, i1⟩ := open_int Tryd.underlying3 (hval 1 3 v1 rfl rfl) h1
  obtain ⟨a2, rfl, rfl, rfl⟩ := open_bool Tryd.underlying4 (hval 2 4 v2 rfl rfl) h2
  have hT := tab_of_laid hL
  clear hA0 hval0
  refine (walk a0 a1 a2 W  hT).mono fun e W' ⟨he, bel⟩ => ?_
  subst he
  exact ⟨_, rfl, _, _, _, [], _, [], hW', trodAll_mk1 (shut_bool Tryd.underlying4 _), (trodAll_cons_mk (Below.trod laidOut (by kernel_rfl) (of_decide_eq_true (by kernel_rfl)) k0 bel lt0) (trodAll_cons_mk (Below.trod laidOut (by kernel_rfl) (of_decide_eq_true (by kernel_rfl)) k1 bel lt1) (trodAll_cons_mk (Below.trod laidOut (by kernel_rfl) (of_decide_eq_true (by kernel_rfl)) k2 bel lt2) trodAll_mk0))), rfl, bel.frame _, fun h => by cases h⟩

theorem over : Rows.ScanNumberSaid :=
  OpenClaim.holds_of_wide 6 Tryd.f6 rfl rfl rfl rfl rfl rfl rfl ⟨rfl, rfl, rfl, rfl, rfl⟩ rfl rfl rfl rfl rfl (by kernel_rfl) Tryd.func6 (by kernel_rfl)
    (of_decide_eq_true (by kernel_rfl)) (by unfold Func.isWrapper; first | (rw [if_pos (by decide +kernel)]; kernel_rfl) | (rw [if_neg (by decide +kernel)]; exact ⟨rfl, rfl⟩))
    (fun os started H enc _ => lifted os started H enc)

theorem proved : Rows.ScanNumberCardSaid :=
  Claim7.holds_tied_plain_at .later [] [.data, .data, .data] true Rows.scanNumberCard.stood.harness false
    over (fun _ h => by cases h) (by kernel_rfl) (fun _ h => by cases h) scanNumber_row_tie rfl ⟨rfl, rfl⟩ (by kernel_rfl) rfl
    (fun f fn hf hfn => by
      obtain rfl : f = 6 := Option.some.inj ((show Tryd.prog.funcNamed Rows.scanNumberRow.func = some 6 by kernel_rfl).symm.trans hf) |>.symm
      obtain rfl : fn = Tryd.f6 := (Option.some.inj (Tryd.func6.symm.trans hfn)).symm
      refine ⟨by kernel_rfl, fun j t ht => ?_⟩
      rw [Tryd.params6] at ht
      rcases j with _ | _ | _ | j
      · obtain rfl : t = 3 := by simpa using ht.symm
        exact (show Tryd.prog.wantsStandIn 3 = false by kernel_rfl)
      · obtain rfl : t = 3 := by simpa using ht.symm
        exact (show Tryd.prog.wantsStandIn 3 = false by kernel_rfl)
      · obtain rfl : t = 4 := by simpa using ht.symm
        exact (show Tryd.prog.wantsStandIn 4 = false by kernel_rfl)
      · simp at ht)
    (by kernel_rfl)
#print axioms proved
end Go.Proofs.YtoggniamnedepaaDoor.scanNumber
