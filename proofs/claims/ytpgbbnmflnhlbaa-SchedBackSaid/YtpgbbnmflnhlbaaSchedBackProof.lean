/- SchedBack holds for every instance and every list of stops; there is no further condition. -/
import Derived.Test.YtpgbbnmflnhlbaaOrd
import Derived.Test.YtpgbbnmflnhlbaaRows
import Derived.Test.YtpgbbnmflnhlbaaXTSched
namespace Go.Proofs.Ytpgbbnmflnhlbaa.schedBack
open Go.ChangeShapes Go.WideShapes Go.ChangeAt Go.RowKit

theorem most_ge {I : Ins} {l : List Int} {s : TS} (h : timesE I l = .ok s) {k : Nat} (hk : k < l.length) (hp : l.getD k 0 ≤ I.p) : (stp I (l.getD k 0)).d ≤ mostK (loadsT I l) (loadsT I l).length := by
  obtain ⟨hm, hg, _, _⟩ := timesE_ok h
  have h1 := load_ge (fine_of hm) hg hk hp
  rw [← loadsT_getD h hk] at h1
  have h2 := mostK_ge (loadsT I l) _ (Nat.le_refl _) k (by rw [loadsT_len h]; exact hk)
  omega
theorem most_room {I : Ins} {l : List Int} {s : TS} (h : timesE I l = .ok s) : mostK (loadsT I l) (loadsT I l).length ≤ I.r := by
  obtain ⟨hm, hg, _, _⟩ := timesE_ok h
  refine mostK_le _ _ (by have := (fine_of hm).room; omega) (fun k hk => ?_) _ (Nat.le_refl _)
  rw [loadsT_len h] at hk
  rw [loadsT_getD h hk]
  exact load_room hg hk
theorem most_pos {I : Ins} {l : List Int} {s : TS} (h : timesE I l = .ok s) (hl : 0 < l.length) : 0 < mostK (loadsT I l) (loadsT I l).length := by
  obtain ⟨hm, hg, _, _⟩ := timesE_ok h
  obtain ⟨w1, w2, w3, w4, w5⟩ := wrongE_zero (sK_step hg hl).1
  have hp : l.getD 0 0 ≤ I.p := Decidable.byContradiction (fun hc => by have := w4 (by omega); simp at this)
  have h1 := most_ge h hl hp
  have h2 := (fine_of hm).take (l.getD 0 0) w1 hp
  omega
theorem in_range {I : Ins} {l : List Int} {s : TS} (h : timesE I l = .ok s) {k : Nat} (hk : k < l.length) : 1 ≤ l.getD k 0 ∧ l.getD k 0 ≤ 2 * I.p := by
  obtain ⟨hm, hg, _, _⟩ := timesE_ok h
  obtain ⟨w1, w2, _⟩ := wrongE_zero (sK_step hg hk).1
  exact ⟨w1, w2⟩
set_option maxRecDepth 1000000 in
set_option maxHeartbeats 4000000 in
theorem walk (I0 : Ins) (v0 : Value) (v1 : Value) (l1 : List Int) (w : World) (e0 : SRow w v0 I0.l) (e1 : Row w v1 (ints l1)) :
    Calls Try.prog 12 #[insV I0 v0, v1] w fun e w' => e = .returned (.bool true) ∧ Below w.heap.size w w' := by
  have HE := Lib.hid e0
  have HR := Lib.hid e1
  obtain ⟨a, cap, rfl, hm, _⟩ := e0.form
  obtain ⟨a1, cap1, rfl, hm1⟩ := e1.form
  simp only [ints_len] at *
  have hx0 : I0.l.length ≤ 9223372036854775807 := by unfold maxLen at hm; omega
  have hx1 : l1.length ≤ 9223372036854775807 := by unfold maxLen at hm1; omega
  clear e0 e1 hm hm1
  unfold insV
  go_enter Try.func12, Try.ntmps12
  go_wp2_with fail
  change Calls _ _ _ (w.alloc (boxI I0 (.slice a I0.l.length cap))) _
  have HB0 := Lib.hid ((Below.refl _ w).alloc (Nat.le_refl _) (boxI I0 (.slice a I0.l.length cap)))
  have HXB := Lib.hid (ybox_new w I0 (.slice a I0.l.length cap))
  generalize w.alloc (boxI I0 (.slice a I0.l.length cap)) = W at *
  refine (tawake_any _).mono ?_
  rintro e w1 ⟨rfl, hb⟩
  have HB1 := Lib.hid (HB0.out.trans (hb.mono HB0.out.size))
  have HX1 := Lib.hid ((show YBox W w.heap.size I0 (.slice a I0.l.length cap) from HXB.out).later hb)
  clear hb
  obtain ⟨c0, c1, c2, c3⟩ := HX1.out.cells
  go_wp2_with fail
  change Calls _ _ #[insV I0 (.slice a I0.l.length cap), .slice a1 l1.length cap1] _ _
  refine (loads_any (HE.out.below HB1.out) (HR.out.below HB1.out)).mono ?_
  rintro e w2 ⟨u, rfl, hq, hb⟩
  have HB2 := Lib.hid (HB1.out.trans (hb.mono HB1.out.size))
  have HX2 := Lib.hid (HX1.out.later hb)
  have HQ := Lib.hid hq.row
  obtain ⟨ua, uc, rfl⟩ := hq.shape
  clear hb hq c0 c1 c2 c3
  obtain ⟨c0, c1, c2, c3⟩ := HX2.out.cells
  by_cases q1 : (100 : Int) < (I0.l.length : Int)
  · have d1 := decide_eq_true q1
    clear q1
    go_wp2
    go_ret
    exact ⟨rfl, HB2.out⟩
  have d1 := decide_eq_false q1
  clear q1
  by_cases q2 : errT I0 l1 ≠ 0
  · have hz : loadsT I0 l1 = [] := by unfold loadsT; rw [if_neg q2]
    rw [hz]
    clear q2 hz HQ
    go_wp2
    go_ret
    exact ⟨rfl, HB2.out⟩
  obtain ⟨s, hts⟩ := errT_zero (Decidable.of_not_not q2)
  clear q2
  have HTS := Lib.hid hts
  have hql := loadsT_len hts
  obtain ⟨Q, hQ⟩ : ∃ Q, loadsT I0 l1 = Q := ⟨_, rfl⟩
  have HGE := Lib.hid (fun (k : Nat) (hk : k < l1.length) => most_ge hts hk)
  have HRM := Lib.hid (most_room hts)
  have HPO := Lib.hid (most_pos hts)
  rw [hQ] at HQ HGE HRM HPO hql ⊢
  clear hQ hts
  by_cases q3 : l1.length = 0
  · have hz : Q.length = 0 := by omega
    rw [hz] at HQ ⊢
    clear q3 hz
    go_wp2
    go_ret
    exact ⟨rfl, HB2.out⟩
  have hpos : 0 < l1.length := by omega
  have hpo := HPO.out hpos
  have d2 : ((Q.length : Int) == 0) = false := by rw [beq_eq_false_iff_ne]; omega
  have d3 : (Q.length == 0) = false := by rw [beq_eq_false_iff_ne]; omega
  obtain ⟨ub, uo, rfl, _, _⟩ := row_cell HQ.out 0 (by rw [ints_len]; omega)
  have hxq : Q.length ≤ 9223372036854775807 := by omega
  clear q3
  go_wp2_with fail
  go_loop [7, 8] (fun m i => ∃ k : Nat, k ≤ Q.length ∧ i = .int .i64 k ∧ m = .int .i64 (mostK Q k)) (fun _ i => Q.length - (intOf i).toNat)
  case atStart => exact ⟨0, Nat.zero_le _, rfl, rfl⟩
  case round =>
    obtain ⟨k, hk, rfl, rfl⟩ := hrel
    by_cases hlt : k < Q.length
    · have qk := row_here HQ.out k (by rw [ints_len]; exact hlt)
      rw [ints_at _ _ hlt] at qk
      have HNX := Lib.hid (mostK_next hlt)
      generalize Q.getD k 0 = y at *
      generalize mostK Q k = m at *
      by_cases hgt : m < y
      · have HM := Lib.hid (HNX.out.trans (Int.max_eq_right (Int.le_of_lt hgt)))
        have d4 := decide_eq_true hgt
        clear hgt
        go_wp2
        go_round
        case rel => exact ⟨k + 1, by omega, by go_num, by rw [HM.out]⟩
        case measure => simp [intOf]; omega
      · have HM := Lib.hid (HNX.out.trans (Int.max_eq_left (by omega)))
        have d4 := decide_eq_false hgt
        clear hgt
        go_wp2
        go_round
        case rel => exact ⟨k + 1, by omega, by go_num, by rw [HM.out]⟩
        case measure => simp [intOf]; omega
    · obtain rfl : k = Q.length := by omega
      clear hlt hk
      generalize mostK Q Q.length = m at *
      go_wp2_with fail
      go_loopw [9] (fun i wr => ∃ k : Nat, k ≤ l1.length ∧ i = .int .i64 k ∧ Below w2.heap.size w2 wr) (fun i _ => l1.length - (intOf i).toNat)
      case atStart => exact ⟨0, Nat.zero_le _, rfl, Below.refl _ _⟩
      case round =>
        obtain ⟨k, hk, rfl, hbw⟩ := hrel
        have HBW := Lib.hid hbw
        have HXR := Lib.hid (HX2.out.later hbw)
        clear hbw c0 c1 c2 c3
        obtain ⟨c0, c1, c2, c3⟩ := HXR.out.cells
        by_cases hlt : k < l1.length
        · obtain ⟨hi1, hi2⟩ := in_range HTS.out hlt
          have hmy := (timesE_ok HTS.out).1
          have hlen := (fine_of hmy).len
          have HG := Lib.hid (HGE.out k hlt)
          obtain ⟨rb, ro, rfl, _, _⟩ := row_cell HR.out 0 (by rw [ints_len]; omega)
          have qr : wr.cell? ⟨rb, ro + k, none⟩ = some (.int .i64 (l1.getD k 0)) := by
            rw [row_here (HR.out.below (HB2.out.trans (HBW.out.mono HB2.out.size))) k (by rw [ints_len]; exact hlt), ints_at _ _ hlt]
          generalize l1.getD k 0 = i at *
          obtain ⟨j, rfl⟩ : ∃ j : Nat, i = (j : Int) := ⟨i.toNat, by omega⟩
          have hjl : j < I0.l.length := by omega
          have hki : (k : Int) < (l1.length : Int) := by omega
          obtain ⟨tb, off, rfl, hat, htb⟩ := srow_at HE.out j hjl
          obtain ⟨t0, t1, t2, t3, t4, t5⟩ := hat.below htb (HB2.out.trans (HBW.out.mono HB2.out.size))
          have d4 : decide ((1 : Int) ≤ (j : Int)) = true := decide_eq_true hi1
          have d5 : decide ((j : Int) < (I0.l.length : Int)) = true := decide_eq_true (by omega)
          have d6 : decide (j < I0.l.length) = true := decide_eq_true hjl
          have d7 : decide (1 ≤ j) = true := decide_eq_true (by omega)
          clear hat hlen hi1 hi2 hmy
          by_cases hp : (j : Int) ≤ I0.p
          · have d8 := decide_eq_true hp
            have hno : (nth I0.l j).d ≤ m := HG.out hp
            have d9 : decide (m < (nth I0.l j).d) = false := decide_eq_false (by omega)
            clear hp hno
            go_wp2_with fail
            go_quiet (fail)
            have HW6 := Lib.hid (below_drewN HBW.out nq)
            generalize wr.drewN nq = w6 at *
            go_wp2
            go_roundw
            case rel => exact ⟨k + 1, by omega, by go_num, HW6.out⟩
            case measure => simp [intOf]; omega
          · have d8 := decide_eq_false hp
            clear hp
            go_wp2_with fail
            go_quiet (fail)
            have HW6 := Lib.hid (below_drewN HBW.out nq)
            generalize wr.drewN nq = w6 at *
            go_wp2
            go_roundw
            case rel => exact ⟨k + 1, by omega, by go_num, HW6.out⟩
            case measure => simp [intOf]; omega
        · obtain rfl : k = l1.length := by omega
          have d8 : decide (m ≤ I0.r) = true := decide_eq_true HRM.out
          have d9 : decide (0 < m) = true := decide_eq_true hpo
          clear hlt hk
          go_wp2
          go_ret
          exact ⟨rfl, HB2.out.trans (HBW.out.mono HB2.out.size)⟩

set_option maxRecDepth 100000 in
theorem lifted (os : Os) (started : os.Started) (H : Type) (enc : TypeId × Value → H) :
    ReturnsInHanded {} Try.checked os 12 .any (Rows.schedBackSpec.pre6 enc Try.prog Try.f12 Rows.schedBackRow.domain false) (Rows.schedBackSpec.post enc Try.prog Try.f12 false true false false) := by
  refine returnsInHanded_of_change (C := Try.checked) own started (by kernel_rfl) Try.func12
    (ChangeSpec.witness6 (enc := enc) (C := Try.checked) false ⟨#[], #[.agg #[.int .i64 0, .int .i64 0, .int .i64 0, .slice none 0 0], .slice none 0 0], []⟩ 8 (by kernel_rfl) (by kernel_rfl) (by kernel_rfl) (by kernel_rfl)) ?_
  intro W base args ds gs before hval0 hW hcnd _
  have hval : ∀ (j : Nat) t v, Try.f12.params[j]? = some t → args[j]? = some v → Value.okWide Try.prog W .any base t v := hval0
  have hW' := hW
  obtain ⟨p, q, hA0, hV, rfl, hfz, hnd⟩ := hW
  have hA : DataW.TrodAll enc Try.prog W 0 (fun _ => true) true Try.f12.params.toList args.toList ds p := hA0
  rw [Try.params12] at hA hval
  obtain ⟨v0, vs0, d0, ds0, p0, q0, hargs, rfl, rfl, h0, r0⟩ := trodAll_cons hA
  obtain ⟨v1, vs1, d1, ds1, p1, q1, rfl, rfl, rfl, h1, r1⟩ := trodAll_cons r0
  obtain ⟨rfl, rfl, rfl⟩ := trodAll_nil r1
  obtain rfl : args = #[v0, v1] := by cases args; simp_all
  obtain ⟨rfl, rfl⟩ := trodVars_none hV
  have k0 := h0
  have lt0 : ∀ x ∈ p0, x.block < W.heap.size := by obtain ⟨m, hm⟩ := k0; exact DataW.trod_lt m _ _ _ hm
  have k1 := h1
  have lt1 : ∀ x ∈ p1, x.block < W.heap.size := by obtain ⟨m, hm⟩ := k1; exact DataW.trod_lt m _ _ _ hm
  obtain ⟨I0, u0, rfl, e0, _⟩ := open_inst (hval 0 26 v0 rfl rfl) h0
  obtain ⟨a1, len1, cap1, rfl⟩ := okWide_slice Try.underlying32 (hval 1 32 v1 rfl rfl)
  obtain ⟨l1, e1, _⟩ := open_row h1
  clear hA0 hval0
  refine (walk I0 _ _ l1 W e0 e1).mono fun e W' ⟨he, bel⟩ => ?_
  subst he
  exact ⟨_, rfl, _, _, _, [], _, [], hW', trodAll_mk1 (shut_bool Try.underlying4 _), (trodAll_cons_mk (Below.trod laidOut (by kernel_rfl) (of_decide_eq_true (by kernel_rfl)) k0 bel lt0) (trodAll_cons_mk (Below.trod laidOut (by kernel_rfl) (of_decide_eq_true (by kernel_rfl)) k1 bel lt1) trodAll_mk0)), rfl, bel.frame _, fun h => by cases h⟩

theorem over : Rows.schedBackRow.holds Try.pinned (OpenSpec.ofChange Rows.schedBackSpec) :=
  OpenClaim.holds_of_wide 12 Try.f12 rfl rfl rfl rfl rfl rfl rfl ⟨rfl, rfl, rfl, rfl, rfl⟩ rfl rfl rfl rfl rfl (by kernel_rfl) Try.func12 (by show joinedFacts Try.checked.prog _ _ _ _ = true; unfold joinedFacts; rw [ord_may, ord_lifts, ord_make]; kernel_rfl)
    (of_decide_eq_true (by kernel_rfl)) (by unfold Func.isWrapper; first | (rw [if_pos (by decide +kernel)]; kernel_rfl) | (rw [if_neg (by decide +kernel)]; exact ⟨rfl, rfl⟩))
    (fun os started H enc _ => lifted os started H enc)

theorem proved : Rows.SchedBackSaid := over
#print axioms proved
end Go.Proofs.Ytpgbbnmflnhlbaa.schedBack
