/- StateSeen: behind moves that can be followed, what was seen, what is on the car, and its load. -/
import Derived.Test.YtpgbbnmflnhlbaaOrd
import Derived.Test.YtpgbbnmflnhlbaaRows
import Derived.Test.YtpgbbnmflnhlbaaSAwake
import Derived.Test.YtpgbbnmflnhlbaaXU
namespace Go.Proofs.Ytpgbbnmflnhlbaa.stateSeen
open Go.ChangeShapes Go.WideShapes Go.ChangeAt Go.RowKit

theorem fol_ok {I : Ins} {l : List Int} (h : folE I l = 0) : mayB I = true ∧ ∃ s c, followS I l = some (s, c) := by
  cases hm : mayB I with
  | false => rw [(fol_bad hm l).2] at h; exact absurd h (by decide)
  | true =>
    cases hf : followS I l with
    | none => rw [(fol_no hm hf).2] at h; exact absurd h (by decide)
    | some x => exact ⟨rfl, x.1, x.2, rfl⟩
theorem loadF_bd {I : Ins} (hm : mayB I = true) (t : List Int) : (∀ x ∈ t, 0 ≤ x ∧ x ≤ 2 * I.p) → -1000 * (t.length : Int) ≤ loadF I t ∧ loadF I t ≤ 1000 * (t.length : Int) := by
  refine snoc_ind (P := fun t => (∀ x ∈ t, 0 ≤ x ∧ x ≤ 2 * I.p) → -1000 * (t.length : Int) ≤ loadF I t ∧ loadF I t ≤ 1000 * (t.length : Int)) (fun _ => ⟨Int.le_refl _, Int.le_refl _⟩) ?_ t
  intro t x ih h
  have h1 := ih (fun y hy => h y (by simp [hy]))
  have h2 := dem_bd hm (h x (by simp))
  rw [loadF_snoc]
  simp only [List.length_append, List.length_singleton]
  split <;> omega
set_option maxRecDepth 1000000 in
set_option maxHeartbeats 4000000 in
theorem walk (I0 : Ins) (v0 : Value) (v1 : Value) (l1 : List Int) (w : World) (e0 : SRow w v0 I0.l) (e1 : Row w v1 (ints l1)) :
    Calls Try.prog 19 #[insV I0 v0, v1] w fun e w' => e = .returned (.bool true) ∧ Below w.heap.size w w' := by
  have HR := Lib.hid e0
  have HL := Lib.hid e1
  obtain ⟨ad, cap, rfl, hlm, _⟩ := e0.form
  obtain ⟨ad2, cap2, rfl, hmx⟩ := e1.form
  rw [ints_len] at *
  have hmx2 : l1.length ≤ 9223372036854775807 := by unfold maxLen at hmx; omega
  clear e0 e1 hmx
  unfold insV
  go_enter Try.func19, Try.ntmps19
  go_wp2_with fail
  have HY := Lib.hid (ybox_new w I0 (.slice ad I0.l.length cap))
  have HB := Lib.hid ((Below.refl w.heap.size w).alloc (Nat.le_refl _) (boxI I0 (.slice ad I0.l.length cap)))
  change Calls _ _ _ (w.alloc (boxI I0 (.slice ad I0.l.length cap))) _
  generalize w.alloc (boxI I0 (.slice ad I0.l.length cap)) = W at *
  refine (sawake_any _).mono ?_
  rintro e w1 ⟨rfl, hb⟩
  have HYn := Lib.hid (HY.out.later hb)
  have HBn := Lib.hid (HB.out.trans (hb.mono HB.out.size))
  clear hb HY HB
  have HY := HYn
  have HB := HBn
  clear HYn HBn
  obtain ⟨y0, y1, y2, y3⟩ := HY.out.cells
  go_wp2_with fail
  clear y0 y1 y2 y3
  change Calls _ _ #[insV I0 (.slice ad I0.l.length cap), _] _ _
  refine (sfollow_any (HR.out.below HB.out) (HL.out.below HB.out)).mono ?_
  rintro e w2 ⟨rfl, hb⟩
  have HYn := Lib.hid (HY.out.later hb)
  have HBn := Lib.hid (HB.out.trans (hb.mono HB.out.size))
  clear hb HY HB
  have HY := HYn
  have HB := HBn
  clear HYn HBn
  obtain ⟨po, ca, ti, lo, fi, mu, ma, on, HM0⟩ : ∃ po ca ti lo fi mu ma on, stO (folS I0 l1) = ⟨po, ca, ti, lo, fi, mu, ma, on⟩ := ⟨_, _, _, _, _, _, _, _, rfl⟩
  rw [HM0]
  have HM := Lib.hid HM0
  clear HM0
  unfold staV
  go_upto_region 3 with fail
  have HU := Lib.hid (st_new w2 ⟨po, ca, ti, lo, fi, mu, ma, on⟩)
  have HYn := Lib.hid (HY.out.later ((Below.refl _ w2).alloc (Nat.le_refl _) (boxSt ⟨po, ca, ti, lo, fi, mu, ma, on⟩)))
  have HBn := Lib.hid (HB.out.alloc HB.out.size (boxSt ⟨po, ca, ti, lo, fi, mu, ma, on⟩))
  clear HY HB
  have HY := HYn
  have HB := HBn
  clear HYn HBn
  change Code.wp _ _ _ _ (w2.alloc (boxSt ⟨po, ca, ti, lo, fi, mu, ma, on⟩))
  generalize w2.alloc (boxSt ⟨po, ca, ti, lo, fi, mu, ma, on⟩) = W3 at *
  generalize w2.heap.size = bm at *
  have y3 := HY.out.cells.2.2.2
  by_cases g1 : 100 < I0.l.length
  · have d1 : decide (100 < (I0.l.length : Int)) = true := decide_eq_true (by omega)
    have d2 := decide_eq_true g1
    clear g1
    go_wp2
    go_ret
    exact ⟨rfl, HB.out⟩
  have d1 : decide (100 < (I0.l.length : Int)) = false := decide_eq_false (by omega)
  have d2 := decide_eq_false g1
  clear g1
  by_cases g2 : 100 < l1.length
  · have d3 : decide (100 < (l1.length : Int)) = true := decide_eq_true (by omega)
    have d4 := decide_eq_true g2
    clear g2
    go_wp2
    go_ret
    exact ⟨rfl, HB.out⟩
  have d3 : decide (100 < (l1.length : Int)) = false := decide_eq_false (by omega)
  have d4 := decide_eq_false g2
  clear g2
  by_cases g3 : folE I0 l1 = 0
  rotate_left
  · have b0 : (folE I0 l1 != 0) = true := by simp [g3]
    clear g3
    go_wp2
    go_ret
    exact ⟨rfl, HB.out⟩
  obtain ⟨hm, s, c, hf⟩ := fol_ok g3
  have hs := HM.out
  rw [(fol_yes hm hf).1] at hs
  have hs2 : s = ⟨po, ca, ti, lo, fi, mu, ma, on⟩ := hs
  subst hs2
  have HFS := Lib.hid (follow_seen hm l1 _ _ hf)
  have HRM := Lib.hid (follow_room hm hf)
  have HIN := Lib.hid (follow_inv hm l1 _ _ hf).2
  have HFW := Lib.hid (follow_few hm hf)
  have HMM := Lib.hid hm
  have HLN := Lib.hid (show (I0.l.length : Int) = 2 * I0.p + 1 ∧ 0 ≤ I0.p ∧ 2 * I0.p ≤ 40 from ⟨(fine_of hm).len, (fine_of hm).p0, by have := (fine_of hm).p1; omega⟩)
  rw [g3]
  clear g3 hm hf hs HM
  go_wp2_with fail
  clear d1 d2 d3 d4
  have y0 := HY.out.cells.1
  go_loopw [9, 10, 11, 12] (fun i9 i10 i11 i12 wr => ∃ k : Nat, k ≤ l1.length ∧ i12 = .int .i64 k ∧ i9 = .int .u64 (seenF (l1.take k) : Nat) ∧ i10 = .int .u64 (onF I0 (l1.take k) : Nat) ∧ i11 = .int .i64 (loadF I0 (l1.take k)) ∧ wr = W3) (fun _ _ _ i12 _ => l1.length - (intOf i12).toNat)
  case atStart => exact ⟨0, Nat.zero_le _, rfl, rfl, rfl, rfl, rfl⟩
  case round =>
    obtain ⟨k, hk, rfl, rfl, rfl, rfl, rfl⟩ := hrel
    by_cases hltk : k < l1.length
    · have hki : (k : Int) < (l1.length : Int) := by omega
      have HKL := Lib.hid hltk
      obtain ⟨hlen, hp0, hp1⟩ := HLN.out
      obtain ⟨rb, ro, rfl, hcell, hrb⟩ := row_cell HL.out k (by rw [ints_len]; exact hltk)
      rw [ints_at _ k hltk] at hcell
      have hek : l1.take (k + 1) = l1.take k ++ [l1.getD k 0] := by rw [List.take_succ_eq_append_getElem hltk, List.getD_eq_getElem?_getD, List.getElem?_eq_getElem hltk]; rfl
      have hj := HIN.out (l1.getD k 0) (by rw [List.getD_eq_getElem?_getD, List.getElem?_eq_getElem hltk]; exact List.getElem_mem hltk)
      have hbl := loadF_bd HMM.out (l1.take k) (fun x hx => HIN.out x (List.mem_of_mem_take hx))
      have hcl : (l1.take k).length = k := by rw [List.length_take]; omega
      rw [hcl] at hbl
      have hbd := dem_bd HMM.out hj
      have hfw := HFW.out
      have x0 := (HB.out.cell (p := ⟨rb, ro + k, none⟩) hrb).trans hcell
      have HSE := Lib.hid (show seenF (l1.take (k + 1)) = if 0 < l1.getD k 0 then seenF (l1.take k) ||| bitN (l1.getD k 0) else seenF (l1.take k) by rw [hek, seenF_snoc])
      have HON := Lib.hid (show onF I0 (l1.take (k + 1)) = if I0.p < l1.getD k 0 then minus (onF I0 (l1.take k)) (bitN (l1.getD k 0 - I0.p)) else if 0 < l1.getD k 0 then onF I0 (l1.take k) ||| bitN (l1.getD k 0) else onF I0 (l1.take k) by rw [hek, onF_snoc])
      have HLO := Lib.hid (show loadF I0 (l1.take (k + 1)) = if 0 < l1.getD k 0 then loadF I0 (l1.take k) + (stp I0 (l1.getD k 0)).d else loadF I0 (l1.take k) by rw [hek, loadF_snoc])
      have HSL := Lib.hid (seenF_lt (l1.take k))
      have HOL := Lib.hid (onF_lt I0 (l1.take k))
      have e1 : IntKind.i64.wrap (loadF I0 (l1.take k) + (stp I0 (l1.getD k 0)).d) = loadF I0 (l1.take k) + (stp I0 (l1.getD k 0)).d := IntWalk.i64_in _ (by omega)
      have e2 : IntKind.i64.wrap (l1.getD k 0 - I0.p) = l1.getD k 0 - I0.p := IntWalk.i64_in _ (by omega)
      have e3 : IntKind.i64.wrap ((k : Int) + 1) = (k : Int) + 1 := IntWalk.i64_in _ (by omega)
      clear hbl hbd hfw hcl hek hcell hrb hk
      generalize seenF (l1.take k) = A at *
      generalize onF I0 (l1.take k) = D at *
      generalize loadF I0 (l1.take k) = Q at *
      generalize l1.getD k 0 = j at *
      have d1 : decide (j < 0) = false := decide_eq_false (by omega)
      have d2 : decide ((I0.l.length : Int) ≤ j) = false := decide_eq_false (by omega)
      by_cases h0 : j = 0
      · subst h0
        have hp : decide (I0.p < 0) = false := decide_eq_false (by omega)
        have hnil : ¬ I0.l = [] := fun h => by rw [h] at hlen; simp at hlen; omega
        have hz : ¬ I0.l.length = 0 := by omega
        rw [if_neg (by omega)] at HSE HLO
        rw [if_neg (by omega), if_neg (by omega)] at HON
        clear hj hlen hp0 hp1 e1 e2
        go_wp2
        go_roundw
        case rel => exact ⟨k + 1, by have := HKL.out; omega, by go_num, by rw [HSE.out], by rw [HON.out], by rw [HLO.out], by trivial⟩
        case measure => have := HKL.out; simp [intOf]; omega
      have d3 : decide (0 < j) = true := decide_eq_true (by omega)
      rw [if_pos (by omega)] at HSE HLO
      obtain ⟨q, rfl, hq, eq⟩ := num_stop HMM.out hj
      rw [eq] at e1 HLO
      have hqi : (q : Int) < (I0.l.length : Int) := by omega
      have d2n : decide (I0.l.length ≤ q) = false := decide_eq_false (by omega)
      have d3n : decide (0 < q) = true := decide_eq_true (by omega)
      obtain ⟨tb, off, rfl, hat, hlt0⟩ := srow_at HR.out q hq
      obtain ⟨_, _, k2, _⟩ := hat.below hlt0 HB.out
      clear hat hlt0 eq
      generalize nth I0.l q = t at *
      by_cases h1 : I0.p < q
      · have d4 := decide_eq_true h1
        rw [if_pos h1] at HON
        clear h0 h1 hj hlen hp0 hp1
        go_wp2_with fail
        refine (erwith_any _ _ _ HSL.out).mono ?_
        rintro e w' ⟨rfl, rfl⟩
        go_wp2_with fail
        refine (erwithout_any _ _ _ HOL.out).mono ?_
        rintro e w' ⟨rfl, rfl⟩
        go_wp2
        go_roundw
        case rel => exact ⟨k + 1, by have := HKL.out; omega, by go_num, by rw [HSE.out], by rw [HON.out], by rw [HLO.out], by trivial⟩
        case measure => have := HKL.out; simp [intOf]; omega
      · have d4 := decide_eq_false h1
        rw [if_neg h1, if_pos (by omega)] at HON
        clear h0 h1 hj hlen hp0 hp1
        go_wp2_with fail
        refine (erwith_any _ _ _ HSL.out).mono ?_
        rintro e w' ⟨rfl, rfl⟩
        go_wp2_with fail
        refine (erwith_any _ _ _ HOL.out).mono ?_
        rintro e w' ⟨rfl, rfl⟩
        go_wp2
        go_roundw
        case rel => exact ⟨k + 1, by have := HKL.out; omega, by go_num, by rw [HSE.out], by rw [HON.out], by rw [HLO.out], by trivial⟩
        case measure => have := HKL.out; simp [intOf]; omega
    · obtain rfl : k = l1.length := by omega
      rw [List.take_length]
      obtain ⟨f1, f2, f3, f4⟩ := HFS.out
      have hrm := HRM.out
      try simp only at f1 f2 f3 f4 hrm
      rw [← f1, ← f3, ← f4]
      subst f2
      have q3 := HU.out.c3
      have q5 := HU.out.c5
      have q6 := HU.out.c6
      have q7 := HU.out.c7
      have y2 := HY.out.cells.2.2.1
      rw [← f1] at q6
      have d9 := decide_eq_true hrm
      clear hltk hk f1 f3 f4 hrm
      go_wp2
      go_ret
      exact ⟨rfl, HB.out⟩

set_option maxRecDepth 100000 in
theorem lifted (os : Os) (started : os.Started) (H : Type) (enc : TypeId × Value → H) :
    ReturnsInHanded {} Try.checked os 19 .any (Rows.stateSeenSpec.pre6 enc Try.prog Try.f19 Rows.stateSeenRow.domain false) (Rows.stateSeenSpec.post enc Try.prog Try.f19 false true false false) := by
  refine returnsInHanded_of_change (C := Try.checked) own started (by kernel_rfl) Try.func19
    (ChangeSpec.witness6 (enc := enc) (C := Try.checked) false ⟨#[], #[.agg #[.int .i64 0, .int .i64 0, .int .i64 0, .slice none 0 0], .slice none 0 0], []⟩ 8 (by kernel_rfl) (by kernel_rfl) (by kernel_rfl) (by kernel_rfl)) ?_
  intro W base args ds gs before hval0 hW hcnd _
  have hval : ∀ (j : Nat) t v, Try.f19.params[j]? = some t → args[j]? = some v → Value.okWide Try.prog W .any base t v := hval0
  have hW' := hW
  obtain ⟨p, q, hA0, hV, rfl, hfz, hnd⟩ := hW
  have hA : DataW.TrodAll enc Try.prog W 0 (fun _ => true) true Try.f19.params.toList args.toList ds p := hA0
  rw [Try.params19] at hA hval
  obtain ⟨v0, vs0, d0, ds0, p0, q0, hargs, rfl, rfl, h0, r0⟩ := trodAll_cons hA
  obtain ⟨v1, vs1, d1, ds1, p1, q1, rfl, rfl, rfl, h1, r1⟩ := trodAll_cons r0
  obtain ⟨rfl, rfl, rfl⟩ := trodAll_nil r1
  obtain rfl : args = #[v0, v1] := by cases args; simp_all
  obtain ⟨rfl, rfl⟩ := trodVars_none hV
  have k0 := h0
  have lt0 : ∀ x ∈ p0, x.block < W.heap.size := by obtain ⟨m, hm⟩ := k0; exact DataW.trod_lt m _ _ _ hm
  have k1 := h1
  have lt1 : ∀ x ∈ p1, x.block < W.heap.size := by obtain ⟨m, hm⟩ := k1; exact DataW.trod_lt m _ _ _ hm
  obtain ⟨I0, u0, rfl, e0, _⟩ := open_inst (hval 0 26 v0 rfl rfl) h0
  obtain ⟨a1, len1, cap1, rfl⟩ := okWide_slice Try.underlying32 (hval 1 32 v1 rfl rfl)
  obtain ⟨l1, e1, _⟩ := uopen_row h1
  clear hA0 hval0
  refine (walk I0 _ _ l1 W e0 e1).mono fun e W' ⟨he, bel⟩ => ?_
  subst he
  exact ⟨_, rfl, _, _, _, [], _, [], hW', trodAll_mk1 (shut_bool Try.underlying4 _), (trodAll_cons_mk (Below.trod laidOut (by kernel_rfl) (of_decide_eq_true (by kernel_rfl)) k0 bel lt0) (trodAll_cons_mk (Below.trod laidOut (by kernel_rfl) (of_decide_eq_true (by kernel_rfl)) k1 bel lt1) trodAll_mk0)), rfl, bel.frame _, fun h => by cases h⟩

theorem over : Rows.stateSeenRow.holds Try.pinned (OpenSpec.ofChange Rows.stateSeenSpec) :=
  OpenClaim.holds_of_wide 19 Try.f19 rfl rfl rfl rfl rfl rfl rfl ⟨rfl, rfl, rfl, rfl, rfl⟩ rfl rfl rfl rfl rfl (by kernel_rfl) Try.func19 (by show joinedFacts Try.checked.prog _ _ _ _ = true; unfold joinedFacts; rw [ord_may, ord_lifts, ord_make]; kernel_rfl)
    (of_decide_eq_true (by kernel_rfl)) (by unfold Func.isWrapper; first | (rw [if_pos (by decide +kernel)]; kernel_rfl) | (rw [if_neg (by decide +kernel)]; exact ⟨rfl, rfl⟩))
    (fun os started H enc _ => lifted os started H enc)

theorem proved : Rows.StateSeenSaid := over
#print axioms proved
end Go.Proofs.Ytpgbbnmflnhlbaa.stateSeen
