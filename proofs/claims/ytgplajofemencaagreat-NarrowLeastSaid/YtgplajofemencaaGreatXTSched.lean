/- How the way of a car, as the program goes it, is the document's: bounds, what is wrong with a stop, what is wrong with the yard. -/
import Derived.Test.YtgplajofemencaaGreatXTCar
import Derived.Test.YtgplajofemencaaGreatXTVisit
import Derived.Deep.WholeRow
import Derived.Test.YtgplajofemencaaGreatYB
namespace Go.Proofs.YtgplajofemencaaGreat

theorem nodup_le : ∀ (m : Nat) (l : List Int), l.Nodup → (∀ i, i ∈ l → 1 ≤ i ∧ i ≤ (m : Int)) → l.length ≤ m
  | 0, l, _, h => by
    match l with
    | [] => simp
    | i :: _ => have := h i (by simp); omega
  | m + 1, l, hn, h => by
    have h1 : (l.erase ((m : Int) + 1)).length ≤ m := nodup_le m _ (hn.erase _) (fun i hi => by
      have h2 := (hn.mem_erase_iff).1 hi
      have := h i h2.2
      have := h2.1
      omega)
    by_cases c : (m : Int) + 1 ∈ l
    · rw [List.length_erase_of_mem c] at h1; omega
    · rw [List.erase_of_not_mem c] at h1; omega
theorem goE_len {I : Ins} (hf : Fine I) {l : List Int} {s : TS} (h : goE I l = .ok s) : l.length ≤ 32 := by
  have hg := goE_good l s h
  have := nodup_le (2 * I.p).toNat l hg.nodup (fun i hi => by have := hg.rng i hi; have := hf.p0; omega)
  have := hf.p1
  omega
/-- The bounds of what a car is at. -/
theorem goE_bds {I : Ins} (hf : Fine I) : ∀ (l : List Int) (s : TS), goE I l = .ok s → (0 ≤ s.now ∧ s.now ≤ 1049576) ∧ (0 ≤ s.far ∧ s.far ≤ 14143 * (l.length : Int)) ∧ (0 ≤ heldL I l ∧ heldL I l ≤ 1000) ∧ ∃ a : Nat, a < I.l.length ∧ atS l = (a : Int) ∧ s.last = stp I a :=
  goE_ind (by
    have h0 := stop_in (hf.ok 0 (Int.le_refl _) (by have := hf.p0; omega))
    have hl := hf.len
    have hp := hf.p0
    refine ⟨?_, by simp [startT], by rw [heldL_nil]; omega, 0, by omega, rfl, rfl⟩
    show 0 ≤ (stp I 0).r ∧ (stp I 0).r ≤ 1049576
    omega) (fun l i s s' hg hp h => by
    obtain ⟨_, ⟨f0, f1⟩, ⟨h0, _⟩, _⟩ := hp
    have hgo : goE I (l ++ [i]) = .ok s' := by rw [goE_snoc, hg]; exact h
    obtain ⟨hw, hb, rfl⟩ := stepE_ok h
    rw [(goE_seen l s hg).1] at hw
    obtain ⟨w1, w2, w3, w4, w5⟩ := wrongE_zero hw
    obtain ⟨_, _, k0, k1, k2⟩ := stop_in (hf.ok i (by omega) w2)
    have hfb := farF_bd s.last (stp I i)
    have hl := hf.len
    have hr := hf.room
    have hh := held_nonneg hf hgo
    have hb2 : (stp I i).r ≤ (tmAt s (stp I i)).begn := Int.le_max_right _ _
    refine ⟨?_, ?_, ⟨hh, by rw [heldL_snoc]; omega⟩, i.toNat, by omega, by rw [atS_snoc]; omega, ?_⟩
    · show 0 ≤ (tmAt s (stp I i)).begn + (stp I i).s ∧ (tmAt s (stp I i)).begn + (stp I i).s ≤ 1049576
      omega
    · show 0 ≤ s.far + farF s.last (stp I i) ∧ s.far + farF s.last (stp I i) ≤ 14143 * ((l ++ [i]).length : Int)
      rw [List.length_append, List.length_singleton]
      omega
    · show stp I i = stp I _
      rw [show ((i.toNat : Nat) : Int) = i by omega])
theorem step_next {I : Ins} {s : TS} {i : Int} : stepE I s i = if nextE I s.seen s.now s.last i ≠ 0 then .error (nextE I s.seen s.now s.last i) else .ok (nextT s i (stp I i)) := by
  unfold stepE nextE
  rw [tmAt_eq]
  by_cases h1 : wrongE I s.seen i = 0 <;> by_cases h2 : (stp I i).u < (tmN s.now s.last (stp I i)).begn <;> simp [h1, h2]
theorem end_held {I : Ins} (hf : Fine I) {l : List Int} {s : TS} (h : goE I l = .ok s) : endE I l = 0 ↔ ¬ 0 < heldL I l := by
  constructor
  · intro he; rw [held_end hf h he]; omega
  · intro hn
    refine endE_of (fun i hi hp => Decidable.byContradiction (fun hc => ?_))
    have h1 := held_ge hf h hi hp hc
    have h2 := (goE_good l s h).rng i hi
    have h3 := hf.take i h2.1 hp
    omega
/-- The whole way, as the program goes it. -/
theorem fin_back {I : Ins} (hf : Fine I) {l : List Int} {s : TS} (h : goE I l = .ok s) : finE I l = if backE (heldL I l) I s.now s.last ≠ 0 then .error (backE (heldL I l) I s.now s.last) else .ok s := by
  unfold finE backE
  rw [h]
  simp only [Except.bind]
  by_cases h1 : 0 < heldL I l
  · have : endE I l ≠ 0 := fun e => ((end_held hf h).1 e) h1
    rw [if_pos this, if_pos h1]; rfl
  · have : endE I l = 0 := (end_held hf h).2 h1
    rw [if_neg (by omega), if_neg h1]
    unfold backT
    by_cases h2 : (nth I.l 0).u < s.now + farF s.last (nth I.l 0)
    · rw [if_pos h2, if_pos h2]; rfl
    · rw [if_neg h2, if_neg h2]; rfl
section
variable {I : Ins} {l : List Int} {e : Int} {s : TS}
theorem err_of (h : timesE I l = .error e) : errT I l = e ∧ outT I l = [] ∧ farT I l = 0 ∧ loadsT I l = [] := by
  have he := timesE_err h
  have h1 : errT I l = e := by unfold errT; rw [h]
  exact ⟨h1, by unfold outT; rw [h], by unfold farT; rw [h], by unfold loadsT; rw [if_neg (by omega)]⟩
theorem ok_of (h : timesE I l = .ok s) : errT I l = 0 ∧ outT I l = s.out ∧ farT I l = s.far + farF s.last (nth I.l 0) ∧ loadsT I l = loadsL I l := by
  exact ⟨by unfold errT; rw [h], by unfold outT; rw [h], by unfold farT; rw [h], loadsT_at h⟩
theorem times_go_err (hm : mayB I = true) {k : Nat} (h : goE I (l.take k) = .error e) : timesE I l = .error e := by
  unfold timesE finE
  rw [if_pos hm]
  have := goE_stays (b := l.drop k) h
  rw [List.take_append_drop] at this
  rw [this]; rfl
end
theorem go_take_next {I : Ins} {l : List Int} {k : Nat} {s : TS} (hk : k < l.length) (h : goE I (l.take k) = .ok s) : goE I (l.take (k + 1)) = stepE I s (l.getD k 0) := by
  rw [take_snoc hk, goE_snoc, h]; rfl
end Go.Proofs.YtgplajofemencaaGreat
/- What a car's follow answers: the whole way. -/
namespace Go.Proofs.YtgplajofemencaaGreat
open Go.ChangeShapes Go.WideShapes Go.ChangeAt Go.RowKit

/-- Where something is wrong: what it is lies in slot 5, and the car somewhere on its way. -/
def EndJ (w0 : World) (b : Nat) (I : Ins) (l : List Int) (a' : Act) (w' : World) : Prop :=
  ∃ (e : Int) (u1 u2 u3 u4 u6 u7 u8 u9 u10 u11 u12 u13 u14 u15 u16 u17 u18 u19 u20 u21 u22 u23 u24 u25 u26 u27 u28 u29 u30 u31 u32 u33 u34 u35 u36 u37 u38 u39 u40 u41 u42 u43 u44 u45 u46 u47 u48 u49 u50 u51 u52 u53 u54 u55 u56 : Value), a' = { tmps := #[.pointer (some ⟨b, 0, none⟩), u1, u2, u3, u4, .int .i64 e, u6, u7, u8, u9, u10, u11, u12, u13, u14, u15, u16, u17, u18, u19, u20, u21, u22, u23, u24, u25, u26, u27, u28, u29, u30, u31, u32, u33, u34, u35, u36, u37, u38, u39, u40, u41, u42, u43, u44, u45, u46, u47, u48, u49, u50, u51, u52, u53, u54, u55, u56], defers := [] } ∧ timesE I l = .error e ∧ (∃ sv x n g h S tv lv, CarB w' b I sv x n g h S tv lv) ∧ Below w0.heap.size w0 w'
/-- What it leaves. -/
def Gone (w0 : World) (b : Nat) (I : Ins) (l : List Int) (w' : World) : Prop :=
  ∃ tv lv, w'.cell? ⟨b, 6, none⟩ = some (.int .i64 (farT I l)) ∧ w'.cell? ⟨b, 41, none⟩ = some tv ∧ w'.cell? ⟨b, 42, none⟩ = some lv ∧ OwnT w' w0.heap.size tv (outT I l) ∧ OwnI w' w0.heap.size lv (loadsT I l) ∧ Below w0.heap.size w0 w'
/-- A car on its way behind some stops. -/
structure OnWay (w0 : World) (b : Nat) (I : Ins) (sv : Value) (s : TS) (w : World) : Prop where
  lies : ∃ (a : Nat) (tv lv : Value), a < I.l.length ∧ s.last = stp I a ∧ CarB w b I sv a s.now s.far (heldL I s.seen) (seenB s.seen) tv lv ∧ OwnT w w0.heap.size tv s.out ∧ OwnI w w0.heap.size lv (loadsL I s.seen)
  bel : Below w0.heap.size w0 w
theorem OnWay.later {w0 w w' : World} {b : Nat} {I : Ins} {sv : Value} {s : TS} (h : OnWay w0 b I sv s w) (hb : Below w.heap.size w w') : OnWay w0 b I sv s w' := by
  obtain ⟨⟨a, tv, lv, h1, h2, h3, h4, h5⟩, h6⟩ := h
  exact ⟨⟨a, tv, lv, h1, h2, h3.later hb, h4.below hb, h5.below hb⟩, h6.trans (hb.mono h6.size)⟩
theorem below_cells {M b : Nat} (hb : M ≤ b) : ∀ (vs : List Value) (o : Nat) (w0 w : World), Below M w0 w → Below M w0 (w.setCells b o vs)
  | [], _, _, _, h => h
  | v :: vs, o, w0, _, h => below_cells hb vs (o + 1) w0 _ (h.setCell (p := ⟨b, o, none⟩) hb v)
theorem CarB.there {w : World} {b : Nat} {I : Ins} {sv : Value} {a n g h : Int} {S : List Bool} {tv lv : Value} (k : CarB w b I sv a n g h S tv lv) : w.there b 0 43 := fun j hj => by
  rw [Nat.zero_add]
  refine ⟨?_, k.free j⟩
  rw [k.cell, List.getElem?_eq_getElem (by rw [carC_len k.1]; exact hj)]
  rfl
def carZ : List Value := carC noIns (.slice none 0 0) 0 0 0 0 (List.replicate 33 false) (.slice none 0 0) (.slice none 0 0)
theorem zero_cells {w : World} {b : Nat} {I : Ins} {sv : Value} {a n g h : Int} {S : List Bool} {tv lv : Value} (k : CarB w b I sv a n g h S tv lv) : (w.setCells b 0 carZ.toArray.toList).cell? ⟨b, 6, none⟩ = some (.int .i64 0) ∧ (w.setCells b 0 carZ.toArray.toList).cell? ⟨b, 41, none⟩ = some (.slice none 0 0) ∧ (w.setCells b 0 carZ.toArray.toList).cell? ⟨b, 42, none⟩ = some (.slice none 0 0) := by
  have h := World.rangeAt_setCells_same w b 0 carZ.toArray.toList k.there
  exact ⟨h 6 _ rfl, h 41 _ rfl, h 42 _ rfl⟩
set_option maxRecDepth 1000000 in
set_option maxHeartbeats 4000000 in
theorem follow_any {w0 w : World} {b : Nat} {I : Ins} {sv rv : Value} {l : List Int} (hc : CarB w b I sv 0 0 0 0 (seenB []) (.slice none 0 0) (.slice none 0 0)) (hb0 : w0.heap.size ≤ b) (hbel : Below w0.heap.size w0 w) (hr : SRow w0 sv I.l) (hl : Row w0 rv (ints l)) :
    Calls Tryz.prog 82 #[.pointer (some ⟨b, 0, none⟩), rv] w fun e w' => e = .returned (.int .i64 (errT I l)) ∧ Gone w0 b I l w' := by
  have HC := Lib.hid hc
  have HR := Lib.hid hr
  have HL := Lib.hid hl
  have HBL := Lib.hid hbel
  obtain ⟨ra, rcap, rfl, hrm⟩ := hl.form
  rw [ints_len] at *
  have hrm1 : l.length ≤ 9223372036854775807 := by unfold maxLen at hrm; omega
  clear hc hr hl hbel
  go_enter Tryz.func82, Tryz.ntmps82
  go_wp2_with fail
  refine wp_scope_all (fun n l' a' w' => n = 0 ∧ l' = 0 ∧ EndJ w0 b I l a' w') ?first ?pass
  case pass =>
    rintro n l' a' w' ⟨rfl, rfl, e, u1, u2, u3, u4, u6, u7, u8, u9, u10, u11, u12, u13, u14, u15, u16, u17, u18, u19, u20, u21, u22, u23, u24, u25, u26, u27, u28, u29, u30, u31, u32, u33, u34, u35, u36, u37, u38, u39, u40, u41, u42, u43, u44, u45, u46, u47, u48, u49, u50, u51, u52, u53, u54, u55, u56, rfl, hte, ⟨sv2, x, nn, g, h, S, tv, lv, hcar⟩, hb⟩
    have HCR := Lib.hid hcar
    have HB := Lib.hid hb
    have HTE := Lib.hid hte
    clear hcar hb hte
    refine ⟨_, by rfl, ?_⟩
    go_upto_region 15 with fail
    iterate 10 go_step
    refine wpList_store_mid (by rfl) 125 (.tmp 55) (.tmp 54) (by rfl) b 0 carZ.toArray (by rfl) (by rfl) (by exact HCR.out.there) (by exact infoCar) (by kernel_rfl) ?_
    have HZ := Lib.hid (zero_cells HCR.out)
    have HB2 := Lib.hid (below_cells hb0 carZ.toArray.toList 0 w0 w' HB.out)
    generalize w'.setCells b 0 carZ.toArray.toList = w4 at *
    generalize carZ.toArray = cz at *
    go_wp2
    simp only [Exit.jumps]
    obtain ⟨t1, t2, t3, t4⟩ := err_of HTE.out
    refine bodyPost_ret (v := .int .i64 e) (by simp [results, Tryz.results82, go_sem]) rfl ⟨by rw [t1], _, _, by rw [t3]; exact HZ.out.1, HZ.out.2.1, HZ.out.2.2, by rw [t2]; exact ownT_nil _ _, by rw [t4]; exact World.ownsRow_nil _ _ _ _, HB2.out⟩
  case first =>
    have q0 := HC.out.c0
    have q1 := HC.out.c1
    have q2 := HC.out.c2
    have q3 := HC.out.c3
    go_wp2_with fail
    change Calls _ _ #[insV I sv] _ _
    refine (may_any (HR.out.below HBL.out)).mono ?_
    rintro e w1 ⟨rfl, hb⟩
    have HC1 := Lib.hid (HC.out.later hb)
    have HB1 := Lib.hid (HBL.out.trans (hb.mono HBL.out.size))
    clear hb q0 q1 q2 q3
    cases hmy : mayB I
    · have HTE := Lib.hid (show timesE I l = .error 1 by unfold timesE; rw [hmy]; rfl)
      clear hmy
      go_wp2
      refine wp_goto ?_
      simp only [Exit.then]
      exact ⟨0, rfl, rfl, 1, _, _, _, _, _, _, _, _, _, _, _, _, _, _, _, _, _, _, _, _, _, _, _, _, _, _, _, _, _, _, _, _, _, _, _, _, _, _, _, _, _, _, _, _, _, _, _, _, _, _, _, _, _, _, _, rfl, HTE.out, ⟨_, _, _, _, _, _, _, _, HC1.out⟩, HB1.out⟩
    have HF := Lib.hid (fine_of hmy)
    have HM := Lib.hid hmy
    have hl0 : 0 < I.l.length := (pmay_len hmy).1
    clear hmy
    obtain ⟨ad, cap, rfl, _⟩ := HR.out.form
    obtain ⟨tb, off, rfl, hkt, hlt0⟩ := srow_at (HR.out.below HB1.out) 0 hl0
    have HKT := Lib.hid (show At w1 tb off (nth I.l 0) by rw [Nat.zero_mul, Nat.add_zero] at hkt; exact hkt)
    obtain ⟨t0, t1, t2, t3, t4, t5⟩ := HKT.out
    have q3 := HC1.out.c3
    have q5 := HC1.out.c5
    have f5 := HC1.out.free 5
    have hki : (0 : Int) < (I.l.length : Int) := by omega
    clear hkt
    go_wp2_with fail
    have HC2 := Lib.hid (HC1.out.setLeft (nth I.l 0).r)
    have HB2 := Lib.hid (HB1.out.setCell (p := ⟨b, 5, none⟩) hb0 (.int .i64 (nth I.l 0).r))
    generalize w1.setCell ⟨b, 5, none⟩ (.int .i64 (nth I.l 0).r) = w2 at *
    clear q3 q5 f5 t0 t1 t2 t3 t4 t5
    have HON := Lib.hid (show OnWay w0 b I (.slice (some ⟨tb, off, none⟩) I.l.length cap) (startT I) w2 from ⟨⟨0, .slice none 0 0, .slice none 0 0, hl0, rfl, HC2.out, ownT_nil _ _, World.ownsRow_nil _ _ _ _⟩, HB2.out⟩)
    go_loopw [27] (fun i wr => ∃ (k : Nat) (s : TS), k ≤ l.length ∧ i = .int .i64 k ∧ goE I (l.take k) = .ok s ∧ OnWay w0 b I (.slice (some ⟨tb, off, none⟩) I.l.length cap) s wr) (fun i _ => l.length - (intOf i).toNat)
    case atStart => exact ⟨0, startT I, Nat.zero_le _, rfl, rfl, HON.out⟩
    case round =>
      obtain ⟨k, s, hk, rfl, hgo, hon⟩ := hrel
      have HG := Lib.hid hgo
      have HO := Lib.hid hon
      obtain ⟨⟨a, tv, lv, ha, hla, hcar, hts, hls⟩, hbel⟩ := hon
      have HCR := Lib.hid hcar
      have HTS := Lib.hid hts
      have HLS := Lib.hid hls
      have HBE := Lib.hid hbel
      have HLA := Lib.hid hla
      have HSE := Lib.hid (goE_seen _ _ hgo)
      obtain ⟨hn0, hf0, hh0, _⟩ := goE_bds HF.out _ s hgo
      rw [← HSE.out.1] at hh0
      have hn : 0 ≤ s.now ∧ s.now ≤ 2000000 := by omega
      have hlen := goE_len HF.out hgo
      clear hgo hcar hts hls hbel hla
      by_cases hlt : k < l.length
      · obtain ⟨i, hi⟩ : ∃ i, l.getD k 0 = i := ⟨_, rfl⟩
        have HI := Lib.hid hi
        have hti : (k : Int) < (l.length : Int) := by omega
        obtain ⟨rb, ro, rfl, _, _⟩ := row_cell HL.out 0 (by rw [ints_len]; omega)
        have qr : wr.cell? ⟨rb, ro + k, none⟩ = some (.int .i64 i) := by
          rw [row_here (HL.out.below HBE.out) k (by rw [ints_len]; exact hlt), ints_at _ _ hlt, hi]
        clear hi
        go_wp2_with fail
        refine (wrongAt_any HCR.out (HR.out.below HBE.out) HM.out ha hn hh0).mono ?_
        rintro e w3 ⟨rfl, hb⟩
        have HNX := Lib.hid (step_next (I := I) (s := s) (i := i))
        rw [HLA.out] at HNX
        have HON3 := Lib.hid (HO.out.later hb)
        have HCR3 := Lib.hid (HCR.out.later hb)
        have HTS3 := Lib.hid (HTS.out.below hb)
        have HLS3 := Lib.hid (HLS.out.below hb)
        have HBE3 := Lib.hid (HBE.out.trans (hb.mono HBE.out.size))
        have HGN := Lib.hid ((go_take_next hlt HG.out).trans (by rw [HI.out]))
        clear hb qr
        by_cases hz : nextE I s.seen s.now (stp I a) i = 0
        · have HOK := Lib.hid (HNX.out.trans (if_neg (fun h => h hz)))
          rw [hz]
          clear hz
          obtain ⟨hw, _, _⟩ := stepE_ok HOK.out
          obtain ⟨hw1, hw2, _, _, _⟩ := wrongE_zero hw
          have hfl := HF.out.len
          have hfp := HF.out.p1
          obtain ⟨j, rfl⟩ : ∃ j : Nat, i = (j : Int) := ⟨i.toNat, by omega⟩
          have hst := HF.out.ok (j : Int) (by omega) hw2
          have hjl : j < I.l.length := by omega
          have hj33 : j < 33 := by omega
          have hhn := (goE_bds HF.out _ _ (HGN.out.trans HOK.out)).2.2.1
          rw [show l.take (k + 1) = s.seen ++ [(j : Int)] by rw [HSE.out.1, take_snoc hlt, HI.out], heldL_snoc] at hhn
          have hTl : s.out.length ≤ 1000 := by rw [HSE.out.2]; omega
          have hQl : (loadsL I s.seen).length ≤ 1000 := by rw [loadsL_len, HSE.out.1]; omega
          have hg9 : 0 ≤ s.far ∧ s.far ≤ 1000000000 := by omega
          clear hw hw1 hw2 hfl hfp
          go_wp2_with fail
          refine (visit_any HCR3.out hb0 HTS3.out HLS3.out HBE3.out HR.out ha hjl hj33 hn hst hg9 (by omega) hTl hQl).mono ?_
          rintro e w4 ⟨rfl, tv2, lv2, hc4, ht4, hq4, hb4⟩
          have HON4 := Lib.hid (show OnWay w0 b I (.slice (some ⟨tb, off, none⟩) I.l.length cap) (nextT s (j : Int) (stp I (j : Int))) w4 from by
            refine ⟨⟨j, tv2, lv2, hjl, rfl, ?_, ?_, ?_⟩, hb4⟩
            · show CarB w4 b I _ (j : Int) (tmAt s (stp I j)).leave (s.far + farF s.last (stp I j)) (heldL I (s.seen ++ [(j : Int)])) (seenB (s.seen ++ [(j : Int)])) tv2 lv2
              rw [heldL_snoc, ← seenB_snoc, tmAt_eq, HLA.out]; exact hc4
            · show OwnT w4 _ tv2 (s.out ++ [tmAt s (stp I j)])
              rw [tmAt_eq, HLA.out]; exact ht4
            · show OwnI w4 _ lv2 (loadsL I (s.seen ++ [(j : Int)]))
              rw [loadsL_snoc, heldL_snoc]; exact hq4)
          clear hc4 ht4 hq4 hb4
          go_wp2_with fail
          go_roundw
          case rel => exact ⟨k + 1, _, by omega, by go_num, HGN.out.trans HOK.out, HON4.out⟩
          case measure => simp [intOf]; omega
        · have HER := Lib.hid (HGN.out.trans (HNX.out.trans (if_pos hz)))
          have d1 : (nextE I s.seen s.now (stp I a) i != 0) = true := by simp [hz]
          generalize nextE I s.seen s.now (stp I a) i = er at *
          clear hz
          go_wp2
          refine wp_goto ?_
          simp only [Exit.then, Exit.inBlock]
          exact ⟨0, rfl, rfl, er, _, _, _, _, _, _, _, _, _, _, _, _, _, _, _, _, _, _, _, _, _, _, _, _, _, _, _, _, _, _, _, _, _, _, _, _, _, _, _, _, _, _, _, _, _, _, _, _, _, _, _, _, _, _, _, rfl, times_go_err HM.out HER.out, ⟨_, _, _, _, _, _, _, _, HCR3.out⟩, HBE3.out⟩
      · obtain rfl : k = l.length := by omega
        have HG2 := Lib.hid (show goE I l = .ok s by have := HG.out; rwa [List.take_length] at this)
        have HSE2 := Lib.hid (show s.seen = l by rw [HSE.out.1, List.take_length])
        clear hlt hk
        go_wp2_with fail
        refine (wrongBack_any HCR.out (HR.out.below HBE.out) HM.out ha hn).mono ?_
        rintro e w3 ⟨rfl, hb⟩
        have HFB := Lib.hid (fin_back HF.out HG2.out)
        rw [HLA.out] at HFB
        rw [HSE2.out]
        have HCR3 := Lib.hid (HCR.out.later hb)
        have HTS3 := Lib.hid (HTS.out.below hb)
        have HLS3 := Lib.hid (HLS.out.below hb)
        have HBE3 := Lib.hid (HBE.out.trans (hb.mono HBE.out.size))
        clear hb
        by_cases hz : backE (heldL I l) I s.now (stp I a) = 0
        · have HOK := Lib.hid (show timesE I l = .ok s by unfold timesE; rw [if_pos HM.out]; exact HFB.out.trans (if_neg (fun h => h hz)))
          rw [hz]
          clear hz
          have hfb := farF_bd (stp I a) (stp I 0)
          have e1 : IntKind.i64.wrap (s.far + farF (stp I a) (stp I 0)) = s.far + farF (stp I a) (stp I 0) := IntWalk.i64_in _ (by omega)
          have HFE := Lib.hid (show s.far + farF (stp I a) (stp I 0) = farT I l by rw [(ok_of HOK.out).2.2.1, HLA.out]; rfl)
          go_wp2_with fail
          have HC4 := Lib.hid (HCR3.out.later ((Below.refl _ w3).drew))
          have HB4 := Lib.hid (HBE3.out.drew)
          have HT4 := Lib.hid (HTS3.out.below ((Below.refl _ w3).drew))
          have HQ4 := Lib.hid (HLS3.out.below ((Below.refl _ w3).drew))
          have hSn : Holds [(⟨b, 6, none⟩, .int .i64 s.far)] w3.drew := ⟨HC4.out.c6, trivial⟩
          refine wp_until (S := Holds [(⟨b, 6, none⟩, .int .i64 s.far)]) (m := 9) (by kernel_rfl) ?_
          generalize w3.drew = wd at *
          refine until_take (i := 0) (oi := ?oz134) (v := ?vz134) ?iz134 (by kernel_rfl) (by kernel_rfl) (by kernel_rfl) (by kernel_rfl) (by kernel_rfl) ?qz134 (Or.inl ⟨?gz134, ?hz134⟩) (by assumption) ?rz134
          case iz134 => (simp only [List.getElem?_toArray, List.getElem?_cons_zero]; rfl)
          case qz134 => exact fun _ _ _ h => h
          case gz134 => rfl
          case hz134 => (intro w hSw; (simp only [Holds] at hSw); go_simp <;> with_reducible rfl)
          simp only [Act.put, List.setIfInBounds_toArray, List.set_cons_zero, List.set_cons_succ]
          refine until_take (i := 1) (oi := ?oz135) (v := ?vz135) ?iz135 (by kernel_rfl) (by kernel_rfl) (by kernel_rfl) (by kernel_rfl) (by kernel_rfl) ?qz135 (Or.inl ⟨?gz135, ?hz135⟩) (by assumption) ?rz135
          case iz135 => (simp only [List.getElem?_toArray, List.getElem?_cons_zero, List.getElem?_cons_succ]; rfl)
          case qz135 => exact fun _ _ _ h => h
          case gz135 => rfl
          case hz135 => (intro w hSw; (simp only [Holds] at hSw); go_simp <;> with_reducible rfl)
          simp only [Act.put, List.setIfInBounds_toArray, List.set_cons_zero, List.set_cons_succ]
          refine until_take (i := 2) (oi := ?oz136) (v := ?vz136) ?iz136 (by kernel_rfl) (by kernel_rfl) (by kernel_rfl) (by kernel_rfl) (by kernel_rfl) ?qz136 (Or.inl ⟨?gz136, ?hz136⟩) (by assumption) ?rz136
          case iz136 => (simp only [List.getElem?_toArray, List.getElem?_cons_zero, List.getElem?_cons_succ]; rfl)
          case qz136 => exact fun _ _ _ h => h
          case gz136 => rfl
          case hz136 => (intro w hSw; (simp only [Holds] at hSw); go_simp <;> with_reducible rfl)
          simp only [Act.put, List.setIfInBounds_toArray, List.set_cons_zero, List.set_cons_succ]
          refine until_take (i := 3) (oi := ?oz137) (v := ?vz137) ?iz137 (by kernel_rfl) (by kernel_rfl) (by kernel_rfl) (by kernel_rfl) (by kernel_rfl) ?qz137 (Or.inl ⟨?gz137, ?hz137⟩) (by assumption) ?rz137
          case iz137 => (simp only [List.getElem?_toArray, List.getElem?_cons_zero, List.getElem?_cons_succ]; rfl)
          case qz137 => exact fun _ _ _ h => h
          case gz137 => rfl
          case hz137 => (intro w hSw; (simp only [Holds] at hSw); go_simp <;> with_reducible rfl)
          simp only [Act.put, List.setIfInBounds_toArray, List.set_cons_zero, List.set_cons_succ]
          refine until_take (i := 4) (oi := ?oz138) (v := ?vz138) ?iz138 (by kernel_rfl) (by kernel_rfl) (by kernel_rfl) (by kernel_rfl) (by kernel_rfl) ?qz138 (Or.inl ⟨?gz138, ?hz138⟩) (by assumption) ?rz138
          case iz138 => (simp only [List.getElem?_toArray, List.getElem?_cons_zero, List.getElem?_cons_succ]; rfl)
          case qz138 => exact fun _ _ _ h => h
          case gz138 => rfl
          case hz138 => (intro w hSw; (simp only [Holds] at hSw); go_simp <;> with_reducible rfl)
          simp only [Act.put, List.setIfInBounds_toArray, List.set_cons_zero, List.set_cons_succ]
          refine until_ready (rs := [5]) (by kernel_rfl) (by simp) ?_
          refine (NextU.cons (o := ?oz139) ?iz139 (fun K hK => ?kz139) NextU.nil)
          case iz139 => (simp only [List.getElem?_toArray, List.getElem?_cons_zero, List.getElem?_cons_succ]; rfl)
          go_simp
          refine (farTo_any (k := 0) HC4.out (HR.out.below HB4.out) ha hl0).mono ?_
          rintro e w5 ⟨rfl, hb⟩
          have HC5 := Lib.hid (HC4.out.later hb)
          have HB5 := Lib.hid (HB4.out.trans (hb.mono HB4.out.size))
          have HT5 := Lib.hid (HT4.out.below hb)
          have HQ5 := Lib.hid (HQ4.out.below hb)
          clear hb hSn
          refine hK.out _ _ ⟨HC5.out.c6, trivial⟩ (fun hSn => ?_)
          clear hK
          refine until_take (i := 6) (oi := ?oz140) (v := ?vz140) ?iz140 (by kernel_rfl) (by kernel_rfl) (by kernel_rfl) (by kernel_rfl) (by kernel_rfl) ?qz140 (Or.inl ⟨?gz140, ?hz140⟩) (by assumption) ?rz140
          case iz140 => (simp only [List.getElem?_toArray, List.getElem?_cons_zero, List.getElem?_cons_succ]; rfl)
          case qz140 => exact fun _ _ _ h => h
          case gz140 => rfl
          case hz140 => (intro w hSw; (simp only [Holds] at hSw); go_simp <;> with_reducible rfl)
          simp only [Act.put, List.setIfInBounds_toArray, List.set_cons_zero, List.set_cons_succ]
          refine anyhow_take (i := 7) (oi := ?oz141) (v := ?vz141) ?iz141 (by kernel_rfl) (by kernel_rfl) (by kernel_rfl) (by decide) ?qz141 (Or.inl ⟨?gz141, ?hz141⟩) (Or.inr (by assumption)) ?rz141
          case iz141 => (simp only [List.getElem?_toArray, List.getElem?_cons_zero, List.getElem?_cons_succ]; rfl)
          case qz141 => exact fun _ _ _ h => h
          case gz141 => rfl
          case hz141 => (intro w hSw; clear hSw; go_simp <;> with_reducible rfl)
          simp only [Act.put, List.setIfInBounds_toArray, List.set_cons_zero, List.set_cons_succ]
          refine until_take (i := 8) (oi := ?oz142) (v := ?vz142) ?iz142 (by kernel_rfl) (by kernel_rfl) (by kernel_rfl) (by kernel_rfl) (by kernel_rfl) ?qz142 (Or.inl ⟨?gz142, ?hz142⟩) (by assumption) ?rz142
          case iz142 => (simp only [List.getElem?_toArray, List.getElem?_cons_zero, List.getElem?_cons_succ]; rfl)
          case qz142 => exact fun _ _ _ h => h
          case gz142 => rfl
          case hz142 => (intro w hSw; (simp only [Holds] at hSw); go_simp <;> with_reducible rfl)
          simp only [Act.put, List.setIfInBounds_toArray, List.set_cons_zero, List.set_cons_succ]
          have q6 := HC5.out.c6
          have f6 := HC5.out.free 6
          refine until_ready (rs := [9]) (by kernel_rfl) (by simp) ?_
          refine (NextU.late (o := ?oz143) ?iz143 (by first | exact Or.inl rfl | exact Or.inr (by kernel_rfl)) (fun K hK => ?kz143) NextU.nil)
          case iz143 => (simp only [List.getElem?_toArray, List.getElem?_cons_zero, List.getElem?_cons_succ]; rfl)
          go_simp
          have HC6 := Lib.hid (HC5.out.setGone (s.far + farF (stp I a) (stp I 0)))
          have HG6 := Lib.hid (show w5.grownBy (w5.setCell ⟨b, 6, none⟩ (.int .i64 (s.far + farF (stp I a) (stp I 0)))) (some b) from ⟨rfl, rfl, rfl, by simp [World.setCell], fun j _ hj => heap_setCell_other w5 ⟨b, 6, none⟩ j _ (fun e => hj (by rw [e]))⟩)
          have HT6 := Lib.hid (HT5.out.kept HG6.out (.inr (own_car HC5.out HT5.out (by decide))))
          have HQ6 := Lib.hid (World.ownsRow.kept (show w5.ownsRow w0.heap.size 3 1 lv (loadsL I s.seen).length (ints (loadsL I s.seen)) from HQ5.out) HG6.out (.inr (own_car HC5.out (show w5.ownsRow w0.heap.size 3 1 lv (loadsL I s.seen).length (ints (loadsL I s.seen)) from HQ5.out) (by decide))))
          have HB6 := Lib.hid (HB5.out.setCell (p := ⟨b, 6, none⟩) hb0 (.int .i64 (s.far + farF (stp I a) (stp I 0))))
          generalize w5.setCell ⟨b, 6, none⟩ (.int .i64 (s.far + farF (stp I a) (stp I 0))) = w6 at *
          refine hK.out _ _ ?_
          refine until_done (by kernel_rfl) ?_ _
          go_wp2
          simp only [Exit.jumps]
          obtain ⟨t1, t2, t3, t4⟩ := ok_of HOK.out
          refine bodyPost_ret (v := .int .i64 0) (by simp [results, Tryz.results82, go_sem]) rfl ⟨by rw [t1], tv, lv, by rw [← HFE.out]; exact HC6.out.c6, HC6.out.ct, HC6.out.cl, by rw [t2]; exact HT6.out, by rw [t4, ← HSE2.out]; exact HQ6.out, HB6.out⟩
        · have HER := Lib.hid (show timesE I l = .error (backE (heldL I l) I s.now (stp I a)) by unfold timesE; rw [if_pos HM.out]; exact HFB.out.trans (if_pos hz))
          have d1 : (backE (heldL I l) I s.now (stp I a) != 0) = true := by simp [hz]
          generalize backE (heldL I l) I s.now (stp I a) = er at *
          clear hz
          go_wp2
          refine wp_goto ?_
          simp only [Exit.then]
          exact ⟨0, rfl, rfl, er, _, _, _, _, _, _, _, _, _, _, _, _, _, _, _, _, _, _, _, _, _, _, _, _, _, _, _, _, _, _, _, _, _, _, _, _, _, _, _, _, _, _, _, _, _, _, _, _, _, _, _, _, _, _, _, rfl, HER.out, ⟨_, _, _, _, _, _, _, _, HCR3.out⟩, HBE3.out⟩
end Go.Proofs.YtgplajofemencaaGreat
/- What sched's Times and Loads answer. -/
namespace Go.Proofs.YtgplajofemencaaGreat
open Go.ChangeShapes Go.WideShapes Go.ChangeAt Go.RowKit

/-- A whole struct, into the block that was made last. -/
theorem wpList_store_whole {P : Program} {ops : Array Oper} {rest : List Oper} {op : Oper} {a : Act} {w : World} {Q : Exit → Act → World → Prop} (hgd : op.guard = none) (ty : TypeId) (x y : Operand) (ho : op.op = .store ty x y)
    (W : World) (N : Nat) (c c' : Array Value) (hw : w = W.alloc (.cells c ty)) (hN : W.heap.size = N) (hx : a.eval x = .pointer (some ⟨N, 0, none⟩)) (hy : a.eval y = .agg c')
    (hi : (P.info? ty).map (·.size) = some c'.size) (hs : c.size = c'.size) (h1 : c'.all (·.oneCell') = true)
    (h : wpList P ops Q rest (a.put op.dst undef) (W.alloc (.cells c' ty))) : wpList P ops Q (op :: rest) a w := by
  subst hw hN
  refine wpList_plain hgd fun K hK => ?_
  unfold Oper.wp execOp
  simp only [ho, hx, hy, run_storeAt_new W ty c c' hi hs h1, Sem.run_bind, Sem.run_pure, Result.andThen_ok]
  exact hK _ _ h
theorem car_new (w : World) (I : Ins) (v : Value) : CarB (w.alloc (.cells (carC I v 0 0 0 0 (List.replicate 33 false) (.slice none 0 0) (.slice none 0 0)).toArray 125)) w.heap.size I v 0 0 0 0 (seenB []) (.slice none 0 0) (.slice none 0 0) := by
  rw [seenB_nil]; exact ⟨by simp, heap_alloc_new w _⟩
set_option maxRecDepth 1000000 in
set_option maxHeartbeats 4000000 in
theorem times_any {w : World} {v rv : Value} {I : Ins} {l : List Int} (hr : SRow w v I.l) (hl : Row w rv (ints l)) :
    Calls Tryz.prog 54 #[insV I v, rv] w fun e w' => ∃ u, e = .returned (.tuple #[u, .int .i64 (farT I l), .int .i64 (errT I l)]) ∧ OwnT w' w.heap.size u (outT I l) ∧ Below w.heap.size w w' := by
  have HR := Lib.hid hr
  have HL := Lib.hid hl
  obtain ⟨ad, cap, rfl, _⟩ := hr.form
  clear hr hl
  unfold insV
  go_enter Tryz.func54, Tryz.ntmps54
  go_wp2_with (refine wpList_store_whole (by rfl) 125 (.tmp 7) (.tmp 10) (by rfl) (w.alloc (boxI I (.slice ad I.l.length cap))) (w.heap.size + 1) _ (carC I (.slice ad I.l.length cap) 0 0 0 0 (List.replicate 33 false) (.slice none 0 0) (.slice none 0 0)).toArray (by rfl) (by simp) (by rfl) (by rfl) (by exact infoCar) (by rfl) (by kernel_rfl) ?_)
  have hcn := car_new (w.alloc (boxI I (.slice ad I.l.length cap))) I (.slice ad I.l.length cap)
  rw [show (w.alloc (boxI I (.slice ad I.l.length cap))).heap.size = w.heap.size + 1 by simp] at hcn
  have HCB := Lib.hid hcn
  have HB := Lib.hid (((Below.refl _ w).alloc (Nat.le_refl _) (boxI I (.slice ad I.l.length cap))).alloc (by simp) (.cells (carC I (.slice ad I.l.length cap) 0 0 0 0 (List.replicate 33 false) (.slice none 0 0) (.slice none 0 0)).toArray 125))
  change Calls _ _ _ ((w.alloc (boxI I (.slice ad I.l.length cap))).alloc (.cells (carC I (.slice ad I.l.length cap) 0 0 0 0 (List.replicate 33 false) (.slice none 0 0) (.slice none 0 0)).toArray 125)) _
  generalize (w.alloc (boxI I (.slice ad I.l.length cap))).alloc (.cells (carC I (.slice ad I.l.length cap) 0 0 0 0 (List.replicate 33 false) (.slice none 0 0) (.slice none 0 0)).toArray 125) = W at *
  clear hcn
  refine (follow_any HCB.out (Nat.le_succ _) HB.out HR.out HL.out).mono ?_
  rintro e w2 ⟨rfl, tv, lv, c6, ct, cl, ht, hq, hb⟩
  have HTT := Lib.hid ht
  have HQQ := Lib.hid hq
  have HB2 := Lib.hid hb
  clear ht hq hb
  go_wp2_with fail
  go_quiet (fail)
  go_wp2
  exact bodyPost_ret (v := .tuple #[tv, .int .i64 (farT I l), .int .i64 (errT I l)]) (by simp [results, Tryz.results54, go_sem]) rfl ⟨_, rfl, HTT.out.below ((below_drewN (Below.refl _ _) nq)), below_drewN HB2.out nq⟩
end Go.Proofs.YtgplajofemencaaGreat
/- The chapter's example. -/
namespace Go.Proofs.YtgplajofemencaaGreat
open Go.ChangeShapes Go.WideShapes Go.ChangeAt Go.RowKit

theorem small_f1 : farF (nth smallI.l 0) (stp smallI 1) = 3 := rootOf_eq 9 3 (by decide) (by decide) ⟨by decide, by decide, by decide⟩
theorem small_f2 : farF (stp smallI 1) (stp smallI 2) = 5 := rootOf_eq 25 5 (by decide) (by decide) ⟨by decide, by decide, by decide⟩
theorem small_f3 : farF (stp smallI 2) (nth smallI.l 0) = 4 := rootOf_eq 16 4 (by decide) (by decide) ⟨by decide, by decide, by decide⟩
/-- Two numbers in a list made on the spot. -/
theorem row_two (w : World) (a b : Int) : Row (w.alloc (.cells #[.int .i64 a, .int .i64 b] 3)) (.slice (some ⟨w.heap.size, 0, none⟩) 2 2) (ints [a, b]) := by
  refine ⟨by simp [ints, maxLen], _, _, rfl, by simp [ints], ⟨by simp [maxLen], by simp⟩, .inr ⟨_, _, rfl, fun i hi => ?_⟩⟩
  rw [cell_of_row _ _ _ _ _ _ (heap_alloc_new w _), Nat.zero_add]
  simp [ints]
end Go.Proofs.YtgplajofemencaaGreat
