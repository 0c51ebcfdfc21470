/- What plane's Near answers. -/
import Derived.Test.YtgplajofemencaaGreatYC
namespace Go.Proofs.YtgplajofemencaaGreat
open Go.ChangeShapes Go.WideShapes Go.ChangeAt Go.RowKit

/-- Of each row the least, less the one at its own place. -/
def nearK (M : List (List Int)) (k : Nat) : List Int := (List.range k).map (fun i => leastL ((M.getD i []).eraseIdx i))
def nearM (M : List (List Int)) : List Int := nearK M M.length
theorem nearK_len (M : List (List Int)) (k : Nat) : (nearK M k).length = k := by simp [nearK]
/-- The squares of how far it is to place i from each of the first k places, less itself. -/
def sqs (l : List Stp) (i k : Nat) : List Int := ((List.range k).filter (fun j => j != i)).map (fun j => sqF (nth l j) (nth l i))
theorem sqs_skip (l : List Stp) (i : Nat) : sqs l i (i + 1) = sqs l i i := by
  unfold sqs
  rw [List.range_succ, List.filter_append]
  simp
theorem sqs_next (l : List Stp) (i k : Nat) (h : k ≠ i) : sqs l i (k + 1) = sqs l i k ++ [sqF (nth l k) (nth l i)] := by
  unfold sqs
  rw [List.range_succ, List.filter_append, List.map_append]
  simp [h]
theorem sqs_bd (l : List Stp) (i k : Nat) : ∀ x ∈ sqs l i k, 0 ≤ x ∧ x ≤ 200000000 := by
  intro x hx
  unfold sqs at hx
  obtain ⟨j, _, rfl⟩ := List.mem_map.1 hx
  exact sqF_bd _ _
theorem range_less : ∀ (n i : Nat), n ≤ i → (List.range n).filter (fun j => j != i) = List.range n
  | 0, _, _ => rfl
  | n + 1, i, h => by
    rw [List.range_succ, List.filter_append, range_less n i (by omega)]
    simp
    omega
theorem range_erase {α : Type} (g : Nat → α) : ∀ (n i : Nat), i < n → ((List.range n).map g).eraseIdx i = ((List.range n).filter (fun j => j != i)).map g
  | n + 1, i, h => by
    rw [List.range_succ, List.map_append, List.filter_append, List.map_append]
    by_cases c : i = n
    · subst c
      rw [List.eraseIdx_append_of_length_le (by simp), range_less i i (Nat.le_refl _)]
      simp
    · rw [List.eraseIdx_append_of_lt_length (by simp; omega), range_erase g n i (by omega)]
      have : (n != i) = true := by simp; omega
      simp [this]
theorem root_mono (a b : Int) (h : a ≤ b) (hb : b ≤ 200000000) : rootOf a ≤ rootOf b := by
  obtain ⟨h1, h2⟩ := root_sq b (by omega)
  exact root_le a _ h1 (by omega) (by omega)
theorem root_min (a b : Int) (ha : 0 ≤ a ∧ a ≤ 200000000) (hb : 0 ≤ b ∧ b ≤ 200000000) : min (rootOf a) (rootOf b) = rootOf (min a b) := by
  by_cases c : a ≤ b
  · have := root_mono a b c hb.2
    rw [show min a b = a by omega]; omega
  · have := root_mono b a (by omega) ha.2
    rw [show min a b = b by omega]; omega
theorem root_fold : ∀ (r : List Int) (a : Int), (0 ≤ a ∧ a ≤ 200000000) → (∀ x ∈ r, 0 ≤ x ∧ x ≤ 200000000) → (r.map rootOf).foldl min (rootOf a) = rootOf (r.foldl min a)
  | [], _, _, _ => rfl
  | b :: r, a, ha, hr => by
    have hb := hr b (by simp)
    rw [List.map_cons, List.foldl_cons, List.foldl_cons, root_min a b ha hb]
    exact root_fold r (min a b) (by omega) (fun x hx => hr x (by simp [hx]))
theorem root_none : rootOf 0 = 0 := by
  have h1 := root_le 0 0 (by omega) (by omega) (by omega)
  have h2 := (root_sq 0 (by omega)).1
  omega
theorem least_root (L : List Int) (h : ∀ x ∈ L, 0 ≤ x ∧ x ≤ 200000000) : leastL (L.map rootOf) = rootOf (leastL L) := by
  match L with
  | [] => exact root_none.symm
  | a :: r => exact root_fold r a (h a (by simp)) (fun x hx => h x (by simp [hx]))
theorem least_bd (L : List Int) (h : ∀ x ∈ L, 0 ≤ x ∧ x ≤ 200000000) : 0 ≤ leastL L ∧ leastL L ≤ 200000000 := by
  have key : ∀ (r : List Int) (a : Int), (0 ≤ a ∧ a ≤ 200000000) → (∀ x ∈ r, 0 ≤ x ∧ x ≤ 200000000) → 0 ≤ r.foldl min a ∧ r.foldl min a ≤ 200000000 := by
    intro r
    induction r with
    | nil => intro a ha _; exact ha
    | cons b r ih =>
      intro a ha hr
      have hb := hr b (by simp)
      exact ih (min a b) (by omega) (fun x hx => hr x (by simp [hx]))
  match L with
  | [] => show 0 ≤ (0 : Int) ∧ (0 : Int) ≤ 200000000; omega
  | a :: r => exact key r a (h a (by simp)) (fun x hx => h x (by simp [hx]))
theorem near_sq (l : List Stp) : nearM (matF l) = (List.range l.length).map (fun i => rootOf (leastL (sqs l i l.length))) := by
  unfold nearM nearK
  rw [matF_len]
  refine List.map_congr_left (fun i hi => ?_)
  have hi := List.mem_range.1 hi
  rw [matF_at l i hi, ← least_root _ (sqs_bd l i _)]
  unfold rowF sqs
  rw [range_erase _ _ _ hi, List.map_map]
  refine congrArg leastL (List.map_congr_left (fun j _ => ?_))
  show farF (nth l i) (nth l j) = rootOf (sqF (nth l j) (nth l i))
  exact (farF_comm _ _).trans (farF_sq _ _)
/-- Places, as complex numbers. -/
def plc (l : List Stp) : List Value := (List.range l.length).map (fun i => cV (nth l i))
theorem plc_len (l : List Stp) : (plc l).length = l.length := by simp [plc]
theorem plc_at (l : List Stp) (k : Nat) (hk : k < l.length) : (plc l)[k]? = some (cV (nth l k)) := by
  unfold plc
  rw [List.getElem?_map, List.getElem?_range hk]; rfl
set_option maxRecDepth 1000000 in
set_option maxHeartbeats 1000000 in
theorem leastsq_any {w : World} {v : Value} {l : List Stp} (i : Nat) (hi : i < l.length) (hl : l.length ≤ 1000000) (h : Row w v (plc l)) :
    Calls Tryz.prog 147 #[v, .int .i64 i] w fun e w' => e = .returned (.int .i64 (leastL (sqs l i l.length))) ∧ w = w' := by
  have H := Lib.hid h
  obtain ⟨ad, cap, rfl, hm⟩ := h.form
  obtain ⟨tb, off, rfl, hci, _⟩ := row_cell H.out i (by rw [plc_len]; exact hi)
  rw [plc_at l i hi] at hci
  simp only [plc_len] at *
  have hm1 : l.length ≤ 9223372036854775807 := by omega
  have hi1 : (i : Int) < (l.length : Int) := by omega
  have hi2 : (0 : Int) ≤ (i : Int) := by omega
  have HI := Lib.hid hi
  clear h hm hl hi
  unfold cV at hci
  go_enter Tryz.func147, Tryz.ntmps147
  go_wp2_with fail
  go_loop [5, 6, 12] (fun a f j => ∃ k : Nat, k ≤ l.length ∧ j = .int .i64 k ∧ a = .int .i64 (leastL (sqs l i k)) ∧ f = .bool (!(sqs l i k).isEmpty)) (fun _ _ j => l.length - (intOf j).toNat)
  case atStart => exact ⟨0, Nat.zero_le _, rfl, rfl, rfl⟩
  case round =>
    obtain ⟨k, hk, rfl, rfl, rfl⟩ := hrel
    by_cases hlt : k < l.length
    · have hc := row_here H.out k (by rw [plc_len]; exact hlt)
      rw [plc_at l k hlt] at hc
      unfold cV at hc
      by_cases hki : k = i
      · have HS := Lib.hid (show sqs l i (k + 1) = sqs l i k by subst hki; exact sqs_skip l k)
        have d1 : ((k : Int) == (i : Int)) = true := by simp; omega
        generalize sqs l i k = L at *
        have HLT := Lib.hid hlt
        clear hk hki
        go_wp2
        go_round
        case rel => exact ⟨k + 1, by have := HLT.out; omega, by go_num, by rw [HS.out], by rw [HS.out]⟩
        case measure => have := HLT.out; simp [intOf]; omega
      · have HS := Lib.hid (sqs_next l i k hki)
        have hsq := squared_any (nth l k) (nth l i) w
        unfold cV at hsq
        have d1 : ((k : Int) == (i : Int)) = false := by simp; omega
        have HLT := Lib.hid hlt
        clear hk hki
        generalize sqs l i k = L at *
        generalize sqF (nth l k) (nth l i) = x at *
        cases L with
        | nil =>
          go_wp2_with (refine hsq.mono ?_; rintro e w' ⟨rfl, rfl⟩)
          go_round
          case rel => exact ⟨k + 1, by have := HLT.out; omega, by go_num, by rw [HS.out]; rfl, by rw [HS.out]; rfl⟩
          case measure => have := HLT.out; simp [intOf]; omega
        | cons y r =>
          have HM := Lib.hid (leastL_snoc y r x)
          generalize leastL (y :: r) = z at *
          have d2 : (!(y :: r).isEmpty) = true := rfl
          rw [d2]
          by_cases hxz : x < z
          · go_wp2_with (refine hsq.mono ?_; rintro e w' ⟨rfl, rfl⟩)
            go_round
            case rel => exact ⟨k + 1, by have := HLT.out; omega, by go_num, by rw [HS.out, HM.out]; congr 1; omega, by rw [HS.out]; rfl⟩
            case measure => have := HLT.out; simp [intOf]; omega
          · go_wp2_with (refine hsq.mono ?_; rintro e w' ⟨rfl, rfl⟩)
            go_round
            case rel => exact ⟨k + 1, by have := HLT.out; omega, by go_num, by rw [HS.out, HM.out]; congr 1; omega, by rw [HS.out]; rfl⟩
            case measure => have := HLT.out; simp [intOf]; omega
    · obtain rfl : k = l.length := by omega
      clear hlt hk
      go_wp2
      go_ret
      exact ⟨rfl, rfl⟩
/-- A row of complex numbers that a call has made. -/
def OwnC (w : World) (B : Nat) (v : Value) (xs : List Value) : Prop := w.ownsRow B 174 1 v xs.length xs
theorem infoC128 : (Tryz.prog.info? 174).map (fun i => (i.zero, i.size, i.bytes)) = some (some (.complex .f64 0 0), 1, 16) := by kernel_rfl
theorem made_places (n : Nat) : (madeCells (Value.complex .f64 0 0).cells (n * 1)).toList = List.replicate n (.complex .f64 0 0) := by
  rw [show (Value.complex .f64 0 0).cells = #[Value.complex .f64 0 0] from rfl, Nat.mul_one, toList_madeCells_one]
theorem make_places {w : World} {ops : Array Oper} {rest : List Oper} {o : Oper} {a : Act} {Q : Exit → Act → World → Prop} (hgd : o.guard = none) (l c : Operand) (ho : o.op = Op.makeSlice 173 l c)
    (B n : Nat) (hl : a.eval l = .int .i64 (n : Int)) (hc : a.eval c = .int .i64 (n : Int)) (hn : n ≤ 1000000) (hB : B ≤ w.heap.size)
    (h : ∀ w', OwnC w' B (.slice (some ⟨w.heap.size, 0, none⟩) n n) (List.replicate n (.complex .f64 0 0)) → w.grownBy w' none → wpList Tryz.prog ops Q rest (a.put o.dst (.slice (some ⟨w.heap.size, 0, none⟩) n n)) w') : wpList Tryz.prog ops Q (o :: rest) a w := by
  obtain ⟨i0, hi, hz0, hz1, hz2⟩ := info_parts infoC128
  refine wpList_make_full w hgd l c 173 ho B 174 i0 _ 1 Tryz.underlying173 hi hz0 hz1 .i64 .i64 _ _ n hl hc rfl rfl (by rw [hz2]; omega) (by unfold maxLen; omega) hB ?_
  intro w' h1 h2
  refine h w' ?_ h2
  unfold OwnC
  rw [List.length_replicate, ← made_places]
  exact h1
theorem OwnC.below {w w' : World} {B : Nat} {v : Value} {xs : List Value} (h : OwnC w B v xs) (hb : Below w.heap.size w w') : OwnC w' B v xs := own_below h hb
theorem turned_by (W : World) (b o : Nat) (v : Value) : W.grownBy (W.setCell ⟨b, o, none⟩ v) (some b) :=
  ⟨rfl, rfl, rfl, ((Below.refl 0 W).setCell (p := ⟨b, o, none⟩) (Nat.zero_le _) v).size, fun k _ hk => heap_setCell_other W ⟨b, o, none⟩ k v (fun e => hk (by rw [e]))⟩
theorem OwnC.row {w : World} {B : Nat} {v : Value} {l : List Stp} (h : OwnC w B v (plc l)) : Row w v (plc l) := own_row h
theorem OwnC.stored {w : World} {B g n cap : Nat} {xs : List Value} (h : OwnC w B (.slice (some ⟨g, 0, none⟩) n cap) xs) (hn : n = xs.length) (i : Nat) (x : Value) :
    OwnC (w.setCell ⟨g, i, none⟩ x) B (.slice (some ⟨g, 0, none⟩) n cap) (xs.set i x) ∧ B ≤ g ∧ g < w.heap.size ∧ w.frozen? ⟨g, i, none⟩ = false := by
  subst hn
  have h' : w.ownsRow B 174 1 (.slice (some ⟨g, 0, none⟩) xs.length cap) xs.length xs := h
  refine ⟨?_, (World.ownsRow.lt h' g rfl).1, (World.ownsRow.lt h' g rfl).2, h'.frozenAt i⟩
  unfold OwnC
  rw [List.length_set]
  exact (h'.stored i x).1
theorem OwnC.cell {w : World} {B g n cap : Nat} {xs : List Value} (h : OwnC w B (.slice (some ⟨g, 0, none⟩) n cap) xs) (hn : n = xs.length) (i : Nat) (hi : i < xs.length) : ∃ x, w.cell? ⟨g, i, none⟩ = some x := by
  subst hn
  rw [(show w.ownsRow B 174 1 (.slice (some ⟨g, 0, none⟩) xs.length cap) xs.length xs from h).cellAt i (by omega), List.getElem?_eq_getElem hi]
  exact ⟨_, rfl⟩
set_option maxRecDepth 1000000 in
set_option maxHeartbeats 4000000 in
theorem near_any {w : World} {v : Value} {I : Ins} (h : SRow w v I.l) :
    Calls Tryz.prog 101 #[insV I v] w fun e w' => ∃ u, e = .returned u ∧ OwnI w' w.heap.size u (nearM (matI I)) ∧ Below w.heap.size w w' := by
  have H := Lib.hid h
  obtain ⟨ad, cap, rfl, hm, _⟩ := h.form
  have hm1 : I.l.length ≤ 9223372036854775807 := by unfold maxLen at hm; omega
  clear h hm
  unfold insV
  go_enter Tryz.func101, Tryz.ntmps101
  go_wp2_with fail
  change Calls _ _ #[insV I (.slice ad I.l.length cap)] (w.alloc (boxI I (.slice ad I.l.length cap))) _
  have HB0 := Lib.hid ((Below.refl _ w).alloc (Nat.le_refl _) (boxI I (.slice ad I.l.length cap)))
  have HS0 := Lib.hid (holds_box w I (.slice ad I.l.length cap))
  have hW : (w.alloc (boxI I (.slice ad I.l.length cap))).heap.size = w.heap.size + 1 := by simp
  generalize w.alloc (boxI I (.slice ad I.l.length cap)) = W at *
  refine (may_any (H.out.below HB0.out)).mono ?_
  rintro e w1 ⟨rfl, hb⟩
  have HB1 := Lib.hid hb
  have hc := Holds.below hb HS0.out (show Lows W.heap.size (cellsI w.heap.size I (.slice ad I.l.length cap)) from ⟨by show w.heap.size < _; omega, by show w.heap.size < _; omega, by show w.heap.size < _; omega, by show w.heap.size < _; omega, trivial⟩)
  simp only [cellsI, Holds] at hc
  obtain ⟨c0, c1, c2, c3, _⟩ := hc
  have hsz1 : w.heap.size + 1 ≤ w1.heap.size := by have := hb.size; omega
  have hz1 : w.heap.size < w1.heap.size := by omega
  clear hb
  cases hmy : mayB I
  · have HM := Lib.hid (show nearM (matI I) = [] by unfold matI; rw [hmy]; rfl)
    have HBB := Lib.hid (HB0.out.trans (HB1.out.mono (by omega)))
    clear hmy
    go_wp2
    go_ret
    exact ⟨_, rfl, by rw [HM.out]; exact ownI_nil _ _, HBB.out⟩
  have HM := Lib.hid (show nearM (matI I) = (List.range I.l.length).map (fun i => rootOf (leastL (sqs I.l i I.l.length))) by unfold matI; rw [hmy, if_pos rfl]; exact near_sq I.l)
  have hl33 := (pmay_len hmy).2
  have hl3 : I.l.length ≤ 1000000 := by omega
  clear hmy
  go_wp2_with (first | (at_make; refine make_places rfl _ _ rfl w.heap.size I.l.length rfl rfl hl3 (by omega) ?_))
  intro w2 hown hgrow
  have HO := Lib.hid hown
  have HB2 := Lib.hid (HB1.out.trans ((grown_below hgrow (Nat.le_refl _) (fun q hq => by simp at hq)).mono (by omega)))
  have d3 : w2.cell? ⟨w.heap.size, 3, none⟩ = some (.slice ad I.l.length cap) := (HB2.out.cell (p := ⟨w.heap.size, 3, none⟩) (by show w.heap.size < _; omega)).trans HS0.out.2.2.2.1
  have hg : w.heap.size + 1 ≤ w1.heap.size := hsz1
  generalize w1.heap.size = g at *
  clear hown hgrow c0 c1 c2 c3
  go_wp2_with fail
  go_loopw [18] (fun i wr => ∃ (k : Nat) (L : List Value), k ≤ I.l.length ∧ i = .int .i64 k ∧ OwnC wr w.heap.size (.slice (some ⟨g, 0, none⟩) I.l.length I.l.length) L ∧ Fill undef k I.l.length (fun i => cV (nth I.l i)) L ∧ Below (w.heap.size + 1) W wr) (fun i _ => I.l.length - (intOf i).toNat)
  case atStart => exact ⟨0, _, Nat.zero_le _, rfl, HO.out, Fill.none _ _ _ _, HB2.out.mono (by omega)⟩
  case round =>
    obtain ⟨k, L, hk, rfl, hon, hfl, hbw⟩ := hrel
    have HON := Lib.hid hon
    have HF := Lib.hid hfl
    have HBW := Lib.hid hbw
    have HBB := Lib.hid (HB0.out.trans (hbw.mono (Nat.le_succ _)))
    have hsz : w.heap.size + 1 ≤ wr.heap.size := by have := hbw.size; omega
    have hz0 : w.heap.size < wr.heap.size := by omega
    have b3 : wr.cell? ⟨w.heap.size, 3, none⟩ = some (.slice ad I.l.length cap) := (hbw.cell (p := ⟨w.heap.size, 3, none⟩) (by show w.heap.size < _; omega)).trans HS0.out.2.2.2.1
    clear hon hfl hbw
    by_cases hlt : k < I.l.length
    · obtain ⟨tb, off, rfl, hat, htb⟩ := srow_at H.out k hlt
      obtain ⟨e0, e1, e2, e3, e4, e5⟩ := hat.below htb HBB.out
      have HFX := Lib.hid (show ∀ x : Value, x = cV (nth I.l k) → Fill undef (k + 1) I.l.length (fun i => cV (nth I.l i)) (L.set k x) from fun x hx => HF.out.next hlt hx)
      generalize nth I.l k = u at *
      clear hat
      go_wp2_with fail
      change Calls _ _ #[stopV u] _ _
      have HBa := Lib.hid ((Below.refl _ wr).alloc (Nat.le_refl _) (.cells #[.int .i64 u.x, .int .i64 u.y, .int .i64 u.d, .int .i64 u.r, .int .i64 u.u, .int .i64 u.s] 65))
      have hWa : (wr.alloc (.cells #[.int .i64 u.x, .int .i64 u.y, .int .i64 u.d, .int .i64 u.r, .int .i64 u.u, .int .i64 u.s] 65)).heap.size = wr.heap.size + 1 := by simp
      refine (place_any u _).mono ?_
      rintro e w3 ⟨rfl, hb⟩
      have HB3 := Lib.hid (HBa.out.trans (hb.mono (by omega)))
      obtain ⟨ho2, hge, hlt2, hfr⟩ := (HON.out.below HB3.out).stored HF.out.1.symm k (cV u)
      have HO2 := Lib.hid ho2
      obtain ⟨x0, hcl⟩ := (HON.out.below HB3.out).cell HF.out.1.symm k (by rw [HF.out.1]; exact hlt)
      have HB4 := Lib.hid (HBW.out.trans (HB3.out.mono hsz))
      clear hb ho2 e0 e1 e2 e3 e4 e5 hWa
      unfold cV at *
      have hst : ∀ (W : World) (a : Addr) (m : Mode) (x y : Nat), (store a (.complex .f64 x y) m).run Tryz.prog W = stored Tryz.prog W a (.complex .f64 x y) m := fun W a m _ _ => run_store _ W a _ m rfl
      go_wp2_with fail
      go_roundw
      case rel => exact ⟨k + 1, _, by omega, by go_num, HO2.out, HFX.out _ rfl, HB4.out.setCell (p := ⟨g, k, none⟩) hg _⟩
      case measure => simp [intOf]; omega
    · obtain rfl : k = I.l.length := by omega
      have HR := Lib.hid (show L = plc I.l from HF.out.all)
      rw [HR.out] at HON
      clear hlt hk b3 HF
      generalize wr = W5 at *
      go_wp2_with (first | (at_make; refine make_ints rfl _ _ rfl w.heap.size I.l.length rfl rfl hl3 (by omega) ?_))
      intro w6 hown hgrow
      have HO6 := Lib.hid hown
      have HB6 := Lib.hid (grown_below hgrow (Nat.le_refl _) (fun q hq => by simp at hq))
      have HBW6 := Lib.hid (HBB.out.trans (HB6.out.mono (by omega)))
      have hg6 : w.heap.size ≤ W5.heap.size := by omega
      have hgg : g ≠ W5.heap.size := by have := (World.ownsRow.lt HON.out g rfl).2; omega
      have HOC6 := Lib.hid (HON.out.below HB6.out)
      generalize W5.heap.size = g6 at *
      clear hown hgrow
      go_wp2_with fail
      go_loopw [34] (fun i wr => ∃ (k : Nat) (ys : List Int), k ≤ I.l.length ∧ i = .int .i64 k ∧ OwnI wr w.heap.size (.slice (some ⟨g6, 0, none⟩) I.l.length I.l.length) ys ∧ Fill 0 k I.l.length (fun i => rootOf (leastL (sqs I.l i I.l.length))) ys ∧ OwnC wr w.heap.size (.slice (some ⟨g, 0, none⟩) I.l.length I.l.length) (plc I.l) ∧ Below w.heap.size w wr) (fun i _ => I.l.length - (intOf i).toNat)
      case atStart => exact ⟨0, _, Nat.zero_le _, rfl, HO6.out, Fill.none _ _ _ _, HOC6.out, HBW6.out⟩
      case round =>
        obtain ⟨k, ys, hk, rfl, hon, hfl, hrw, hbw⟩ := hrel
        have HON := Lib.hid hon
        have HF := Lib.hid hfl
        have HRW := Lib.hid hrw
        have HBW := Lib.hid hbw
        clear hon hfl hrw hbw
        by_cases hlt : k < I.l.length
        · have HFX := Lib.hid (show ∀ x : Int, x = rootOf (leastL (sqs I.l k I.l.length)) → Fill 0 (k + 1) I.l.length (fun i => rootOf (leastL (sqs I.l i I.l.length))) (ys.set k x) from fun x hx => HF.out.next hlt hx)
          have HLB := Lib.hid (least_bd _ (sqs_bd I.l k I.l.length))
          have HLS := Lib.hid (leastsq_any k hlt hl3 HRW.out.row)
          generalize leastL (sqs I.l k I.l.length) = x at *
          go_wp2_with fail
          refine HLS.out.mono ?_
          rintro e w7 ⟨rfl, rfl⟩
          go_wp2_with fail
          refine (root_any x _ (by have := HLB.out; omega)).mono ?_
          rintro e w7 ⟨rfl, rfl⟩
          obtain ⟨ho2, hge, hlt2, hfr⟩ := HON.out.stored k (rootOf x)
          have HO2 := Lib.hid ho2
          have hcl := HON.out.cell k (by rw [HF.out.1]; exact hlt)
          have HRK := Lib.hid (show OwnC (wr.setCell ⟨g6, k, none⟩ (.int .i64 (rootOf x))) w.heap.size (.slice (some ⟨g, 0, none⟩) I.l.length I.l.length) (plc I.l) from World.ownsRow.kept HRW.out (turned_by wr g6 k _) (.inr (by simp [Value.ownBlock]; exact hgg)))
          clear ho2
          go_wp2_with fail
          go_roundw
          case rel => exact ⟨k + 1, _, by omega, by go_num, HO2.out, HFX.out _ rfl, HRK.out, HBW.out.setCell (p := ⟨g6, k, none⟩) hge _⟩
          case measure => simp [intOf]; omega
        · obtain rfl : k = I.l.length := by omega
          have HR := Lib.hid (show ys = nearM (matI I) from HF.out.all.trans HM.out.symm)
          clear hlt hk
          go_wp2
          go_ret
          exact ⟨_, rfl, by rw [← HR.out]; exact HON.out, HBW.out⟩
end Go.Proofs.YtgplajofemencaaGreat
/- What a matrix of distances and its nearest ones come to: there as back, 0 to itself, no nearer than the nearest one, from some as near. -/
namespace Go.Proofs.YtgplajofemencaaGreat
open Go.ChangeShapes Go.WideShapes Go.ChangeAt Go.RowKit

theorem fold_le : ∀ (r : List Int) (a : Int), r.foldl min a ≤ a ∧ (∀ x ∈ r, r.foldl min a ≤ x) ∧ (r.foldl min a = a ∨ r.foldl min a ∈ r)
  | [], a => ⟨Int.le_refl _, by simp, .inl rfl⟩
  | b :: r, a => by
    obtain ⟨h1, h2, h3⟩ := fold_le r (min a b)
    rw [List.foldl_cons]
    refine ⟨by omega, fun x hx => ?_, ?_⟩
    · rcases List.mem_cons.1 hx with rfl | hx
      · omega
      · exact h2 x hx
    · rcases h3 with h3 | h3
      · rw [h3]
        by_cases c : a ≤ b
        · left; omega
        · right; rw [show min a b = b by omega]; exact List.mem_cons_self ..
      · exact .inr (List.mem_cons_of_mem _ h3)
theorem least_le {l : List Int} {x : Int} (h : x ∈ l) : leastL l ≤ x := by
  match l with
  | a :: r =>
    rcases List.mem_cons.1 h with rfl | h
    · exact (fold_le r _).1
    · exact (fold_le r a).2.1 x h
theorem least_mem {l : List Int} (h : l ≠ []) : leastL l ∈ l := by
  match l with
  | a :: r =>
    rcases (fold_le r a).2.2 with h | h
    · exact List.mem_cons.2 (.inl h)
    · exact List.mem_cons.2 (.inr h)
theorem nearK_at (M : List (List Int)) (k i : Nat) (hi : i < k) : (nearK M k).getD i 0 = leastL ((M.getD i []).eraseIdx i) := by
  unfold nearK
  rw [List.getD_eq_getElem?_getD, List.getElem?_map, List.getElem?_range hi]; rfl
theorem mat_at (l : List Stp) (i k : Nat) (hi : i < l.length) (hk : k < l.length) : ((matF l).getD i []).getD k 0 = farF (nth l i) (nth l k) := by
  rw [matF_at l i hi, rowF_at l _ k hk]
/-- What a matrix and its nearest ones must be. -/
structure Mat (M : List (List Int)) (N : List Int) (n : Nat) : Prop where
  len : M.length = n
  rows : ∀ i, i < n → (M.getD i []).length = n
  near : N.length = n
  self : ∀ i, i < n → (M.getD i []).getD i 0 = 0
  back : ∀ i k, i < n → k < n → (M.getD i []).getD k 0 = (M.getD k []).getD i 0
  less : ∀ i k, i < n → k < n → i ≠ k → N.getD i 0 ≤ (M.getD k []).getD i 0
  some : ∀ i, i < n → n ≠ 1 → ∃ q, q < n ∧ q ≠ i ∧ (M.getD q []).getD i 0 = N.getD i 0
  one : n = 1 → N.getD 0 0 = 0
theorem mat_of (l : List Stp) : Mat (matF l) (nearM (matF l)) l.length := by
  have hb : ∀ i k, i < l.length → k < l.length → ((matF l).getD i []).getD k 0 = ((matF l).getD k []).getD i 0 := fun i k hi hk => by
    rw [mat_at l i k hi hk, mat_at l k i hk hi, farF_comm]
  have hr : ∀ i, i < l.length → ((matF l).getD i []).length = l.length := fun i hi => by rw [matF_at l i hi, rowF_len]
  have hN : ∀ i, i < l.length → (nearM (matF l)).getD i 0 = leastL (((matF l).getD i []).eraseIdx i) := fun i hi => by
    unfold nearM; exact nearK_at _ _ i (by rw [matF_len]; exact hi)
  refine ⟨matF_len l, hr, by unfold nearM; rw [nearK_len, matF_len], fun i hi => by rw [mat_at l i i hi hi, farF_self], hb, fun i k hi hk hn => ?_, fun i hi hn => ?_, fun h1 => ?_⟩
  · rw [hN i hi, ← hb i k hi hk]
    apply least_le
    rw [List.mem_eraseIdx_iff_getElem?]
    refine ⟨k, fun e => hn e.symm, ?_⟩
    rw [List.getD_eq_getElem?_getD (l := (matF l).getD i []), List.getElem?_eq_getElem (by rw [hr i hi]; exact hk)]
    rfl
  · have hne : ((matF l).getD i []).eraseIdx i ≠ [] := fun e => by
      have := congrArg List.length e
      rw [List.length_eraseIdx, hr i hi, if_pos hi] at this
      simp at this
      omega
    have hm := least_mem hne
    rw [← hN i hi, List.mem_eraseIdx_iff_getElem?] at hm
    obtain ⟨q, hq, he⟩ := hm
    have hql : q < l.length := by
      rcases Nat.lt_or_ge q l.length with h | h
      · exact h
      · rw [List.getElem?_eq_none (by rw [hr i hi]; exact h)] at he; simp at he
    refine ⟨q, hql, hq, ?_⟩
    rw [hb q i hql hi, List.getD_eq_getElem?_getD, he]
    rfl
  · rw [hN 0 (by omega)]
    have e : ((matF l).getD 0 []).eraseIdx 0 = [] := List.eq_nil_of_length_eq_zero (by rw [List.length_eraseIdx, hr 0 (by omega), if_pos (by omega)]; omega)
    rw [e]; rfl
/-- Whether from some it is as far as from the nearest one, of those that have been seen. -/
def someB (M : List (List Int)) (N : List Int) (n i j : Nat) : Bool := decide (n = 1 ∨ ∃ q, q < j ∧ q ≠ i ∧ (M.getD q []).getD i 0 = N.getD i 0)
theorem Mat.all {M : List (List Int)} {N : List Int} {n i : Nat} (h : Mat M N n) (hi : i < n) : someB M N n i n = true := by
  unfold someB
  rw [decide_eq_true_iff]
  by_cases c : n = 1
  · exact .inl c
  · exact .inr (h.some i hi c)
end Go.Proofs.YtgplajofemencaaGreat
/- What the document's own Matrix and Near answer. -/
namespace Go.Proofs.YtgplajofemencaaGreat
open Go.ChangeShapes Go.WideShapes Go.ChangeAt Go.RowKit

/-! ### The document's Near -/
/-- What has been seen of a row, less the one at its own place. -/
def seen (c : List Int) (i k : Nat) : List Int := (c.take i).eraseIdx k
end Go.Proofs.YtgplajofemencaaGreat
