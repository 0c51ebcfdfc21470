/- What plane's Near answers. -/
import Derived.Test.YtgplajofemencaaGreatYC
namespace Go.Proofs.YtgplajofemencaaGreat
open Go.ChangeShapes Go.WideShapes Go.ChangeAt Go.RowKit

/-- Of each row the least, less the one at its own place. -/
def nearK (M : List (List Int)) (k : Nat) : List Int := (List.range k).map (fun i => leastL ((M.getD i []).eraseIdx i))
def nearM (M : List (List Int)) : List Int := nearK M M.length
theorem nearK_next (M : List (List Int)) (k : Nat) : nearK M (k + 1) = nearK M k ++ [leastL ((M.getD k []).eraseIdx k)] := by
  unfold nearK; rw [List.range_succ, List.map_append]; rfl
theorem nearK_len (M : List (List Int)) (k : Nat) : (nearK M k).length = k := by simp [nearK]
/-- One number put behind numbers that a call has made, at a step of a drawn region. -/
theorem wp_app_int {w : World} {o : Oper} {a : Act} {K : Act → World → Prop} {Q : Exit → Act → World → Prop} (s x : Operand)
    (ho : o.op = .call { callee := .builtin .append, args := #[s, x], argTypes := #[28, 28] }) (B : Nat) (v : Value) (ys : List Int) (hs : a.eval s = v) (hown : OwnI w B v ys)
    (g : Nat) (n : Int) (hx : a.eval x = .slice (some ⟨g, 0, none⟩) 1 1) (hg : w.cell? ⟨g, 0, none⟩ = some (.int .i64 n)) (hlen : ys.length ≤ 1000000) (hB : B ≤ w.heap.size)
    (h : ∀ v' w', OwnI w' B v' (ys ++ [n]) → w.grownBy w' v.ownBlock → K (a.put o.dst v') w') : o.wp Tryz.prog a w K Q := by
  obtain ⟨i0, hi, hz0, hz1, hz2⟩ := info_parts infoInt
  refine wp_append_lies w s x 28 ho B 3 i0 _ 1 8 Tryz.underlying28 hi hz0 hz1 hz2 rfl (by decide) v ys.length (ints ys) hs hown ⟨g, 0, none⟩ 1 1 [.int .i64 n] hx rfl ?_ (by simp [Value.oneCell']) (by decide) (by unfold maxLen; omega) (by omega) hB _ rfl ?_
  · intro j u hj
    match j with
    | 0 => simp at hj; subst hj; rw [add_off]; exact hg
    | j + 1 => simp at hj
  · intro g' cap w' h1 h2 _ _
    refine h _ w' ?_ h2
    unfold OwnI
    rw [List.length_append, show ints (ys ++ [n]) = ints ys ++ [.int .i64 n] by simp [ints]]
    exact h1
/-- The squares of how far it is to place i from each of the first k places, less itself. -/
def sqs (l : List Stp) (i k : Nat) : List Int := ((List.range k).filter (fun j => j != i)).map (fun j => sqF (nth l j) (nth l i))
theorem sqs_skip (l : List Stp) (i : Nat) : sqs l i (i + 1) = sqs l i i := by
  unfold sqs
  rw [List.range_succ, List.filter_append]
  simp
theorem sqs_next (l : List Stp) (i k : Nat) (h : k ≠ i) : sqs l i (k + 1) = sqs l i k ++ [sqF (nth l k) (nth l i)] := by
  unfold sqs
  rw [List.range_succ, List.filter_append, List.map_append]
  simp [h]
theorem sqs_bd (l : List Stp) (i k : Nat) : ∀ x ∈ sqs l i k, 0 ≤ x ∧ x ≤ 200000000 := by
  intro x hx
  unfold sqs at hx
  obtain ⟨j, _, rfl⟩ := List.mem_map.1 hx
  exact sqF_bd _ _
theorem range_less : ∀ (n i : Nat), n ≤ i → (List.range n).filter (fun j => j != i) = List.range n
  | 0, _, _ => rfl
  | n + 1, i, h => by
    rw [List.range_succ, List.filter_append, range_less n i (by omega)]
    simp
    omega
theorem range_erase {α : Type} (g : Nat → α) : ∀ (n i : Nat), i < n → ((List.range n).map g).eraseIdx i = ((List.range n).filter (fun j => j != i)).map g
  | n + 1, i, h => by
    rw [List.range_succ, List.map_append, List.filter_append, List.map_append]
    by_cases c : i = n
    · subst c
      rw [List.eraseIdx_append_of_length_le (by simp), range_less i i (Nat.le_refl _)]
      simp
    · rw [List.eraseIdx_append_of_lt_length (by simp; omega), range_erase g n i (by omega)]
      have : (n != i) = true := by simp; omega
      simp [this]
theorem root_mono (a b : Int) (h : a ≤ b) (hb : b ≤ 200000000) : rootOf a ≤ rootOf b := by
  obtain ⟨h1, h2⟩ := root_sq b (by omega)
  exact root_le a _ h1 (by omega) (by omega)
theorem root_min (a b : Int) (ha : 0 ≤ a ∧ a ≤ 200000000) (hb : 0 ≤ b ∧ b ≤ 200000000) : min (rootOf a) (rootOf b) = rootOf (min a b) := by
  by_cases c : a ≤ b
  · have := root_mono a b c hb.2
    rw [show min a b = a by omega]; omega
  · have := root_mono b a (by omega) ha.2
    rw [show min a b = b by omega]; omega
theorem root_fold : ∀ (r : List Int) (a : Int), (0 ≤ a ∧ a ≤ 200000000) → (∀ x ∈ r, 0 ≤ x ∧ x ≤ 200000000) → (r.map rootOf).foldl min (rootOf a) = rootOf (r.foldl min a)
  | [], _, _, _ => rfl
  | b :: r, a, ha, hr => by
    have hb := hr b (by simp)
    rw [List.map_cons, List.foldl_cons, List.foldl_cons, root_min a b ha hb]
    exact root_fold r (min a b) (by omega) (fun x hx => hr x (by simp [hx]))
theorem root_none : rootOf 0 = 0 := by
  have h1 := root_le 0 0 (by omega) (by omega) (by omega)
  have h2 := (root_sq 0 (by omega)).1
  omega
theorem least_root (L : List Int) (h : ∀ x ∈ L, 0 ≤ x ∧ x ≤ 200000000) : leastL (L.map rootOf) = rootOf (leastL L) := by
  match L with
  | [] => exact root_none.symm
  | a :: r => exact root_fold r a (h a (by simp)) (fun x hx => h x (by simp [hx]))
theorem least_bd (L : List Int) (h : ∀ x ∈ L, 0 ≤ x ∧ x ≤ 200000000) : 0 ≤ leastL L ∧ leastL L ≤ 200000000 := by
  have key : ∀ (r : List Int) (a : Int), (0 ≤ a ∧ a ≤ 200000000) → (∀ x ∈ r, 0 ≤ x ∧ x ≤ 200000000) → 0 ≤ r.foldl min a ∧ r.foldl min a ≤ 200000000 := by
    intro r
    induction r with
    | nil => intro a ha _; exact ha
    | cons b r ih =>
      intro a ha hr
      have hb := hr b (by simp)
      exact ih (min a b) (by omega) (fun x hx => hr x (by simp [hx]))
  match L with
  | [] => show 0 ≤ (0 : Int) ∧ (0 : Int) ≤ 200000000; omega
  | a :: r => exact key r a (h a (by simp)) (fun x hx => h x (by simp [hx]))
theorem near_sq (l : List Stp) : nearM (matF l) = (List.range l.length).map (fun i => rootOf (leastL (sqs l i l.length))) := by
  unfold nearM nearK
  rw [matF_len]
  refine List.map_congr_left (fun i hi => ?_)
  have hi := List.mem_range.1 hi
  rw [matF_at l i hi, ← least_root _ (sqs_bd l i _)]
  unfold rowF sqs
  rw [range_erase _ _ _ hi, List.map_map]
  refine congrArg leastL (List.map_congr_left (fun j _ => ?_))
  show farF (nth l i) (nth l j) = rootOf (sqF (nth l j) (nth l i))
  exact (farF_comm _ _).trans (farF_sq _ _)
/-- Places, as complex numbers. -/
def plc (l : List Stp) : List Value := (List.range l.length).map (fun i => cV (nth l i))
theorem plc_len (l : List Stp) : (plc l).length = l.length := by simp [plc]
theorem plc_at (l : List Stp) (k : Nat) (hk : k < l.length) : (plc l)[k]? = some (cV (nth l k)) := by
  unfold plc
  rw [List.getElem?_map, List.getElem?_range hk]; rfl
set_option maxRecDepth 1000000 in
set_option maxHeartbeats 1000000 in
theorem leastsq_any {w : World} {v : Value} {l : List Stp} (i : Nat) (hi : i < l.length) (hl : l.length ≤ 1000000) (h : Row w v (plc l)) :
    Calls Tryz.prog 147 #[v, .int .i64 i] w fun e w' => e = .returned (.int .i64 (leastL (sqs l i l.length))) ∧ w = w' := by
  have H := Lib.hid h
  obtain ⟨ad, cap, rfl, hm⟩ := h.form
  obtain ⟨tb, off, rfl, hci, _⟩ := row_cell H.out i (by rw [plc_len]; exact hi)
  rw [plc_at l i hi] at hci
  simp only [plc_len] at *
  have hm1 : l.length ≤ 9223372036854775807 := by omega
  have hi1 : (i : Int) < (l.length : Int) := by omega
  have hi2 : (0 : Int) ≤ (i : Int) := by omega
  have HI := Lib.hid hi
  clear h hm hl hi
  unfold cV at hci
  go_enter Tryz.func147, Tryz.ntmps147
  go_wp2_with fail
  go_loop [5, 6, 12] (fun a f j => ∃ k : Nat, k ≤ l.length ∧ j = .int .i64 k ∧ a = .int .i64 (leastL (sqs l i k)) ∧ f = .bool (!(sqs l i k).isEmpty)) (fun _ _ j => l.length - (intOf j).toNat)
  case atStart => exact ⟨0, Nat.zero_le _, rfl, rfl, rfl⟩
  case round =>
    obtain ⟨k, hk, rfl, rfl, rfl⟩ := hrel
    by_cases hlt : k < l.length
    · have hc := row_here H.out k (by rw [plc_len]; exact hlt)
      rw [plc_at l k hlt] at hc
      unfold cV at hc
      by_cases hki : k = i
      · have HS := Lib.hid (show sqs l i (k + 1) = sqs l i k by subst hki; exact sqs_skip l k)
        have d1 : ((k : Int) == (i : Int)) = true := by simp; omega
        generalize sqs l i k = L at *
        have HLT := Lib.hid hlt
        clear hk hki
        go_wp2
        go_round
        case rel => exact ⟨k + 1, by have := HLT.out; omega, by go_num, by rw [HS.out], by rw [HS.out]⟩
        case measure => have := HLT.out; simp [intOf]; omega
      · have HS := Lib.hid (sqs_next l i k hki)
        have hsq := squared_any (nth l k) (nth l i) w
        unfold cV at hsq
        have d1 : ((k : Int) == (i : Int)) = false := by simp; omega
        have HLT := Lib.hid hlt
        clear hk hki
        generalize sqs l i k = L at *
        generalize sqF (nth l k) (nth l i) = x at *
        cases L with
        | nil =>
          go_wp2_with (refine hsq.mono ?_; rintro e w' ⟨rfl, rfl⟩)
          go_round
          case rel => exact ⟨k + 1, by have := HLT.out; omega, by go_num, by rw [HS.out]; rfl, by rw [HS.out]; rfl⟩
          case measure => have := HLT.out; simp [intOf]; omega
        | cons y r =>
          have HM := Lib.hid (leastL_snoc y r x)
          generalize leastL (y :: r) = z at *
          have d2 : (!(y :: r).isEmpty) = true := rfl
          rw [d2]
          by_cases hxz : x < z
          · go_wp2_with (refine hsq.mono ?_; rintro e w' ⟨rfl, rfl⟩)
            go_round
            case rel => exact ⟨k + 1, by have := HLT.out; omega, by go_num, by rw [HS.out, HM.out]; congr 1; omega, by rw [HS.out]; rfl⟩
            case measure => have := HLT.out; simp [intOf]; omega
          · go_wp2_with (refine hsq.mono ?_; rintro e w' ⟨rfl, rfl⟩)
            go_round
            case rel => exact ⟨k + 1, by have := HLT.out; omega, by go_num, by rw [HS.out, HM.out]; congr 1; omega, by rw [HS.out]; rfl⟩
            case measure => have := HLT.out; simp [intOf]; omega
    · obtain rfl : k = l.length := by omega
      clear hlt hk
      go_wp2
      go_ret
      exact ⟨rfl, rfl⟩
/-- A row of complex numbers that a call has made. -/
def OwnC (w : World) (B : Nat) (v : Value) (xs : List Value) : Prop := w.ownsRow B 174 1 v xs.length xs
theorem infoC128 : (Tryz.prog.info? 174).map (fun i => (i.zero, i.size, i.bytes)) = some (some (.complex .f64 0 0), 1, 16) := by kernel_rfl
theorem made_places (n : Nat) : (madeCells (Value.complex .f64 0 0).cells (n * 1)).toList = List.replicate n (.complex .f64 0 0) := by
  rw [show (Value.complex .f64 0 0).cells = #[Value.complex .f64 0 0] from rfl, Nat.mul_one, toList_madeCells_one]
theorem make_places {w : World} {ops : Array Oper} {rest : List Oper} {o : Oper} {a : Act} {Q : Exit → Act → World → Prop} (hgd : o.guard = none) (l c : Operand) (ho : o.op = Op.makeSlice 173 l c)
    (B n : Nat) (hl : a.eval l = .int .i64 (n : Int)) (hc : a.eval c = .int .i64 (n : Int)) (hn : n ≤ 1000000) (hB : B ≤ w.heap.size)
    (h : ∀ w', OwnC w' B (.slice (some ⟨w.heap.size, 0, none⟩) n n) (List.replicate n (.complex .f64 0 0)) → w.grownBy w' none → wpList Tryz.prog ops Q rest (a.put o.dst (.slice (some ⟨w.heap.size, 0, none⟩) n n)) w') : wpList Tryz.prog ops Q (o :: rest) a w := by
  obtain ⟨i0, hi, hz0, hz1, hz2⟩ := info_parts infoC128
  refine wpList_make_full w hgd l c 173 ho B 174 i0 _ 1 Tryz.underlying173 hi hz0 hz1 .i64 .i64 _ _ n hl hc rfl rfl (by rw [hz2]; omega) (by unfold maxLen; omega) hB ?_
  intro w' h1 h2
  refine h w' ?_ h2
  unfold OwnC
  rw [List.length_replicate, ← made_places]
  exact h1
theorem OwnC.below {w w' : World} {B : Nat} {v : Value} {xs : List Value} (h : OwnC w B v xs) (hb : Below w.heap.size w w') : OwnC w' B v xs := own_below h hb
theorem turned_by (W : World) (b o : Nat) (v : Value) : W.grownBy (W.setCell ⟨b, o, none⟩ v) (some b) :=
  ⟨rfl, rfl, rfl, ((Below.refl 0 W).setCell (p := ⟨b, o, none⟩) (Nat.zero_le _) v).size, fun k _ hk => heap_setCell_other W ⟨b, o, none⟩ k v (fun e => hk (by rw [e]))⟩
theorem OwnC.row {w : World} {B : Nat} {v : Value} {l : List Stp} (h : OwnC w B v (plc l)) : Row w v (plc l) := own_row h
theorem OwnC.stored {w : World} {B g n cap : Nat} {xs : List Value} (h : OwnC w B (.slice (some ⟨g, 0, none⟩) n cap) xs) (hn : n = xs.length) (i : Nat) (x : Value) :
    OwnC (w.setCell ⟨g, i, none⟩ x) B (.slice (some ⟨g, 0, none⟩) n cap) (xs.set i x) ∧ B ≤ g ∧ g < w.heap.size ∧ w.frozen? ⟨g, i, none⟩ = false := by
  subst hn
  have h' : w.ownsRow B 174 1 (.slice (some ⟨g, 0, none⟩) xs.length cap) xs.length xs := h
  refine ⟨?_, (World.ownsRow.lt h' g rfl).1, (World.ownsRow.lt h' g rfl).2, h'.frozenAt i⟩
  unfold OwnC
  rw [List.length_set]
  exact (h'.stored i x).1
theorem OwnC.cell {w : World} {B g n cap : Nat} {xs : List Value} (h : OwnC w B (.slice (some ⟨g, 0, none⟩) n cap) xs) (hn : n = xs.length) (i : Nat) (hi : i < xs.length) : ∃ x, w.cell? ⟨g, i, none⟩ = some x := by
  subst hn
  rw [(show w.ownsRow B 174 1 (.slice (some ⟨g, 0, none⟩) xs.length cap) xs.length xs from h).cellAt i (by omega), List.getElem?_eq_getElem hi]
  exact ⟨_, rfl⟩
set_option maxRecDepth 1000000 in
set_option maxHeartbeats 4000000 in
theorem near_any {w : World} {v : Value} {I : Ins} (h : SRow w v I.l) :
    Calls Tryz.prog 101 #[insV I v] w fun e w' => ∃ u, e = .returned u ∧ OwnI w' w.heap.size u (nearM (matI I)) ∧ Below w.heap.size w w' := by
  have H := Lib.hid h
  obtain ⟨ad, cap, rfl, hm, _⟩ := h.form
  have hm1 : I.l.length ≤ 9223372036854775807 := by unfold maxLen at hm; omega
  clear h hm
  unfold insV
  go_enter Tryz.func101, Tryz.ntmps101
  go_wp2_with fail
  change Calls _ _ #[insV I (.slice ad I.l.length cap)] (w.alloc (boxI I (.slice ad I.l.length cap))) _
  have HB0 := Lib.hid ((Below.refl _ w).alloc (Nat.le_refl _) (boxI I (.slice ad I.l.length cap)))
  have HS0 := Lib.hid (holds_box w I (.slice ad I.l.length cap))
  have hW : (w.alloc (boxI I (.slice ad I.l.length cap))).heap.size = w.heap.size + 1 := by simp
  generalize w.alloc (boxI I (.slice ad I.l.length cap)) = W at *
  refine (may_any (H.out.below HB0.out)).mono ?_
  rintro e w1 ⟨rfl, hb⟩
  have HB1 := Lib.hid hb
  have hc := Holds.below hb HS0.out (show Lows W.heap.size (cellsI w.heap.size I (.slice ad I.l.length cap)) from ⟨by show w.heap.size < _; omega, by show w.heap.size < _; omega, by show w.heap.size < _; omega, by show w.heap.size < _; omega, trivial⟩)
  simp only [cellsI, Holds] at hc
  obtain ⟨c0, c1, c2, c3, _⟩ := hc
  have hsz1 : w.heap.size + 1 ≤ w1.heap.size := by have := hb.size; omega
  have hz1 : w.heap.size < w1.heap.size := by omega
  clear hb
  cases hmy : mayB I
  · have HM := Lib.hid (show nearM (matI I) = [] by unfold matI; rw [hmy]; rfl)
    have HBB := Lib.hid (HB0.out.trans (HB1.out.mono (by omega)))
    clear hmy
    go_wp2
    go_ret
    exact ⟨_, rfl, by rw [HM.out]; exact ownI_nil _ _, HBB.out⟩
  have HM := Lib.hid (show nearM (matI I) = (List.range I.l.length).map (fun i => rootOf (leastL (sqs I.l i I.l.length))) by unfold matI; rw [hmy, if_pos rfl]; exact near_sq I.l)
  have hl33 := (pmay_len hmy).2
  have hl3 : I.l.length ≤ 1000000 := by omega
  clear hmy
  go_wp2_with (first | (at_make; refine make_places rfl _ _ rfl w.heap.size I.l.length rfl rfl hl3 (by omega) ?_))
  intro w2 hown hgrow
  have HO := Lib.hid hown
  have HB2 := Lib.hid (HB1.out.trans ((grown_below hgrow (Nat.le_refl _) (fun q hq => by simp at hq)).mono (by omega)))
  have d3 : w2.cell? ⟨w.heap.size, 3, none⟩ = some (.slice ad I.l.length cap) := (HB2.out.cell (p := ⟨w.heap.size, 3, none⟩) (by show w.heap.size < _; omega)).trans HS0.out.2.2.2.1
  have hg : w.heap.size + 1 ≤ w1.heap.size := hsz1
  generalize w1.heap.size = g at *
  clear hown hgrow c0 c1 c2 c3
  go_wp2_with fail
  go_loopw [18] (fun i wr => ∃ (k : Nat) (L : List Value), k ≤ I.l.length ∧ i = .int .i64 k ∧ OwnC wr w.heap.size (.slice (some ⟨g, 0, none⟩) I.l.length I.l.length) L ∧ Fill undef k I.l.length (fun i => cV (nth I.l i)) L ∧ Below (w.heap.size + 1) W wr) (fun i _ => I.l.length - (intOf i).toNat)
  case atStart => exact ⟨0, _, Nat.zero_le _, rfl, HO.out, Fill.none _ _ _ _, HB2.out.mono (by omega)⟩
  case round =>
    obtain ⟨k, L, hk, rfl, hon, hfl, hbw⟩ := hrel
    have HON := Lib.hid hon
    have HF := Lib.hid hfl
    have HBW := Lib.hid hbw
    have HBB := Lib.hid (HB0.out.trans (hbw.mono (Nat.le_succ _)))
    have hsz : w.heap.size + 1 ≤ wr.heap.size := by have := hbw.size; omega
    have hz0 : w.heap.size < wr.heap.size := by omega
    have b3 : wr.cell? ⟨w.heap.size, 3, none⟩ = some (.slice ad I.l.length cap) := (hbw.cell (p := ⟨w.heap.size, 3, none⟩) (by show w.heap.size < _; omega)).trans HS0.out.2.2.2.1
    clear hon hfl hbw
    by_cases hlt : k < I.l.length
    · obtain ⟨tb, off, rfl, hat, htb⟩ := srow_at H.out k hlt
      obtain ⟨e0, e1, e2, e3, e4, e5⟩ := hat.below htb HBB.out
      have HFX := Lib.hid (show ∀ x : Value, x = cV (nth I.l k) → Fill undef (k + 1) I.l.length (fun i => cV (nth I.l i)) (L.set k x) from fun x hx => HF.out.next hlt hx)
      generalize nth I.l k = u at *
      clear hat
      go_wp2_with fail
      change Calls _ _ #[stopV u] _ _
      have HBa := Lib.hid ((Below.refl _ wr).alloc (Nat.le_refl _) (.cells #[.int .i64 u.x, .int .i64 u.y, .int .i64 u.d, .int .i64 u.r, .int .i64 u.u, .int .i64 u.s] 65))
      have hWa : (wr.alloc (.cells #[.int .i64 u.x, .int .i64 u.y, .int .i64 u.d, .int .i64 u.r, .int .i64 u.u, .int .i64 u.s] 65)).heap.size = wr.heap.size + 1 := by simp
      refine (place_any u _).mono ?_
      rintro e w3 ⟨rfl, hb⟩
      have HB3 := Lib.hid (HBa.out.trans (hb.mono (by omega)))
      obtain ⟨ho2, hge, hlt2, hfr⟩ := (HON.out.below HB3.out).stored HF.out.1.symm k (cV u)
      have HO2 := Lib.hid ho2
      obtain ⟨x0, hcl⟩ := (HON.out.below HB3.out).cell HF.out.1.symm k (by rw [HF.out.1]; exact hlt)
      have HB4 := Lib.hid (HBW.out.trans (HB3.out.mono hsz))
      clear hb ho2 e0 e1 e2 e3 e4 e5 hWa
      unfold cV at *
      have hst : ∀ (W : World) (a : Addr) (m : Mode) (x y : Nat), (store a (.complex .f64 x y) m).run Tryz.prog W = stored Tryz.prog W a (.complex .f64 x y) m := fun W a m _ _ => run_store _ W a _ m rfl
      go_wp2_with fail
      go_roundw
      case rel => exact ⟨k + 1, _, by omega, by go_num, HO2.out, HFX.out _ rfl, HB4.out.setCell (p := ⟨g, k, none⟩) hg _⟩
      case measure => simp [intOf]; omega
    · obtain rfl : k = I.l.length := by omega
      have HR := Lib.hid (show L = plc I.l from HF.out.all)
      rw [HR.out] at HON
      clear hlt hk b3 HF
      generalize wr = W5 at *
      go_wp2_with (first | (at_make; refine make_ints rfl _ _ rfl w.heap.size I.l.length rfl rfl hl3 (by omega) ?_))
      intro w6 hown hgrow
      have HO6 := Lib.hid hown
      have HB6 := Lib.hid (grown_below hgrow (Nat.le_refl _) (fun q hq => by simp at hq))
      have HBW6 := Lib.hid (HBB.out.trans (HB6.out.mono (by omega)))
      have hg6 : w.heap.size ≤ W5.heap.size := by omega
      have hgg : g ≠ W5.heap.size := by have := (World.ownsRow.lt HON.out g rfl).2; omega
      have HOC6 := Lib.hid (HON.out.below HB6.out)
      generalize W5.heap.size = g6 at *
      clear hown hgrow
      go_wp2_with fail
      go_loopw [34] (fun i wr => ∃ (k : Nat) (ys : List Int), k ≤ I.l.length ∧ i = .int .i64 k ∧ OwnI wr w.heap.size (.slice (some ⟨g6, 0, none⟩) I.l.length I.l.length) ys ∧ Fill 0 k I.l.length (fun i => rootOf (leastL (sqs I.l i I.l.length))) ys ∧ OwnC wr w.heap.size (.slice (some ⟨g, 0, none⟩) I.l.length I.l.length) (plc I.l) ∧ Below w.heap.size w wr) (fun i _ => I.l.length - (intOf i).toNat)
      case atStart => exact ⟨0, _, Nat.zero_le _, rfl, HO6.out, Fill.none _ _ _ _, HOC6.out, HBW6.out⟩
      case round =>
        obtain ⟨k, ys, hk, rfl, hon, hfl, hrw, hbw⟩ := hrel
        have HON := Lib.hid hon
        have HF := Lib.hid hfl
        have HRW := Lib.hid hrw
        have HBW := Lib.hid hbw
        clear hon hfl hrw hbw
        by_cases hlt : k < I.l.length
        · have HFX := Lib.hid (show ∀ x : Int, x = rootOf (leastL (sqs I.l k I.l.length)) → Fill 0 (k + 1) I.l.length (fun i => rootOf (leastL (sqs I.l i I.l.length))) (ys.set k x) from fun x hx => HF.out.next hlt hx)
          have HLB := Lib.hid (least_bd _ (sqs_bd I.l k I.l.length))
          have HLS := Lib.hid (leastsq_any k hlt hl3 HRW.out.row)
          generalize leastL (sqs I.l k I.l.length) = x at *
          go_wp2_with fail
          refine HLS.out.mono ?_
          rintro e w7 ⟨rfl, rfl⟩
          go_wp2_with fail
          refine (root_any x _ (by have := HLB.out; omega)).mono ?_
          rintro e w7 ⟨rfl, rfl⟩
          obtain ⟨ho2, hge, hlt2, hfr⟩ := HON.out.stored k (rootOf x)
          have HO2 := Lib.hid ho2
          have hcl := HON.out.cell k (by rw [HF.out.1]; exact hlt)
          have HRK := Lib.hid (show OwnC (wr.setCell ⟨g6, k, none⟩ (.int .i64 (rootOf x))) w.heap.size (.slice (some ⟨g, 0, none⟩) I.l.length I.l.length) (plc I.l) from World.ownsRow.kept HRW.out (turned_by wr g6 k _) (.inr (by simp [Value.ownBlock]; exact hgg)))
          clear ho2
          go_wp2_with fail
          go_roundw
          case rel => exact ⟨k + 1, _, by omega, by go_num, HO2.out, HFX.out _ rfl, HRK.out, HBW.out.setCell (p := ⟨g6, k, none⟩) hge _⟩
          case measure => simp [intOf]; omega
        · obtain rfl : k = I.l.length := by omega
          have HR := Lib.hid (show ys = nearM (matI I) from HF.out.all.trans HM.out.symm)
          clear hlt hk
          go_wp2
          go_ret
          exact ⟨_, rfl, by rw [← HR.out]; exact HON.out, HBW.out⟩
end Go.Proofs.YtgplajofemencaaGreat
/- What a matrix of distances and its nearest ones come to: there as back, 0 to itself, no nearer than the nearest one, from some as near. -/
namespace Go.Proofs.YtgplajofemencaaGreat
open Go.ChangeShapes Go.WideShapes Go.ChangeAt Go.RowKit

theorem fold_le : ∀ (r : List Int) (a : Int), r.foldl min a ≤ a ∧ (∀ x ∈ r, r.foldl min a ≤ x) ∧ (r.foldl min a = a ∨ r.foldl min a ∈ r)
  | [], a => ⟨Int.le_refl _, by simp, .inl rfl⟩
  | b :: r, a => by
    obtain ⟨h1, h2, h3⟩ := fold_le r (min a b)
    rw [List.foldl_cons]
    refine ⟨by omega, fun x hx => ?_, ?_⟩
    · rcases List.mem_cons.1 hx with rfl | hx
      · omega
      · exact h2 x hx
    · rcases h3 with h3 | h3
      · rw [h3]
        by_cases c : a ≤ b
        · left; omega
        · right; rw [show min a b = b by omega]; exact List.mem_cons_self ..
      · exact .inr (List.mem_cons_of_mem _ h3)
theorem least_le {l : List Int} {x : Int} (h : x ∈ l) : leastL l ≤ x := by
  match l with
  | a :: r =>
    rcases List.mem_cons.1 h with rfl | h
    · exact (fold_le r _).1
    · exact (fold_le r a).2.1 x h
theorem least_mem {l : List Int} (h : l ≠ []) : leastL l ∈ l := by
  match l with
  | a :: r =>
    rcases (fold_le r a).2.2 with h | h
    · exact List.mem_cons.2 (.inl h)
    · exact List.mem_cons.2 (.inr h)
theorem nearK_at (M : List (List Int)) (k i : Nat) (hi : i < k) : (nearK M k).getD i 0 = leastL ((M.getD i []).eraseIdx i) := by
  unfold nearK
  rw [List.getD_eq_getElem?_getD, List.getElem?_map, List.getElem?_range hi]; rfl
theorem mat_at (l : List Stp) (i k : Nat) (hi : i < l.length) (hk : k < l.length) : ((matF l).getD i []).getD k 0 = farF (nth l i) (nth l k) := by
  rw [matF_at l i hi, rowF_at l _ k hk]
/-- What a matrix and its nearest ones must be. -/
structure Mat (M : List (List Int)) (N : List Int) (n : Nat) : Prop where
  len : M.length = n
  rows : ∀ i, i < n → (M.getD i []).length = n
  near : N.length = n
  self : ∀ i, i < n → (M.getD i []).getD i 0 = 0
  back : ∀ i k, i < n → k < n → (M.getD i []).getD k 0 = (M.getD k []).getD i 0
  less : ∀ i k, i < n → k < n → i ≠ k → N.getD i 0 ≤ (M.getD k []).getD i 0
  some : ∀ i, i < n → n ≠ 1 → ∃ q, q < n ∧ q ≠ i ∧ (M.getD q []).getD i 0 = N.getD i 0
  one : n = 1 → N.getD 0 0 = 0
theorem mat_of (l : List Stp) : Mat (matF l) (nearM (matF l)) l.length := by
  have hb : ∀ i k, i < l.length → k < l.length → ((matF l).getD i []).getD k 0 = ((matF l).getD k []).getD i 0 := fun i k hi hk => by
    rw [mat_at l i k hi hk, mat_at l k i hk hi, farF_comm]
  have hr : ∀ i, i < l.length → ((matF l).getD i []).length = l.length := fun i hi => by rw [matF_at l i hi, rowF_len]
  have hN : ∀ i, i < l.length → (nearM (matF l)).getD i 0 = leastL (((matF l).getD i []).eraseIdx i) := fun i hi => by
    unfold nearM; exact nearK_at _ _ i (by rw [matF_len]; exact hi)
  refine ⟨matF_len l, hr, by unfold nearM; rw [nearK_len, matF_len], fun i hi => by rw [mat_at l i i hi hi, farF_self], hb, fun i k hi hk hn => ?_, fun i hi hn => ?_, fun h1 => ?_⟩
  · rw [hN i hi, ← hb i k hi hk]
    apply least_le
    rw [List.mem_eraseIdx_iff_getElem?]
    refine ⟨k, fun e => hn e.symm, ?_⟩
    rw [List.getD_eq_getElem?_getD (l := (matF l).getD i []), List.getElem?_eq_getElem (by rw [hr i hi]; exact hk)]
    rfl
  · have hne : ((matF l).getD i []).eraseIdx i ≠ [] := fun e => by
      have := congrArg List.length e
      rw [List.length_eraseIdx, hr i hi, if_pos hi] at this
      simp at this
      omega
    have hm := least_mem hne
    rw [← hN i hi, List.mem_eraseIdx_iff_getElem?] at hm
    obtain ⟨q, hq, he⟩ := hm
    have hql : q < l.length := by
      rcases Nat.lt_or_ge q l.length with h | h
      · exact h
      · rw [List.getElem?_eq_none (by rw [hr i hi]; exact h)] at he; simp at he
    refine ⟨q, hql, hq, ?_⟩
    rw [hb q i hql hi, List.getD_eq_getElem?_getD, he]
    rfl
  · rw [hN 0 (by omega)]
    have e : ((matF l).getD 0 []).eraseIdx 0 = [] := List.eq_nil_of_length_eq_zero (by rw [List.length_eraseIdx, hr 0 (by omega), if_pos (by omega)]; omega)
    rw [e]; rfl
/-- Whether from some it is as far as from the nearest one, of those that have been seen. -/
def someB (M : List (List Int)) (N : List Int) (n i j : Nat) : Bool := decide (n = 1 ∨ ∃ q, q < j ∧ q ≠ i ∧ (M.getD q []).getD i 0 = N.getD i 0)
theorem Mat.all {M : List (List Int)} {N : List Int} {n i : Nat} (h : Mat M N n) (hi : i < n) : someB M N n i n = true := by
  unfold someB
  rw [decide_eq_true_iff]
  by_cases c : n = 1
  · exact .inl c
  · exact .inr (h.some i hi c)
end Go.Proofs.YtgplajofemencaaGreat
/- What the document's own Matrix and Near answer. -/
namespace Go.Proofs.YtgplajofemencaaGreat
open Go.ChangeShapes Go.WideShapes Go.ChangeAt Go.RowKit

theorem rowF_take (l : List Stp) (t : Stp) (k : Nat) (hk : k < l.length) : (rowF l t).take (k + 1) = (rowF l t).take k ++ [farF t (nth l k)] := by
  have hl := rowF_len l t
  have := rowF_at l t k hk
  rw [List.getD_eq_getElem?_getD] at this
  rw [List.take_add_one]
  rw [List.getElem?_eq_getElem (by omega)] at this ⊢
  simp only [Option.getD_some] at this
  rw [this]; rfl
theorem matF_take (l : List Stp) (k : Nat) (hk : k < l.length) : (matF l).take (k + 1) = (matF l).take k ++ [rowF l (nth l k)] := by
  have hl := matF_len l
  have := matF_at l k hk
  rw [List.getD_eq_getElem?_getD] at this
  rw [List.take_add_one]
  rw [List.getElem?_eq_getElem (by omega)] at this ⊢
  simp only [Option.getD_some] at this
  rw [this]; rfl
set_option maxRecDepth 1000000 in
set_option maxHeartbeats 1000000 in
theorem rmatrix_any {w : World} {v : Value} {I : Ins} (h : SRow w v I.l) :
    Calls Tryz.prog 150 #[insV I v] w fun e w' => ∃ u, e = .returned u ∧ OwnLL w' w.heap.size u (matI I) ∧ Below w.heap.size w w' := by
  have H := Lib.hid h
  obtain ⟨ad, cap, rfl, hm, _⟩ := h.form
  have hm1 : I.l.length ≤ 9223372036854775807 := by unfold maxLen at hm; omega
  clear h hm
  unfold insV
  go_enter Tryz.func150, Tryz.ntmps150
  go_wp2_with fail
  change Calls _ _ #[insV I (.slice ad I.l.length cap)] (w.alloc (boxI I (.slice ad I.l.length cap))) _
  have HB0 := Lib.hid ((Below.refl _ w).alloc (Nat.le_refl _) (boxI I (.slice ad I.l.length cap)))
  have HS0 := Lib.hid (holds_box w I (.slice ad I.l.length cap))
  have hW : (w.alloc (boxI I (.slice ad I.l.length cap))).heap.size = w.heap.size + 1 := by simp
  generalize w.alloc (boxI I (.slice ad I.l.length cap)) = W at *
  refine (rmay_any (H.out.below HB0.out)).mono ?_
  rintro e w1 ⟨rfl, hb⟩
  have hsz1 : w.heap.size + 1 ≤ w1.heap.size := by have := hb.size; omega
  have HB1 := Lib.hid (show Below (w.heap.size + 1) W w1 from hb.mono (by omega))
  clear hb
  cases hmy : mayB I
  · have HM := Lib.hid (show matI I = [] by unfold matI; rw [hmy]; rfl)
    have HBB := Lib.hid (HB0.out.trans (HB1.out.mono (by omega)))
    clear hmy
    go_wp2
    go_ret
    exact ⟨_, rfl, by rw [HM.out]; exact ownLL_nil _ _, HBB.out⟩
  have HM := Lib.hid (show matI I = matF I.l by unfold matI; rw [hmy]; rfl)
  have hl33 := (pmay_len hmy).2
  clear hmy
  go_wp2_with fail
  go_loopw [4, 5] (fun u i wr => ∃ k : Nat, k ≤ I.l.length ∧ i = .int .i64 k ∧ OwnLL wr (w.heap.size + 1) u ((matF I.l).take k) ∧ Below (w.heap.size + 1) W wr) (fun _ i _ => I.l.length - (intOf i).toNat)
  case atStart => exact ⟨0, Nat.zero_le _, rfl, by rw [List.take_zero]; exact ownLL_nil _ _, HB1.out⟩
  case round =>
    obtain ⟨i, hi, rfl, hon, hbw⟩ := hrel
    have HON := Lib.hid hon
    have HBW := Lib.hid hbw
    have HBB := Lib.hid (HB0.out.trans (hbw.mono (Nat.le_succ _)))
    have hsz : w.heap.size + 1 ≤ wr.heap.size := by have := hbw.size; omega
    have b3 : wr.cell? ⟨w.heap.size, 3, none⟩ = some (.slice ad I.l.length cap) := (hbw.cell (p := ⟨w.heap.size, 3, none⟩) (by show w.heap.size < _; omega)).trans HS0.out.2.2.2.1
    clear hon hbw
    by_cases hlt : i < I.l.length
    · obtain ⟨tb, off, rfl, hat, htb⟩ := srow_at H.out i hlt
      have HAT := Lib.hid hat
      have HT := Lib.hid (matF_take I.l i hlt)
      have hLL : ((matF I.l).take i).length ≤ 1000000 := by rw [List.length_take, matF_len]; omega
      generalize (matF I.l).take i = A at *
      clear hat
      obtain ⟨wo, hwo⟩ : ∃ wo, wo = wr := ⟨_, rfl⟩
      subst hwo
      have hltT : (i : Int) < (I.l.length : Int) := by omega
      go_wp2_with fail
      go_loopw [6, 7] (fun u j wk => ∃ k : Nat, k ≤ I.l.length ∧ j = .int .i64 k ∧ OwnI wk wo.heap.size u ((rowF I.l (nth I.l i)).take k) ∧ Below wo.heap.size wo wk) (fun _ j _ => I.l.length - (intOf j).toNat)
      case atStart => exact ⟨0, Nat.zero_le _, rfl, by rw [List.take_zero]; exact ownI_nil _ _, Below.refl _ _⟩
      case round =>
        obtain ⟨k, hk, rfl, hok, hbk⟩ := hrel
        have HOK := Lib.hid hok
        have HBK := Lib.hid hbk
        have hszk := hbk.size
        have d3 : wr.cell? ⟨w.heap.size, 3, none⟩ = some (.slice (some ⟨tb, off, none⟩) I.l.length cap) := (hbk.cell (p := ⟨w.heap.size, 3, none⟩) (by show w.heap.size < _; omega)).trans b3
        clear hok hbk
        by_cases hkl : k < I.l.length
        · have hat2 := srow_here H.out k hkl
          have HRT := Lib.hid (rowF_take I.l (nth I.l i) k hkl)
          have hyl : ((rowF I.l (nth I.l i)).take k).length ≤ 1000000 := by rw [List.length_take, rowF_len]; omega
          generalize (rowF I.l (nth I.l i)).take k = ys at *
          have HBx := Lib.hid (HBB.out.trans (HBK.out.mono (by omega)))
          have HS1 := Lib.hid (show Holds ((⟨w.heap.size, 3, none⟩, .slice (some ⟨tb, off, none⟩) I.l.length cap) :: (cellsS tb (off + i * 6) (nth I.l i) ++ cellsS tb (off + k * 6) (nth I.l k))) wr.drew from
            ⟨d3, Holds.app.2 ⟨(HAT.out.below htb HBx.out).holds, (hat2.below htb HBx.out).holds⟩⟩)
          have hlt1 := Lib.hid (show Lows wr.drew.heap.size ((⟨w.heap.size, 3, none⟩, .slice (some ⟨tb, off, none⟩) I.l.length cap) :: (cellsS tb (off + i * 6) (nth I.l i) ++ cellsS tb (off + k * 6) (nth I.l k))) from
            ⟨by show w.heap.size < wr.heap.size; omega, Lows.app (lows_S (by show tb < wr.heap.size; omega)) (lows_S (by show tb < wr.heap.size; omega))⟩)
          have HLO := Lib.hid (show Lows wo.heap.size ((⟨w.heap.size, 3, none⟩, .slice (some ⟨tb, off, none⟩) I.l.length cap) :: (cellsS tb (off + i * 6) (nth I.l i) ++ cellsS tb (off + k * 6) (nth I.l k))) from
            ⟨by show w.heap.size < wo.heap.size; omega, Lows.app (lows_S (by omega)) (lows_S (by omega))⟩)
          have hkT : (k : Int) < (I.l.length : Int) := by omega
          generalize nth I.l i = s at *
          generalize nth I.l k = t at *
          obtain ⟨ua, uc, rfl⟩ := HOK.out.shape
          clear hat2 b3
          go_wp2_with fail
          clear d3
          refine wp_region_held_drew (S := Holds ((⟨w.heap.size, 3, none⟩, .slice (some ⟨tb, off, none⟩) I.l.length cap) :: (cellsS tb (off + i * 6) s ++ cellsS tb (off + k * 6) t))) (by kernel_rfl) HS1.out (fun hSn => ?_)
          have hlt := hlt1
          have HSX := HS0
          clear HS0
          have HS0 := HS1
          clear HS1
          have Bc := Lib.hid (Below.refl wr.drew.heap.size wr.drew)
          simp only [cellsS, List.cons_append, List.nil_append] at *
          refine tks [0, 1, 2, 3, 4, 5, 6, 7, 8, 9, 10] 11 rfl (by kernel_rfl) (fun _ _ _ _ h => h) (by assumption) (fun KT hKT => ?_)
          iterate 11 (refine tkT (by (simp only [gA, gB, gC]; rfl)) (by rfl) (by (intro w hSw; (simp only [Holds] at hSw); go_simp <;> with_reducible rfl)) ?_; simp only [Act.put, pA, pB, pC])
          refine hKT _ ?_
          clear KT hKT
          refine wpAnyH_ready (rs := [11]) (by kernel_rfl) (by simp) ?_
          refine AllReadyH.cons (o := ?oz206) ?iz206 (fun K hK => ?kz206) AllReadyH.nil
          case iz206 => (simp only [List.getElem?_toArray, List.getElem?_cons_zero, List.getElem?_cons_succ]; rfl)
          go_simp
          change Calls _ _ #[stopV s, stopV t] _ _
          refine (rfar_any s t _).mono ?_
          rintro e w2 ⟨rfl, hb⟩
          refine held_more hK HS0.out hlt (Bc.out.trans (hb.mono Bc.out.size)) (fun Bc hSn => ?_)
          clear hb hK
          refine wpAnyH_ready (rs := [12]) (by kernel_rfl) (by simp) ?_
          refine AllReadyH.cons (o := ?oz207) ?iz207 (fun K hK => ?kz207) AllReadyH.nil
          case iz207 => (simp only [List.getElem?_toArray, List.getElem?_cons_zero, List.getElem?_cons_succ]; rfl)
          go_simp
          refine held_more hK HS0.out hlt (Bc.out.alloc Bc.out.size _) (fun Bc hSn => ?_)
          refine wpAnyH_ready (rs := [13]) (by kernel_rfl) (by simp) ?_
          refine (AllReadyH.cons (o := ?oz208) ?iz208 (fun K hK => ?kz208) AllReadyH.nil)
          case iz208 => (simp only [List.getElem?_toArray, List.getElem?_cons_zero, List.getElem?_cons_succ]; rfl)
          simp only [Act.put, List.setIfInBounds_toArray, List.set_cons_zero, List.set_cons_succ]
          rw [if_pos (by rfl)]
          have HBC := Lib.hid (((Below.refl wo.heap.size wr).drew.mono (Nat.le_refl _)).trans (Bc.out.mono hszk))
          have HOC := Lib.hid ((HOK.out.below ((Below.refl _ wr).drew)).below Bc.out)
          refine wp_app_int _ _ (by rfl) wo.heap.size _ ys (by rfl) HOC.out _ (farF s t) (by rfl) (by go_simp) hyl (HBK.out.trans HBC.out).size ?_
          intro v' w5 hown hgrow
          have HN := Lib.hid hown
          have HB5 := Lib.hid ((HBK.out.trans HBC.out).trans (grown_below hgrow (HBK.out.trans HBC.out).size (fun q hq => (World.ownsRow.lt HOC.out q hq).1)))
          refine hK.out _ _ (Holds.grown hgrow (HBK.out.trans HBC.out).size (fun q hq => (World.ownsRow.lt HOC.out q hq).1) hSn HLO.out) (fun hSn => ?_)
          clear hown hgrow hK
          refine tks [14] 1 rfl (by kernel_rfl) (fun _ _ _ _ h => h) (by assumption) (fun KT hKT => ?_)
          refine tkT (by (simp only [gA, gB, gC]; rfl)) (by rfl) (by (intro w hSw; (simp only [Holds] at hSw); go_simp <;> with_reducible rfl)) ?_
          simp only [Act.put, pA, pB, pC]
          refine hKT _ ?_
          clear KT hKT
          refine wpAnyH_done (by kernel_rfl) ?_ _
          go_wp2
          go_roundw
          case rel => exact ⟨k + 1, by omega, by go_num, by rw [HRT.out]; exact HN.out, HB5.out⟩
          case measure => simp [intOf]; omega
        · obtain rfl : k = I.l.length := by omega
          have hR : (rowF I.l (nth I.l i)).take I.l.length = rowF I.l (nth I.l i) := by rw [List.take_of_length_le (by rw [rowF_len]; exact Nat.le_refl _)]
          rw [hR] at HOK
          generalize rowF I.l (nth I.l i) = rw0 at *
          have HONk := Lib.hid (HON.out.below HBK.out)
          have HOKk := Lib.hid (HOK.out.less (show w.heap.size + 1 ≤ wo.heap.size by omega))
          have hszw : w.heap.size + 1 ≤ wr.heap.size := by omega
          obtain ⟨ua, uc, rfl⟩ := HOKk.out.shape
          obtain ⟨oa, oc, rfl⟩ := HONk.out.shape
          clear hkl hk hR b3
          go_wp2_with (first | (at_builtin; refine app_line rfl _ _ rfl (w.heap.size + 1) _ A rfl wr _ rfl HONk.out rw0 rfl HOKk.out hLL hszw ?_))
          intro v' w' hown hgrow
          have HN := Lib.hid hown
          have HBN := Lib.hid (HBW.out.trans (HBK.out.mono hsz |>.trans (grown_below hgrow (by omega) (fun q hq => HONk.out.ge q hq))))
          clear hown hgrow
          go_wp2
          go_roundw
          case rel => exact ⟨i + 1, by omega, by go_num, by rw [HT.out]; exact HN.out, HBN.out⟩
          case measure => simp [intOf]; omega
    · obtain rfl : i = I.l.length := by omega
      rw [List.take_of_length_le (by rw [matF_len]; exact Nat.le_refl _)] at HON
      clear hlt hi
      go_wp2
      go_ret
      exact ⟨_, rfl, by rw [HM.out]; exact HON.out.less (Nat.le_succ _), HBB.out⟩
/-! ### The document's Near -/
def colL (M : List (List Int)) (k : Nat) : List Int := M.map (fun r => r.getD k 0)
theorem colL_len (M : List (List Int)) (k : Nat) : (colL M k).length = M.length := by simp [colL]
theorem colL_at (M : List (List Int)) (k i : Nat) (hi : i < M.length) : (colL M k).getD i 0 = (M.getD i []).getD k 0 := by
  unfold colL
  rw [List.getD_eq_getElem?_getD, List.getElem?_map, List.getD_eq_getElem?_getD (l := M), List.getElem?_eq_getElem hi]
  rfl
theorem colF (l : List Stp) (k : Nat) (hk : k < l.length) : colL (matF l) k = (matF l).getD k [] := by
  rw [matF_at l k hk]
  apply List.ext_getElem
  · rw [colL_len, matF_len, rowF_len]
  · intro i h1 h2
    rw [colL_len, matF_len] at h1
    have a := colL_at (matF l) k i (by rw [matF_len]; exact h1)
    rw [matF_at l i h1, rowF_at l _ k hk, farF_comm, ← rowF_at l _ i h1, List.getD_eq_getElem?_getD, List.getD_eq_getElem?_getD, List.getElem?_eq_getElem (by rw [colL_len, matF_len]; exact h1), List.getElem?_eq_getElem h2] at a
    simpa using a
/-- What has been seen of a row, less the one at its own place. -/
def seen (c : List Int) (i k : Nat) : List Int := (c.take i).eraseIdx k
theorem seen_skip (c : List Int) (k : Nat) (hk : k < c.length) : seen c (k + 1) k = seen c k k := by
  unfold seen
  have hl : (c.take k).length = k := by rw [List.length_take]; omega
  have e : (c.take k ++ [c[k]]).eraseIdx k = c.take k := by
    rw [List.eraseIdx_append_of_length_le (by omega), hl, Nat.sub_self]; simp
  rw [List.take_add_one, List.getElem?_eq_getElem hk, show (some c[k]).toList = [c[k]] from rfl, e, List.eraseIdx_of_length_le (by omega)]
theorem seen_next (c : List Int) (i k : Nat) (hi : i < c.length) (hn : i ≠ k) : seen c (i + 1) k = seen c i k ++ [c.getD i 0] := by
  unfold seen
  have hl : (c.take i).length = i := by rw [List.length_take]; omega
  rw [List.take_add_one, List.getElem?_eq_getElem hi, List.getD_eq_getElem?_getD, List.getElem?_eq_getElem hi]
  simp only [Option.toList_some, Option.getD_some]
  by_cases h : k < i
  · rw [List.eraseIdx_append_of_lt_length (by omega)]
  · rw [List.eraseIdx_append_of_length_le (by omega), hl, List.eraseIdx_of_length_le (l := c.take i) (by omega), List.eraseIdx_of_length_le (l := [c[i]]) (by simp; omega)]
theorem seen_none (c : List Int) (i k : Nat) (hi : i ≤ c.length) (h : i = 0 ∨ k = 0 ∧ i = 1) : seen c i k = [] := by
  unfold seen
  apply List.eq_nil_of_length_eq_zero
  rw [List.length_eraseIdx, List.length_take, Nat.min_eq_left hi]
  split <;> omega
theorem seen_some (c : List Int) (i k : Nat) (hi : i ≤ c.length) (h0 : i ≠ 0) (h : k ≠ 0 ∨ i ≠ 1) (hn : i ≠ k) : ∃ a r, seen c i k = a :: r := by
  have : (seen c i k).length ≠ 0 := by
    unfold seen
    rw [List.length_eraseIdx, List.length_take, Nat.min_eq_left hi]
    split <;> omega
  match h1 : seen c i k with
  | [] => rw [h1] at this; simp at this
  | a :: r => exact ⟨a, r, rfl⟩
theorem seen_all (c : List Int) (k : Nat) : seen c c.length k = c.eraseIdx k := by unfold seen; rw [List.take_length]
theorem least_first (c : List Int) (i k : Nat) (hi : i < c.length) (hn : i ≠ k) (h : i = 0 ∨ k = 0 ∧ i = 1) : leastL (seen c (i + 1) k) = c.getD i 0 := by
  rw [seen_next c i k hi hn, seen_none c i k (by omega) h]; rfl
theorem least_more (c : List Int) (i k : Nat) (hi : i < c.length) (h0 : i ≠ 0) (h : k ≠ 0 ∨ i ≠ 1) (hn : i ≠ k) : leastL (seen c (i + 1) k) = min (leastL (seen c i k)) (c.getD i 0) := by
  obtain ⟨a, r, e⟩ := seen_some c i k (by omega) h0 h hn
  rw [seen_next c i k hi hn, e]
  exact leastL_snoc a r _
theorem nearK_col (l : List Stp) (k : Nat) (hk : k < l.length) : nearK (matF l) (k + 1) = nearK (matF l) k ++ [leastL ((colL (matF l) k).eraseIdx k)] := by
  rw [nearK_next, colF l k hk]
set_option maxRecDepth 1000000 in
set_option maxHeartbeats 1000000 in
theorem rnear_any {w : World} {v : Value} {I : Ins} (h : SRow w v I.l) :
    Calls Tryz.prog 112 #[insV I v] w fun e w' => ∃ u, e = .returned u ∧ OwnI w' w.heap.size u (nearM (matI I)) ∧ Below w.heap.size w w' := by
  have H := Lib.hid h
  obtain ⟨ad, cap, rfl, hm, _⟩ := h.form
  clear h hm
  unfold insV
  go_enter Tryz.func112, Tryz.ntmps112
  go_wp2_with fail
  change Calls _ _ #[insV I (.slice ad I.l.length cap)] (w.alloc (boxI I (.slice ad I.l.length cap))) _
  have HB0 := Lib.hid ((Below.refl _ w).alloc (Nat.le_refl _) (boxI I (.slice ad I.l.length cap)))
  generalize w.alloc (boxI I (.slice ad I.l.length cap)) = W at *
  refine (rmatrix_any (H.out.below HB0.out)).mono ?_
  rintro e w1 ⟨mv, rfl, hl, hb⟩
  have HBA := Lib.hid (HB0.out.trans (hb.mono HB0.out.size))
  have HMM := Lib.hid (show (matI I).length ≤ 1000 ∧ (∀ i, i < (matI I).length → ((matI I).getD i []).length = (matI I).length) ∧ ∀ k, k < (matI I).length → nearK (matI I) (k + 1) = nearK (matI I) k ++ [leastL ((colL (matI I) k).eraseIdx k)] by
    unfold matI
    split
    · next hm =>
      have := (pmay_len hm).2
      rw [matF_len]
      exact ⟨by omega, fun i hi => by rw [matF_at _ _ hi, rowF_len], fun k hk => nearK_col _ _ hk⟩
    · exact ⟨by simp, fun i hi => by simp at hi, fun i hi => by simp at hi⟩)
  obtain ⟨M, hME⟩ : ∃ M, matI I = M := ⟨_, rfl⟩
  rw [hME] at HMM hl
  have HME := Lib.hid hME
  clear hME
  obtain ⟨ma, mc, rfl⟩ := hl.shape
  have HL := Lib.hid hl.is
  have hm1 : M.length ≤ 9223372036854775807 := by have := HMM.out.1; omega
  clear hb hl
  go_wp2_with fail
  go_loopw [4, 5] (fun u i wr => ∃ k : Nat, k ≤ M.length ∧ i = .int .i64 k ∧ OwnI wr w1.heap.size u (nearK M k) ∧ Below w1.heap.size w1 wr) (fun _ i _ => M.length - (intOf i).toNat)
  case atStart => exact ⟨0, Nat.zero_le _, rfl, ownI_nil _ _, Below.refl _ _⟩
  case round =>
    obtain ⟨k, hk, rfl, hon, hbw⟩ := hrel
    have HON := Lib.hid hon
    have HBW := Lib.hid hbw
    clear hon hbw
    by_cases hlt : k < M.length
    · have HNX := Lib.hid (HMM.out.2.2 k hlt)
      have hyl : (nearK M k).length ≤ 1000000 := by rw [nearK_len]; have := HMM.out.1; omega
      have hcl := colL_len M k
      have HCA := Lib.hid (colL_at M k)
      generalize nearK M k = ys at *
      generalize colL M k = c at *
      have HCL := Lib.hid hcl
      have hltT : (k : Int) < (M.length : Int) := by omega
      obtain ⟨wo, hwo⟩ : ∃ wo, wo = wr := ⟨_, rfl⟩
      subst hwo
      clear hcl
      go_wp2_with fail
      go_loopw [6, 7] (fun m j wk => ∃ i : Nat, i ≤ M.length ∧ j = .int .i64 i ∧ m = .int .i64 (leastL (seen c i k)) ∧ Below wo.heap.size wo wk) (fun _ j _ => M.length - (intOf j).toNat)
      case atStart => exact ⟨0, Nat.zero_le _, rfl, by rw [seen_none c 0 k (Nat.zero_le _) (.inl rfl)]; rfl, Below.refl _ _⟩
      case round =>
        obtain ⟨i, hi, rfl, rfl, hbk⟩ := hrel
        have HBK := Lib.hid hbk
        have HBx := Lib.hid (HBW.out.trans (hbk.mono HBW.out.size))
        clear hbk
        by_cases hil : i < M.length
        · obtain ⟨ta, oa, a1, n1, c1, rfl, hta, ca, hn1, hx1, r1⟩ := ll_at (HL.out.below HBx.out) i hil
          have hlr := HMM.out.2.1 i hil
          have HX := Lib.hid (HCA.out i hil)
          generalize M.getD i [] = r at *
          obtain ⟨b, off, he, hcell, _⟩ := row_cell r1 k (by rw [ints_len]; omega)
          subst he
          rw [ints_at _ _ (by omega)] at hcell
          obtain ⟨x, hx⟩ : ∃ x, r.getD k 0 = x := ⟨_, rfl⟩
          rw [hx] at hcell HX
          have hn2 : n1 = M.length := by omega
          subst hn2
          have HIK := Lib.hid hlt
          clear hx hlr hn1 hx1 r1
          obtain ⟨m, hmm⟩ : ∃ m, leastL (seen c i k) = m := ⟨_, rfl⟩
          have HCI := Lib.hid (show i < c.length by rw [HCL.out]; exact hil)
          by_cases ek : i = k
          · have HS := Lib.hid (show leastL (seen c (i + 1) k) = m by rw [← hmm]; subst ek; rw [seen_skip c i HCI.out])
            have p1 : ((i : Int) != (k : Int)) = false := by simp [ek]
            rw [hmm]
            clear ek hmm
            go_wp2
            go_roundw
            case rel => exact ⟨i + 1, by omega, by go_num, by rw [HS.out], HBK.out⟩
            case measure => simp [intOf]; omega
          have p1 : ((i : Int) != (k : Int)) = true := by simp; omega
          by_cases e0 : i = 0
          · have HS := Lib.hid (show leastL (seen c (i + 1) k) = x by rw [least_first c i k HCI.out ek (.inl e0)]; exact HX.out)
            have p2 : ((i : Int) == 0) = true := by simp [e0]
            rw [hmm]
            clear ek hmm e0
            go_wp2
            go_roundw
            case rel => exact ⟨i + 1, by omega, by go_num, by rw [HS.out], HBK.out⟩
            case measure => simp [intOf]; omega
          have p2 : ((i : Int) == 0) = false := by simp [e0]
          by_cases e1 : k = 0 ∧ i = 1
          · have HS := Lib.hid (show leastL (seen c (i + 1) k) = x by rw [least_first c i k HCI.out ek (.inr e1)]; exact HX.out)
            have p3 : ((k : Int) == 0) = true := by simp [e1.1]
            have p4 : ((i : Int) == 1) = true := by simp [e1.2]
            rw [hmm]
            clear ek hmm e0 e1
            go_wp2
            go_roundw
            case rel => exact ⟨i + 1, by omega, by go_num, by rw [HS.out], HBK.out⟩
            case measure => simp [intOf]; omega
          have HMN := Lib.hid (show leastL (seen c (i + 1) k) = min m x by rw [least_more c i k HCI.out e0 (by omega) ek, hmm, HX.out])
          by_cases e2 : x < m
          · have HS := Lib.hid (show leastL (seen c (i + 1) k) = x by rw [HMN.out]; omega)
            have p5 : decide (x < m) = true := decide_eq_true e2
            rw [hmm]
            by_cases e3 : k = 0
            · have p3 : ((k : Int) == 0) = true := by simp [e3]
              have p4 : ((i : Int) == 1) = false := by simp; omega
              clear ek hmm e0 e1 e2 e3
              go_wp2
              go_roundw
              case rel => exact ⟨i + 1, by omega, by go_num, by rw [HS.out], HBK.out⟩
              case measure => simp [intOf]; omega
            · have p3 : ((k : Int) == 0) = false := by simp [e3]
              clear ek hmm e0 e1 e2 e3
              go_wp2
              go_roundw
              case rel => exact ⟨i + 1, by omega, by go_num, by rw [HS.out], HBK.out⟩
              case measure => simp [intOf]; omega
          · have HS := Lib.hid (show leastL (seen c (i + 1) k) = m by rw [HMN.out]; omega)
            have p5 : decide (x < m) = false := decide_eq_false e2
            rw [hmm]
            by_cases e3 : k = 0
            · have p3 : ((k : Int) == 0) = true := by simp [e3]
              have p4 : ((i : Int) == 1) = false := by simp; omega
              clear ek hmm e0 e1 e2 e3
              go_wp2
              go_roundw
              case rel => exact ⟨i + 1, by omega, by go_num, by rw [HS.out], HBK.out⟩
              case measure => simp [intOf]; omega
            · have p3 : ((k : Int) == 0) = false := by simp [e3]
              clear ek hmm e0 e1 e2 e3
              go_wp2
              go_roundw
              case rel => exact ⟨i + 1, by omega, by go_num, by rw [HS.out], HBK.out⟩
              case measure => simp [intOf]; omega
        · obtain rfl : i = M.length := by omega
          have HS := Lib.hid (show leastL (seen c M.length k) = leastL (c.eraseIdx k) by rw [← HCL.out, seen_all])
          rw [HS.out]
          generalize leastL (c.eraseIdx k) = x at *
          have HOx := Lib.hid (HON.out.below HBK.out)
          obtain ⟨ua, uc, rfl⟩ := HOx.out.shape
          clear hil hi
          go_wp2_with (first | (at_builtin; refine app_ints rfl _ _ rfl w1.heap.size _ ys rfl (HOx.out.alloc _) _ [x] rfl (row_newi _ _) (by simp; omega) (by have := HBx.out.size; simp; omega) ?_))
          intro v' w' hown hgrow _
          have HN := Lib.hid hown
          have HBN := Lib.hid (HBx.out.trans (grown_below (grown_alloc hgrow) HBx.out.size (fun q hq => (World.ownsRow.lt HOx.out q hq).1)))
          clear hown hgrow
          go_wp2
          go_roundw
          case rel => exact ⟨k + 1, by omega, by go_num, by rw [HNX.out]; exact HN.out, HBN.out⟩
          case measure => simp [intOf]; omega
    · obtain rfl : k = M.length := by omega
      clear hlt hk
      go_wp2
      go_ret
      exact ⟨_, rfl, by rw [HME.out]; exact HON.out.less HBA.out.size, HBA.out.trans (HBW.out.mono HBA.out.size)⟩
end Go.Proofs.YtgplajofemencaaGreat
