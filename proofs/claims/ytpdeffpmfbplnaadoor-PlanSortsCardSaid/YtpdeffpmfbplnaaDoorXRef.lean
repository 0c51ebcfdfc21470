/- What the document's word, line and Lines answer. -/
import Derived.Test.YtpdeffpmfbplnaaDoorXSame
namespace Go.Proofs.YtpdeffpmfbplnaaDoor
open Go.ChangeShapes Go.WideShapes Go.ChangeAt Go.RowKit

theorem digs_bd : ∀ (d : List Int) (n m : Int) (k : Nat), 0 ≤ n → n < 10 ^ k → digs n d = some m → m < 10 ^ (k + d.length)
  | [], n, m, k, _, h, e => by simp [digs] at e; subst e; simpa using h
  | c :: r, n, m, k, h0, h, e => by
    unfold digs at e
    split at e
    · simp at e
    · have := digs_bd r (10 * n + (c - 48)) m (k + 1) (by omega) (by rw [Int.pow_succ]; omega) e
      rw [show k + (c :: r).length = k + 1 + r.length by simp; omega]
      exact this
/-- What is known of the digits gone over. -/
def DigJ (d : List Int) (k : Nat) (n : Int) : Prop := digs 0 d = digs n (d.drop k) ∧ 0 ≤ n ∧ n < 10 ^ k
theorem digJ_step {d : List Int} {k : Nat} {n c : Int} (h : DigJ d k n) (hk : k < d.length) (hc : d.getD k 0 = c) (h1 : 48 ≤ c) (h2 : c ≤ 57) : DigJ d (k + 1) (10 * n + (c - 48)) := by
  obtain ⟨e, h3, h4⟩ := h
  refine ⟨?_, by omega, by rw [Int.pow_succ]; omega⟩
  rw [e, drop_at d k hk c hc]
  show (if c < 48 ∨ 57 < c then none else digs (10 * n + (c - 48)) (d.drop (k + 1))) = _
  rw [if_neg (by omega)]
theorem digJ_bad {d : List Int} {k : Nat} {n c : Int} (h : DigJ d k n) (hk : k < d.length) (hc : d.getD k 0 = c) (h1 : c < 48 ∨ 57 < c) : digs 0 d = none := by
  rw [h.1, drop_at d k hk c hc]
  show (if c < 48 ∨ 57 < c then none else digs (10 * n + (c - 48)) (d.drop (k + 1))) = _
  rw [if_pos h1]
theorem digJ_end {d : List Int} {n : Int} (h : DigJ d d.length n) : digs 0 d = some n := by rw [h.1]; simp [digs]
theorem digJ_small {d : List Int} {k : Nat} {n : Int} (h : DigJ d k n) (hk : k ≤ 12) : n < 1000000000000 := by
  have h1 : (10 : Int) ^ k ≤ 10 ^ 12 := by
    have := Nat.pow_le_pow_right (n := 10) (by decide) hk
    exact_mod_cast this
  have := h.2.2
  omega
/-- What word answers, told by the number of bytes and the sign. -/
theorem word_plain (b : List Int) (h : b.head? ≠ some 45) : wordS b = if b.length < 1 ∨ 12 < b.length then none else digs 0 b := by unfold wordS; rw [if_neg h]
theorem word_minus (r : List Int) : wordS (45 :: r) = if r.length < 1 ∨ 12 < r.length then none else (digs 0 r).map (fun n => -n) := by unfold wordS; simp

set_option maxRecDepth 1000000 in
set_option maxHeartbeats 1000000 in
theorem word_any {w : World} {tv : Value} {b : List Int} (h : Row w tv (byts b)) :
    Calls Tryd.prog 79 #[tv] w fun e w' => e = .returned (.tuple #[.int .i64 ((wordS b).getD 0), .bool (wordS b).isSome]) ∧ w = w' := by
  have H := Lib.hid h
  obtain ⟨a, cap, rfl, hm⟩ := h.form
  simp only [byts_len] at *
  clear h
  clear hm
  match b, H with
  | [], H =>
    have HW := Lib.hid (show wordS [] = none by decide)
    go_enter Tryd.func79, Tryd.ntmps79
    go_wp2
    refine bodyPost_ret (v := .tuple #[.int .i64 0, .bool false]) ?_ rfl ?_
    · simp [results, Tryd.results79, go_sem]
    rw [HW.out]
    exact ⟨rfl, rfl⟩
  | c :: r, H =>
    obtain ⟨tb, off, rfl, hc, htb⟩ := row_cell H.out 0 (by simp [byts])
    simp [byts] at hc
    have hcap0 : (c :: r).length ≤ cap := by
      obtain ⟨_, a', cap', he, hc', _⟩ := H.out
      simp [byts_len] at he hc'
      simp; omega
    by_cases h45 : c = 45
    · subst h45
      have b0 : decide ((0 : Int) < (r.length : Int) + 1) = true := decide_eq_true (by omega)
      by_cases hr : r.length < 1 ∨ 12 < r.length
      · have HN := Lib.hid (show wordS (45 :: r) = none by rw [word_minus, if_pos hr])
        have key : decide ((r.length : Int) < 1) = true ∨ (decide ((r.length : Int) < 1) = false ∧ decide ((12 : Int) < (r.length : Int)) = true) := by simp only [decide_eq_true_eq, decide_eq_false_iff_not]; omega
        clear hr
        rcases key with b1 | ⟨b1, b2⟩
        all_goals
          go_enter Tryd.func79, Tryd.ntmps79
          go_wp2
        all_goals
          refine bodyPost_ret (v := .tuple #[.int .i64 0, .bool false]) ?_ rfl ?_
          · simp [results, Tryd.results79, go_sem]
          rw [HN.out]
          exact ⟨rfl, rfl⟩
      · have b1 : decide ((r.length : Int) < 1) = false := decide_eq_false (by omega)
        have b2 : decide ((12 : Int) < (r.length : Int)) = false := decide_eq_false (by omega)
        have hcap : ¬ cap = 1 := by simp at hcap0; omega
        have hr1 : 1 ≤ r.length := by omega
        have hr2 : r.length ≤ 12 := by omega
        clear hr
        go_enter Tryd.func79, Tryd.ntmps79
        go_wp2_with fail
        go_loop [5, 6] (fun n i => ∃ (k : Nat) (nn : Int), k ≤ r.length ∧ i = .int .i64 k ∧ n = .int .i64 nn ∧ DigJ r k nn) (fun _ i => r.length - (intOf i).toNat)
        case atStart => exact ⟨0, 0, Nat.zero_le _, rfl, rfl, rfl, by decide, by decide⟩
        case round =>
          obtain ⟨k, nn, hk, rfl, rfl, hJ⟩ := hrel
          have HJ := Lib.hid hJ
          have hj1 := hJ.2.1
          have hj2 := digJ_small hJ (by omega)
          clear hJ
          by_cases hlt : k < r.length
          · have hck := row_here H.out (k + 1) (by simp [byts]; try omega)
            rw [byts_at _ _ (by simp; try omega)] at hck
            obtain ⟨x, hx⟩ : ∃ x, r.getD k 0 = x := ⟨_, rfl⟩
            have hx2 : (45 :: r).getD (k + 1) 0 = x := by rw [← hx]; simp [List.getD]
            rw [hx2, show off + (k + 1) = off + 1 + k by omega] at hck
            have HX := Lib.hid hx
            clear hx hx2
            by_cases hdig : 48 ≤ x ∧ x ≤ 57
            · obtain ⟨hd1, hd2⟩ := hdig
              have b1 : decide (x < 48) = false := decide_eq_false (by omega)
              have b2 : decide (57 < x) = false := decide_eq_false (by omega)
              have e3 : IntKind.i64.wrap (10 * nn) = 10 * nn := IntWalk.i64_in _ (by omega)
              have e4 : IntKind.u8.wrap (x - 48) = x - 48 := by rw [IntKind.wrap_u8]; omega
              have e5 : IntKind.i64.wrap (x - 48) = x - 48 := IntWalk.i64_in _ (by omega)
              have e6 : IntKind.i64.wrap (10 * nn + (x - 48)) = 10 * nn + (x - 48) := IntWalk.i64_in _ (by omega)
              have HJ2 := Lib.hid (digJ_step HJ.out hlt HX.out hd1 hd2)
              go_wp2
              go_round
              case rel => exact ⟨k + 1, _, by omega, by go_num, rfl, HJ2.out⟩
              case measure => simp [intOf]; omega
            · have HN := Lib.hid (show wordS (45 :: r) = none by rw [word_minus, if_neg (by omega), digJ_bad HJ.out hlt HX.out (by omega)]; rfl)
              have key : decide (x < 48) = true ∨ (decide (x < 48) = false ∧ decide (57 < x) = true) := by simp only [decide_eq_true_eq, decide_eq_false_iff_not]; omega
              clear hdig
              rcases key with b1 | ⟨b1, b2⟩
              all_goals
                go_wp2
                refine bodyPost_ret (v := .tuple #[.int .i64 0, .bool false]) ?_ rfl ?_
                · simp [results, Tryd.results79, go_sem]
                rw [HN.out]
                exact ⟨rfl, rfl⟩
          · obtain rfl : k = r.length := by omega
            clear hlt hk
            have HW := Lib.hid (show wordS (45 :: r) = some (-nn) by rw [word_minus, if_neg (by omega), digJ_end HJ.out]; rfl)
            have en : IntKind.i64.wrap (-nn) = -nn := IntWalk.i64_in _ (by omega)
            go_wp2
            refine bodyPost_ret (v := .tuple #[.int .i64 (-nn), .bool true]) ?_ rfl ?_
            · simp [results, Tryd.results79, go_sem]
            rw [HW.out]
            exact ⟨rfl, rfl⟩
    · have h45b : (c == 45) = false := by simpa using h45
      have b0 : decide ((0 : Int) < (r.length : Int) + 1) = true := decide_eq_true (by omega)
      by_cases hr : 12 < r.length + 1
      · have HN := Lib.hid (show wordS (c :: r) = none by rw [word_plain _ (by simpa using h45), if_pos (.inr (by simpa using hr))])
        have b1 : decide ((r.length : Int) + 1 < 1) = false := decide_eq_false (by omega)
        have b2 : decide ((12 : Int) < (r.length : Int) + 1) = true := decide_eq_true (by omega)
        clear h45
        go_enter Tryd.func79, Tryd.ntmps79
        go_wp2
        refine bodyPost_ret (v := .tuple #[.int .i64 0, .bool false]) ?_ rfl ?_
        · simp [results, Tryd.results79, go_sem]
        rw [HN.out]
        exact ⟨rfl, rfl⟩
      · have b1 : decide ((r.length : Int) + 1 < 1) = false := decide_eq_false (by omega)
        have b2 : decide ((12 : Int) < (r.length : Int) + 1) = false := decide_eq_false (by omega)
        have hr2 : (c :: r).length ≤ 12 := by simp; omega
        have hr3 : r.length ≤ 11 := by omega
        clear hr
        go_enter Tryd.func79, Tryd.ntmps79
        go_wp2_with fail
        go_loop [5, 6] (fun n i => ∃ (k : Nat) (nn : Int), k ≤ (c :: r).length ∧ i = .int .i64 k ∧ n = .int .i64 nn ∧ DigJ (c :: r) k nn) (fun _ i => (c :: r).length - (intOf i).toNat)
        case atStart => exact ⟨0, 0, Nat.zero_le _, rfl, rfl, rfl, by decide, by decide⟩
        case round =>
          obtain ⟨k, nn, hk, rfl, rfl, hJ⟩ := hrel
          have HJ := Lib.hid hJ
          have hj1 := hJ.2.1
          have hj2 := digJ_small hJ (by omega)
          clear hJ
          by_cases hlt : k < (c :: r).length
          · have hck := row_here H.out k (by simp [byts]; try omega)
            rw [byts_at _ _ (by simp; try omega)] at hck
            obtain ⟨x, hx⟩ : ∃ x, (c :: r).getD k 0 = x := ⟨_, rfl⟩
            have hx2 : (c :: r).getD k 0 = x := hx
            have bk : decide ((k : Int) < (r.length : Int) + 1) = true := decide_eq_true (by simp at hlt; omega)
            have hlt3 : k < r.length + 1 := by simpa using hlt
            rw [hx2] at hck
            have HX := Lib.hid hx
            clear hx hx2
            by_cases hdig : 48 ≤ x ∧ x ≤ 57
            · obtain ⟨hd1, hd2⟩ := hdig
              have b1 : decide (x < 48) = false := decide_eq_false (by omega)
              have b2 : decide (57 < x) = false := decide_eq_false (by omega)
              have e3 : IntKind.i64.wrap (10 * nn) = 10 * nn := IntWalk.i64_in _ (by omega)
              have e4 : IntKind.u8.wrap (x - 48) = x - 48 := by rw [IntKind.wrap_u8]; omega
              have e5 : IntKind.i64.wrap (x - 48) = x - 48 := IntWalk.i64_in _ (by omega)
              have e6 : IntKind.i64.wrap (10 * nn + (x - 48)) = 10 * nn + (x - 48) := IntWalk.i64_in _ (by omega)
              have HJ2 := Lib.hid (digJ_step HJ.out hlt HX.out hd1 hd2)
              go_wp2
              go_round
              case rel => exact ⟨k + 1, _, by omega, by go_num, rfl, HJ2.out⟩
              case measure => simp [intOf]; omega
            · have HN := Lib.hid (show wordS (c :: r) = none by rw [word_plain _ (by simpa using h45), if_neg (by simp; omega), digJ_bad HJ.out hlt HX.out (by omega)])
              have key : decide (x < 48) = true ∨ (decide (x < 48) = false ∧ decide (57 < x) = true) := by simp only [decide_eq_true_eq, decide_eq_false_iff_not]; omega
              clear hdig
              rcases key with b1 | ⟨b1, b2⟩
              all_goals
                go_wp2
                refine bodyPost_ret (v := .tuple #[.int .i64 0, .bool false]) ?_ rfl ?_
                · simp [results, Tryd.results79, go_sem]
                rw [HN.out]
                exact ⟨rfl, rfl⟩
          · obtain rfl : k = (c :: r).length := by omega
            clear hlt hk
            have bk : decide (((r.length + 1 : Nat) : Int) < (r.length : Int) + 1) = false := decide_eq_false (by omega)
            have HW := Lib.hid (show wordS (c :: r) = some nn by rw [word_plain _ (by simpa using h45), if_neg (by simp; omega), digJ_end HJ.out])
            go_wp2
            refine bodyPost_ret (v := .tuple #[.int .i64 nn, .bool true]) ?_ rfl ?_
            · simp [results, Tryd.results79, go_sem]
            rw [HW.out]
            exact ⟨rfl, rfl⟩
end Go.Proofs.YtpdeffpmfbplnaaDoor
/- What the document's line and Lines answer. -/
namespace Go.Proofs.YtpdeffpmfbplnaaDoor
open Go.ChangeShapes Go.WideShapes Go.ChangeAt Go.RowKit

/-- Numbers that a call has made. -/
def OwnI (w : World) (B : Nat) (v : Value) (ys : List Int) : Prop := w.ownsRow B 3 1 v ys.length (ints ys)
theorem OwnI.alloc {w : World} {B : Nat} {v : Value} {ys : List Int} (h : OwnI w B v ys) (O : Obj) : OwnI (w.alloc O) B v ys := World.ownsRow.alloc h O
theorem OwnI.row {w : World} {B : Nat} {v : Value} {ys : List Int} (h : OwnI w B v ys) : Row w v (ints ys) := own_row h
theorem OwnI.below {w w' : World} {B : Nat} {v : Value} {ys : List Int} (h : OwnI w B v ys) (hb : Below w.heap.size w w') : OwnI w' B v ys := own_below h hb
theorem ownI_nil (w : World) (B : Nat) : OwnI w B (.slice none 0 0) [] := World.ownsRow_nil _ _ _ _
/-- Two of them: what grows at one leaves the other. -/
theorem OwnI.kept {w w' : World} {B : Nat} {v : Value} {ys : List Int} {row : Option Nat} (h : OwnI w B v ys) (hg : w.grownBy w' row) (hne : v.ownBlock = none ∨ v.ownBlock ≠ row) : OwnI w' B v ys := World.ownsRow.kept h hg hne
/-- Numbers put behind numbers that a call has made. -/
theorem app_ints {w : World} {ops : Array Oper} {rest : List Oper} {o : Oper} {a : Act} {Q : Exit → Act → World → Prop} (hgd : o.guard = none) (s x : Operand)
    (ho : o.op = .call { callee := .builtin .append, args := #[s, x], argTypes := #[42, 42] }) (B : Nat) (v : Value) (ys : List Int) (hs : a.eval s = v) (hown : OwnI w B v ys)
    (u : Value) (xs : List Int) (hx : a.eval x = u) (hr : Row w u (ints xs)) (hlen : ys.length + xs.length ≤ 10000000) (hB : B ≤ w.heap.size)
    (h : ∀ v' w', OwnI w' B v' (ys ++ xs) → w.grownBy w' v.ownBlock → (v'.ownBlock = v.ownBlock ∨ v'.ownBlock = some w.heap.size) → wpList Tryd.prog ops Q rest (a.put o.dst v') w') : wpList Tryd.prog ops Q (o :: rest) a w := by
  obtain ⟨i0, hi, hz0, hz1, hz2⟩ := info_parts infoInt
  obtain ⟨hm, ad, cap, rfl, hc, ⟨hc2, hn⟩, hcell⟩ := hr
  rw [ints_len] at *
  cases ad with
  | none =>
    have hc0 : cap = 0 := hn rfl
    subst hc0
    have hxs : xs = [] := List.eq_nil_of_length_eq_zero (by omega)
    subst hxs
    refine wpList_append_own_none hgd s x 42 ho B 3 i0 1 Tryd.underlying42 hi v ys.length (ints ys) hs hown hx (h v w ?_ ⟨rfl, rfl, rfl, Nat.le_refl _, fun _ _ _ => rfl⟩ (.inl rfl))
    rw [List.append_nil]; exact hown
  | some ad =>
    refine wpList_append_own_at w hgd s x 42 ho B 3 i0 _ 1 8 Tryd.underlying42 hi hz0 hz1 hz2 rfl (by decide) v ys.length (ints ys) hs hown ad xs.length cap (ints xs) hx (by rw [ints_len]; omega) ?_ ?_ (by unfold maxLen; omega) (by omega) hB ?_
    · intro j w0 hj
      rcases hcell with h0 | ⟨b, off, he, hcc⟩
      · rw [h0] at hj; simp at hj
      · simp at he
        subst he
        have hjl : j < xs.length := by
          rcases Nat.lt_or_ge j xs.length with h | h
          · exact h
          · rw [List.getElem?_eq_none (by rw [ints_len]; exact h)] at hj; simp at hj
        rw [add_off, hcc j hjl, hj]
    · intro u hu
      simp only [ints, List.mem_map] at hu
      obtain ⟨n, _, rfl⟩ := hu
      rfl
    · intro v' w' h1 h2 _ h4
      refine h v' w' ?_ h2 h4
      unfold OwnI
      rw [List.length_append, show ints (ys ++ xs) = ints ys ++ ints xs by simp [ints]]
      exact h1
theorem row_newi (w : World) (c : Int) : Row (w.alloc (.cells #[.int .i64 c] 3)) (.slice (some ⟨w.heap.size, 0, none⟩) 1 1) (ints [c]) := by
  refine ⟨by simp [ints, maxLen], _, _, rfl, by simp [ints], ⟨by simp [maxLen], by simp⟩, .inr ⟨_, _, rfl, fun i hi => ?_⟩⟩
  have : i = 0 := by simp [ints] at hi; omega
  subst this
  rw [cell_of_row _ _ _ _ _ _ (heap_alloc_new w _)]
  rfl

/-- One line put behind lines. -/
theorem app_line {w : World} {ops : Array Oper} {rest : List Oper} {o : Oper} {a : Act} {Q : Exit → Act → World → Prop} (hgd : o.guard = none) (s x : Operand)
    (ho : o.op = .call { callee := .builtin .append, args := #[s, x], argTypes := #[25, 25] }) (B : Nat) (v : Value) (A : List (List Int)) (hs : a.eval s = v) (W : World) (lv : Value) (hW : w = W.alloc (.cells #[lv] 42)) (hown : OwnLL W B v A)
    (l : List Int) (hx : a.eval x = .slice (some ⟨W.heap.size, 0, none⟩) 1 1) (hl : OwnI W B lv l) (hlen : A.length ≤ 1000000) (hB : B ≤ W.heap.size)
    (h : ∀ v' w', OwnLL w' B v' (A ++ [l]) → W.grownBy w' v.ownBlock → wpList Tryd.prog ops Q rest (a.put o.dst v') w') : wpList Tryd.prog ops Q (o :: rest) a w := by
  subst hW
  obtain ⟨i0, hi, hz0, hz1, hz2⟩ := info_parts infoInts
  obtain ⟨vs, h1, h2⟩ := hown
  have hvl := h2.in.len
  have one : lv.oneCell' = true := by
    obtain ⟨a', cap', rfl⟩ := own_shape (show W.ownsRow B 3 1 lv l.length (ints l) from hl)
    rfl
  refine wpList_append_own_at _ hgd s x 25 ho B 42 i0 _ 1 24 Tryd.underlying25 hi hz0 hz1 hz2 rfl (by decide) v vs.length vs hs (h1.alloc _) ⟨W.heap.size, 0, none⟩ 1 1 [lv] hx rfl (cell_one_new _ _ _) (by simpa using one) (by unfold maxLen; omega) (by omega) (by simp; omega) ?_
  intro v' w' q1 q2 _ _
  have hg := grown_alloc q2
  refine h v' w' ⟨vs ++ [lv], by rw [List.length_append]; exact q1, ?_⟩ hg
  have hall : OwnIn W B (vs ++ [lv]) (A ++ [l]) := h2.append ⟨hl, trivial⟩
  refine hall.kept hg (fun z hz => ?_)
  rcases h1.2 with ⟨rfl, _⟩ | ⟨g, cap, cur, rfl, _, hgg, _⟩
  · cases z.ownBlock <;> simp [Value.ownBlock]
  · exact .inr (hall.ne hgg (by decide) z hz)
/-- Numbers and a text beside each other. -/
theorem OwnI.text {w w' : World} {B C : Nat} {v u : Value} {xs ys : List Int} (h : OwnI w B v xs) (k : OwnB w C u ys) (hg : w.grownBy w' u.ownBlock) : OwnI w' B v xs := h.kept hg (own_diff (show w.ownsRow B 3 1 v xs.length (ints xs) from h) (show w.ownsRow C 5 1 u ys.length (byts ys) from k) (by decide))
theorem madei {w0 w w' : World} {v : Value} {xs : List Int} {O : Obj} (h : Below w0.heap.size w0 w) (ho : OwnI w w0.heap.size v xs) (hg : (w.alloc O).grownBy w' v.ownBlock) : Below w0.heap.size w0 w' :=
  h.trans (grown_below (grown_alloc hg) h.size (fun k hk => (World.ownsRow.lt ho k hk).1))
theorem OwnI.shape {w : World} {B : Nat} {v : Value} {xs : List Int} (h : OwnI w B v xs) : ∃ a cap, v = .slice a xs.length cap := own_shape (show w.ownsRow B 3 1 v xs.length (ints xs) from h)
theorem OwnB.shape {w : World} {B : Nat} {v : Value} {xs : List Int} (h : OwnB w B v xs) : ∃ a cap, v = .slice a xs.length cap := own_shape (show w.ownsRow B 5 1 v xs.length (byts xs) from h)

theorem OwnI.less {w : World} {B B' : Nat} {v : Value} {xs : List Int} (h : OwnI w B v xs) (hB : B' ≤ B) : OwnI w B' v xs := own_less (show w.ownsRow B 3 1 v xs.length (ints xs) from h) hB
theorem run_end {o x b : List Int} {k : Nat} (h : k = b.length) : lineRun o x (b.drop k) = flush o x := by rw [drop_end _ _ h]; rfl
theorem run_hash {o x b : List Int} {k : Nat} (h : k < b.length) (hc : b.getD k 0 = 35) : lineRun o x (b.drop k) = flush o x := by rw [drop_at _ _ h _ hc]; simp [lineRun]
theorem run_space {o x b : List Int} {k : Nat} (h : k < b.length) (hc : b.getD k 0 = 32) : lineRun o x (b.drop k) = (flush o x).bind (fun o => lineRun o [] (b.drop (k + 1))) := by rw [drop_at _ _ h _ hc]; simp [lineRun]
theorem run_on {o x b : List Int} {k : Nat} {c : Int} (h : k < b.length) (hc : b.getD k 0 = c) (h1 : c ≠ 35) (h2 : c ≠ 32) : lineRun o x (b.drop k) = lineRun o (x ++ [c]) (b.drop (k + 1)) := by rw [drop_at _ _ h _ hc]; simp [lineRun, h1, h2]
theorem flush_nil (o : List Int) : flush o [] = some o := rfl
theorem flush_bad {o x : List Int} (h : x ≠ []) (hw : wordS x = none) : flush o x = none := by simp [flush, h, hw]
theorem flush_num {o x : List Int} {n : Int} (h : x ≠ []) (hw : wordS x = some n) : flush o x = some (o ++ [n]) := by simp [flush, h, hw]

set_option maxRecDepth 1000000 in
set_option maxHeartbeats 4000000 in
theorem line_any {w : World} {tv : Value} {b : List Int} (h : Row w tv (byts b)) (hlen : b.length ≤ 10000) :
    Calls Tryd.prog 64 #[tv] w fun e w' => ∃ v, e = .returned (.tuple #[v, .bool (lineS b).isSome]) ∧ OwnI w' w.heap.size v ((lineS b).getD []) ∧ Below w.heap.size w w' := by
  have H := Lib.hid h
  obtain ⟨a, cap, rfl, hm⟩ := h.form
  simp only [byts_len] at *
  clear h hm
  go_enter Tryd.func64, Tryd.ntmps64
  go_wp2_with fail
  go_loopw [4, 5, 6] (fun out wd i wr => ∃ (k : Nat) (o x : List Int), k ≤ b.length ∧ i = .int .i64 k ∧ OwnI wr w.heap.size out o ∧ OwnB wr w.heap.size wd x ∧ lineS b = lineRun o x (b.drop k) ∧ o.length ≤ k ∧ x.length ≤ k ∧ Below w.heap.size w wr) (fun _ _ i _ => b.length + 1 - (intOf i).toNat)
  case atStart => exact ⟨0, [], [], Nat.zero_le _, rfl, ownI_nil _ _, ownB_nil _ _, rfl, by simp, by simp, Below.refl _ _⟩
  case round =>
    obtain ⟨k, o, x, hk, rfl, ho, hx, hrun, hol, hxl, hbw⟩ := hrel
    have HO := Lib.hid ho
    obtain ⟨ax, cx, rfl⟩ := hx.shape
    have HX := Lib.hid hx
    have HR := Lib.hid hrun
    have HBW := Lib.hid hbw
    have bk : decide ((k : Int) ≤ (b.length : Int)) = true := decide_eq_true (by omega)
    clear ho hx hrun hbw
    by_cases hke : k = b.length
    · have HF := Lib.hid (show lineS b = flush o x by rw [HR.out, run_end hke])
      have be : ((k : Int) == (b.length : Int)) = true := by simp [hke]
      by_cases hxe : x = []
      · subst hxe
        have b0 : decide ((0 : Int) < (0 : Int)) = false := by decide
        have HL := Lib.hid (show lineS b = some o by rw [HF.out]; rfl)
        simp only [List.length_nil] at *
        go_wp2
        refine bodyPost_ret (v := .tuple #[u4, .bool true]) ?_ rfl ?_
        · simp [results, Tryd.results64, go_sem]
        rw [HL.out]
        exact ⟨_, rfl, HO.out, HBW.out⟩
      · have hx0 : 0 < x.length := List.length_pos_iff.2 hxe
        have b0 : decide ((0 : Int) < (x.length : Int)) = true := decide_eq_true (by omega)
        have HXE := Lib.hid hxe
        clear hxe
        cases hw : wordS x with
        | none =>
          have HL := Lib.hid (show lineS b = none by rw [HF.out, flush_bad HXE.out hw])
          have HWS := Lib.hid hw
          clear hw
          go_wp2_with fail
          refine (word_any HX.out.row).mono ?_
          rw [HWS.out]
          rintro e w1 ⟨rfl, rfl⟩
          simp only [Option.getD_none, Option.isSome_none]
          go_wp2
          refine bodyPost_ret (v := .tuple #[.slice none 0 0, .bool false]) ?_ rfl ?_
          · simp [results, Tryd.results64, go_sem]
          rw [HL.out]
          exact ⟨_, rfl, ownI_nil _ _, HBW.out⟩
        | some n =>
          have HFN := Lib.hid (flush_num (o := o) HXE.out hw)
          have HWS := Lib.hid hw
          clear hw
          go_wp2_with fail
          refine (word_any HX.out.row).mono ?_
          rw [HWS.out]
          rintro e w1 ⟨rfl, rfl⟩
          simp only [Option.getD_some, Option.isSome_some]
          go_wp2_with (first | (at_builtin; refine app_ints rfl _ _ rfl w.heap.size _ o rfl (HO.out.alloc _) _ [n] rfl (row_newi _ _) (by simp; omega) (by have := HBW.out.size; simp; omega) ?_))
          intro v2 w2 o2 g2 t2
          have O2 := Lib.hid (show OwnI w2 w.heap.size v2 (o ++ [n]) by simpa using o2)
          have B2 := Lib.hid (madei HBW.out HO.out g2)
          clear o2 g2 t2
          have HL := Lib.hid (show lineS b = some (o ++ [n]) by rw [HF.out, HFN.out])
          go_wp2
          refine bodyPost_ret (v := .tuple #[v2, .bool true]) ?_ rfl ?_
          · simp [results, Tryd.results64, go_sem]
          rw [HL.out]
          exact ⟨_, rfl, O2.out, B2.out⟩
    · have hlt : k < b.length := by omega
      have be : ((k : Int) == (b.length : Int)) = false := by simp; omega
      clear hke
      obtain ⟨tb, off, rfl, hc, htb⟩ := row_cell (H.out.below HBW.out) k (by rw [byts_len]; exact hlt)
      rw [byts_at _ _ hlt] at hc
      obtain ⟨c, hcc⟩ : ∃ c, b.getD k 0 = c := ⟨_, rfl⟩
      rw [hcc] at hc
      have HC := Lib.hid hcc
      clear hcc
      by_cases h35 : c = 35
      · subst h35
        have HF := Lib.hid (show lineS b = flush o x by rw [HR.out, run_hash hlt HC.out])
        by_cases hxe : x = []
        · subst hxe
          have b0 : decide ((0 : Int) < (0 : Int)) = false := by decide
          have HL := Lib.hid (show lineS b = some o by rw [HF.out]; rfl)
          simp only [List.length_nil] at *
          go_wp2
          refine bodyPost_ret (v := .tuple #[u4, .bool true]) ?_ rfl ?_
          · simp [results, Tryd.results64, go_sem]
          rw [HL.out]
          exact ⟨_, rfl, HO.out, HBW.out⟩
        · have hx0 : 0 < x.length := List.length_pos_iff.2 hxe
          have b0 : decide ((0 : Int) < (x.length : Int)) = true := decide_eq_true (by omega)
          have HXE := Lib.hid hxe
          clear hxe
          cases hw : wordS x with
          | none =>
            have HL := Lib.hid (show lineS b = none by rw [HF.out, flush_bad HXE.out hw])
            have HWS := Lib.hid hw
            clear hw
            go_wp2_with fail
            refine (word_any HX.out.row).mono ?_
            rw [HWS.out]
            rintro e w1 ⟨rfl, rfl⟩
            simp only [Option.getD_none, Option.isSome_none]
            go_wp2
            refine bodyPost_ret (v := .tuple #[.slice none 0 0, .bool false]) ?_ rfl ?_
            · simp [results, Tryd.results64, go_sem]
            rw [HL.out]
            exact ⟨_, rfl, ownI_nil _ _, HBW.out⟩
          | some n =>
            have HFN := Lib.hid (flush_num (o := o) HXE.out hw)
            have HWS := Lib.hid hw
            clear hw
            go_wp2_with fail
            refine (word_any HX.out.row).mono ?_
            rw [HWS.out]
            rintro e w1 ⟨rfl, rfl⟩
            simp only [Option.getD_some, Option.isSome_some]
            go_wp2_with (first | (at_builtin; refine app_ints rfl _ _ rfl w.heap.size _ o rfl (HO.out.alloc _) _ [n] rfl (row_newi _ _) (by simp; omega) (by have := HBW.out.size; simp; omega) ?_))
            intro v2 w2 o2 g2 t2
            have O2 := Lib.hid (show OwnI w2 w.heap.size v2 (o ++ [n]) by simpa using o2)
            have B2 := Lib.hid (madei HBW.out HO.out g2)
            clear o2 g2 t2
            have HL := Lib.hid (show lineS b = some (o ++ [n]) by rw [HF.out, HFN.out])
            go_wp2
            refine bodyPost_ret (v := .tuple #[v2, .bool true]) ?_ rfl ?_
            · simp [results, Tryd.results64, go_sem]
            rw [HL.out]
            exact ⟨_, rfl, O2.out, B2.out⟩
      · have c35 : (c == 35) = false := by simpa using h35
        by_cases h32 : c = 32
        · subst h32
          have HF := Lib.hid (show lineS b = (flush o x).bind (fun o => lineRun o [] (b.drop (k + 1))) by rw [HR.out, run_space hlt HC.out])
          clear h35
          by_cases hxe : x = []
          · subst hxe
            have b0 : decide ((0 : Int) < (0 : Int)) = false := by decide
            simp only [List.length_nil] at *
            go_wp2
            go_roundw
            case rel => exact ⟨k + 1, o, [], by omega, by go_num, HO.out, HX.out, by rw [HF.out]; rfl, by omega, by simp, HBW.out⟩
            case measure => simp [intOf]; omega
          · have hx0 : 0 < x.length := List.length_pos_iff.2 hxe
            have b0 : decide ((0 : Int) < (x.length : Int)) = true := decide_eq_true (by omega)
            have HXE := Lib.hid hxe
            clear hxe
            cases hw : wordS x with
            | none =>
              have HL := Lib.hid (show lineS b = none by rw [HF.out, flush_bad HXE.out hw]; rfl)
              have HWS := Lib.hid hw
              clear hw
              go_wp2_with fail
              refine (word_any HX.out.row).mono ?_
              rw [HWS.out]
              rintro e w1 ⟨rfl, rfl⟩
              simp only [Option.getD_none, Option.isSome_none]
              go_wp2
              refine bodyPost_ret (v := .tuple #[.slice none 0 0, .bool false]) ?_ rfl ?_
              · simp [results, Tryd.results64, go_sem]
              rw [HL.out]
              exact ⟨_, rfl, ownI_nil _ _, HBW.out⟩
            | some n =>
              have HFN := Lib.hid (flush_num (o := o) HXE.out hw)
              have HWS := Lib.hid hw
              clear hw
              go_wp2_with fail
              refine (word_any HX.out.row).mono ?_
              rw [HWS.out]
              rintro e w1 ⟨rfl, rfl⟩
              simp only [Option.getD_some, Option.isSome_some]
              go_wp2_with (first | (at_builtin; refine app_ints rfl _ _ rfl w.heap.size _ o rfl (HO.out.alloc _) _ [n] rfl (row_newi _ _) (by simp; omega) (by have := HBW.out.size; simp; omega) ?_))
              intro v2 w2 o2 g2 t2
              have O2 := Lib.hid (show OwnI w2 w.heap.size v2 (o ++ [n]) by simpa using o2)
              have B2 := Lib.hid (madei HBW.out HO.out g2)
              clear o2 g2 t2
              go_wp2
              go_roundw
              case rel => exact ⟨k + 1, o ++ [n], [], by omega, by go_num, O2.out, ownB_nil _ _, by rw [HF.out, HFN.out]; rfl, by simp; omega, by simp, B2.out⟩
              case measure => simp [intOf]; omega
        · have c32 : (c != 32) = true := by simpa using h32
          have HF := Lib.hid (show lineS b = lineRun o (x ++ [c]) (b.drop (k + 1)) by rw [HR.out, run_on hlt HC.out h35 h32])
          clear h35 h32
          go_wp2_with (first | (at_builtin; refine app_bytes rfl _ _ rfl w.heap.size _ x rfl (HX.out.alloc _) _ [c] rfl (row_new _ _) (by simp; omega) (by have := HBW.out.size; simp; omega) ?_))
          intro v2 w2 o2 g2 t2
          have O2 := Lib.hid (show OwnB w2 w.heap.size v2 (x ++ [c]) by simpa using o2)
          have B2 := Lib.hid (made_alloc HBW.out HX.out g2)
          have HO2 := Lib.hid ((HO.out.alloc _).text (HX.out.alloc _) g2)
          clear o2 g2 t2
          go_wp2
          go_roundw
          case rel => exact ⟨k + 1, o, x ++ [c], by omega, by go_num, HO2.out, O2.out, HF.out, by omega, by simp; omega, B2.out⟩
          case measure => simp [intOf]; omega

theorem ref_end {out : List (List Int)} {x b : List Int} {k : Nat} (h : k = b.length) : refRun out x (b.drop k) = (lineS x).map (fun l => addL out l) := by rw [drop_end _ _ h]; rfl
theorem ref_feed {out : List (List Int)} {x b : List Int} {k : Nat} (h : k < b.length) (hc : b.getD k 0 = 10) : refRun out x (b.drop k) = (lineS x).bind (fun l => refRun (addL out l) [] (b.drop (k + 1))) := by rw [drop_at _ _ h _ hc]; simp [refRun]
theorem ref_on {out : List (List Int)} {x b : List Int} {k : Nat} {c : Int} (h : k < b.length) (hc : b.getD k 0 = c) (h1 : c ≠ 10) : refRun out x (b.drop k) = refRun out (x ++ [c]) (b.drop (k + 1)) := by rw [drop_at _ _ h _ hc]; simp [refRun, h1]
theorem madeL {w0 w w' : World} {v : Value} {A : List (List Int)} (h : Below w0.heap.size w0 w) (ho : OwnLL w w0.heap.size v A) (hg : w.grownBy w' v.ownBlock) : Below w0.heap.size w0 w' :=
  h.trans (grown_below hg h.size ho.ge)

set_option maxRecDepth 1000000 in
set_option maxHeartbeats 4000000 in
theorem refLines_any {w : World} {tv : Value} {b : List Int} (h : Row w tv (byts b)) :
    Calls Tryd.prog 39 #[tv] w fun e w' => ∃ v, e = .returned (.tuple #[v, .int .i64 (errOf b)]) ∧ OwnLL w' w.heap.size v (resOf b) ∧ Below w.heap.size w w' := by
  have H := Lib.hid h
  obtain ⟨a, cap, rfl, hm⟩ := h.form
  simp only [byts_len] at *
  clear h hm
  by_cases hl : 4096 < b.length
  · have hd : decide ((4096 : Int) < (b.length : Int)) = true := decide_eq_true (by omega)
    have HE := Lib.hid (show errOf b = 6 ∧ resOf b = [] by simp [errOf, resOf, hl])
    go_enter Tryd.func39, Tryd.ntmps39
    go_wp2
    refine bodyPost_ret (v := .tuple #[.slice none 0 0, .int .i64 6]) ?_ rfl ?_
    · simp [results, Tryd.results39, go_sem]
    rw [HE.out.1, HE.out.2]
    exact ⟨_, rfl, ownLL_nil _ _, Below.refl _ _⟩
  · have hd : decide ((4096 : Int) < (b.length : Int)) = false := decide_eq_false (by omega)
    go_enter Tryd.func39, Tryd.ntmps39
    go_wp2_with fail
    go_loopw [4, 5, 6] (fun out wd i wr => ∃ (k : Nat) (A : List (List Int)) (x : List Int), k ≤ b.length + 1 ∧ i = .int .i64 k ∧ OwnLL wr w.heap.size out A ∧ OwnB wr w.heap.size wd x ∧
        (k ≤ b.length ∧ parse b = refRun A x (b.drop k) ∨ k = b.length + 1 ∧ parse b = some A) ∧ A.length ≤ k ∧ x.length ≤ k ∧ Below w.heap.size w wr) (fun _ _ i _ => b.length + 2 - (intOf i).toNat)
    case atStart => exact ⟨0, [], [], Nat.zero_le _, rfl, ownLL_nil _ _, ownB_nil _ _, .inl ⟨Nat.zero_le _, (refRun_parse b).symm⟩, by simp, by simp, Below.refl _ _⟩
    case round =>
      obtain ⟨k, A, x, hk, rfl, ho, hx, hrun, hol, hxl, hbw⟩ := hrel
      have HO := Lib.hid ho
      have HX := Lib.hid hx
      have HBW := Lib.hid hbw
      have HR := Lib.hid hrun
      clear ho hx hrun hbw
      by_cases hke : k = b.length + 1
      · have bk : decide ((k : Int) ≤ (b.length : Int)) = false := decide_eq_false (by omega)
        have HE := Lib.hid (err_some hl (L := A) (HR.out.elim (fun h => absurd h.1 (by omega)) (fun h => h.2)))
        go_wp2
        refine bodyPost_ret (v := .tuple #[u4, .int .i64 0]) ?_ rfl ?_
        · simp [results, Tryd.results39, go_sem]
        rw [HE.out.1, HE.out.2]
        exact ⟨_, rfl, HO.out, HBW.out⟩
      · have hk' : k ≤ b.length := by omega
        have bk : decide ((k : Int) ≤ (b.length : Int)) = true := decide_eq_true (by omega)
        have HR' := Lib.hid (show parse b = refRun A x (b.drop k) from HR.out.elim (fun h => h.2) (fun h => absurd h.1 (by omega)))
        have HLx := Lib.hid (show x.length ≤ 10000 by omega)
        have HLa := Lib.hid (show A.length ≤ 1000000 by omega)
        clear hke hk HR
        refine Or.elim (show (k < b.length ∧ ∃ c, b.getD k 0 = c ∧ c ≠ 10) ∨ (k < b.length ∧ b.getD k 0 = 10) ∨ k = b.length by
          by_cases h1 : k < b.length
          · by_cases h2 : b.getD k 0 = 10
            · exact .inr (.inl ⟨h1, h2⟩)
            · exact .inl ⟨h1, _, rfl, h2⟩
          · exact .inr (.inr (by omega))) (fun hc1 => ?pa) (fun hc2 => Or.elim hc2 (fun hc3 => ?pb) (fun hc4 => ?pc))
        case' pa =>
          obtain ⟨hlt, c, hcc, h10⟩ := hc1
          have HF := Lib.hid (show parse b = refRun A (x ++ [c]) (b.drop (k + 1)) by rw [HR'.out, ref_on hlt hcc h10])
          obtain ⟨tb, off, rfl, hc, htb⟩ := row_cell (H.out.below HBW.out) k (by rw [byts_len]; exact hlt)
          rw [byts_at _ _ hlt, hcc] at hc
          have bl : decide ((k : Int) < (b.length : Int)) = true := decide_eq_true (by omega)
          have b10 : (c != 10) = true := by simpa using h10
          clear hcc h10
          go_wp2_with (first | (at_builtin; refine app_bytes rfl _ _ rfl w.heap.size _ x rfl (HX.out.alloc _) _ [c] rfl (row_new _ _) (by have := HLx.out; simp; omega) (by have := HBW.out.size; simp; omega) ?_))
          intro v2 w2 o2 g2 t2
          have O2 := Lib.hid (show OwnB w2 w.heap.size v2 (x ++ [c]) by simpa using o2)
          have B2 := Lib.hid (made_alloc HBW.out HX.out g2)
          have HO2 := Lib.hid ((HO.out.alloc _).text (HX.out.alloc _) g2)
          clear o2 g2 t2
          go_wp2
          go_roundw
          case rel => exact ⟨k + 1, A, x ++ [c], by omega, by go_num, HO2.out, O2.out, .inl ⟨by omega, HF.out⟩, by omega, by simp; omega, B2.out⟩
          case measure => simp [intOf]; omega
        case' pb =>
          obtain ⟨hlt, hcc⟩ := hc3
          have HN := Lib.hid (show ∀ l, lineS x = some l → (k + 1 ≤ b.length ∧ parse b = refRun (addL A l) [] (b.drop (k + 1)) ∨ k + 1 = b.length + 1 ∧ parse b = some (addL A l)) from fun l hls => .inl ⟨hlt, by rw [HR'.out, ref_feed hlt hcc, hls]; rfl⟩)
          have HM := Lib.hid (show lineS x = none → parse b = none from fun hls => by rw [HR'.out, ref_feed hlt hcc, hls]; rfl)
          obtain ⟨tb, off, rfl, hc, htb⟩ := row_cell (H.out.below HBW.out) k (by rw [byts_len]; exact hlt)
          rw [byts_at _ _ hlt, hcc] at hc
          have bl : decide ((k : Int) < (b.length : Int)) = true := decide_eq_true (by omega)
          clear hcc
          go_wp2_with fail
        case' pc =>
          have HN := Lib.hid (show ∀ l, lineS x = some l → (k + 1 ≤ b.length ∧ parse b = refRun (addL A l) [] (b.drop (k + 1)) ∨ k + 1 = b.length + 1 ∧ parse b = some (addL A l)) from fun l hls => .inr ⟨by omega, by rw [HR'.out, ref_end hc4, hls]; rfl⟩)
          have HM := Lib.hid (show lineS x = none → parse b = none from fun hls => by rw [HR'.out, ref_end hc4, hls]; rfl)
          have bl : decide ((k : Int) < (b.length : Int)) = false := decide_eq_false (by omega)
          have bl2 : ¬ k < b.length := by omega
          clear hc4
          go_wp2_with fail
        all_goals
          refine (line_any HX.out.row HLx.out).mono ?_
          rintro e w1 ⟨v1, rfl, h1, b1⟩
          have O1 := Lib.hid (h1.less HBW.out.size)
          have B1 := Lib.hid (HBW.out.trans (b1.mono HBW.out.size))
          have HO1 := Lib.hid (HO.out.below b1)
          clear h1 b1
          cases hls : lineS x with
          | none =>
            have HE := Lib.hid (err_none hl (HM.out hls))
            clear hls
            simp only [Option.isSome_none]
            go_wp2
            refine bodyPost_ret (v := .tuple #[.slice none 0 0, .int .i64 2]) ?_ rfl ?_
            · simp [results, Tryd.results39, go_sem]
            rw [HE.out.1, HE.out.2]
            exact ⟨_, rfl, ownLL_nil _ _, B1.out⟩
          | some l =>
            have HNN := Lib.hid (HN.out l hls)
            rw [hls] at O1
            simp only [Option.getD_some] at O1
            simp only [Option.isSome_some]
            clear hls
            obtain ⟨al, cl, rfl⟩ := O1.out.shape
            by_cases hle : l = []
            · subst hle
              rw [addL_nil] at HNN
              simp only [List.length_nil] at *
              go_wp2
              go_roundw
              case rel => exact ⟨k + 1, A, [], by omega, by go_num, HO1.out, ownB_nil _ _, HNN.out, by omega, by simp, B1.out⟩
              case measure => simp [intOf]; omega
            · have hl0 : 0 < l.length := List.length_pos_iff.2 hle
              have bl0 : decide ((0 : Int) < (l.length : Int)) = true := decide_eq_true (by omega)
              rw [addL_some _ _ hle] at HNN
              clear hle
              go_wp2_with (first | (at_builtin; refine app_line rfl _ _ rfl w.heap.size _ A rfl w1 _ rfl HO1.out l rfl O1.out HLa.out B1.out.size ?_))
              intro v2 w2 o2 g2
              have O2 := Lib.hid o2
              have B2 := Lib.hid (madeL B1.out HO1.out g2)
              clear o2 g2
              go_wp2
              go_roundw
              case rel => exact ⟨k + 1, A ++ [l], [], by omega, by go_num, O2.out, ownB_nil _ _, HNN.out, by simp; omega, by simp, B2.out⟩
              case measure => simp [intOf]; omega
end Go.Proofs.YtpdeffpmfbplnaaDoor
