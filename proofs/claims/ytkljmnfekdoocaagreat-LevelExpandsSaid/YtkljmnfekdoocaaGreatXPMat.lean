/- Rows of numbers: a part of one, one number stored, one line stored; append of a make; what slices.Min, Grow, Concat and plane.least answer. -/
import Derived.Test.YtkljmnfekdoocaaGreatXPCore
import Derived.Test.YtkljmnfekdoocaaGreatXIForm
namespace Go.Proofs.YtkljmnfekdoocaaGreat
open Go.ChangeShapes Go.WideShapes Go.ChangeAt Go.RowKit

/-- A part of a row: from k on, up to h. -/
theorem Row.part {w : World} {b off n cap : Nat} {xs : List Value} (hs : Row w (.slice (some ⟨b, off, none⟩) n cap) xs) (k h : Nat) (hk : k ≤ h) (hh : h ≤ xs.length) (a : Option Addr) (ha : a = (if cap = k then some ⟨b, off, none⟩ else some ⟨b, off + k, none⟩)) :
    Row w (.slice a (h - k) (cap - k)) ((xs.drop k).take (h - k)) := by
  obtain ⟨hm, a', cap', hv, hc, ⟨hc2, _⟩, hcell⟩ := hs
  simp at hv
  obtain ⟨rfl, rfl, rfl⟩ := hv
  have hl : ((xs.drop k).take (h - k)).length = h - k := by simp; omega
  refine ⟨by omega, a, cap - k, by rw [hl], by omega, ⟨by omega, fun h0 => by rw [h0] at ha; split at ha <;> simp at ha⟩, ?_⟩
  by_cases h0 : h = k
  · left
    subst h0
    simp
  · right
    rw [if_neg (by omega)] at ha
    refine ⟨b, off + k, ha, fun i hi => ?_⟩
    rw [hl] at hi
    rcases hcell with hn | ⟨b', off', he, hcc⟩
    · subst hn; simp at hh; omega
    · simp at he
      obtain ⟨rfl, rfl⟩ := he
      rw [List.getElem?_take_of_lt hi, List.getElem?_drop]
      have := hcc (k + i) (by omega)
      rw [show off + (k + i) = off + k + i by omega] at this
      exact this
theorem ints_drop (l : List Int) (k : Nat) : (ints l).drop k = ints (l.drop k) := by simp [ints]
theorem ints_take (l : List Int) (k : Nat) : (ints l).take k = ints (l.take k) := by simp [ints]
theorem ints_set (l : List Int) (k : Nat) (x : Int) : (ints l).set k (.int .i64 x) = ints (l.set k x) := by simp [ints]
/-- One number of a row that the call has made is stored. -/
theorem OwnI.stored {w : World} {B g n cap : Nat} {l : List Int} (h : OwnI w B (.slice (some ⟨g, 0, none⟩) n cap) l) (i : Nat) (x : Int) :
    OwnI (w.setCell ⟨g, i, none⟩ (.int .i64 x)) B (.slice (some ⟨g, 0, none⟩) n cap) (l.set i x) ∧ B ≤ g ∧ g < w.heap.size ∧ w.frozen? ⟨g, i, none⟩ = false := by
  have hn : n = l.length := by
    obtain ⟨a, c, he⟩ := h.shape
    simp at he; exact he.2.1
  subst hn
  have h' : w.ownsRow B 3 1 (.slice (some ⟨g, 0, none⟩) l.length cap) l.length (ints l) := h
  refine ⟨?_, (World.ownsRow.lt h' g rfl).1, (World.ownsRow.lt h' g rfl).2, h'.frozenAt i⟩
  unfold OwnI
  rw [List.length_set, ← ints_set]
  exact (h'.stored i (.int .i64 x)).1
theorem OwnIn.set {w : World} {B : Nat} {u : Value} {l : List Int} (hu : w.ownsRow B 3 1 u l.length (ints l)) : ∀ {vs : List Value} {L : List (List Int)} (k : Nat), OwnIn w B vs L → OwnIn w B (vs.set k u) (L.set k l)
  | [], [], _, _ => trivial
  | _ :: _, _ :: _, 0, h => ⟨hu, h.2⟩
  | _ :: _, _ :: _, k + 1, h => ⟨h.1, OwnIn.set hu k h.2⟩
  | [], _ :: _, _, h => h.elim
  | _ :: _, [], _, h => h.elim
theorem OwnLL.shape {w : World} {B : Nat} {v : Value} {L : List (List Int)} (h : OwnLL w B v L) : ∃ a cap, v = .slice a L.length cap := by
  obtain ⟨vs, h1, h2⟩ := h
  rw [← h2.in.len]
  exact own_shape h1
/-- One line is stored where lines lie that the call has made. -/
theorem OwnLL.stored {w : World} {B g n cap : Nat} {L : List (List Int)} (h : OwnLL w B (.slice (some ⟨g, 0, none⟩) n cap) L) (i : Nat) (u : Value) (l : List Int) (hu : OwnI w B u l) :
    OwnLL (w.setCell ⟨g, i, none⟩ u) B (.slice (some ⟨g, 0, none⟩) n cap) (L.set i l) ∧ B ≤ g ∧ g < w.heap.size ∧ w.frozen? ⟨g, i, none⟩ = false := by
  obtain ⟨vs, h1, h2⟩ := h
  have hn : n = vs.length := by
    obtain ⟨a, c, he⟩ := own_shape h1
    simp at he; exact he.2.1
  subst hn
  refine ⟨?_, (World.ownsRow.lt h1 g rfl).1, (World.ownsRow.lt h1 g rfl).2, h1.frozenAt i⟩
  have hg : w.grownBy (w.setCell ⟨g, i, none⟩ u) (some g) := ⟨rfl, rfl, rfl, by simp [World.setCell], fun k _ hk => heap_setCell_other w ⟨g, i, none⟩ k _ (fun e => hk (by rw [e]))⟩
  have hne : ∀ z ∈ vs.set i u, z.ownBlock = none ∨ z.ownBlock ≠ some g := by
    intro z hz
    rcases h1.2 with ⟨e, _⟩ | ⟨g', cap', cur, e, _, hgg, _⟩
    · simp at e
    · simp at e
      obtain ⟨rfl, rfl⟩ := e
      exact .inr ((OwnIn.set hu i h2).ne hgg (by decide) z hz)
  refine ⟨vs.set i u, ?_, (OwnIn.set hu i h2).kept hg hne⟩
  rw [List.length_set]
  exact (h1.stored i u).1
/-- A row of noughts, lines of which none holds anything, as make lays them. -/
theorem made_zeros (n : Nat) : (madeCells (Value.int .i64 0).cells (n * 1)).toList = ints (List.replicate n 0) := by
  rw [show (Value.int .i64 0).cells = #[Value.int .i64 0] from rfl, Nat.mul_one, toList_madeCells_one]
  simp [ints]
/-- make of a row of numbers, of lines. -/
theorem make_ints {w : World} {ops : Array Oper} {rest : List Oper} {o : Oper} {a : Act} {Q : Exit → Act → World → Prop} (hgd : o.guard = none) (l c : Operand) (ho : o.op = Op.makeSlice 31 l c)
    (B n : Nat) (hl : a.eval l = .int .i64 (n : Int)) (hc : a.eval c = .int .i64 (n : Int)) (hn : n ≤ 1000000) (hB : B ≤ w.heap.size)
    (h : ∀ w', OwnI w' B (.slice (some ⟨w.heap.size, 0, none⟩) n n) (List.replicate n 0) → w.grownBy w' none → wpList Tryz.prog ops Q rest (a.put o.dst (.slice (some ⟨w.heap.size, 0, none⟩) n n)) w') : wpList Tryz.prog ops Q (o :: rest) a w := by
  obtain ⟨i0, hi, hz0, hz1, hz2⟩ := info_parts infoInt
  refine wpList_make_full w hgd l c 31 ho B 3 i0 _ 1 Tryz.underlying31 hi hz0 hz1 .i64 .i64 _ _ n hl hc rfl rfl (by rw [hz2]; omega) (by unfold maxLen; omega) hB ?_
  intro w' h1 h2
  refine h w' ?_ h2
  unfold OwnI
  rw [List.length_replicate, ← made_zeros]
  exact h1
/-- append of a make to nothing at all: there is room, and nothing in it that counts. -/
theorem run_append_make (w : World) (ty : TypeId) (n : Nat) (h0 : 0 < n) (hn : n ≤ 1000000) :
    (Builtin.append_ #[31, 3] ty #[.slice none 0 0, .int .i64 (n : Int)]).run Tryz.prog w =
      .ok (.slice (some ⟨w.heap.size, 0, none⟩) n (grownCap w n 0 3)) (w.drew.alloc (.cells (Builtin.zeroCells #[.int .i64 0] n ++ Builtin.zeroCells #[.int .i64 0] (grownCap w n 0 3 - n)) 3)) := by
  obtain ⟨i0, hi, hz0, hz1, hz2⟩ := info_parts infoInt
  have hw : IntKind.i64.wrap (n : Int) = (n : Int) := IntWalk.i64_in _ (by omega)
  have n0 : n ≠ 0 := by omega
  have n1 : ¬ ((n : Int) < 0) := by omega
  have n2 : ¬ (281474976710656 < (n : Int) * 8) := by omega
  have n3 : ¬ (9223372036854775807 < (n : Int)) := by omega
  have n4 : ¬ (281474976710656 < Builtin.nextslicecap n 0 * 8) := by rw [nextslicecap_zero h0]; omega
  simp [Builtin.append_, run_underlying Tryz.underlying31, run_underlying Tryz.underlying3, sizeOf, typeInfo, zeroValue, hi, hz0, hz1, hz2, asInt, asIntOf, hw, n0, n1, n2, n3, n4, Question.forced, run_firstCells_none, newRow, grownCap, Value.cells]
theorem app_make {w : World} {ops : Array Oper} {rest : List Oper} {o : Oper} {a : Act} {Q : Exit → Act → World → Prop} (hgd : o.guard = none) (s x : Operand)
    (ho : o.op = .call { callee := .builtin .append, args := #[s, x], argTypes := #[31, 3] }) (B n : Nat) (hs : a.eval s = .slice none 0 0) (hx : a.eval x = .int .i64 (n : Int)) (h0 : 0 < n) (hn : n ≤ 1000000) (hB : B ≤ w.heap.size)
    (h : ∀ cap w', n ≤ cap → OwnI w' B (.slice (some ⟨w.heap.size, 0, none⟩) 0 cap) [] → w.grownBy w' none → wpList Tryz.prog ops Q rest (a.put o.dst (.slice (some ⟨w.heap.size, 0, none⟩) n cap)) w') : wpList Tryz.prog ops Q (o :: rest) a w := by
  refine wpList_plain hgd fun K hK => ?_
  have hr := run_append_make w o.type n h0 hn
  have hge := grownCap_ge w n 0 3
  have hcm : grownCap w n 0 3 ≤ maxLen := grownCap_le_maxLen w n 0 3 (by unfold maxLen; omega)
  generalize grownCap w n 0 3 = cap at *
  unfold Oper.wp execOp
  simp only [ho, resolve, invoke, builtin, Sem.run_bind, Sem.run_pure, Result.andThen_ok, List.map_toArray, List.map_cons, List.map_nil, hs, hx, hr]
  refine hK _ _ (h cap _ hge ?_ ⟨rfl, rfl, rfl, by simp, fun k hk _ => heap_alloc_old w.drew _ hk⟩)
  refine ⟨rfl, .inr ⟨w.heap.size, cap, _, rfl, hB, heap_alloc_new w.drew _, Nat.zero_le _, hcm, ?_, by simp [ints]⟩⟩
  simp only [Array.size_append, size_zeroCells]
  simp
  omega
/-- The first part of a row. -/
theorem Row.head {w : World} {b off n cap : Nat} {l : List Int} (hs : Row w (.slice (some ⟨b, off, none⟩) n cap) (ints l)) (k : Nat) (hk : k ≤ l.length) :
    Row w (.slice (some ⟨b, off, none⟩) k cap) (ints (l.take k)) := by
  have := Row.part hs 0 k (Nat.zero_le _) (by rw [ints_len]; exact hk) (some ⟨b, off, none⟩) (by split <;> rfl)
  rw [List.drop_zero, Nat.sub_zero, ints_take] at this
  exact this
/-- The last part of a row. -/
theorem Row.tail {w : World} {b off n cap : Nat} {l : List Int} (hs : Row w (.slice (some ⟨b, off, none⟩) n cap) (ints l)) (k : Nat) (hk : k ≤ l.length) (a : Option Addr) (ha : a = (if cap = k then some ⟨b, off, none⟩ else some ⟨b, off + k, none⟩)) :
    Row w (.slice a (l.length - k) (cap - k)) (ints (l.drop k)) := by
  have := Row.part hs k l.length hk (by rw [ints_len]; exact Nat.le_refl _) a ha
  rw [ints_drop, ints_take, List.take_of_length_le (by simp)] at this
  exact this
theorem isLL_two (w : World) (u1 u2 : Value) (l1 l2 : List Int) (h1 : Row w u1 (ints l1)) (h2 : Row w u2 (ints l2)) :
    IsLL (w.alloc (.cells #[u1, u2] 31)) (.slice (some ⟨w.heap.size, 0, none⟩) 2 2) [l1, l2] := by
  have hb := (Below.refl w.heap.size w).alloc (Nat.le_refl _) (.cells #[u1, u2] 31)
  refine ⟨[u1, u2], ⟨by simp [maxLen], _, _, rfl, by simp, ⟨by simp [maxLen], by simp⟩, .inr ⟨w.heap.size, 0, rfl, fun i hi => ?_⟩⟩, h1.below hb, h2.below hb, trivial⟩
  rw [Nat.zero_add, cell_of_row _ _ _ _ _ _ (heap_alloc_new w _)]
  simp
end Go.Proofs.YtkljmnfekdoocaaGreat
/- What slices.Min, Grow and Concat, plane.least and the document's Same of two rows answer. -/
namespace Go.Proofs.YtkljmnfekdoocaaGreat
open Go.ChangeShapes Go.WideShapes Go.ChangeAt Go.RowKit

/-- The least of some numbers; 0 of none. -/
def leastL : List Int → Int
  | [] => 0
  | a :: r => r.foldl min a
theorem leastL_snoc (a : Int) (r : List Int) (x : Int) : leastL ((a :: r) ++ [x]) = min (leastL (a :: r)) x := by
  simp [leastL, List.foldl_append]
set_option maxRecDepth 100000 in
theorem grow_any (n : Nat) (w : World) (hn : n ≤ 1000000) :
    Calls Tryz.prog 108 #[.slice none 0 0, .int .i64 (n : Int)] w fun e w' => ∃ u, e = .returned u ∧ OwnI w' w.heap.size u [] ∧ Below w.heap.size w w' := by
  by_cases h0 : n = 0
  · subst h0
    go_enter Tryz.func108, Tryz.ntmps108
    go_wp2
    go_ret
    exact ⟨_, rfl, ownI_nil _ _, Below.refl _ _⟩
  · have d1 : decide ((n : Int) < 0) = false := decide_eq_false (by omega)
    have d2 : decide ((0 : Int) < (n : Int)) = true := decide_eq_true (by omega)
    have hp : 0 < n := by omega
    clear h0
    go_enter Tryz.func108, Tryz.ntmps108
    go_wp2_with (first | (at_builtin; refine app_make rfl _ _ rfl w.heap.size n rfl rfl hp hn (Nat.le_refl _) ?_))
    intro cap w' hcap hown hgrow
    have HO := Lib.hid hown
    have HB := Lib.hid (grown_below hgrow (Nat.le_refl _) (fun q hq => by simp at hq))
    clear hown hgrow
    go_wp2
    go_ret
    exact ⟨_, rfl, HO.out, HB.out⟩
theorem flat_take {L : List (List Int)} {k : Nat} (hk : k < L.length) : (L.take (k + 1)).flatten = (L.take k).flatten ++ L.getD k [] := by
  rw [List.take_add_one, List.getElem?_eq_getElem hk, List.getD_eq_getElem?_getD, List.getElem?_eq_getElem hk, List.flatten_append]
  congr 1
  simp
theorem flat_mono (L : List (List Int)) (k : Nat) : (L.take k).flatten.length ≤ L.flatten.length := by
  conv => rhs; rw [← List.take_append_drop k L]
  rw [List.flatten_append, List.length_append]
  omega
set_option maxRecDepth 100000 in
set_option maxHeartbeats 1000000 in
theorem concat_any {w : World} {v : Value} {L : List (List Int)} (h : IsLL w v L) (hs : L.flatten.length ≤ 1000000) :
    Calls Tryz.prog 75 #[v] w fun e w' => ∃ u, e = .returned u ∧ OwnI w' w.heap.size u L.flatten ∧ Below w.heap.size w w' := by
  have H := Lib.hid h
  obtain ⟨ad, cap, rfl, hm⟩ := h.form
  have hm1 : L.length ≤ 9223372036854775807 := by unfold maxLen at hm; omega
  clear h hm
  go_enter Tryz.func75, Tryz.ntmps75
  go_wp2_with fail
  go_loop [3, 11] (fun s i => ∃ k : Nat, k ≤ L.length ∧ i = .int .i64 k ∧ s = .int .i64 ((L.take k).flatten.length : Nat)) (fun _ i => L.length - (intOf i).toNat)
  case atStart => exact ⟨0, Nat.zero_le _, rfl, by simp⟩
  case round =>
    obtain ⟨k, hk, rfl, rfl⟩ := hrel
    by_cases hlt : k < L.length
    · obtain ⟨ta, oa, a1, n1, c1, rfl, hta, ca, hn1, hx1, r1⟩ := ll_at H.out k hlt
      have HS := Lib.hid (flat_take hlt)
      have hmo := flat_mono L (k + 1)
      rw [HS.out, List.length_append, ← hn1] at hmo
      have HN := Lib.hid hn1
      obtain ⟨s, hss⟩ : ∃ s, (L.take k).flatten.length = s := ⟨_, rfl⟩
      rw [hss] at hmo ⊢
      have HSS := Lib.hid hss
      have b1 : (s : Int) + (n1 : Int) ≤ 1000000 := by omega
      have b2 : decide ((s : Int) + (n1 : Int) < 0) = false := decide_eq_false (by omega)
      clear hmo hn1 hx1 r1 hss
      go_wp2_with fail
      go_round
      case rel =>
        refine ⟨k + 1, by omega, by go_num, ?_⟩
        rw [HS.out, List.length_append, HSS.out, ← HN.out]
        go_num
      case measure => simp [intOf]; omega
    · obtain rfl : k = L.length := by omega
      rw [List.take_length]
      clear hlt hk
      obtain ⟨N, hN⟩ : ∃ N, L.flatten.length = N := ⟨_, rfl⟩
      rw [hN]
      have hNs : N ≤ 1000000 := by omega
      have HNN := Lib.hid hN
      clear hN
      go_wp2_with fail
      refine (grow_any N _ hNs).mono ?_
      rintro e w1 ⟨u, rfl, ho, hb⟩
      have HO := Lib.hid ho
      have HB := Lib.hid hb
      clear ho hb
      go_wp2_with fail
      go_loopw [6, 27] (fun u i wr => ∃ k : Nat, k ≤ L.length ∧ i = .int .i64 k ∧ OwnI wr w.heap.size u (L.take k).flatten ∧ Below w.heap.size w wr) (fun _ i _ => L.length - (intOf i).toNat)
      case atStart => exact ⟨0, Nat.zero_le _, rfl, by simpa using HO.out, HB.out⟩
      case round =>
        obtain ⟨k, hk, rfl, hon, hbw⟩ := hrel
        have HON := Lib.hid hon
        have HBW := Lib.hid hbw
        clear hon hbw
        by_cases hlt : k < L.length
        · obtain ⟨ta, oa, a1, n1, c1, rfl, hta, ca, hn1, hx1, r1⟩ := ll_at (H.out.below HBW.out) k hlt
          have HS := Lib.hid (flat_take hlt)
          have hmo := flat_mono L (k + 1)
          rw [HS.out, List.length_append] at hmo
          have HR := Lib.hid r1
          generalize (L.take k).flatten = ys at *
          generalize L.getD k [] = xs at *
          have hmo2 : ys.length + xs.length ≤ 10000000 := by omega
          subst hn1
          obtain ⟨ua, uc, rfl⟩ := HON.out.shape
          clear hmo r1 hx1
          go_wp2_with (first | (at_builtin; refine app_ints rfl _ _ rfl w.heap.size _ ys rfl HON.out _ xs rfl HR.out hmo2 HBW.out.size ?_))
          intro v' w' hown hgrow _
          have HN := Lib.hid hown
          have HB4 := Lib.hid (HBW.out.trans (grown_below hgrow HBW.out.size (fun q hq => (World.ownsRow.lt HON.out q hq).1)))
          clear hown hgrow
          go_wp2
          go_roundw
          case rel => exact ⟨k + 1, by omega, by go_num, by rw [HS.out]; exact HN.out, HB4.out⟩
          case measure => simp [intOf]; omega
        · obtain rfl : k = L.length := by omega
          rw [List.take_length] at HON
          clear hlt hk
          go_wp2
          go_ret
          exact ⟨_, rfl, HON.out, HBW.out⟩
set_option maxRecDepth 100000 in
theorem same2_any {w : World} {av bv : Value} {A B : List Int} (hA : Row w av (ints A)) (hB : Row w bv (ints B)) :
    Calls Tryz.prog 28 #[av, bv] w fun e w' => e = .returned (.bool (decide (A = B))) ∧ Below w.heap.size w w' := by
  have HA := Lib.hid hA
  have HB := Lib.hid hB
  obtain ⟨a, capa, rfl, hma⟩ := hA.form
  obtain ⟨b, capb, rfl, hmb⟩ := hB.form
  simp only [ints_len] at *
  clear hA hB
  have hm1 : A.length ≤ 9223372036854775807 := by unfold maxLen at hma; omega
  have hm2 : B.length ≤ 9223372036854775807 := by unfold maxLen at hmb; omega
  clear hma hmb
  by_cases hl : A.length = B.length
  · have HL := Lib.hid hl
    rw [← hl]
    have hne : ((A.length : Int) != (A.length : Int)) = false := by simp
    clear hl hm2
    go_enter Tryz.func28, Tryz.ntmps28
    go_wp2_with fail
    go_loopw [5] (fun i wr => ∃ j : Nat, j ≤ A.length ∧ i = .int .i64 j ∧ A.take j = B.take j ∧ Below w.heap.size w wr) (fun i _ => A.length - (intOf i).toNat)
    case atStart => exact ⟨0, Nat.zero_le _, rfl, by simp, Below.refl _ _⟩
    case round =>
      obtain ⟨k, hk, rfl, htk, hbk⟩ := hrel
      have HTK2 := Lib.hid htk
      have HBK := Lib.hid hbk
      clear htk hbk
      by_cases hkl : k < A.length
      · obtain ⟨t1, o1, rfl, e1, _⟩ := row_cell (HA.out.below HBK.out) k (by rw [ints_len]; exact hkl)
        obtain ⟨t2, o2, rfl, e2, _⟩ := row_cell (HB.out.below HBK.out) k (by rw [ints_len, ← HL.out]; exact hkl)
        rw [ints_at _ _ hkl] at e1
        rw [ints_at _ _ (by rw [← HL.out]; exact hkl)] at e2
        obtain ⟨x, hx⟩ : ∃ x, A.getD k 0 = x := ⟨_, rfl⟩
        obtain ⟨y, hy⟩ : ∃ y, B.getD k 0 = y := ⟨_, rfl⟩
        rw [hx] at e1
        rw [hy] at e2
        have HX := Lib.hid hx
        have HY := Lib.hid hy
        clear hx hy
        by_cases hxy : x = y
        · have HXY := Lib.hid hxy
          have hb0 : (x != y) = false := by simp [hxy]
          clear hxy
          go_wp2_with fail
          go_quiet (fail)
          have HW2 := Lib.hid (below_drewN HBK.out nq)
          generalize wr.drewN nq = w3 at *
          go_wp2
          go_roundw
          case rel => exact ⟨k + 1, by omega, by go_num, take_on (d := 0) HL.out hkl HTK2.out (by rw [HX.out, HY.out, HXY.out]), HW2.out⟩
          case measure => simp [intOf]; omega
        · have HXY := Lib.hid hxy
          have hb0 : (x != y) = true := by simp [hxy]
          clear hxy
          go_wp2_with fail
          go_quiet (fail)
          have HW2 := Lib.hid (below_drewN HBK.out nq)
          generalize wr.drewN nq = w3 at *
          go_wp2
          go_ret
          exact ⟨ret_bool (decide_eq_false (fun e => HXY.out (by rw [← HX.out, ← HY.out, e]))).symm, HW2.out⟩
      · obtain rfl : k = A.length := by omega
        clear hkl hk
        have HEQ := Lib.hid (take_all HL.out HTK2.out)
        go_wp2
        go_ret
        exact ⟨ret_bool (decide_eq_true HEQ.out).symm, HBK.out⟩
  · have HL := Lib.hid hl
    have hne : ((A.length : Int) != (B.length : Int)) = true := by simp; omega
    clear hl
    go_enter Tryz.func28, Tryz.ntmps28
    go_wp2
    go_ret
    exact ⟨ret_bool (decide_eq_false (fun e => HL.out (by rw [e]))).symm, Below.refl _ _⟩
end Go.Proofs.YtkljmnfekdoocaaGreat
/- What plane's row and Matrix answer. -/
namespace Go.Proofs.YtkljmnfekdoocaaGreat
open Go.ChangeShapes Go.WideShapes Go.ChangeAt Go.RowKit

/-- A list of which the first ones are as they should be. -/
def Fill {α : Type} (d : α) (k n : Nat) (f : Nat → α) (ys : List α) : Prop := ys.length = n ∧ ∀ i, i < k → ys.getD i d = f i
theorem Fill.none {α : Type} (d x : α) (n : Nat) (f : Nat → α) : Fill d 0 n f (List.replicate n x) := ⟨by simp, fun i hi => by omega⟩
theorem Fill.next {α : Type} {d : α} {k n : Nat} {f : Nat → α} {ys : List α} (h : Fill d k n f ys) (hk : k < n) {x : α} (hx : x = f k) : Fill d (k + 1) n f (ys.set k x) := by
  refine ⟨by rw [List.length_set]; exact h.1, fun i hi => ?_⟩
  by_cases c : i = k
  · subst c
    rw [List.getD_eq_getElem?_getD, List.getElem?_set_self (by rw [h.1]; exact hk), hx]
    rfl
  · rw [List.getD_eq_getElem?_getD, List.getElem?_set_ne (fun e => c e.symm), ← List.getD_eq_getElem?_getD]
    exact h.2 i (by omega)
theorem Fill.all {α : Type} {d : α} {n : Nat} {f : Nat → α} {ys : List α} (h : Fill d n n f ys) : ys = (List.range n).map f := by
  apply List.ext_getElem
  · simp [h.1]
  · intro i h1 h2
    have := h.2 i (by rw [← h.1]; exact h1)
    rw [List.getD_eq_getElem?_getD, List.getElem?_eq_getElem h1] at this
    simpa using this
/-- How far it is from a stop to each; from each to each. -/
def rowF (l : List Stp) (t : Stp) : List Int := (List.range l.length).map (fun i => farF t (nth l i))
def matF (l : List Stp) : List (List Int) := (List.range l.length).map (fun i => rowF l (nth l i))
def matI (I : Ins) : List (List Int) := if mayB I = true then matF I.l else []
theorem rowF_len (l : List Stp) (t : Stp) : (rowF l t).length = l.length := by simp [rowF]
theorem matF_len (l : List Stp) : (matF l).length = l.length := by simp [matF]
theorem rowF_at (l : List Stp) (t : Stp) (i : Nat) (hi : i < l.length) : (rowF l t).getD i 0 = farF t (nth l i) := by
  unfold rowF
  rw [List.getD_eq_getElem?_getD, List.getElem?_map, List.getElem?_range hi]; rfl
theorem matF_at (l : List Stp) (i : Nat) (hi : i < l.length) : (matF l).getD i [] = rowF l (nth l i) := by
  unfold matF
  rw [List.getD_eq_getElem?_getD, List.getElem?_map, List.getElem?_range hi]; rfl
theorem pmay_len {I : Ins} (h : mayB I = true) : 0 < I.l.length ∧ I.l.length ≤ 33 := by
  have h1 := (may_iff I).1 h
  have h2 := (inb_iff _ _ _).1 h1.1
  have h3 := h1.2.2.2.1
  unfold lenOk at h3
  have := decide_eq_true_iff.1 h3
  omega
theorem OwnI.cell {w : World} {B g n cap : Nat} {l : List Int} (h : OwnI w B (.slice (some ⟨g, 0, none⟩) n cap) l) (i : Nat) (hi : i < l.length) : w.cell? ⟨g, i, none⟩ = some (.int .i64 (l.getD i 0)) := by
  have hn : n = l.length := by
    obtain ⟨a, c, he⟩ := h.shape
    simp at he; exact he.2.1
  subst hn
  rw [(show w.ownsRow B 3 1 (.slice (some ⟨g, 0, none⟩) l.length cap) l.length (ints l) from h).cellAt i (by omega)]
  exact ints_at l i hi
theorem OwnLL.cell {w : World} {B g n cap : Nat} {L : List (List Int)} (h : OwnLL w B (.slice (some ⟨g, 0, none⟩) n cap) L) (i : Nat) (hi : i < L.length) : ∃ x, w.cell? ⟨g, i, none⟩ = some x := by
  obtain ⟨vs, h1, h2⟩ := h
  have hl := h2.in.len
  have hn : n = vs.length := by
    obtain ⟨a, c, he⟩ := own_shape h1
    simp at he; exact he.2.1
  subst hn
  rw [h1.cellAt i (by omega)]
  exact ⟨_, List.getElem?_eq_getElem (by omega)⟩
end Go.Proofs.YtkljmnfekdoocaaGreat
