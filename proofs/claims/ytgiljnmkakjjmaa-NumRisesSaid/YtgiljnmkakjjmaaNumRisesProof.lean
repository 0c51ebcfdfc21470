/- NumRises holds for every slice of Go's ints and every two numbers: of at most 1000 costs the sum asks neither for the order nor for the parts, one more makes no less, and Inf stays Inf; there is no further condition. -/
import Derived.Test.YtgiljnmkakjjmaaRows
import Derived.Test.YtgiljnmkakjjmaaReads
import Derived.Deep.RegionHeld3
import Derived.WalkKit
import Derived.ProofKit
import Derived.OpenShut
import Derived.ShutString
import Derived.ChangeOld
import Derived.Below
namespace Go.Proofs.Ytgiljnmkakjjmaa.numRises
open Go.ChangeShapes Go.WideShapes Go.ChangeAt Go.RowKit
open Go.ChangeMaps (open_string shut_string)
set_option linter.unusedVariables false

theorem own : ownKnob Try.prog.godebug = none := by kernel_rfl
theorem laidOut : laidOutB Try.prog = true := by kernel_rfl

/-- WHAT THE WALK IS TOLD OF A SLICE OF INTEGERS THAT CAME IN: it is nil; or it leads to a row of 'cap' cells, the numbers 'zs' (the first 'len' are its elements, the rest its spare room), each fitting its kind. -/
def IsRow (k : IntKind) (w : World) (a : Option Addr) (len cap : Nat) (zs : List Int) : Prop :=
  (a = none ∧ len = 0 ∧ cap = 0 ∧ zs = []) ∨
  ∃ x, a = some x ∧ len ≤ cap ∧ cap ≤ maxLen ∧ zs.length = cap ∧ (∀ i, i < zs.length → w.cell? (x.add i) = some (.int k (zs.getD i 0))) ∧ ∀ n ∈ zs, (Lit.int k n).wf = true

theorem info3 : (Try.prog.info? 3).map (fun i => (i.zero, i.size, i.bytes)) = some (some (.int .i64 0), 1, 8) := by kernel_rfl

theorem back_step (L : List Int) (k : Nat) (h : k < L.length) : L.reverse.take (k + 1) = L.reverse.take k ++ [L.getD (L.length - 1 - k) 0] := by
  rw [List.take_succ_eq_append_getElem (by simpa using h)]
  simp [List.getElem_reverse, List.getD, show L.length - 1 - k < L.length by omega]

def backs (L : List Int) (k : Nat) : List Value := (L.reverse.take k).map (Value.int .i64)
theorem backs_step (L : List Int) (k : Nat) (h : k < L.length) : backs L (k + 1) = backs L k ++ [.int .i64 (L.getD (L.length - 1 - k) 0)] := by
  unfold backs
  rw [back_step L k h, List.map_append]
  rfl
theorem own_block {w : World} {B : Nat} {v : Value} {n : Nat} {xs : List Value} (h : w.ownsRow B 3 1 v n xs) : ∀ k, v.ownBlock = some k → B ≤ k := by
  intro k hk
  rcases h.2 with ⟨rfl, -⟩ | ⟨g, cap, cur, rfl, hg, -⟩
  · simp [Value.ownBlock] at hk
  · simp [Value.ownBlock] at hk; omega
def Gath (L : List Int) (w wr : World) (v : Value) (k : Nat) : Prop := wr.ownsRow w.heap.size 3 1 v k (backs L k) ∧ Below w.heap.size w wr
theorem gath_step {L : List Int} {w wr w1 : World} {v v' : Value} {k : Nat} {y : Int} (h : Gath L w wr v k) (hy : backs L (k + 1) = backs L k ++ [.int .i64 y]) (ho : w1.ownsRow w.heap.size 3 1 v' (k + 1) (backs L k ++ [.int .i64 y])) (hg : (wr.alloc (.cells #[.int .i64 y] 3)).grownBy w1 v.ownBlock) : Gath L w w1 v' (k + 1) := by
  obtain ⟨h1, h2⟩ := h
  have hs := h2.size
  exact ⟨by rw [hy]; exact ho, (h2.alloc hs _).grown hg (by simp; omega) (own_block h1)⟩

theorem sum_00 : sumOf [0, 0] = 0 := by decide
theorem sum_0inf : sumOf [0, 1152921504606846976] = 1152921504606846976 := by decide
set_option maxRecDepth 100000 in
set_option maxHeartbeats 1600000 in
theorem walk_nil (a2 : Int) (w : World) :
    Calls Try.prog 7 #[.slice none 0 0, .int .i64 0, .int .i64 a2] w fun e w' => e = .returned (.bool true) ∧ Below w.heap.size w w' := by
  have hmore := (sumOf_bd [0, a2]).1
  go_enter Try.func7, Try.ntmps7
  go_wp2_with fail
  refine (awake_any _).mono ?_
  rintro e w' ⟨rfl, rfl⟩
  go_wp2_with fail
  go_loop [8, 9] (fun v i => v = .slice none 0 0 ∧ i = .int .i64 0) (fun _ _ => 0)
  case atStart => exact ⟨rfl, rfl⟩
  case round =>
    obtain ⟨rfl, rfl⟩ := hrel
    go_wp2_with fail
    refine (sum_none _ _ _).mono ?_
    rintro e w' ⟨rfl, rfl⟩
    go_wp2_with fail
    go_region_held3 (fun w' => True) (trivial) (first | (go_at_call 18; (with_reducible refine (sum_none _ _ _).mono ?_); rintro e w' ⟨rfl, rfl⟩) | (go_at_call 18; (with_reducible refine (sum_reads _ _ _ _ [0, 0] ?_ ?_).mono ?_); (rfl); ((refine reads_two ?_ ?_) <;> (simp [go_sem]; done)); (rw [sum_00]); rintro e w' ⟨rfl, rfl⟩) | (go_at_call 18; (with_reducible refine (sum_reads _ _ _ _ [0, a2] ?_ ?_).mono ?_); (rfl); ((refine reads_two ?_ ?_) <;> (simp [go_sem]; done)); (skip); rintro e w' ⟨rfl, rfl⟩) | (go_at_call 18; (with_reducible refine (sum_reads _ _ _ _ [0, 1152921504606846976] ?_ ?_).mono ?_); (rfl); ((refine reads_two ?_ ?_) <;> (simp [go_sem]; done)); (rw [sum_0inf]); rintro e w' ⟨rfl, rfl⟩))
    all_goals
      go_wp2
      go_ret
      exact ⟨rfl, by repeat (first | exact Below.refl _ _ | apply Below.drew | (refine Below.alloc ?_ (by first | omega | (simp; done) | (simp; omega)) _))⟩

set_option maxRecDepth 100000 in
set_option maxHeartbeats 1600000 in
theorem walk_bare (x : Addr) (cap : Nat) (a2 : Int) (w : World) :
    Calls Try.prog 7 #[.slice (some x) 0 cap, .int .i64 0, .int .i64 a2] w fun e w' => e = .returned (.bool true) ∧ Below w.heap.size w w' := by
  have hmore := (sumOf_bd [0, a2]).1
  go_enter Try.func7, Try.ntmps7
  go_wp2_with fail
  refine (awake_any _).mono ?_
  rintro e w' ⟨rfl, rfl⟩
  go_wp2_with fail
  go_loop [8, 9] (fun v i => v = .slice none 0 0 ∧ i = .int .i64 0) (fun _ _ => 0)
  case atStart => exact ⟨rfl, rfl⟩
  case round =>
    obtain ⟨rfl, rfl⟩ := hrel
    go_wp2_with fail
    refine (sum_none _ _ _).mono ?_
    rintro e w' ⟨rfl, rfl⟩
    go_wp2_with fail
    go_region_held3 (fun w' => True) (trivial) (first | (go_at_call 18; (with_reducible refine (sum_none _ _ _).mono ?_); rintro e w' ⟨rfl, rfl⟩) | (go_at_call 18; (with_reducible refine (sum_reads _ _ _ _ [0, 0] ?_ ?_).mono ?_); (rfl); ((refine reads_two ?_ ?_) <;> (simp [go_sem]; done)); (rw [sum_00]); rintro e w' ⟨rfl, rfl⟩) | (go_at_call 18; (with_reducible refine (sum_reads _ _ _ _ [0, a2] ?_ ?_).mono ?_); (rfl); ((refine reads_two ?_ ?_) <;> (simp [go_sem]; done)); (skip); rintro e w' ⟨rfl, rfl⟩) | (go_at_call 18; (with_reducible refine (sum_reads _ _ _ _ [0, 1152921504606846976] ?_ ?_).mono ?_); (rfl); ((refine reads_two ?_ ?_) <;> (simp [go_sem]; done)); (rw [sum_0inf]); rintro e w' ⟨rfl, rfl⟩))
    all_goals
      go_wp2
      go_ret
      exact ⟨rfl, by repeat (first | exact Below.refl _ _ | apply Below.drew | (refine Below.alloc ?_ (by first | omega | (simp; done) | (simp; omega)) _))⟩


set_option maxRecDepth 100000 in
set_option maxHeartbeats 1600000 in
theorem walk (a0 : Option Addr) (len0 cap0 : Nat) (z0 : List Int) (a1 : Int) (a2 : Int) (w : World) (w0 : IsRow .i64 w a0 len0 cap0 z0) (w1 : (Lit.int .i64 a1).wf = true) (w2 : (Lit.int .i64 a2).wf = true) :
    Calls Try.prog 7 #[.slice a0 len0 cap0, .int .i64 a1, .int .i64 a2] w fun e w' => e = .returned (.bool true) ∧ Below w.heap.size w w' := by
  obtain ⟨j1, j2⟩ := i64_bd a1 w1
  clear w1
  by_cases hs : len0 ≤ 1000 ∧ 0 ≤ a1 ∧ a1 ≤ len0
  · obtain ⟨hl, c1, c2⟩ := hs
    obtain ⟨c, rfl⟩ : ∃ c : Nat, a1 = (c : Int) := ⟨a1.toNat, by omega⟩
    rcases w0 with ⟨rfl, rfl, rfl, rfl⟩ | ⟨x, rfl, hlc, hm, hz, hc, -⟩
    · obtain rfl : c = 0 := by omega
      exact walk_nil a2 w
    · by_cases hl0 : len0 = 0
      · subst hl0
        obtain rfl : c = 0 := by omega
        exact walk_bare x cap0 a2 w
      · obtain ⟨b, off, rfl, hc'⟩ := ints_at hc (by omega)
        clear hc
        obtain ⟨L, hL⟩ : ∃ L, L = z0.take len0 := ⟨_, rfl⟩
        have hLl : L.length = len0 := by rw [hL, List.length_take]; omega
        have hLc : ∀ k, k < L.length → w.cell? ⟨b, off + k, none⟩ = some (.int .i64 (L.getD k 0)) := by
          intro k hk
          rw [hc' k (by omega), hL]
          rw [hLl] at hk
          simp [List.getD, hk]
        clear hc' hL hz hm
        obtain ⟨i0, hi, hz0, hz1, hz2⟩ := info_parts info3
        have HL := Lib.hid hLl
        have HC := Lib.hid hLc
        clear hLl hLc
        have d1 : decide (1000 < (len0 : Int)) = false := by simp; omega
        have d2 : decide ((c : Int) < 0) = false := by simp
        have d3 : decide (len0 < c) = false := by simp; omega
        go_enter Try.func7, Try.ntmps7
        go_wp2_with fail
        refine (awake_any _).mono ?_
        rintro e w' ⟨rfl, rfl⟩
        go_wp2_with fail
        go_loopw [8, 9] (fun v i wr => ∃ k : Nat, k ≤ len0 ∧ i = .int .i64 k ∧ Gath L w wr v k) (fun _ i _ => len0 - (intOf i).toNat)
        case atStart => exact ⟨0, Nat.zero_le _, rfl, World.ownsRow_nil _ _ _ _, (Below.refl _ _).alloc (Nat.le_refl _) _⟩
        case round =>
          obtain ⟨k, hk, rfl, hgath⟩ := hrel
          have hbel := hgath.2
          by_cases hlt : k < len0
          · have hcell : wr.cell? ⟨b, off + (len0 - 1 - k), none⟩ = some (.int .i64 (L.getD (len0 - 1 - k) 0)) := by
              have := HL.out
              exact cell_later hbel (HC.out _ (by omega))
            have hb2 : w.heap.size ≤ wr.heap.size := hbel.size
            have hst : backs L (k + 1) = backs L k ++ [.int .i64 (L.getD (len0 - 1 - k) 0)] := by
              have e := HL.out
              rw [backs_step L k (by omega), e]
            have HST := Lib.hid hst
            clear hst
            generalize L.getD (len0 - 1 - k) 0 = y at *
            have HG := Lib.hid hgath
            clear hgath hbel
            go_wp2_with (first | (at_builtin; refine wpList_append_own _ rfl _ _ 27 rfl w.heap.size 3 i0 (.int .i64 0) 1 8 Try.underlying27 hi hz0 hz1 hz2 rfl (by decide) _ _ _ rfl (HG.out.1.alloc _) ⟨wr.heap.size, 0, none⟩ 1 1 [.int .i64 y] rfl rfl ?c1 ?c2 ?c3 ?c4 ?c5 ?_))
            case c1 => exact cell_one_new _ _ _
            case c2 => intro u hu; simp at hu; subst hu; rfl
            case c3 => unfold maxLen; omega
            case c4 => omega
            case c5 => simp; omega
            · intro v' w1 hown' hgrow _
              have HN := Lib.hid (gath_step HG.out HST.out hown' hgrow)
              clear hown' hgrow
              go_wp2
              go_roundw
              case rel => exact ⟨k + 1, by omega, by go_num, HN.out⟩
              case measure => simp [intOf]; omega
          · obtain rfl : k = len0 := by omega
            obtain ⟨-, av, capv, rfl, hrev⟩ := reads_own (show wr.ownsRow w.heap.size 3 1 u8 k (L.reverse.map (Value.int .i64)) from by
              have e := HL.out
              have := hgath.1
              unfold backs at this
              rwa [List.take_of_length_le (by simp; omega)] at this)
            have hr : Reads wr (some ⟨b, off, none⟩) L := reads_later hbel ⟨by have := HL.out; omega, Or.inr ⟨b, off, rfl, HC.out⟩⟩
            have hrc : (∀ j, j < L.length → wr.cell? ⟨b, off + j, none⟩ = some (.int .i64 (L.getD j 0))) := fun j hj => cell_later hbel (HC.out j hj)
            obtain ⟨hrt, hrd⟩ := reads_take (w := wr) (b := b) (off := off) c (by have := HL.out; omega) hrc
            have HR := Lib.hid hr
            have HT := Lib.hid hrt
            have HD := Lib.hid hrd
            have HD0 := Lib.hid (show cap0 ≤ c → ∀ (w : World) (a : Option Addr), Reads w a (L.drop c) from fun h w a => by
              have := HL.out
              rw [List.drop_eq_nil_of_le (by omega)]
              exact ⟨by simp, Or.inl rfl⟩)
            have HV := Lib.hid hrev
            have HB := Lib.hid hbel
            have hmore := sum_more L a2
            obtain ⟨hs1, hs2⟩ := sumOf_bd L
            clear hr hrt hrd hrev hbel hrc hgath
            go_wp2_with fail
            refine (sum_reads _ _ _ _ L HL.out HR.out).mono ?_
            rintro e w' ⟨rfl, rfl⟩
            go_wp2_with fail
            have e1 : (0 : Int) ≤ (c : Int) := by omega
            have e2 : (c : Int) ≤ (k : Int) := by omega
            have e3 : (k : Int) ≤ (cap0 : Int) := by omega
            have e4 : (c : Int) ≤ (cap0 : Int) := by omega
            rcases Nat.lt_or_ge c cap0 with hcc | hcc
            all_goals go_region_held3 (fun w' => True) (trivial) (first | (go_at_call 18; (with_reducible refine (sum_reads _ av _ _ L.reverse ?_ ?_).mono ?_); (rw [List.length_reverse]; exact HL.out); (refine reads_later ?_ HV.out; (repeat (first | exact Below.refl _ _ | apply Below.drew | (refine Below.alloc ?_ (by simp) _)))); (rw [sum_rev]); rintro e w' ⟨rfl, rfl⟩) | (go_at_call 18; (with_reducible refine (sum_reads _ (some ⟨b, off, none⟩) c _ (L.take c) ?_ ?_).mono ?_); (have := HL.out; rw [List.length_take]; omega); (refine reads_later ?_ HT.out; (repeat (first | exact Below.refl _ _ | apply Below.drew | (refine Below.alloc ?_ (by simp) _)))); (skip); rintro e w' ⟨rfl, rfl⟩) | (go_at_call 18; (with_reducible refine (sum_reads _ _ (k - c) _ (L.drop c) ?_ ?_).mono ?_); (have := HL.out; rw [List.length_drop]; omega); (first | exact HD0.out hcc _ _ | (refine reads_later ?_ HD.out; (repeat (first | exact Below.refl _ _ | apply Below.drew | (refine Below.alloc ?_ (by simp) _))))); (skip); rintro e w' ⟨rfl, rfl⟩) | (go_at_call 18; (with_reducible refine (sum_reads _ _ _ _ [sumOf (L.take c), sumOf (L.drop c)] ?_ ?_).mono ?_); (rfl); ((refine reads_two ?_ ?_) <;> (simp [go_sem]; done)); (rw [sum_parts]); rintro e w' ⟨rfl, rfl⟩) | (go_at_call 18; (with_reducible refine (sum_reads _ _ _ _ [sumOf L, a2] ?_ ?_).mono ?_); (rfl); ((refine reads_two ?_ ?_) <;> (simp [go_sem]; done)); (skip); rintro e w' ⟨rfl, rfl⟩) | (go_at_call 18; (with_reducible refine (sum_reads _ _ _ _ [sumOf L, 1152921504606846976] ?_ ?_).mono ?_); (rfl); ((refine reads_two ?_ ?_) <;> (simp [go_sem]; done)); (rw [sum_inf]); rintro e w' ⟨rfl, rfl⟩))
            all_goals
              go_wp2
              go_ret
              have hsz := HB.out.size
              exact ⟨rfl, by repeat (first | exact HB.out | apply Below.drew | (refine Below.alloc ?_ (by first | omega | (simp; done) | (simp; omega)) _))⟩
  · go_enter Try.func7, Try.ntmps7
    go_wp2_with (first | (go_at_call 11; refine (awake_any _).mono ?_; rintro e w' ⟨rfl, rfl⟩))
    all_goals (go_ret; exact ⟨rfl, (Below.refl _ _).alloc (Nat.le_refl _) _⟩)

set_option maxRecDepth 100000 in
theorem lifted (os : Os) (started : os.Started) (H : Type) (enc : TypeId × Value → H) :
    ReturnsInHanded {} Try.checked os 7 .any (Rows.numRisesSpec.pre6 enc Try.prog Try.f7 Rows.numRisesRow.domain false) (Rows.numRisesSpec.post enc Try.prog Try.f7 false true false false) := by
  refine returnsInHanded_of_change (C := Try.checked) own started (by kernel_rfl) Try.func7
    (ChangeSpec.witness6 (enc := enc) (C := Try.checked) false ⟨#[], #[.slice none 0 0, .int .i64 0, .int .i64 0], []⟩ 8 (by kernel_rfl) (by kernel_rfl) (by kernel_rfl) (by kernel_rfl)) ?_
  intro W base args ds gs before hval0 hW hcnd _
  have hval : ∀ (j : Nat) t v, Try.f7.params[j]? = some t → args[j]? = some v → Value.okWide Try.prog W .any base t v := hval0
  have hW' := hW
  obtain ⟨p, q, hA0, hV, rfl, hfz, hnd⟩ := hW
  have hA : DataW.TrodAll enc Try.prog W 0 (fun _ => true) true Try.f7.params.toList args.toList ds p := hA0
  rw [Try.params7] at hA hval
  obtain ⟨v0, vs0, d0, ds0, p0, q0, hargs, rfl, rfl, h0, r0⟩ := trodAll_cons hA
  obtain ⟨v1, vs1, d1, ds1, p1, q1, rfl, rfl, rfl, h1, r1⟩ := trodAll_cons r0
  obtain ⟨v2, vs2, d2, ds2, p2, q2, rfl, rfl, rfl, h2, r2⟩ := trodAll_cons r1
  obtain ⟨rfl, rfl, rfl⟩ := trodAll_nil r2
  obtain rfl : args = #[v0, v1, v2] := by cases args; simp_all
  obtain ⟨rfl, rfl⟩ := trodVars_none hV
  obtain ⟨a0, len0, cap0, rfl⟩ := okWide_slice Try.underlying27 (hval 0 27 v0 rfl rfl)
  have k0 := h0
  have lt0 : ∀ x ∈ p0, x.block < W.heap.size := by obtain ⟨m, hm⟩ := k0; exact DataW.trod_lt m _ _ _ hm
  obtain ⟨z0, w0⟩ : ∃ zs, IsRow .i64 W a0 len0 cap0 zs := by
    obtain ⟨fuel, hf⟩ := h0
    rcases open_ints Try.underlying27 Try.underlying3 (by kernel_rfl) hf with ⟨hcs, _⟩ | ⟨x, l, c, zs, hcs, _, hl, hm, hz, _, hcell, hwz⟩
    · simp [Value.cells] at hcs
      obtain ⟨rfl, rfl, rfl⟩ := hcs
      exact ⟨[], .inl ⟨rfl, rfl, rfl, rfl⟩⟩
    · simp [Value.cells] at hcs
      obtain ⟨rfl, rfl, rfl⟩ := hcs
      exact ⟨zs, .inr ⟨_, rfl, hl, hm, by simpa using hz, hcell, hwz⟩⟩
  obtain ⟨a1, rfl, rfl, rfl, w1⟩ := open_int Try.underlying3 (hval 1 3 v1 rfl rfl) h1
  obtain ⟨a2, rfl, rfl, rfl, w2⟩ := open_int Try.underlying3 (hval 2 3 v2 rfl rfl) h2
  clear hA0 hval0
  refine (walk a0 len0 cap0 z0 a1 a2 W w0 w1 w2).mono fun e W' ⟨he, bel⟩ => ?_
  subst he
  exact ⟨_, rfl, _, _, _, [], _, [], hW', trodAll_mk1 (shut_bool Try.underlying4 _), (trodAll_cons_mk (Below.trod laidOut (by kernel_rfl) (of_decide_eq_true (by kernel_rfl)) k0 bel lt0) (trodAll_cons_mk (shut_int Try.underlying3 w1) (trodAll_cons_mk (shut_int Try.underlying3 w2) trodAll_mk0))), rfl, bel.frame _, fun h => by cases h⟩

theorem over : Rows.numRisesRow.holds Try.pinned (OpenSpec.ofChange Rows.numRisesSpec) :=
  OpenClaim.holds_of_wide 7 Try.f7 rfl rfl rfl rfl rfl rfl rfl ⟨rfl, rfl, rfl, rfl, rfl⟩ rfl rfl rfl rfl rfl (by kernel_rfl) Try.func7 (by kernel_rfl)
    (of_decide_eq_true (by kernel_rfl)) (by unfold Func.isWrapper; first | (rw [if_pos (by decide +kernel)]; kernel_rfl) | (rw [if_neg (by decide +kernel)]; exact ⟨rfl, rfl⟩))
    (fun os started H enc _ => lifted os started H enc)

theorem proved : Rows.NumRisesSaid := over
#print axioms proved
end Go.Proofs.Ytgiljnmkakjjmaa.numRises
