/- SetOf holds for every set (any number of Go's uint64), where math/bits.deBruijn64tab starts as the library's text lays it (the card ties that); there is no further condition. -/
import Derived.Test.YtbpledppckmclaaDoorRows
import Derived.Test.YtbpledppckmclaaDoorTie
import Derived.Test.YtbpledppckmclaaDoorCards
import Derived.Test.YtbpledppckmclaaDoorLaid
import Derived.Deep.RegionHeld3
import Derived.Deep.AppendLies
import Derived.Deep.QuietTactic
import Derived.BigQuiet
import Derived.SevenTiedAt
import Derived.WalkKit
import Derived.ProofKit
import Derived.OpenShut
import Derived.ShutString
import Derived.ChangeOld
import Derived.Below
namespace Go.Proofs.YtbpledppckmclaaDoor.setOf
open Go.ChangeShapes Go.WideShapes Go.ChangeAt Go.RowKit

/-- What is gathered in k rounds: from behind and from the front, in turn. -/
def backs (L : List Int) : Nat → List Int
  | 0 => []
  | k + 1 => backs L k ++ [L.getD (L.length - 1 - k) 0, L.getD k 0]
theorem backs_len (L : List Int) : ∀ k, (backs L k).length = 2 * k
  | 0 => rfl
  | k + 1 => by simp [backs, backs_len L k]; omega
theorem getD_mem (L : List Int) (k : Nat) (h : k < L.length) : L.getD k 0 ∈ L := by
  rw [List.getD_eq_getElem?_getD, List.getElem?_eq_getElem h]; exact List.getElem_mem h
theorem backs_sub (L : List Int) : ∀ k, k ≤ L.length → ∀ i ∈ backs L k, i ∈ L
  | 0, _ => by simp [backs]
  | k + 1, h => by
    intro i hi
    simp only [backs, List.mem_append, List.mem_cons, List.not_mem_nil, or_false] at hi
    rcases hi with hi | rfl | rfl
    · exact backs_sub L k (by omega) i hi
    · exact getD_mem L _ (by omega)
    · exact getD_mem L _ (by omega)
theorem backs_all (L : List Int) : ∀ k j, j < k → L.getD j 0 ∈ backs L k
  | 0, j, h => by omega
  | k + 1, j, h => by
    simp only [backs, List.mem_append, List.mem_cons]
    by_cases e : j = k
    · subst e; exact .inr (.inr (.inl rfl))
    · exact .inl (backs_all L k j (by omega))
theorem backs_mem (L : List Int) (i : Int) : i ∈ backs L L.length ↔ i ∈ L := by
  constructor
  · exact backs_sub L _ (Nat.le_refl _) i
  · intro h
    obtain ⟨j, hj, rfl⟩ := List.mem_iff_getElem.1 h
    have := backs_all L L.length j hj
    rwa [List.getD_eq_getElem?_getD, List.getElem?_eq_getElem hj] at this
theorem backs_of (s : Nat) (hs : s < 18446744073709551616) : ofN (backs (allN s) (allN s).length) = s :=
  ofN_of_mem _ s hs (fun k _ => (backs_mem _ _).trans (mem_allN s k))
theorem rises (s k : Nat) (h : k + 1 < (allN s).length) : (allN s).getD k 0 < (allN s).getD (k + 1) 0 := by
  have h1 := List.pairwise_iff_getElem.1 (allN_rises s) k (k + 1) (by omega) h (by omega)
  rw [List.getD_eq_getElem?_getD, List.getD_eq_getElem?_getD, List.getElem?_eq_getElem h, List.getElem?_eq_getElem (show k < (allN s).length by omega)]
  exact h1
theorem gath_two {w wr w1 : World} {v v' : Value} {l l' : List Int} {x y : Int} (h : Gath w wr v l) (hl : l' = l ++ [x, y]) (ho : w1.ownsRow w.heap.size 3 1 v' (l.length + 2) (vals l ++ [.int .i64 x, .int .i64 y])) (hg : (wr.alloc (.cells #[.int .i64 x, .int .i64 y] 3)).drew.grownBy w1 v.ownBlock) : Gath w w1 v' l' := by
  obtain ⟨h1, h2⟩ := h
  have hs := h2.size
  subst hl
  exact ⟨by unfold vals at *; simpa using ho, (h2.alloc hs _).drew.grown hg (by simp; omega) (own_block h1)⟩
theorem gath_drewN {w wr : World} {v : Value} {l : List Int} (h : Gath w wr v l) : ∀ n, Gath w (wr.drewN n) v l
  | 0 => h
  | n + 1 => ⟨(gath_drewN h n).1.drew, (gath_drewN h n).2.drew⟩

set_option maxRecDepth 100000 in
set_option maxHeartbeats 1600000 in
theorem walk (a0 : Int) (w0 : (Lit.int .u64 a0).wf = true) (w : World) (hT : TabAt w) :
    Calls Tryd.prog 4 #[.int .u64 a0] w fun e w' => e = .returned (.bool true) ∧ Below w.heap.size w w' := by
  obtain ⟨s, rfl, hs⟩ := u64_bd a0 w0
  clear w0
  have HT := Lib.hid hT
  clear hT
  have HL := Lib.hid (cnt_all s)
  have hll := allN_len s
  have HBk := Lib.hid (backs_of s hs)
  have HOf := Lib.hid (of_all s hs)
  have HRi := Lib.hid (rises s)
  obtain ⟨i0, hi, hz0, hz1, hz2⟩ := info_parts info3
  go_enter Tryd.func4, Tryd.ntmps4
  go_wp2_with fail
  refine (awake_any _).mono ?_
  rintro e w' ⟨rfl, rfl⟩
  have HB1 := Lib.hid ((Below.refl w.heap.size w).alloc (Nat.le_refl _) (.cells #[.int .i64 1, .int .i64 3] 3))
  generalize w.alloc (.cells #[.int .i64 1, .int .i64 3] 3) = wa at *
  go_wp2_with fail
  refine (all_any _ _ hs (tab_later HB1.out HT.out)).mono ?_
  rintro e wb ⟨v, rfl, hg⟩
  obtain ⟨-, a, ca, rfl, hr⟩ := reads_own hg.1
  have HB2 := Lib.hid (HB1.out.trans (hg.2.mono HB1.out.size))
  have HR := Lib.hid hr
  clear hg hr
  generalize allN s = L at *
  have hrd := HR.out.2
  rcases hrd with rfl | ⟨b, off, rfl, hc⟩
  · go_wp2_with fail
    go_loop [5, 6] (fun v i => v = .slice none 0 0 ∧ i = .int .i64 0) (fun _ _ => 0)
    case atStart => exact ⟨rfl, rfl⟩
    case round =>
      obtain ⟨rfl, rfl⟩ := hrel
      go_wp2_with fail
      refine (of_none _ _ _).mono ?_
      rw [HOf.out]
      rintro e w' ⟨rfl, rfl⟩
      go_wp2_with fail
      refine (of_none _ _ _).mono ?_
      rw [HOf.out]
      rintro e w' ⟨rfl, rfl⟩
      go_wp2_with fail
      refine (len_any _ _ hs).mono ?_
      rw [← HL.out]
      rintro e w' ⟨rfl, rfl⟩
      go_wp2
      go_ret
      exact ⟨rfl, HB2.out⟩
  · have HC := Lib.hid hc
    clear hc
    generalize hn : L.length = n at *
    have HN := Lib.hid hn
    clear hn
    go_wp2_with fail
    go_loopw [5, 6] (fun v i wr => ∃ k : Nat, k ≤ n ∧ i = .int .i64 k ∧ Gath wb wr v (backs L k)) (fun _ i _ => n - (intOf i).toNat)
    case atStart => exact ⟨0, Nat.zero_le _, rfl, World.ownsRow_nil _ _ _ _, Below.refl _ _⟩
    case round =>
      obtain ⟨k, hk, rfl, hg⟩ := hrel
      have HG := Lib.hid hg
      clear hg
      by_cases hlt : k < n
      · have c1 := cell_later HG.out.2 (HC.out (n - 1 - k) (by omega))
        have c2 := cell_later HG.out.2 (HC.out k (by omega))
        go_wp2_with fail
        have hbs : backs L (k + 1) = backs L k ++ [L.getD (n - 1 - k) 0, L.getD k 0] := by rw [← HN.out]; rfl
        have HBs := Lib.hid hbs
        clear hbs
        have hri : 0 < k → L.getD (k - 1) 0 < L.getD k 0 := fun h => by
          have := HRi.out (k - 1) (by omega)
          rwa [show k - 1 + 1 = k by omega] at this
        have HRk := Lib.hid hri
        clear hri
        have HCk := Lib.hid (show 0 < k → wb.cell? ⟨b, off + (k - 1), none⟩ = some (.int .i64 (L.getD (k - 1) 0)) from fun h => HC.out (k - 1) (by omega))
        have HCx := Lib.hid (HC.out k hlt)
        generalize L.getD (n - 1 - k) 0 = y at *
        generalize L.getD k 0 = x at *
        generalize L.getD (k - 1) 0 = x' at *
        have e1 : IntKind.i64.wrap ((n : Int) - 1) = (n : Int) - 1 := IntWalk.i64_in _ (by omega)
        have e2 : IntKind.i64.wrap ((n : Int) - 1 - (k : Int)) = (n : Int) - 1 - (k : Int) := IntWalk.i64_in _ (by omega)
        have e3 : (0 : Int) ≤ (n : Int) - 1 - (k : Int) := by omega
        have e4 : (n : Int) - 1 - (k : Int) < (n : Int) := by omega
        have e5 : ((n : Int) - 1 - (k : Int)).toNat = n - 1 - k := by omega
        have e6 : (0 : Int) ≤ (k : Int) := by omega
        have e7 : (k : Int) < (n : Int) := by omega
        have e8 : (k : Int) ≤ (n : Int) - 1 := by omega
        have e9 : k + 1 ≤ n := by omega
        have hsz := HG.out.2.size
        have hbl := backs_len L k
        have hbb : b < wb.heap.size := World.block_lt_of_cell? wb _ (HC.out k (by omega))
        have ag : u5.ownBlock ≠ some b := fun h => by have := own_block HG.out.1 b h; omega
        have h63 : (backs L k).length + 2 ≤ maxLen := by unfold maxLen; omega
        have hby : ((backs L k).length + 2) * 8 ≤ 140737488355328 := by omega
        have AG := Lib.hid ag
        have H63 := Lib.hid h63
        have HBy := Lib.hid hby
        clear ag h63 hby hbl
        go_region_held3 (fun w' => w'.cell? ⟨b, off + (n - 1 - k), none⟩ = some (.int .i64 y) ∧ w'.cell? ⟨b, off + k, none⟩ = some (.int .i64 x))
          (first
            | go_keep
            | (go_split_ands
               refine ⟨?_, ?_⟩
               · (rw [hgrow.cell_far _ (by simp; omega) (Ne.symm AG.out)]; assumption)
               · (rw [hgrow.cell_far _ (by simp; omega) (Ne.symm AG.out)]; assumption)))
          ((refine step_append_lies _ (by rfl) _ _ _ (by rfl) wb.heap.size 3 i0 _ 1 8 Tryd.underlying24 hi hz0 hz1 hz2 rfl (by omega) u5 (backs L k).length (vals (backs L k)) (by rfl) ((HG.out.1.alloc _).drew)
              ⟨wr.heap.size, 0, none⟩ 2 2 [.int .i64 y, .int .i64 x] (by rfl) (by rfl) (World.news_of_block (cs := #[.int .i64 y, .int .i64 x]) (t := 3) (fr := (0, 0)) (heap_alloc_new wr _)) (by simp [Value.oneCell'])
              (by omega) H63.out HBy.out (by simp; omega) (wr.heap.size + 1) (by simp) ?_; intro gg cap w1 hown1 hgrow hat hlt))
        have HG2 := Lib.hid (gath_two HG.out HBs.out hown1 hgrow)
        have c3 := cell_later HG2.out.2 HCx.out
        clear hown1 hgrow hat hlt e1 e2 e3 e4 e5 e6 e7 e8 e9 c1 c2 HG hsz H63 HBy
        rename_i hltk
        go_wp2_with fail
        rcases Nat.eq_zero_or_pos k with hk0 | hk0
        · have d0 : decide ((0 : Int) < (k : Int)) = false := by simp; omega
          have d0' : decide (0 < k) = false := by simp; omega
          clear hk0
          go_quiet (fail)
          go_wp2
          go_roundw
          case rel => exact ⟨k + 1, by omega, by go_num, gath_drewN HG2.out _⟩
          case measure => simp [intOf]; omega
        · have c4 := cell_later HG2.out.2 (HCk.out hk0)
          have hxx := HRk.out hk0
          have d0 : decide ((0 : Int) < (k : Int)) = true := by simp; omega
          have d0' : decide (0 < k) = true := by simp; omega
          have d1 : decide (x ≤ x') = false := by simp; omega
          have e1 : IntKind.i64.wrap ((k : Int) - 1) = (k : Int) - 1 := IntWalk.i64_in _ (by omega)
          have e2 : (0 : Int) ≤ (k : Int) - 1 := by omega
          have e3 : (k : Int) - 1 < (n : Int) := by omega
          have e4 : ((k : Int) - 1).toNat = k - 1 := by omega
          have e5 : (1 : Int) ≤ (k : Int) := by omega
          have e6 : (k : Int) < (n : Int) := by omega
          have e7 : (0 : Int) ≤ (k : Int) := by omega
          have e8 : 1 ≤ k := by omega
          go_quiet (fail)
          clear e1 e2 e3 e4 e5 e6 e7 e8
          go_wp2
          go_roundw
          case rel => exact ⟨k + 1, by omega, by go_num, gath_drewN HG2.out _⟩
          case measure => simp [intOf]; omega
      · obtain rfl : n = k := by omega
        obtain ⟨hbl, a', cb, rfl, hr'⟩ := reads_own HG.out.1
        have HR' := Lib.hid hr'
        have HRL := Lib.hid (reads_later HG.out.2 HR.out)
        have HBe := Lib.hid (HB2.out.trans (HG.out.2.mono HB2.out.size))
        have HBl := Lib.hid (rfl : (backs L n).length = (backs L n).length)
        clear hr' hbl HG
        generalize hm : (backs L n).length = m at *
        have HM := Lib.hid hm
        clear hm HBl
        go_wp2_with fail
        refine (of_reads _ _ _ _ L HN.out HRL.out).mono ?_
        rw [HOf.out]
        rintro e w' ⟨rfl, rfl⟩
        go_wp2_with fail
        refine (of_reads _ _ _ _ (backs L n) HM.out HR'.out).mono ?_
        rw [HBk.out]
        rintro e w' ⟨rfl, rfl⟩
        go_wp2_with fail
        refine (len_any _ _ hs).mono ?_
        rw [← HL.out]
        rintro e w' ⟨rfl, rfl⟩
        go_wp2
        go_ret
        exact ⟨rfl, HBe.out⟩

set_option maxRecDepth 100000 in
theorem lifted (os : Os) (started : os.Started) (H : Type) (enc : TypeId × Value → H) :
    ReturnsInHanded {} Tryd.checked os 4 .any (fun w args => (Rows.setOfSpec.pre enc Tryd.prog Tryd.f4 [] false w args ∧ laidMetH Tryd.prog Rows.setTellsRow.laid w) ∧ sizedMet enc Tryd.prog Tryd.f4 (OpenSpec.ofChange Rows.setOfSpec) false w args)
      (Rows.setOfSpec.post enc Tryd.prog Tryd.f4 false true false false) := by
  refine returnsInHanded_of_change_and (C := Tryd.checked) (X := fun w _ => laidMetH Tryd.prog Rows.setTellsRow.laid w) (fun _ _ _ hh h => h.of_heap hh) own started (by kernel_rfl) Tryd.func4
    (ChangeSpec.witness_shaped (enc := enc) (C := Tryd.checked) (os := os) (X := fun w _ => laidMetH Tryd.prog Rows.setTellsRow.laid w) false (World.doorLaid Tryd.prog 14 os) #[.int .u64 0] 8 rfl (World.shaped_of_RefB (by kernel_rfl) (by kernel_rfl)) (by kernel_rfl) (by kernel_rfl) (by kernel_rfl) (door_met os _)) ?_
  intro W base args ds gs before hval0 hW _ _ hL _
  have hval : ∀ (j : Nat) t v, Tryd.f4.params[j]? = some t → args[j]? = some v → Value.okWide Tryd.prog W .any base t v := hval0
  have hW' := hW
  obtain ⟨p, q, hA0, hV, rfl, hfz, hnd⟩ := hW
  have hA : DataW.TrodAll enc Tryd.prog W 0 (fun _ => true) true Tryd.f4.params.toList args.toList ds p := hA0
  rw [Tryd.params4] at hA hval
  obtain ⟨v0, vs0, d0, ds0, p0, q0, hargs, rfl, rfl, h0, r0⟩ := trodAll_cons hA
  obtain ⟨rfl, rfl, rfl⟩ := trodAll_nil r0
  obtain rfl : args = #[v0] := by cases args; simp_all
  obtain ⟨rfl, rfl⟩ := trodVars_none hV
  obtain ⟨a0, rfl, rfl, rfl, w0⟩ := open_int Tryd.underlying22 (hval 0 22 v0 rfl rfl) h0
  have hT := tab_of_laid hL
  clear hA0 hval0
  refine (walk a0 w0 W hT).mono fun e W' ⟨he, bel⟩ => ?_
  subst he
  exact ⟨_, rfl, _, _, _, [], _, [], hW', trodAll_mk1 (shut_bool Tryd.underlying4 _), (trodAll_cons_mk (shut_int Tryd.underlying22 w0) trodAll_mk0), rfl, bel.frame _, fun h => by cases h⟩

theorem over : Rows.SetOfSaid :=
  OpenClaim.holds_of_wide 4 Tryd.f4 rfl rfl rfl rfl rfl rfl rfl ⟨rfl, rfl, rfl, rfl, rfl⟩ rfl rfl rfl rfl rfl (by kernel_rfl) Tryd.func4 (by kernel_rfl)
    (of_decide_eq_true (by kernel_rfl)) (by unfold Func.isWrapper; first | (rw [if_pos (by decide +kernel)]; kernel_rfl) | (rw [if_neg (by decide +kernel)]; exact ⟨rfl, rfl⟩))
    (fun os started H enc _ => lifted os started H enc)

theorem proved : Rows.SetOfCardSaid :=
  Claim7.holds_tied_plain_at .later [] [.data] true Rows.setOfCard.stood.harness false
    over (fun _ h => by cases h) (by kernel_rfl) (fun _ h => by cases h) setOf_row_tie rfl ⟨rfl, rfl⟩ (by kernel_rfl) rfl
    (fun f fn hf hfn => by
      obtain rfl : f = 4 := Option.some.inj ((show Tryd.prog.funcNamed Rows.setOfRow.func = some 4 by kernel_rfl).symm.trans hf) |>.symm
      obtain rfl : fn = Tryd.f4 := (Option.some.inj (Tryd.func4.symm.trans hfn)).symm
      refine ⟨by kernel_rfl, fun j t ht => ?_⟩
      rw [Tryd.params4] at ht
      rcases j with _ | j
      · obtain rfl : t = 22 := by simpa using ht.symm
        exact (show Tryd.prog.wantsStandIn 22 = false by kernel_rfl)
      · simp at ht)
    (by kernel_rfl)
#print axioms proved
end Go.Proofs.YtbpledppckmclaaDoor.setOf
