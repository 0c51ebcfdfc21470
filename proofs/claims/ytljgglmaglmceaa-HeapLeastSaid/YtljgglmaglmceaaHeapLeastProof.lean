/- HeapLeast holds for every list of entries; there is no further condition. -/
import Derived.Test.YtljgglmaglmceaaRows
import Derived.Test.YtljgglmaglmceaaLaws
namespace Go.Proofs.Ytljgglmaglmceaa.heapLeast
open Go.ChangeShapes Go.WideShapes Go.ChangeAt Go.RowKit

set_option maxRecDepth 1000000 in
set_option maxHeartbeats 1000000 in
theorem walk (a0 : Option Addr) (len0 cap0 : Nat) (l0 : List Ent) (w : World) (hl0 : l0.length = len0) (e0 : IsEnts w a0 l0) :
    Calls Try.prog 6 #[.slice a0 len0 cap0] w fun e w' => e = .returned (.bool true) ∧ Below w.heap.size w w' := by
  subst hl0
  have HE := Lib.hid e0
  clear e0
  by_cases hlen : 1 ≤ l0.length ∧ l0.length ≤ 200
  · obtain ⟨hlen1, hlen2⟩ := hlen
    have hd1 : decide ((l0.length : Int) < 1) = false := decide_eq_false (by omega)
    have hd2 : decide ((200 : Int) < (l0.length : Int)) = false := decide_eq_false (by omega)
    have hne : l0 ≠ [] := fun e => by rw [e] at hlen1; simp at hlen1
    have HNE := Lib.hid hne
    clear hne
    go_enter Try.func6, Try.ntmps6
    go_wp2_with fail
    refine (awake_any _).mono ?_
    rintro e w1 ⟨rfl, hb⟩
    have HB := Lib.hid hb
    clear hb
    go_wp2_with fail
    refine (new_any _ _).mono ?_
    rintro e w2 ⟨rfl, rfl⟩
    have HL := Lib.hid (live_new HB.out 0)
    generalize w1.alloc (.cells #[.int .i64 0, .slice none 0 0] 48) = w2 at *
    generalize w1.heap.size = b at *
    go_wp2_with fail
    go_loopw [5] (fun i wr => ∃ k : Nat, k ≤ l0.length ∧ i = .int .i64 k ∧ Live w wr b 0 (l0.take k) noBlock) (fun i _ => l0.length - (intOf i).toNat)
    case atStart => exact ⟨0, Nat.zero_le _, rfl, HL.out⟩
    case round =>
      obtain ⟨k, hk, rfl, hg⟩ := hrel
      have HG := Lib.hid hg
      clear hg
      by_cases hlt : k < l0.length
      · rcases (ents_later HE.out (live_base HG.out)).2 with h0 | ⟨ba, off, rfl, hc⟩
        · rw [h0] at hlt; simp at hlt
        · obtain ⟨c0, c1, c2⟩ := hc k hlt
          clear hc
          have HP := Lib.hid (take_perm l0 k hlt)
          generalize nth l0 k = x at *
          go_wp2_with fail
          refine (live_put HG.out x (by rw [List.length_take]; omega)).mono ?_
          rintro e w3 ⟨rfl, h3, -⟩
          have H3 := Lib.hid (live_perm h3 HP.out)
          clear h3
          go_wp2
          go_roundw
          case rel => exact ⟨k + 1, by omega, by go_num, H3.out⟩
          case measure => simp [intOf]; omega
      · obtain rfl : k = l0.length := by omega
        rw [List.take_length] at HG
        go_wp2_with fail
        refine (live_least HG.out (by omega)).mono ?_
        rintro e w3 ⟨rfl, h3, -⟩
        have H3 := Lib.hid h3
        clear h3
        go_wp2_with fail
        refine (live_take H3.out HNE.out (by omega)).mono ?_
        have HF := Lib.hid (first_bound l0 HNE.out)
        rw [HF.out]
        have HML := Lib.hid (minB_le l0)
        generalize minB l0 = mb at *
        rintro e w4 ⟨rfl, h4, -⟩
        have H4 := Lib.hid (live_base h4)
        clear h4
        go_wp2_with fail
        have H5 := Lib.hid (H4.out.alloc H4.out.size (.cells #[.int .i64 mb, .int .i64 (first 0 l0).d, .int .i64 (first 0 l0).n] 24))
        obtain ⟨n0, _, _⟩ := block_ent (heap_alloc_new w4 (.cells #[.int .i64 mb, .int .i64 (first 0 l0).d, .int .i64 (first 0 l0).n] 24))
        generalize w4.alloc (.cells #[.int .i64 mb, .int .i64 (first 0 l0).d, .int .i64 (first 0 l0).n] 24) = w5 at *
        generalize w4.heap.size = N at *
        go_loop [9] (fun i => ∃ k : Nat, k ≤ l0.length ∧ i = .int .i64 k) (fun i => l0.length - (intOf i).toNat)
        case atStart => exact ⟨0, Nat.zero_le _, rfl⟩
        case round =>
          obtain ⟨k, hk2, rfl⟩ := hrel
          by_cases hlt2 : k < l0.length
          · rcases (ents_later HE.out H5.out).2 with h0 | ⟨ba, off, rfl, hc⟩
            · rw [h0] at hlt2; simp at hlt2
            · obtain ⟨c0, -, -⟩ := hc k hlt2
              clear hc
              have hmb := HML.out k hlt2
              generalize nth l0 k = x at *
              have hmb2 : decide (x.b < mb) = false := decide_eq_false (by omega)
              go_wp2
              go_round
              case rel => exact ⟨k + 1, by omega, by go_num⟩
              case measure => simp [intOf]; omega
          · go_wp2
            go_ret
            exact ⟨by simp, H5.out⟩
  · go_enter Try.func6, Try.ntmps6
    go_wp2_with fail
    refine (awake_any _).mono ?_
    rintro e w1 ⟨rfl, hb⟩
    have HB := Lib.hid hb
    clear hb
    go_wp2_with fail
    refine (new_any _ _).mono ?_
    rintro e w2 ⟨rfl, rfl⟩
    by_cases hlen1 : l0.length < 1
    · have hd1 : decide ((l0.length : Int) < 1) = true := decide_eq_true (by omega)
      go_wp2
      go_ret
      exact ⟨rfl, HB.out.alloc HB.out.size _⟩
    · have hd1 : decide ((l0.length : Int) < 1) = false := decide_eq_false (by omega)
      have hd2 : decide ((200 : Int) < (l0.length : Int)) = true := decide_eq_true (by omega)
      go_wp2
      go_ret
      exact ⟨rfl, HB.out.alloc HB.out.size _⟩

set_option maxRecDepth 100000 in
theorem lifted (os : Os) (started : os.Started) (H : Type) (enc : TypeId × Value → H) :
    ReturnsInHanded {} Try.checked os 6 .any (Rows.heapLeastSpec.pre6 enc Try.prog Try.f6 Rows.heapLeastRow.domain false) (Rows.heapLeastSpec.post enc Try.prog Try.f6 false true false false) := by
  refine returnsInHanded_of_change (C := Try.checked) own started (by kernel_rfl) Try.func6
    (ChangeSpec.witness6 (enc := enc) (C := Try.checked) false ⟨#[], #[.slice none 0 0], []⟩ 8 (by kernel_rfl) (by kernel_rfl) (by kernel_rfl) (by kernel_rfl)) ?_
  intro W base args ds gs before hval0 hW hcnd _
  have hval : ∀ (j : Nat) t v, Try.f6.params[j]? = some t → args[j]? = some v → Value.okWide Try.prog W .any base t v := hval0
  have hW' := hW
  obtain ⟨p, q, hA0, hV, rfl, hfz, hnd⟩ := hW
  have hA : DataW.TrodAll enc Try.prog W 0 (fun _ => true) true Try.f6.params.toList args.toList ds p := hA0
  rw [Try.params6] at hA hval
  obtain ⟨v0, vs0, d0, ds0, p0, q0, hargs, rfl, rfl, h0, r0⟩ := trodAll_cons hA
  obtain ⟨rfl, rfl, rfl⟩ := trodAll_nil r0
  obtain rfl : args = #[v0] := by cases args; simp_all
  obtain ⟨rfl, rfl⟩ := trodVars_none hV
  have k0 := h0
  have lt0 : ∀ x ∈ p0, x.block < W.heap.size := by obtain ⟨m, hm⟩ := k0; exact DataW.trod_lt m _ _ _ hm
  obtain ⟨a0, len0, cap0, rfl⟩ := okWide_slice Try.underlying29 (hval 0 29 v0 rfl rfl)
  obtain ⟨l0, hl0, e0⟩ := open_ents h0
  clear hA0 hval0
  refine (walk a0 len0 cap0 l0 W hl0 e0).mono fun e W' ⟨he, bel⟩ => ?_
  subst he
  exact ⟨_, rfl, _, _, _, [], _, [], hW', trodAll_mk1 (shut_bool Try.underlying4 _), (trodAll_cons_mk (Below.trod laidOut (by kernel_rfl) (of_decide_eq_true (by kernel_rfl)) k0 bel lt0) trodAll_mk0), rfl, bel.frame _, fun h => by cases h⟩

theorem over : Rows.heapLeastRow.holds Try.pinned (OpenSpec.ofChange Rows.heapLeastSpec) :=
  OpenClaim.holds_of_wide 6 Try.f6 rfl rfl rfl rfl rfl rfl rfl ⟨rfl, rfl, rfl, rfl, rfl⟩ rfl rfl rfl rfl rfl (by kernel_rfl) Try.func6 (by kernel_rfl)
    (of_decide_eq_true (by kernel_rfl)) (by unfold Func.isWrapper; first | (rw [if_pos (by decide +kernel)]; kernel_rfl) | (rw [if_neg (by decide +kernel)]; exact ⟨rfl, rfl⟩))
    (fun os started H enc _ => lifted os started H enc)

theorem proved : Rows.HeapLeastSaid := over
#print axioms proved
end Go.Proofs.Ytljgglmaglmceaa.heapLeast
