/- Whether a node leaves another one without use: the document's answer; few nodes. -/
import Derived.Test.YtkljmnfekdoocaaGreatXN
import Derived.Test.YtkljmnfekdoocaaGreatXR2
namespace Go.Proofs.YtkljmnfekdoocaaGreat
open Go.ChangeShapes Go.WideShapes Go.ChangeAt Go.RowKit

/-- At most 60 nodes, of at most 100 moves each. -/
def FewN (l : List Nod) : Prop := l.length ≤ 60 ∧ ∀ n ∈ l, n.path.length ≤ 100
instance (l : List Nod) : Decidable (FewN l) := by unfold FewN; infer_instance
theorem few_on {l : List Nod} {k : Nat} (hk : k < l.length) (h : ∀ n ∈ l.take k, n.path.length ≤ 100) (hc : (nodAt l k).path.length ≤ 100) : ∀ n ∈ l.take (k + 1), n.path.length ≤ 100 := by
  intro n hn
  rw [List.take_succ_eq_append_getElem hk] at hn
  rcases List.mem_append.1 hn with hn | hn
  · exact h n hn
  · simp only [List.mem_singleton] at hn
    subst hn
    unfold nodAt at hc
    rw [List.getD_eq_getElem?_getD, List.getElem?_eq_getElem hk] at hc
    exact hc
theorem nodAt_is {l : List Nod} {k : Nat} (hk : k < l.length) : l[k]? = some (nodAt l k) := by
  unfold nodAt; rw [List.getD_eq_getElem?_getD, List.getElem?_eq_getElem hk]; rfl
set_option maxRecDepth 1000000 in
set_option maxHeartbeats 4000000 in
theorem fewN_any {w : World} {v : Value} {l : List Nod} (h : NRow w v l) : Calls Tryz.prog 7 #[v] w fun e w' => e = .returned (.bool (decide (FewN l))) ∧ w = w' := by
  have H := Lib.hid h
  obtain ⟨a, cap, rfl, hm, _⟩ := h.form
  unfold maxLen at hm
  clear h
  by_cases hl : 60 < l.length
  · have hd : decide ((60 : Int) < (l.length : Int)) = true := decide_eq_true (by omega)
    have hd2 := decide_eq_true hl
    have HD := Lib.hid (show decide (FewN l) = false from decide_eq_false (fun h => by have := h.1; omega))
    clear hl
    go_enter Tryz.func7, Tryz.ntmps7
    go_wp2
    go_ret
    exact ⟨ret_bool HD.out.symm, rfl⟩
  · have hd : decide ((60 : Int) < (l.length : Int)) = false := decide_eq_false (by omega)
    have hd2 := decide_eq_false hl
    have HL := Lib.hid hl
    have hlm : l.length ≤ 9223372036854775807 := by omega
    clear hl
    go_enter Tryz.func7, Tryz.ntmps7
    go_wp2
    go_loop [3] (fun i => ∃ k : Nat, k ≤ l.length ∧ i = .int .i64 k ∧ ∀ n ∈ l.take k, n.path.length ≤ 100) (fun i => l.length - (intOf i).toNat)
    case atStart => exact ⟨0, Nat.zero_le _, rfl, by simp⟩
    case round =>
      obtain ⟨k, hk, rfl, hall⟩ := hrel
      have HA := Lib.hid hall
      clear hall
      by_cases hlt : k < l.length
      · have HK := Lib.hid hlt
        obtain ⟨b, off, pa, pc, ha, hc, _, _⟩ := nrow_at H.out k _ (nodAt_is hlt)
        subst ha
        have q9 := hc.2.2.2.2.2.2.2.2.2
        clear hc
        have hki : (k : Int) < (l.length : Int) := by omega
        obtain ⟨n, hn⟩ : ∃ n, nodAt l k = n := ⟨_, rfl⟩
        rw [hn] at q9
        have HN := Lib.hid hn
        clear hn hk hlt
        by_cases hp : 100 < n.path.length
        · have d1 : decide ((100 : Int) < (n.path.length : Int)) = true := decide_eq_true (by omega)
          have d2 := decide_eq_true hp
          have HD := Lib.hid (show decide (FewN l) = false from decide_eq_false (fun h => by
            have := h.2 _ (nodAt_mem HK.out)
            rw [HN.out] at this; omega))
          clear hp
          go_wp2
          go_ret
          exact ⟨ret_bool HD.out.symm, rfl⟩
        · have d1 : decide ((100 : Int) < (n.path.length : Int)) = false := decide_eq_false (by omega)
          have d2 := decide_eq_false hp
          have HP := Lib.hid hp
          have hk2 : IntKind.i64.wrap ((k : Int) + 1) = (k : Int) + 1 := IntWalk.i64_in _ (by omega)
          clear hp
          go_wp2
          go_round
          case rel => exact ⟨k + 1, by have := HK.out; omega, by go_num, few_on HK.out HA.out (by rw [HN.out]; have := HP.out; omega)⟩
          case measure => have := HK.out; simp [intOf]; omega
      · obtain rfl : k = l.length := by omega
        have HD := Lib.hid (show decide (FewN l) = true from decide_eq_true ⟨by have := HL.out; omega, fun n hn => HA.out n (by rw [List.take_length]; exact hn)⟩)
        clear hlt hk
        go_wp2
        go_ret
        exact ⟨ret_bool HD.out.symm, rfl⟩
end Go.Proofs.YtkljmnfekdoocaaGreat
