/- The program's own Than and Front. -/
import Derived.Test.YtgplajofemencaaGreatGAmong
import Derived.Test.YtgplajofemencaaGreatXL
namespace Go.Proofs.YtgplajofemencaaGreat
open Go.ChangeShapes Go.WideShapes Go.ChangeAt Go.RowKit

/-- What Front wants of nodes. -/
def FrontOk (l : List Nod) : Prop := ∀ n ∈ l, SetsOk n.s ∧ Fit n.s.pos ∧ n.path.length ≤ 1000000
theorem FrontOk.front {l : List Nod} (h : FrontOk l) : FrontOk (frontL l) := fun n hn => by
  obtain ⟨k, hk, _, rfl⟩ := mem_front.1 hn
  exact h _ (nodAt_mem hk)
set_option maxRecDepth 1000000 in
set_option maxHeartbeats 4000000 in
theorem gfront_any {w0 w : World} {v : Value} {l : List Nod} (h : NRowB w0 w v l) (hb0 : Below w0.heap.size w0 w) (hok : FrontOk l) (hlen : l.length ≤ 1000000) :
    Calls Tryz.prog 35 #[v] w fun e w' => ∃ u, e = .returned u ∧ OwnN w0 w.heap.size w' u (frontL l) ∧ Below w.heap.size w w' := by
  have HR := Lib.hid (h.now hb0)
  have HW0 := Lib.hid hb0
  have HS := Lib.hid (show ∀ n ∈ l, SetsOk n.s from fun n hn => (hok n hn).1)
  have HF := Lib.hid (show ∀ n ∈ l, Fit n.s.pos from fun n hn => (hok n hn).2.1)
  have HP := Lib.hid (show ∀ n ∈ l, n.path.length ≤ 1000000 from fun n hn => (hok n hn).2.2)
  have HLE := Lib.hid hlen
  obtain ⟨a0, cap, rfl, _⟩ := h.form
  have hlm : l.length ≤ 9223372036854775807 := by omega
  clear h hb0 hok hlen
  go_enter Tryz.func35, Tryz.ntmps35
  go_wp2_with fail
  refine (among_any HR.out HS.out HF.out HLE.out).mono ?_
  rintro e w1 ⟨rfl, hj⟩
  have HJ := Lib.hid hj
  clear hj
  obtain ⟨T, hT⟩ : ∃ T, w.heap.size + 1 + 1 = T := ⟨_, rfl⟩
  obtain ⟨L, hL⟩ : ∃ L, w.heap.size = L := ⟨_, rfl⟩
  rw [hT, hL]
  have HT := Lib.hid hT
  have HLL := Lib.hid hL
  clear hT hL
  go_wp2_with fail
  go_loopw [4, 11] (fun u i wr => ∃ k : Nat, k ≤ l.length ∧ i = .int .i64 k ∧ OwnN w0 w1.heap.size wr u (frontN l k) ∧ Below w1.heap.size w1 wr) (fun _ i _ => l.length - (intOf i).toNat)
  case atStart => exact ⟨0, Nat.zero_le _, rfl, ownN_nil _ _ _, Below.refl _ _⟩
  case round =>
    obtain ⟨k, hk, rfl, hon, hbw⟩ := hrel
    have HON := Lib.hid hon
    have HBW := Lib.hid hbw
    clear hon hbw
    generalize wr = W1 at *
    by_cases hlt : k < l.length
    rotate_left
    · obtain rfl : k = l.length := by omega
      clear hlt hk
      go_wp2
      go_ret
      exact ⟨_, rfl, HON.out.less HJ.out.bel.size, HJ.out.bel.trans (HBW.out.mono HJ.out.bel.size)⟩
    have HK := Lib.hid hlt
    obtain ⟨b1, o1, pa, pc, ha, hn1, hl1, hr1⟩ := nrow_at HR.out k _ (nodAt_is hlt)
    subst ha
    have HBA := Lib.hid (HJ.out.bel.trans (HBW.out.mono HJ.out.bel.size))
    have HN1 := Lib.hid (hn1.below hl1 HBA.out)
    have HR1 := Lib.hid (hr1.below HBA.out)
    have HPL := Lib.hid (HP.out _ (nodAt_mem hlt))
    have HNX := Lib.hid (frontN_succ l k)
    have HUS := Lib.hid (fun W hb => useless_any (w := W) HR.out HJ.out hb hlt HS.out HF.out HLE.out)
    have HFL := Lib.hid (front_len l k)
    have hki : (k : Int) < (l.length : Int) := by omega
    have hk2 : IntKind.i64.wrap ((k : Int) + 1) = (k : Int) + 1 := IntWalk.i64_in _ (by omega)
    obtain ⟨ua, uc, rfl⟩ := HON.out.shape
    obtain ⟨ul, hul⟩ : ∃ ul, (frontN l k).length = ul := ⟨_, rfl⟩
    rw [hul]
    have HUL := Lib.hid hul
    rw [hul] at HON
    clear hn1 hl1 hr1 hk hlt hul
    obtain ⟨n, hn⟩ : ∃ n, nodAt l k = n := ⟨_, rfl⟩
    rw [hn] at HN1 HR1 HPL HNX
    clear hn
    obtain ⟨nn, hnn⟩ : ∃ m, n.path.length = m := ⟨_, rfl⟩
    rw [hnn] at HN1 HR1
    rw [HT.out, HLL.out] at HUS
    obtain ⟨q0, q1, q2, q3, q4, q5, q6, q7, q8, q9⟩ := HN1.out
    go_upto_region 6 with fail
    clear q0 q1 q2 q3 q4 q5 q6 q7 q8 q9 hnn
    change Code.wp _ _ _ _ (W1.alloc (boxN n.s n.cost (.slice pa nn pc)))
    have HNB := Lib.hid (nod_new W1 n.s n.cost (.slice pa nn pc))
    have HB2 := Lib.hid ((Below.refl W1.heap.size W1).alloc (Nat.le_refl _) (boxN n.s n.cost (.slice pa nn pc)))
    have HUO := Lib.hid (show Value.ownBlock (.slice ua ul uc) ≠ some W1.heap.size from fun e => Nat.lt_irrefl _ (HON.out.lt _ e).2)
    obtain ⟨N, hN⟩ : ∃ N, W1.heap.size = N := ⟨_, rfl⟩
    rw [hN] at HNB HUO ⊢
    have HNE := Lib.hid hN
    clear hN
    generalize W1.alloc (boxN n.s n.cost (.slice pa nn pc)) = W2 at *
    have HB12 := Lib.hid (HBW.out.trans (HB2.out.mono HBW.out.size))
    have HO2 := Lib.hid (HON.out.below HB2.out)
    have HR2 := Lib.hid (HR1.out.below HB2.out)
    have HBS := Lib.hid HBW.out.size
    clear HON HBW HR1 HBA HN1
    go_wp2_with fail
    refine (HUS.out W2 HB12.out).mono ?_
    rintro e w3 ⟨rfl, hb⟩
    have HB3 := Lib.hid (HB12.out.trans (hb.mono HB12.out.size))
    have HO3 := Lib.hid (HO2.out.below hb)
    have HR3 := Lib.hid (HR2.out.below hb)
    have HN3 := Lib.hid (HNB.out.later hb)
    clear hb HB12 HO2 HR2 HNB HB2
    have hnx := HNX.out
    by_cases hst : Stays l k
    rotate_left
    · rw [decide_eq_false hst]
      rw [if_neg hst] at hnx
      have HNX2 := Lib.hid hnx
      clear hst hnx HNX
      go_wp2_with fail
      go_roundw
      case rel => exact ⟨k + 1, HK.out, by go_num, by rw [HNX2.out]; exact HO3.out, HB3.out⟩
      case measure => have := HK.out; simp [intOf]; omega
    rw [decide_eq_true hst]
    rw [if_pos hst] at hnx
    have HNX2 := Lib.hid hnx
    clear hst hnx HNX
    have z9 := HN3.out.c9
    go_wp2_with fail
    clear z9
    refine (gclone_any HR3.out HPL.out).mono ?_
    rintro e w4 ⟨pv, rfl, hpo, hb⟩
    obtain ⟨ca, cc, rfl⟩ := hpo.shape
    have HB4 := Lib.hid (HB3.out.trans (hb.mono HB3.out.size))
    have HO4 := Lib.hid (HO3.out.below hb)
    have HN4 := Lib.hid (HN3.out.later hb)
    have HPO := Lib.hid (hpo.less (Nat.le_trans HW0.out.size (Nat.le_trans HJ.out.bel.size HB3.out.size)))
    clear hb hpo HB3 HO3 HR3 HN3
    obtain ⟨cn, hcn⟩ : ∃ m, n.path.length = m := ⟨_, rfl⟩
    rw [hcn] at HPO ⊢
    have z9 := HN4.out.c9
    have f9 := HN4.out.free 9
    go_upto_region 8 with fail
    clear z9 f9
    have HN5 := Lib.hid (HN4.out.setPath (.slice ca cn cc))
    have HO5 := Lib.hid (HO4.out.keptN HUO.out (grown_set w4 N 9 (.slice ca cn cc)) HN4.out)
    have HP5 := Lib.hid (HPO.out.kept (grown_set w4 N 9 (.slice ca cn cc)) (.inr (fun e => own_nod HPO.out HN4.out e.symm)))
    have HB5 := Lib.hid (HB4.out.grown (grown_set w4 N 9 (.slice ca cn cc)) HB4.out.size (fun g e => by cases e; have := HNE.out; have := HBS.out; omega))
    generalize w4.setCell ⟨N, 9, none⟩ (.slice ca cn cc) = W5 at *
    clear HO4 HN4 HB4 HPO
    obtain ⟨c0, c1, c2, c3, c4, c5, c6, c7, c8, c9⟩ : NodAt W5 N 0 n.s n.cost (.slice ca cn cc) := ⟨HN5.out.c0, HN5.out.c1, HN5.out.c2, HN5.out.c3, HN5.out.c4, HN5.out.c5, HN5.out.c6, HN5.out.c7, HN5.out.c8, HN5.out.c9⟩
    have HWA := Lib.hid (HW0.out.trans (HJ.out.bel.mono HW0.out.size))
    have HSZ := Lib.hid (Nat.le_trans HW0.out.size HJ.out.bel.size)
    go_wp2_with (at_builtin; refine app_nodes Tryz.underlying35 rfl _ _ rfl w1.heap.size _ (frontN l k) rfl (HO5.out.below ((Below.refl _ _).alloc (Nat.le_refl _) _)) _ rfl [⟨n.s, n.cost, ca, cn, cc⟩] [n] (nrow_one (heap_alloc_new _ _)) ⟨⟨rfl, rfl, .inr (HP5.out.alloc _)⟩, trivial⟩ (by have := HFL.out; have := HK.out; have := HLE.out; simp only [List.length_cons, List.length_nil]; omega) (HB5.out.alloc HB5.out.size _).size HSZ.out (HWA.out.trans ((HB5.out.alloc HB5.out.size _).mono HSZ.out)) ?_; intro v6 w6 o6 b6' b6 g6)
    go_roundw
    case rel => exact ⟨k + 1, HK.out, by go_num, by rw [HNX2.out]; exact o6, (HB5.out.alloc HB5.out.size _).trans b6⟩
    case measure => have := HK.out; simp [intOf]; omega
end Go.Proofs.YtgplajofemencaaGreat
