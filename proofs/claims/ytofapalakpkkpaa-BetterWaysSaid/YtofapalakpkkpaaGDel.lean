/- slices.DeleteFunc over numbers that the call has made, asked by a closure that only makes memory. -/
import Derived.Test.YtofapalakpkkpaaGIdx
import Derived.Lib.SliceRun
namespace Go.Proofs.Ytofapalakpkkpaa
open Go.ChangeShapes Go.WideShapes Go.ChangeAt Go.RowKit

def notP (p : Int → Bool) : Int → Bool := fun x => !p x
theorem OwnI.len {w : World} {B n cap : Nat} {a : Option Addr} {l : List Int} (h : OwnI w B (.slice a n cap) l) : n = l.length := by
  obtain ⟨_, _, he⟩ := h.shape
  simp at he; exact he.2.1
theorem OwnI.cut {w : World} {B g n cap : Nat} {l : List Int} (h : OwnI w B (.slice (some ⟨g, 0, none⟩) n cap) l) {i : Nat} (hi : i ≤ n) : OwnI w B (.slice (some ⟨g, 0, none⟩) i cap) (l.take i) := by
  have hn := h.len
  subst hn
  obtain ⟨h1, h2⟩ := (show w.ownsRow B 3 1 (.slice (some ⟨g, 0, none⟩) l.length cap) l.length (ints l) from h)
  rcases h2 with ⟨h3, _⟩ | ⟨g', cap', cur, h3, h4, h5, h6, h7, h8, h9⟩
  · cases h3
  · simp only [Value.slice.injEq, Option.some.injEq, Addr.mk.injEq, and_true, true_and] at h3
    obtain ⟨rfl, rfl⟩ := h3
    have e : (l.take i).length = i := by rw [List.length_take]; omega
    refine ⟨by rw [ints_len]; omega, .inr ⟨g, cap, cur, by rw [e], h4, h5, by omega, h7, h8, ?_⟩⟩
    rw [e, ← ints_take, ← h9, List.take_take, Nat.min_eq_left (by omega)]
    simp
theorem own_setCells {B g n cap : Nat} : ∀ (k o : Nat) (w : World) (cur : List Int), OwnI w B (.slice (some ⟨g, 0, none⟩) n cap) cur →
    ∃ cur', OwnI (w.setCells g o (List.replicate k (.int .i64 0))) B (.slice (some ⟨g, 0, none⟩) n cap) cur' ∧ cur'.take o = cur.take o ∧ w.grownBy (w.setCells g o (List.replicate k (.int .i64 0))) (some g)
  | 0, _, w, cur, h => ⟨cur, h, rfl, ⟨rfl, rfl, rfl, Nat.le_refl _, fun _ _ _ => rfl⟩⟩
  | k + 1, o, w, cur, h => by
    obtain ⟨h1, _, _, _⟩ := h.stored o 0
    have hn := h.len
    subst hn
    have hg := ((show w.ownsRow B 3 1 (.slice (some ⟨g, 0, none⟩) cur.length cap) cur.length (ints cur) from h).stored o (.int .i64 0)).2
    obtain ⟨cur', k1, k2, k3⟩ := own_setCells k (o + 1) _ _ h1
    refine ⟨cur', k1, ?_, grown_thr hg k3⟩
    have e := congrArg (List.take o) k2
    rw [List.take_take, List.take_take, Nat.min_eq_left (by omega)] at e
    rw [e, List.take_set_of_le (by omega)]
theorem own_clear {w : World} {B g n cap : Nat} {cur : List Int} (h : OwnI w B (.slice (some ⟨g, 0, none⟩) n cap) cur) {i : Nat} (hi : i < n) :
    (∀ ty, (Builtin.clear_ #[25] ty #[.slice (some ⟨g, i, none⟩) (n - i) (cap - i)]).run Try.prog w = .ok (.tuple #[]) (w.setCells g i (List.replicate (n - i) (.int .i64 0)))) ∧
    OwnI (w.setCells g i (List.replicate (n - i) (.int .i64 0))) B (.slice (some ⟨g, 0, none⟩) i cap) (cur.take i) ∧ w.grownBy (w.setCells g i (List.replicate (n - i) (.int .i64 0))) (some g) := by
  have hn := h.len
  subst hn
  have h' : w.ownsRow B 3 1 (.slice (some ⟨g, 0, none⟩) cur.length cap) cur.length (ints cur) := h
  obtain ⟨cur', k1, k2, k3⟩ := own_setCells (cur.length - i) i w cur h
  refine ⟨fun ty => ?_, ?_, k3⟩
  · have := Lib.run_clear_slice (P := Try.prog) w 25 3 ty (.int .i64 0) Try.underlying25 (fun w => by kernel_rfl) rfl rfl g i (cur.length - i) (cap - i) (by omega)
      (fun j hj => by rw [h.cell (i + j) (by omega)]; rfl) (fun j _ => h'.frozenAt (i + j))
    exact this
  · rw [← k2]
    exact k1.cut (by omega)
theorem start_del {p : Int → Bool} {l : List Int} (h : l.findIdx p < l.length) : l.take (l.findIdx p) = (l.take (l.findIdx p + 1)).filter (notP p) := by
  obtain ⟨k, hk⟩ : ∃ k, l.findIdx p = k := ⟨_, rfl⟩
  rw [hk] at h ⊢
  rw [List.take_succ_eq_append_getElem h, List.filter_append]
  have h1 : (l.take k).filter (notP p) = l.take k := List.filter_eq_self.2 (fun x hx => by
    obtain ⟨i, hi, rfl⟩ := List.mem_iff_getElem.1 hx
    rw [List.length_take] at hi
    rw [List.getElem_take]
    have := List.not_of_lt_findIdx (p := p) (xs := l) (i := i) (by omega)
    unfold notP; simpa using this)
  have h2 : p l[k] = true := by
    have := List.findIdx_getElem (p := p) (w := show l.findIdx p < l.length by omega)
    simpa only [hk] using this
  rw [h1]
  simp [notP, h2]
theorem next_del {p : Int → Bool} {l : List Int} {m : Nat} (h : m < l.length) : (l.take (m + 1)).filter (notP p) = if p (l.getD m 0) = true then (l.take m).filter (notP p) else (l.take m).filter (notP p) ++ [l.getD m 0] := by
  have hg : l.getD m 0 = l[m] := by rw [List.getD_eq_getElem?_getD, List.getElem?_eq_getElem h]; rfl
  rw [hg, List.take_succ_eq_append_getElem h, List.filter_append]
  split
  · rename_i hp; simp [notP, hp]
  · rename_i hp; simp [notP, hp]
theorem none_del {p : Int → Bool} {l : List Int} (h : l.length ≤ l.findIdx p) : l.filter (notP p) = l := by
  refine List.filter_eq_self.2 (fun x hx => ?_)
  obtain ⟨i, hi, rfl⟩ := List.mem_iff_getElem.1 hx
  have := List.not_of_lt_findIdx (p := p) (xs := l) (i := i) (by omega)
  unfold notP; simpa using this
theorem drop_getD {l cur : List Int} {m : Nat} (h : cur.drop m = l.drop m) : cur.getD m 0 = l.getD m 0 ∧ cur.drop (m + 1) = l.drop (m + 1) := by
  constructor
  · have e := congrArg (fun (x : List Int) => x[0]?) h
    simp only [List.getElem?_drop, Nat.add_zero] at e
    rw [List.getD_eq_getElem?_getD, List.getD_eq_getElem?_getD, e]
  · have e := congrArg (List.drop 1) h
    rw [List.drop_drop, List.drop_drop] at e
    exact e
theorem take_set_next {cur : List Int} {q : Nat} (x : Int) (h : q < cur.length) : (cur.set q x).take (q + 1) = cur.take q ++ [x] := by
  rw [List.take_succ_eq_append_getElem (by simpa using h), List.take_set_of_le (Nat.le_refl _)]
  simp
set_option maxRecDepth 1000000 in
set_option maxHeartbeats 4000000 in
theorem delete_any {w : World} {u c1 c2 : Value} {l : List Int} {B F : Nat} {p : Int → Bool} (hE : Enters F) (hu : OwnI w B u l) (hf : Asks w u.ownBlock F c1 c2 p l) (hlen : l.length ≤ 1000000) :
    Calls Try.prog 32 #[u, .func (.func F) #[] #[c1, c2]] w fun e w' => ∃ u', e = .returned u' ∧ OwnI w' B u' (l.filter (notP p)) ∧ u'.ownBlock = u.ownBlock ∧ w.grownBy w' u.ownBlock := by
  have HU := Lib.hid hu
  have HF := Lib.hid hf
  have HE := Lib.hid hE
  have HI := Lib.hid (index_any hE hu.row hf)
  have HLE := Lib.hid hlen
  have hl1 : l.length ≤ 9223372036854775807 := by omega
  obtain ⟨ua, uc, rfl⟩ := hu.shape
  clear hf hE hlen
  go_enter Try.func32, Try.ntmps32
  go_wp2_with fail
  refine HI.out.mono ?_
  rintro e w1 ⟨rfl, hb⟩
  have HB := Lib.hid hb
  clear hb HI
  by_cases hx : l.findIdx p < l.length
  rotate_left
  · have he : idxI p l = -1 := idx_none (by omega)
    have HN := Lib.hid (none_del (p := p) (l := l) (by omega))
    rw [he]
    clear hx he hu
    go_wp2
    go_ret
    exact ⟨_, rfl, by rw [HN.out]; exact HU.out.below HB.out, rfl, grown_from HB.out⟩
  have he : idxI p l = (l.findIdx p : Int) := by unfold idxI; rw [if_pos hx]
  rw [he]
  have HX := Lib.hid hx
  have HS := Lib.hid (start_del hx)
  obtain ⟨g, rfl⟩ : ∃ g, ua = some ⟨g, 0, none⟩ := by
    rcases (show w.ownsRow B 3 1 (.slice ua l.length uc) l.length (ints l) from hu).2 with ⟨_, h0⟩ | ⟨g, cap, cur, hv, _⟩
    · omega
    · simp only [Value.slice.injEq] at hv; exact ⟨g, hv.1⟩
  clear hu
  obtain ⟨q0, hq0⟩ : ∃ q, l.findIdx p = q := ⟨_, rfl⟩
  rw [hq0] at HX HS ⊢
  clear hx he hq0
  have b0 : ((q0 : Int) == -1) = false := by first | (simp; done) | (simp; omega)
  have hw0 : IntKind.i64.wrap ((q0 : Int) + 1) = (q0 : Int) + 1 := IntWalk.i64_in _ (by have := HX.out; omega)
  go_wp2_with fail
  go_loopw [5, 6] (fun i j wr => ∃ (q m : Nat) (cur : List Int), i = .int .i64 q ∧ j = .int .i64 m ∧ m ≤ l.length ∧ q < m ∧ cur.length = l.length ∧ cur.take q = (l.take m).filter (notP p) ∧ cur.drop m = l.drop m ∧
    OwnI wr B (.slice (some ⟨g, 0, none⟩) l.length uc) cur ∧ w.grownBy wr (some g)) (fun _ j _ => l.length - (intOf j).toNat)
  case atStart => exact ⟨q0, q0 + 1, l, rfl, rfl, by have := HX.out; omega, by omega, rfl, HS.out, rfl, HU.out.below HB.out, grown_from HB.out⟩
  case round =>
    obtain ⟨q, m, cur, rfl, rfl, hm, hqm, hcl, hct, hcd, hco, hgw⟩ := hrel
    have HCT := Lib.hid hct
    have HCD := Lib.hid hcd
    have HCO := Lib.hid hco
    have HGW := Lib.hid hgw
    have HCL := Lib.hid hcl
    have HQM := Lib.hid hqm
    have HM := Lib.hid hm
    clear hct hcd hco hgw
    generalize wr = W1 at *
    by_cases hlt : m < l.length
    · have HK := Lib.hid hlt
      have hlt2 : (m : Int) < (l.length : Int) := by omega
      have hc1 := HCO.out.cell m (by omega)
      rw [(drop_getD HCD.out).1] at hc1
      have HND := Lib.hid (next_del (p := p) hlt)
      have HMM := Lib.hid (getI_mem hlt)
      have hk2 : IntKind.i64.wrap ((m : Int) + 1) = (m : Int) + 1 := IntWalk.i64_in _ (by omega)
      have hk3 : IntKind.i64.wrap ((q : Int) + 1) = (q : Int) + 1 := IntWalk.i64_in _ (by omega)
      have hq2 : (q : Int) < (l.length : Int) := by omega
      clear hlt hm hqm hcl
      generalize l.getD m 0 = x at *
      go_wp2_with fail
      rw [HE.out]
      refine (HF.out x HMM.out W1 HGW.out).mono ?_
      rintro e w2 ⟨rfl, hb⟩
      have HO2 := Lib.hid (HCO.out.below hb)
      have HG2 := Lib.hid (grown_thr HGW.out (grown_from hb))
      clear hb
      obtain ⟨y, hy⟩ : ∃ y, p x = y := ⟨_, rfl⟩
      rw [hy] at HND ⊢
      clear hy
      cases y with
      | true =>
        have HT := Lib.hid (show (l.take (m + 1)).filter (notP p) = (l.take m).filter (notP p) from by rw [HND.out, if_pos rfl])
        go_wp2_with fail
        go_roundw
        case rel => exact ⟨q, m + 1, cur, rfl, by go_num, by have := HK.out; omega, by have := HQM.out; omega, HCL.out, by rw [HCT.out, HT.out], (drop_getD HCD.out).2, HO2.out, HG2.out⟩
        case measure => have := HK.out; simp [intOf]; omega
      | false =>
        have HT := Lib.hid (show (l.take (m + 1)).filter (notP p) = (l.take m).filter (notP p) ++ [x] from by rw [HND.out, if_neg (by simp)])
        obtain ⟨hs1, _, _, hs2⟩ := HO2.out.stored q x
        have hs3 := HO2.out.cell q (by have := HQM.out; have := HK.out; have := HCL.out; omega)
        have hs4 := ((show w2.ownsRow B 3 1 (.slice (some ⟨g, 0, none⟩) l.length uc) l.length (ints cur) by have := HO2.out; unfold OwnI at this; rw [HCL.out] at this; exact this).stored q (.int .i64 x)).2
        have HS1 := Lib.hid hs1
        have HS4 := Lib.hid (grown_thr HG2.out hs4)
        clear hs1 hs4
        go_wp2_with fail
        go_roundw
        case rel => exact ⟨q + 1, m + 1, cur.set q x, by go_num, by go_num, by have := HK.out; omega, by have := HQM.out; omega, by rw [List.length_set]; exact HCL.out,
          by rw [take_set_next x (by have := HQM.out; have := HK.out; have := HCL.out; omega), HCT.out, HT.out], by rw [List.drop_set_of_lt (by have := HQM.out; omega)]; exact (drop_getD HCD.out).2, HS1.out, HS4.out⟩
        case measure => have := HK.out; simp [intOf]; omega
    · obtain rfl : m = l.length := by omega
      have hlt2 : ¬ (l.length : Int) < (l.length : Int) := by omega
      obtain ⟨e1, e2, e3⟩ := own_clear HCO.out (i := q) (by omega)
      have hcap : l.length ≤ uc := by
        rcases (show W1.ownsRow B 3 1 (.slice (some ⟨g, 0, none⟩) l.length uc) cur.length (ints cur) from HCO.out).2 with ⟨hv, _⟩ | ⟨g', cap, cr, hv, _, _, hn, _⟩
        · cases hv
        · simp only [Value.slice.injEq] at hv; have := hv.2.2; have := HCL.out; omega
      have HO3 := Lib.hid e2
      have HG3 := Lib.hid (grown_thr HGW.out e3)
      have hq1 : (q : Int) ≤ (l.length : Int) := by omega
      have hq2 : (q : Int) ≤ (uc : Int) := by omega
      have hq3 : ¬ uc = q := by omega
      have hq4 : q ≤ l.length := by omega
      have hq5 : q ≤ uc := by omega
      clear e2 e3 hlt hm
      go_wp2
      go_ret
      refine ⟨_, rfl, ?_, rfl, HG3.out⟩
      have h9 := HCT.out
      rw [List.take_length] at h9
      rw [← h9]
      exact HO3.out
end Go.Proofs.Ytofapalakpkkpaa
