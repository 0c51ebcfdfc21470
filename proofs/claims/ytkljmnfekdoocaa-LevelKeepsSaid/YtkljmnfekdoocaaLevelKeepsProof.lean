/- Whatever follows a move of a node and ends at less than a bound goes on from a node that level.Expand answers, of the same state and of no more cost: haulierlaw14.LevelKeeps answers true. Condition: none. -/
import Derived.Test.YtkljmnfekdoocaaRows
import Derived.Test.YtkljmnfekdoocaaLAwake
import Derived.Test.YtkljmnfekdoocaaXN
import Derived.Test.YtkljmnfekdoocaaNApp
import Derived.Test.YtkljmnfekdoocaaGSame
import Derived.Test.YtkljmnfekdoocaaGThan
import Derived.Test.YtkljmnfekdoocaaXK
import Derived.Test.YtkljmnfekdoocaaSArgs
import Derived.Test.YtkljmnfekdoocaaXSMove
import Derived.Test.YtkljmnfekdoocaaXR3
import Derived.Test.YtkljmnfekdoocaaBMore
import Derived.Test.YtkljmnfekdoocaaXSPlan
namespace Go.Proofs.Ytkljmnfekdoocaa.levelKeeps
open Go.ChangeShapes Go.WideShapes Go.ChangeAt Go.RowKit

theorem expand_le {I : Ins} {up : Int} {l : List Nod} : (expandL I up l).length ≤ 33 * l.length := by
  refine Nat.le_trans (once_len _) ?_
  have := kids_len I up l l.length (Nat.le_refl _)
  rw [List.take_length] at this
  exact this
theorem nod_in {l : List Nod} {x : Nod} (h : x ∈ l) : ∃ i, i < l.length ∧ nodAt l i = x := by
  obtain ⟨i, hi, rfl⟩ := List.mem_iff_getElem.1 h
  exact ⟨i, hi, by unfold nodAt; rw [List.getD_eq_getElem?_getD, List.getElem?_eq_getElem hi]; rfl⟩
theorem row_cut {w : World} {a : Option Addr} {n cap : Nat} {l : List Int} (h : Row w (.slice a n cap) (ints l)) (k : Nat) (hk : k ≤ l.length) : Row w (.slice a k cap) (ints (l.take k)) := by
  obtain ⟨hm, a', cap', hv, hc, hc2, hor⟩ := h
  simp only [Value.slice.injEq] at hv
  obtain ⟨rfl, -, rfl⟩ := hv
  rw [ints_len] at hm hc hor
  have e : (ints (l.take k)).length = k := by rw [ints_len, List.length_take]; omega
  refine ⟨by rw [e]; omega, a, cap, by rw [e], by rw [e]; omega, hc2, ?_⟩
  rcases hor with h0 | ⟨b, off, ha, hcell⟩
  · left
    have := congrArg List.length h0
    rw [ints_len] at this
    refine List.eq_nil_of_length_eq_zero ?_
    rw [e]; rw [List.length_nil] at this; omega
  · right
    refine ⟨b, off, ha, fun i hi => ?_⟩
    rw [e] at hi
    rw [hcell i (by omega), ← ints_take, List.getElem?_take_of_lt hi]
theorem route_in (t : List Int) : ∀ x ∈ (cutP t).1.flatten ++ (cutP t).2, x ∈ t := by
  refine snoc_ind (P := fun t => ∀ x ∈ (cutP t).1.flatten ++ (cutP t).2, x ∈ t) (fun x hx => (nomatch hx)) ?_ t
  intro t j ih x hx
  rw [cutP_snoc] at hx
  unfold cutStep at hx
  split at hx
  · rw [← List.append_assoc] at hx
    rcases List.mem_append.1 hx with hx | hx
    · exact List.mem_append_left _ (ih x hx)
    · exact List.mem_append_right _ hx
  · simp only [List.flatten_append, List.flatten_cons, List.flatten_nil, List.append_nil] at hx
    exact List.mem_append_left _ (ih x hx)
theorem key_of_in {l : List Int} {n : Int} (h : ∀ x ∈ l, 0 ≤ x ∧ x ≤ n) (hn : 0 ≤ n) : 0 ≤ key l ∧ key l ≤ n := by
  unfold key
  cases l with
  | nil => simp; exact hn
  | cons x l => exact h x (by simp)
theorem follow_fit {I : Ins} (hm : mayB I = true) {t : List Int} {s : Sta} {c : Int} (h : followS I t = some (s, c)) : FitSt s := by
  obtain ⟨⟨ts, hi⟩, hx⟩ := follow_inv hm t s c h
  have hf := fine_of hm
  have hp0 := hf.p0
  have hp1 := hf.p1
  have hc := (inb_iff _ _ _).1 ((may_iff I).1 hm).2.1
  obtain ⟨g1, _, g3, _⟩ := goE_bds hf _ _ hi.go
  have hk : ∀ l : List Int, (∀ x ∈ l, x ∈ t) → 0 ≤ key l ∧ key l ≤ 2 * I.p := fun l hl => key_of_in (fun x hxl => hx x (hl x hxl)) (by omega)
  have hfi : 0 ≤ s.first ∧ s.first ≤ 2 * I.p := by
    by_cases hr : (cutP t).2 = []
    · rcases (hi.first0 hr).2 with e | ⟨a, ha, e⟩
      · rw [e]; omega
      · rw [e]
        exact hk a (fun x hxa => route_in t x (List.mem_append_left _ (List.mem_flatten.2 ⟨a, ha, hxa⟩)))
    · rw [hi.first1 hr]
      exact hk _ (fun x hxa => route_in t x (List.mem_append_right _ hxa))
  have h1 := hi.posr
  have h2 := hi.carc
  have h3 := hi.car
  have h4 := hi.now
  have h5 := hi.load
  refine ⟨?_, ?_, ?_, ?_, ?_⟩ <;> unfold Fit <;> omega
set_option maxRecDepth 1000000 in
set_option maxHeartbeats 4000000 in
theorem walk (I0 : Ins) (v0 : Value) (v1 : Value) (l1 : List Int) (a2 : Int) (v3 : Value) (l3 : List Nod) (a4 : Int) (w : World) (e0 : SRow w v0 I0.l) (e1 : Row w v1 (ints l1)) (e3 : NRow w v3 l3) (f3 : ∀ n ∈ l3, NodFit n) :
    Calls Try.prog 3 #[insV I0 v0, v1, .int .i64 a2, v3, .int .i64 a4] w fun e w' => e = .returned (.bool true) ∧ Below w.heap.size w w' := by
  have HR := Lib.hid e0
  have HU := Lib.hid e1
  have HL := Lib.hid e3
  have HFT := Lib.hid f3
  obtain ⟨ad, cap, rfl, hlm, _⟩ := e0.form
  obtain ⟨la, lc, rfl, hm3, _⟩ := e3.form
  obtain ⟨au, cu, rfl, hmx⟩ := e1.form
  have hcu : l1.length ≤ cu := by
    obtain ⟨_, _, _, hv, hc, _⟩ := e1
    simp only [Value.slice.injEq] at hv
    obtain ⟨rfl, _, rfl⟩ := hv
    rw [ints_len] at hc
    exact hc
  have HCU := Lib.hid hcu
  rw [ints_len] at *
  have hmx2 : l1.length ≤ 9223372036854775807 := by unfold maxLen at hmx; omega
  clear e0 e1 e3 f3 hm3 hmx hcu
  unfold insV
  go_enter Try.func3, Try.ntmps3
  go_upto_region 1 with fail
  have HY := Lib.hid (ybox_new w I0 (.slice ad I0.l.length cap))
  have HB := Lib.hid ((Below.refl w.heap.size w).alloc (Nat.le_refl _) (boxI I0 (.slice ad I0.l.length cap)))
  change Code.wp _ _ _ _ (w.alloc (boxI I0 (.slice ad I0.l.length cap)))
  generalize hW : w.alloc (boxI I0 (.slice ad I0.l.length cap)) = W at *
  have HRn := Lib.hid (HR.out.below HB.out)
  clear HR
  have HR := HRn
  clear HRn
  have HLn := Lib.hid (HL.out.below HB.out)
  clear HL
  have HL := HLn
  clear HLn
  have HUn := Lib.hid (HU.out.below HB.out)
  clear HU
  have HU := HUn
  clear HUn
  clear hW
  go_wp2_with fail
  refine (lawake_any _).mono ?_
  rintro e w1 ⟨rfl, hb⟩
  have HYn := Lib.hid (HY.out.later hb)
  clear HY
  have HY := HYn
  clear HYn
  have HRn := Lib.hid (HR.out.below hb)
  clear HR
  have HR := HRn
  clear HRn
  have HLn := Lib.hid (HL.out.below hb)
  clear HL
  have HL := HLn
  clear HLn
  have HUn := Lib.hid (HU.out.below hb)
  clear HU
  have HU := HUn
  clear HUn
  have HBn := Lib.hid (HB.out.trans (hb.mono HB.out.size))
  clear HB
  have HB := HBn
  clear HBn
  clear hb
  go_wp2_with fail
  refine (fewN_any HL.out).mono ?_
  rintro e w2 ⟨rfl, rfl⟩
  obtain ⟨fw, hfw⟩ : ∃ b, decide (FewN l3) = b := ⟨_, rfl⟩
  rw [hfw]
  have HFW := Lib.hid hfw
  clear hfw
  obtain ⟨y0, y1, y2, y3⟩ := HY.out.cells
  go_wp2_with fail
  clear y0 y1 y2 y3
  change Calls _ _ #[insV I0 (.slice ad I0.l.length cap), (.slice au l1.length cu)] _ _
  refine (sfollow_any (I := I0) HR.out HU.out).mono ?_
  rintro e w3 ⟨rfl, hb⟩
  have HYn := Lib.hid (HY.out.later hb)
  clear HY
  have HY := HYn
  clear HYn
  have HRn := Lib.hid (HR.out.below hb)
  clear HR
  have HR := HRn
  clear HRn
  have HLn := Lib.hid (HL.out.below hb)
  clear HL
  have HL := HLn
  clear HLn
  have HUn := Lib.hid (HU.out.below hb)
  clear HU
  have HU := HUn
  clear HUn
  have HBn := Lib.hid (HB.out.trans (hb.mono HB.out.size))
  clear HB
  have HB := HBn
  clear HBn
  clear hb
  have HSQ := Lib.hid (fol_sets I0 l1)
  have HCASE := Lib.hid (show folE I0 l1 = 1 ∨ folE I0 l1 = 4 ∨ (folE I0 l1 = 0 ∧ mayB I0 = true ∧ followS I0 l1 = some (stO (folS I0 l1), coO (folS I0 l1))) by
    cases hm : mayB I0 with
    | false => exact .inl (fol_bad hm l1).2
    | true =>
      cases hf : followS I0 l1 with
      | none => exact .inr (.inl (fol_no hm hf).2)
      | some x =>
        obtain ⟨s, d⟩ := x
        exact .inr (.inr ⟨(fol_yes hm hf).2, rfl, by rw [(fol_yes hm hf).1]; rfl⟩))
  generalize stO (folS I0 l1) = q at *
  generalize coO (folS I0 l1) = co at *
  generalize folE I0 l1 = fe at *
  rw [show staV q = .agg #[.int .i64 q.pos, .int .i64 q.car, .int .i64 q.time, .int .i64 q.load, .int .i64 q.first, .int .u64 q.must, .int .u64 q.may, .int .u64 q.on] from rfl]
  go_upto_region 4 with fail
  have HP := Lib.hid (st_new w3 q)
  have HYn := Lib.hid (HY.out.later ((Below.refl _ w3).alloc (Nat.le_refl _) (boxSt q)))
  have HRn := Lib.hid (HR.out.below ((Below.refl _ w3).alloc (Nat.le_refl _) (boxSt q)))
  have HLn := Lib.hid (HL.out.below ((Below.refl _ w3).alloc (Nat.le_refl _) (boxSt q)))
  have HUn := Lib.hid (HU.out.below ((Below.refl _ w3).alloc (Nat.le_refl _) (boxSt q)))
  have HBn := Lib.hid (HB.out.alloc HB.out.size (boxSt q))
  clear HY HR HL HU HB
  have HY := HYn
  have HR := HRn
  have HL := HLn
  have HU := HUn
  have HB := HBn
  clear HYn HRn HLn HUn HBn
  change Code.wp _ _ _ _ (w3.alloc (boxSt q))
  generalize w3.alloc (boxSt q) = W4 at *
  generalize w3.heap.size = bp at *
  obtain ⟨y0, y1, y2, y3⟩ := HY.out.cells
  have x0 := HP.out.c0
  have x1 := HP.out.c1
  have x2 := HP.out.c2
  have x3 := HP.out.c3
  have x4 := HP.out.c4
  have x5 := HP.out.c5
  have x6 := HP.out.c6
  have x7 := HP.out.c7
  go_wp2_with fail
  clear y0 y1 y2 y3
  clear x0 x1 x2 x3 x4 x5 x6 x7
  change Calls _ _ #[insV I0 (.slice ad I0.l.length cap), staV q] _ _
  refine (send_any HR.out HSQ.out).mono ?_
  rintro e w5 ⟨rfl, hb⟩
  have HYn := Lib.hid (HY.out.later hb)
  clear HY
  have HY := HYn
  clear HYn
  have HRn := Lib.hid (HR.out.below hb)
  clear HR
  have HR := HRn
  clear HRn
  have HLn := Lib.hid (HL.out.below hb)
  clear HL
  have HL := HLn
  clear HLn
  have HUn := Lib.hid (HU.out.below hb)
  clear HU
  have HU := HUn
  clear HUn
  have HBn := Lib.hid (HB.out.trans (hb.mono HB.out.size))
  clear HB
  have HB := HBn
  clear HBn
  clear hb
  clear HP
  have y3 := HY.out.cells.2.2.2
  cases fw with
  | false =>
    clear HCASE
    go_wp2
    go_ret
    exact ⟨rfl, HB.out⟩
  | true =>
  have HF := Lib.hid (of_decide_eq_true HFW.out)
  have HOK := Lib.hid (NodesOk.of HFT.out HF.out.2)
  have HLE := Lib.hid (show l3.length ≤ 60 from HF.out.1)
  by_cases g1 : 100 < I0.l.length
  · have dg1 : decide ((100 : Int) < (I0.l.length : Int)) = true := decide_eq_true (by omega)
    have dg1b := decide_eq_true g1
    clear g1
    go_wp2
    go_ret
    exact ⟨rfl, HB.out⟩
  have dg1 : decide ((100 : Int) < (I0.l.length : Int)) = false := decide_eq_false (by omega)
  have dg1b := decide_eq_false g1
  clear g1
  by_cases g2 : 100 < l1.length
  · have dg2 : decide ((100 : Int) < (l1.length : Int)) = true := decide_eq_true (by omega)
    have dg2b := decide_eq_true g2
    clear g2
    go_wp2
    go_ret
    exact ⟨rfl, HB.out⟩
  have dg2 : decide ((100 : Int) < (l1.length : Int)) = false := decide_eq_false (by omega)
  have dg2b := decide_eq_false g2
  have HG2 := Lib.hid g2
  clear g2
  rcases HCASE.out with rfl | rfl | ⟨rfl, hm, hfol⟩
  · clear HSQ HCASE
    go_wp2
    go_ret
    exact ⟨rfl, HB.out⟩
  · clear HSQ HCASE
    go_wp2
    go_ret
    exact ⟨rfl, HB.out⟩
  by_cases he : EndS I0 q
  rotate_left
  · rw [decide_eq_false he]
    clear he hfol hm HSQ HCASE
    go_wp2
    go_ret
    exact ⟨rfl, HB.out⟩
  rw [decide_eq_true he]
  have hco := follow_cost _ _ _ hfol
  have hec := endC_bd I0 q
  obtain ⟨ec, hecq⟩ : ∃ e, endC I0 q = e := ⟨_, rfl⟩
  rw [hecq] at hec ⊢
  have e3 : IntKind.i64.wrap (co + ec) = co + ec := IntWalk.i64_in _ (by have := HG2.out; omega)
  by_cases g3 : a4 ≤ co + ec
  · have d5 := decide_eq_true g3
    clear g3 hfol hm he HSQ HCASE
    go_wp2
    go_ret
    exact ⟨rfl, HB.out⟩
  have d5 := decide_eq_false g3
  by_cases g4 : a2 < 0
  · have d6 := decide_eq_true g4
    clear g4 g3 hfol hm he HSQ HCASE
    go_wp2
    go_ret
    exact ⟨rfl, HB.out⟩
  have d6 := decide_eq_false g4
  by_cases g5 : (l1.length : Int) ≤ a2
  · have d7 := decide_eq_true g5
    clear g5 g4 g3 hfol hm he HSQ HCASE
    go_wp2
    go_ret
    exact ⟨rfl, HB.out⟩
  have d7 := decide_eq_false g5
  go_upto_region 7 with fail
  clear dg1 dg1b dg2 dg2b d5 d6 d7 y3 e3
  obtain ⟨c, rfl⟩ : ∃ c : Nat, a2 = c := ⟨a2.toNat, by omega⟩
  have HCL := Lib.hid (show c < l1.length by omega)
  obtain ⟨s1, c1, hf1, _⟩ := bound_all hm hfol he c
  obtain ⟨s2, c2, hf2, y, hy1, hy2, hy3⟩ := expand_keeps hm hfol he (up := a4) (by rw [hecq]; omega) HCL.out (l := ⟨s1, c1, l1.take c⟩ :: l3) hf1 (by simp)
  obtain ⟨p1, p2⟩ := fol_yes hm hf1
  obtain ⟨p3, p4⟩ := fol_yes hm hf2
  have hs1 := fol_sets I0 (l1.take c)
  rw [p1] at hs1
  have HS1 := Lib.hid (show SetsOk s1 from hs1)
  have E1 := Lib.hid (show stO (folS I0 (l1.take c)) = s1 by rw [p1]; rfl)
  have E2 := Lib.hid (show coO (folS I0 (l1.take c)) = c1 by rw [p1]; rfl)
  have E3 := Lib.hid p2
  have E4 := Lib.hid (show stO (folS I0 (l1.take (c + 1))) = s2 by rw [p3]; rfl)
  have E5 := Lib.hid (show coO (folS I0 (l1.take (c + 1))) = c2 by rw [p3]; rfl)
  have E6 := Lib.hid p4
  have HKE := Lib.hid (show ∃ y ∈ expandL I0 a4 (⟨s1, c1, l1.take c⟩ :: l3), y.s = s2 ∧ y.cost ≤ c2 from ⟨y, hy1, hy2, hy3⟩)
  have HN1 := Lib.hid (show NodesOk (⟨s1, c1, l1.take c⟩ :: l3) from fun n hn => by
    rcases List.mem_cons.1 hn with rfl | hn
    · have h1 := follow_cost _ _ _ hf1
      refine ⟨hs1, follow_fit hm hf1, ?_, ?_⟩
      · unfold Fit
        have h2 := HG2.out
        have h3 : (l1.take c).length ≤ l1.length := by rw [List.length_take]; omega
        show _ ≤ c1 ∧ c1 ≤ _
        omega
      · show (l1.take c).length ≤ 999999
        have := HG2.out
        rw [List.length_take]; omega
    · exact HOK.out n hn)
  have hc1 : c ≤ cu := by have := HCL.out; have := HCU.out; omega
  have hc3 : (c : Int) ≤ (cu : Int) := by omega
  have hc4 : (0 : Int) ≤ (c : Int) := by omega
  have hc5 : c + 1 ≤ cu := by have := HCL.out; have := HCU.out; omega
  have hc6 : ((c + 1 : Nat) : Int) ≤ (cu : Int) := by omega
  have hc8 : (0 : Int) ≤ (c : Int) + 1 := by omega
  have hc9 : (c : Int) + 1 ≤ (cu : Int) := by omega
  have hc7 : IntKind.i64.wrap ((c : Int) + 1) = ((c + 1 : Nat) : Int) := by rw [IntWalk.i64_in _ (by have := HCL.out; have := HG2.out; omega)]; omega
  clear hfol hm he HSQ HCASE hf1 hf2 hy1 hy2 hy3 y p1 p2 p3 p4 hs1 hco hec hecq g3 g4 g5
  go_cut [18, 19, 20] from 87 (fun p d e wx => ∃ bm, p = .pointer (some ⟨bm, 0, none⟩) ∧ d = .int .i64 c1 ∧ e = .int .i64 0 ∧ StB wx bm s1 ∧ Below w5.heap.size w5 wx)
  case first =>
    have HBR := Lib.hid (Below.refl w5.heap.size w5).drew
    have HYn := Lib.hid (HY.out.later (Below.refl _ w5).drew)
    have HRn := Lib.hid (HR.out.below (Below.refl _ w5).drew)
    have HUn := Lib.hid (HU.out.below (Below.refl _ w5).drew)
    have HBn := Lib.hid HB.out.drew
    clear HY HR HU HB
    have HY := HYn
    have HR := HRn
    have HU := HUn
    have HB := HBn
    clear HYn HRn HUn HBn
    have HS0 := Lib.hid (show Holds (cellsI w.heap.size I0 (.slice ad I0.l.length cap)) w5.drew from ⟨HY.out.cells.1, HY.out.cells.2.1, HY.out.cells.2.2.1, HY.out.cells.2.2.2, trivial⟩)
    refine wp_region_held_drew (S := Holds (cellsI w.heap.size I0 (.slice ad I0.l.length cap))) (by kernel_rfl) HS0.out (fun hSn => ?_)
    generalize w5.drew = V at *
    have hlt := Lib.hid (show Lows V.heap.size (cellsI w.heap.size I0 (.slice ad I0.l.length cap)) from (show Lows _ (cellsI w.heap.size I0 (.slice ad I0.l.length cap)) from ⟨HY.out.lt, HY.out.lt, HY.out.lt, HY.out.lt, trivial⟩))
    have Bc := Lib.hid (Below.refl V.heap.size V)
    simp only [cellsI] at HS0 hlt hSn ⊢
    refine tks [0, 1, 2, 3] 4 rfl (by kernel_rfl) (fun _ _ _ _ h => h) (by assumption) (fun KT hKT => ?_)
    iterate 4 (refine tkT (by (simp only [gA, gB, gC]; rfl)) (by rfl) (by (intro w hSw; (simp only [Holds] at hSw); go_simp <;> with_reducible rfl)) ?_; simp only [Act.put, pA, pB, pC])
    refine hKT _ ?_
    clear KT hKT
    refine wpAnyH_ready (rs := [4, 9]) (by kernel_rfl) (by simp) ?_
    refine (AllReadyH.cons (o := ?oz10) ?iz10 (fun K hK => ?kz10) (AllReadyH.cons (o := ?oz11) ?iz11 (fun K hK => ?kz11) AllReadyH.nil))
    case iz10 => (simp only [List.getElem?_toArray, List.getElem?_cons_zero, List.getElem?_cons_succ]; rfl)
    case iz11 => (simp only [List.getElem?_toArray, List.getElem?_cons_zero, List.getElem?_cons_succ]; rfl)
    · skip
      go_simp
      change Calls _ _ #[insV I0 (.slice ad I0.l.length cap), .slice au c cu] _ _
      have BCUR := Lib.hid (HB.out.trans (Bc.out.mono HB.out.size))
      refine (sfollow_any (I := I0) (l := l1.take c) (HR.out.below Bc.out) (row_cut (HU.out.below Bc.out) c (Nat.le_of_lt HCL.out))).mono ?_
      clear BCUR
      rintro e w7 ⟨rfl, hb⟩
      rw [E1.out, E2.out, E3.out]
      rw [show staV s1 = .agg #[.int .i64 s1.pos, .int .i64 s1.car, .int .i64 s1.time, .int .i64 s1.load, .int .i64 s1.first, .int .u64 s1.must, .int .u64 s1.may, .int .u64 s1.on] from rfl]
      refine held_more hK HS0.out hlt (Bc.out.trans (hb.mono Bc.out.size)) (fun Bc hSn => ?_)
      clear hb hK
      refine tks [5, 6, 7, 8] 4 rfl (by kernel_rfl) (fun _ _ _ _ h => h) (by assumption) (fun KT hKT => ?_)
      iterate 4 (refine tkT (by (simp only [gA, gB, gC]; rfl)) (by rfl) (by (intro w hSw; (simp only [Holds] at hSw); go_simp <;> with_reducible rfl)) ?_; simp only [Act.put, pA, pB, pC])
      refine hKT _ ?_
      clear KT hKT
      have HSZ := Lib.hid Bc.out.size
      refine wpAnyH_ready (rs := [9]) (by kernel_rfl) (by simp) ?_
      refine AllReadyH.cons (o := ?oz12) ?iz12 (fun K hK => ?kz12) AllReadyH.nil
      case iz12 => (simp only [List.getElem?_toArray, List.getElem?_cons_zero, List.getElem?_cons_succ]; rfl)
      go_simp
      refine held_more hK HS0.out hlt (Bc.out.alloc Bc.out.size _) (fun Bc hSn => ?_)
      have HN := Lib.hid (st_new w7 noughtS)
      change wpAnyH _ _ _ _ _ _ _ _ (w7.alloc (boxSt noughtS))
      have Bc2 := Lib.hid (show Below V.heap.size V (w7.alloc (boxSt noughtS)) from Bc.out)
      clear Bc
      have Bc := Bc2
      clear Bc2
      generalize w7.alloc (boxSt noughtS) = Xn at *
      obtain ⟨bm, hbm⟩ : ∃ bm, bm = w7.heap.size := ⟨_, rfl⟩
      have HLE := Lib.hid (show V.heap.size ≤ bm by rw [hbm]; exact HSZ.out)
      rw [← hbm] at HN ⊢
      clear hbm HSZ
      refine wpAnyH_ready (rs := [10]) (by kernel_rfl) (by simp) ?_
      refine (AllReadyH.cons (o := ?oz13) ?iz13 (fun K hK => ?kz13) AllReadyH.nil)
      case iz13 => (simp only [List.getElem?_toArray, List.getElem?_cons_zero, List.getElem?_cons_succ]; rfl)
      simp only [Act.put]
      rw [if_pos (by rfl)]
      refine wp_store_state (.tmp 18) (.tmp 93) (by rfl) bm _ s1 (by rfl) (by rfl) HN.out ?_
      intro wE hE hbE
      refine held_more hK HS0.out hlt (Bc.out.trans (hbE _ HLE.out)) (fun Bc hSn => ?_)
      clear hK
      refine tks [11, 12] 2 rfl (by kernel_rfl) (fun _ _ _ _ h => h) (by assumption) (fun KT hKT => ?_)
      iterate 2 (refine tkT (by (simp only [gA, gB, gC]; rfl)) (by rfl) (by (intro w hSw; (simp only [Holds] at hSw); go_simp <;> with_reducible rfl)) ?_; simp only [Act.put, pA, pB, pC])
      refine hKT _ ?_
      clear KT hKT
      refine wpAnyH_done (by kernel_rfl) ?_ _
      go_wp2_with fail
      go_meet
      exact ⟨bm, rfl, rfl, rfl, hE, HBR.out.trans (Bc.out.mono HBR.out.size)⟩
    · skip
      have HSZ := Lib.hid Bc.out.size
      go_simp
      refine held_more hK HS0.out hlt (Bc.out.alloc Bc.out.size _) (fun Bc hSn => ?_)
      clear hK
      have HN := Lib.hid (st_new V noughtS)
      change wpAnyH _ _ _ _ _ _ _ _ (V.alloc (boxSt noughtS))
      have Bc2 := Lib.hid (show Below V.heap.size V (V.alloc (boxSt noughtS)) from Bc.out)
      clear Bc
      have Bc := Bc2
      clear Bc2
      generalize V.alloc (boxSt noughtS) = Xn at *
      obtain ⟨bm, hbm⟩ : ∃ bm, bm = V.heap.size := ⟨_, rfl⟩
      have HLE := Lib.hid (show V.heap.size ≤ bm by rw [hbm]; exact HSZ.out)
      rw [← hbm] at HN ⊢
      clear hbm HSZ
      refine wpAnyH_ready (rs := [4]) (by kernel_rfl) (by simp) ?_
      refine AllReadyH.cons (o := ?oz14) ?iz14 (fun K hK => ?kz14) AllReadyH.nil
      case iz14 => (simp only [List.getElem?_toArray, List.getElem?_cons_zero, List.getElem?_cons_succ]; rfl)
      go_simp
      change Calls _ _ #[insV I0 (.slice ad I0.l.length cap), .slice au c cu] _ _
      have BCUR := Lib.hid (HB.out.trans (Bc.out.mono HB.out.size))
      refine (sfollow_any (I := I0) (l := l1.take c) (HR.out.below Bc.out) (row_cut (HU.out.below Bc.out) c (Nat.le_of_lt HCL.out))).mono ?_
      clear BCUR
      rintro e w7 ⟨rfl, hb⟩
      have HNn := Lib.hid (HN.out.later hb)
      clear HN
      have HN := HNn
      clear HNn
      rw [E1.out, E2.out, E3.out]
      rw [show staV s1 = .agg #[.int .i64 s1.pos, .int .i64 s1.car, .int .i64 s1.time, .int .i64 s1.load, .int .i64 s1.first, .int .u64 s1.must, .int .u64 s1.may, .int .u64 s1.on] from rfl]
      refine held_more hK HS0.out hlt (Bc.out.trans (hb.mono Bc.out.size)) (fun Bc hSn => ?_)
      clear hb hK
      refine tks [5, 6, 7, 8] 4 rfl (by kernel_rfl) (fun _ _ _ _ h => h) (by assumption) (fun KT hKT => ?_)
      iterate 4 (refine tkT (by (simp only [gA, gB, gC]; rfl)) (by rfl) (by (intro w hSw; (simp only [Holds] at hSw); go_simp <;> with_reducible rfl)) ?_; simp only [Act.put, pA, pB, pC])
      refine hKT _ ?_
      clear KT hKT
      refine wpAnyH_ready (rs := [10]) (by kernel_rfl) (by simp) ?_
      refine (AllReadyH.cons (o := ?oz15) ?iz15 (fun K hK => ?kz15) AllReadyH.nil)
      case iz15 => (simp only [List.getElem?_toArray, List.getElem?_cons_zero, List.getElem?_cons_succ]; rfl)
      simp only [Act.put]
      rw [if_pos (by rfl)]
      refine wp_store_state (.tmp 18) (.tmp 93) (by rfl) bm _ s1 (by rfl) (by rfl) HN.out ?_
      intro wE hE hbE
      refine held_more hK HS0.out hlt (Bc.out.trans (hbE _ HLE.out)) (fun Bc hSn => ?_)
      clear hK
      refine tks [11, 12] 2 rfl (by kernel_rfl) (fun _ _ _ _ h => h) (by assumption) (fun KT hKT => ?_)
      iterate 2 (refine tkT (by (simp only [gA, gB, gC]; rfl)) (by rfl) (by (intro w hSw; (simp only [Holds] at hSw); go_simp <;> with_reducible rfl)) ?_; simp only [Act.put, pA, pB, pC])
      refine hKT _ ?_
      clear KT hKT
      refine wpAnyH_done (by kernel_rfl) ?_ _
      go_wp2_with fail
      go_meet
      exact ⟨bm, rfl, rfl, rfl, hE, HBR.out.trans (Bc.out.mono HBR.out.size)⟩
  case rest =>
  obtain ⟨bm, rfl, rfl, rfl, f1, hb⟩ := hcut
  have HM1 := Lib.hid f1
  clear f1
  have HYn := Lib.hid (HY.out.later hb)
  clear HY
  have HY := HYn
  clear HYn
  have HRn := Lib.hid (HR.out.below hb)
  clear HR
  have HR := HRn
  clear HRn
  have HLn := Lib.hid (HL.out.below hb)
  clear HL
  have HL := HLn
  clear HLn
  have HUn := Lib.hid (HU.out.below hb)
  clear HU
  have HU := HUn
  clear HUn
  have HBn := Lib.hid (HB.out.trans (hb.mono HB.out.size))
  clear HB
  have HB := HBn
  clear HBn
  clear hb
  generalize wc = W7 at *
  go_upto_region 8 with fail
  go_cut [21, 22, 23] from 96 (fun p d e wx => ∃ bm, p = .pointer (some ⟨bm, 0, none⟩) ∧ d = .int .i64 c2 ∧ e = .int .i64 0 ∧ StB wx bm s2 ∧ Below W7.heap.size W7 wx)
  case first =>
    have HBR := Lib.hid (Below.refl W7.heap.size W7).drew
    have HYn := Lib.hid (HY.out.later (Below.refl _ W7).drew)
    have HRn := Lib.hid (HR.out.below (Below.refl _ W7).drew)
    have HUn := Lib.hid (HU.out.below (Below.refl _ W7).drew)
    have HBn := Lib.hid HB.out.drew
    clear HY HR HU HB
    have HY := HYn
    have HR := HRn
    have HU := HUn
    have HB := HBn
    clear HYn HRn HUn HBn
    have HS0 := Lib.hid (show Holds (cellsI w.heap.size I0 (.slice ad I0.l.length cap)) W7.drew from ⟨HY.out.cells.1, HY.out.cells.2.1, HY.out.cells.2.2.1, HY.out.cells.2.2.2, trivial⟩)
    refine wp_region_held_drew (S := Holds (cellsI w.heap.size I0 (.slice ad I0.l.length cap))) (by kernel_rfl) HS0.out (fun hSn => ?_)
    generalize W7.drew = V at *
    have hlt := Lib.hid (show Lows V.heap.size (cellsI w.heap.size I0 (.slice ad I0.l.length cap)) from (show Lows _ (cellsI w.heap.size I0 (.slice ad I0.l.length cap)) from ⟨HY.out.lt, HY.out.lt, HY.out.lt, HY.out.lt, trivial⟩))
    have Bc := Lib.hid (Below.refl V.heap.size V)
    simp only [cellsI] at HS0 hlt hSn ⊢
    refine tks [0, 1, 2, 3, 4] 5 rfl (by kernel_rfl) (fun _ _ _ _ h => h) (by assumption) (fun KT hKT => ?_)
    iterate 5 (refine tkT (by (simp only [gA, gB, gC]; rfl)) (by rfl) (by (intro w hSw; (simp only [Holds] at hSw); go_simp <;> with_reducible rfl)) ?_; simp only [Act.put, pA, pB, pC])
    refine hKT _ ?_
    clear KT hKT
    refine wpAnyH_ready (rs := [5, 10]) (by kernel_rfl) (by simp) ?_
    refine (AllReadyH.cons (o := ?oz16) ?iz16 (fun K hK => ?kz16) (AllReadyH.cons (o := ?oz17) ?iz17 (fun K hK => ?kz17) AllReadyH.nil))
    case iz16 => (simp only [List.getElem?_toArray, List.getElem?_cons_zero, List.getElem?_cons_succ]; rfl)
    case iz17 => (simp only [List.getElem?_toArray, List.getElem?_cons_zero, List.getElem?_cons_succ]; rfl)
    · skip
      go_simp
      change Calls _ _ #[insV I0 (.slice ad I0.l.length cap), .slice au (c + 1) cu] _ _
      have BCUR := Lib.hid (HB.out.trans (Bc.out.mono HB.out.size))
      refine (sfollow_any (I := I0) (l := l1.take (c + 1)) (HR.out.below Bc.out) (row_cut (HU.out.below Bc.out) (c + 1) HCL.out)).mono ?_
      clear BCUR
      rintro e w7 ⟨rfl, hb⟩
      rw [E4.out, E5.out, E6.out]
      rw [show staV s2 = .agg #[.int .i64 s2.pos, .int .i64 s2.car, .int .i64 s2.time, .int .i64 s2.load, .int .i64 s2.first, .int .u64 s2.must, .int .u64 s2.may, .int .u64 s2.on] from rfl]
      refine held_more hK HS0.out hlt (Bc.out.trans (hb.mono Bc.out.size)) (fun Bc hSn => ?_)
      clear hb hK
      refine tks [6, 7, 8, 9] 4 rfl (by kernel_rfl) (fun _ _ _ _ h => h) (by assumption) (fun KT hKT => ?_)
      iterate 4 (refine tkT (by (simp only [gA, gB, gC]; rfl)) (by rfl) (by (intro w hSw; (simp only [Holds] at hSw); go_simp <;> with_reducible rfl)) ?_; simp only [Act.put, pA, pB, pC])
      refine hKT _ ?_
      clear KT hKT
      have HSZ := Lib.hid Bc.out.size
      refine wpAnyH_ready (rs := [10]) (by kernel_rfl) (by simp) ?_
      refine AllReadyH.cons (o := ?oz18) ?iz18 (fun K hK => ?kz18) AllReadyH.nil
      case iz18 => (simp only [List.getElem?_toArray, List.getElem?_cons_zero, List.getElem?_cons_succ]; rfl)
      go_simp
      refine held_more hK HS0.out hlt (Bc.out.alloc Bc.out.size _) (fun Bc hSn => ?_)
      have HN := Lib.hid (st_new w7 noughtS)
      change wpAnyH _ _ _ _ _ _ _ _ (w7.alloc (boxSt noughtS))
      have Bc2 := Lib.hid (show Below V.heap.size V (w7.alloc (boxSt noughtS)) from Bc.out)
      clear Bc
      have Bc := Bc2
      clear Bc2
      generalize w7.alloc (boxSt noughtS) = Xn at *
      obtain ⟨bm, hbm⟩ : ∃ bm, bm = w7.heap.size := ⟨_, rfl⟩
      have HLE := Lib.hid (show V.heap.size ≤ bm by rw [hbm]; exact HSZ.out)
      rw [← hbm] at HN ⊢
      clear hbm HSZ
      refine wpAnyH_ready (rs := [11]) (by kernel_rfl) (by simp) ?_
      refine (AllReadyH.cons (o := ?oz19) ?iz19 (fun K hK => ?kz19) AllReadyH.nil)
      case iz19 => (simp only [List.getElem?_toArray, List.getElem?_cons_zero, List.getElem?_cons_succ]; rfl)
      simp only [Act.put]
      rw [if_pos (by rfl)]
      refine wp_store_state (.tmp 21) (.tmp 103) (by rfl) bm _ s2 (by rfl) (by rfl) HN.out ?_
      intro wE hE hbE
      refine held_more hK HS0.out hlt (Bc.out.trans (hbE _ HLE.out)) (fun Bc hSn => ?_)
      clear hK
      refine tks [12, 13] 2 rfl (by kernel_rfl) (fun _ _ _ _ h => h) (by assumption) (fun KT hKT => ?_)
      iterate 2 (refine tkT (by (simp only [gA, gB, gC]; rfl)) (by rfl) (by (intro w hSw; (simp only [Holds] at hSw); go_simp <;> with_reducible rfl)) ?_; simp only [Act.put, pA, pB, pC])
      refine hKT _ ?_
      clear KT hKT
      refine wpAnyH_done (by kernel_rfl) ?_ _
      go_wp2_with fail
      go_meet
      exact ⟨bm, rfl, rfl, rfl, hE, HBR.out.trans (Bc.out.mono HBR.out.size)⟩
    · skip
      have HSZ := Lib.hid Bc.out.size
      go_simp
      refine held_more hK HS0.out hlt (Bc.out.alloc Bc.out.size _) (fun Bc hSn => ?_)
      clear hK
      have HN := Lib.hid (st_new V noughtS)
      change wpAnyH _ _ _ _ _ _ _ _ (V.alloc (boxSt noughtS))
      have Bc2 := Lib.hid (show Below V.heap.size V (V.alloc (boxSt noughtS)) from Bc.out)
      clear Bc
      have Bc := Bc2
      clear Bc2
      generalize V.alloc (boxSt noughtS) = Xn at *
      obtain ⟨bm, hbm⟩ : ∃ bm, bm = V.heap.size := ⟨_, rfl⟩
      have HLE := Lib.hid (show V.heap.size ≤ bm by rw [hbm]; exact HSZ.out)
      rw [← hbm] at HN ⊢
      clear hbm HSZ
      refine wpAnyH_ready (rs := [5]) (by kernel_rfl) (by simp) ?_
      refine AllReadyH.cons (o := ?oz20) ?iz20 (fun K hK => ?kz20) AllReadyH.nil
      case iz20 => (simp only [List.getElem?_toArray, List.getElem?_cons_zero, List.getElem?_cons_succ]; rfl)
      go_simp
      change Calls _ _ #[insV I0 (.slice ad I0.l.length cap), .slice au (c + 1) cu] _ _
      have BCUR := Lib.hid (HB.out.trans (Bc.out.mono HB.out.size))
      refine (sfollow_any (I := I0) (l := l1.take (c + 1)) (HR.out.below Bc.out) (row_cut (HU.out.below Bc.out) (c + 1) HCL.out)).mono ?_
      clear BCUR
      rintro e w7 ⟨rfl, hb⟩
      have HNn := Lib.hid (HN.out.later hb)
      clear HN
      have HN := HNn
      clear HNn
      rw [E4.out, E5.out, E6.out]
      rw [show staV s2 = .agg #[.int .i64 s2.pos, .int .i64 s2.car, .int .i64 s2.time, .int .i64 s2.load, .int .i64 s2.first, .int .u64 s2.must, .int .u64 s2.may, .int .u64 s2.on] from rfl]
      refine held_more hK HS0.out hlt (Bc.out.trans (hb.mono Bc.out.size)) (fun Bc hSn => ?_)
      clear hb hK
      refine tks [6, 7, 8, 9] 4 rfl (by kernel_rfl) (fun _ _ _ _ h => h) (by assumption) (fun KT hKT => ?_)
      iterate 4 (refine tkT (by (simp only [gA, gB, gC]; rfl)) (by rfl) (by (intro w hSw; (simp only [Holds] at hSw); go_simp <;> with_reducible rfl)) ?_; simp only [Act.put, pA, pB, pC])
      refine hKT _ ?_
      clear KT hKT
      refine wpAnyH_ready (rs := [11]) (by kernel_rfl) (by simp) ?_
      refine (AllReadyH.cons (o := ?oz21) ?iz21 (fun K hK => ?kz21) AllReadyH.nil)
      case iz21 => (simp only [List.getElem?_toArray, List.getElem?_cons_zero, List.getElem?_cons_succ]; rfl)
      simp only [Act.put]
      rw [if_pos (by rfl)]
      refine wp_store_state (.tmp 21) (.tmp 103) (by rfl) bm _ s2 (by rfl) (by rfl) HN.out ?_
      intro wE hE hbE
      refine held_more hK HS0.out hlt (Bc.out.trans (hbE _ HLE.out)) (fun Bc hSn => ?_)
      clear hK
      refine tks [12, 13] 2 rfl (by kernel_rfl) (fun _ _ _ _ h => h) (by assumption) (fun KT hKT => ?_)
      iterate 2 (refine tkT (by (simp only [gA, gB, gC]; rfl)) (by rfl) (by (intro w hSw; (simp only [Holds] at hSw); go_simp <;> with_reducible rfl)) ?_; simp only [Act.put, pA, pB, pC])
      refine hKT _ ?_
      clear KT hKT
      refine wpAnyH_done (by kernel_rfl) ?_ _
      go_wp2_with fail
      go_meet
      exact ⟨bm, rfl, rfl, rfl, hE, HBR.out.trans (Bc.out.mono HBR.out.size)⟩
  case rest =>
  obtain ⟨bn, rfl, rfl, rfl, f1, hb⟩ := hcut
  have HM2 := Lib.hid f1
  clear f1
  have HYn := Lib.hid (HY.out.later hb)
  clear HY
  have HY := HYn
  clear HYn
  have HRn := Lib.hid (HR.out.below hb)
  clear HR
  have HR := HRn
  clear HRn
  have HLn := Lib.hid (HL.out.below hb)
  clear HL
  have HL := HLn
  clear HLn
  have HUn := Lib.hid (HU.out.below hb)
  clear HU
  have HU := HUn
  clear HUn
  have HM1n := Lib.hid (HM1.out.later hb)
  clear HM1
  have HM1 := HM1n
  clear HM1n
  have HBn := Lib.hid (HB.out.trans (hb.mono HB.out.size))
  clear HB
  have HB := HBn
  clear HBn
  clear hb
  generalize wc = W8 at *
  go_upto_region 9 with fail
  go_cut [24] from 106 (fun z wx => NRow wx z (expandL I0 a4 (⟨s1, c1, l1.take c⟩ :: l3)) ∧ StB wx bn s2 ∧ Below w.heap.size w wx)
  case first =>
    have hM2d := Lib.hid (HM2.out.later (Below.refl _ W8).drew)
    have HYn := Lib.hid (HY.out.later (Below.refl _ W8).drew)
    have HM1n := Lib.hid (HM1.out.later (Below.refl _ W8).drew)
    have HRn := Lib.hid (HR.out.below (Below.refl _ W8).drew)
    have HUn := Lib.hid (HU.out.below (Below.refl _ W8).drew)
    have HLn := Lib.hid (HL.out.below (Below.refl _ W8).drew)
    have HBn := Lib.hid HB.out.drew
    clear HY HM1 HR HU HL HB
    have HY := HYn
    have HM1 := HM1n
    have HR := HRn
    have HU := HUn
    have HL := HLn
    have HB := HBn
    clear HYn HM1n HRn HUn HLn HBn
    have HS0 := Lib.hid (show Holds ((cellsI w.heap.size I0 (.slice ad I0.l.length cap)) ++ (cellsSt bm s1)) W8.drew from (Holds.app.2 ⟨⟨HY.out.cells.1, HY.out.cells.2.1, HY.out.cells.2.2.1, HY.out.cells.2.2.2, trivial⟩, HM1.out.holds⟩))
    refine wp_region_held_drew (S := Holds ((cellsI w.heap.size I0 (.slice ad I0.l.length cap)) ++ (cellsSt bm s1))) (by kernel_rfl) HS0.out (fun hSn => ?_)
    generalize W8.drew = V at *
    have HUV := HU
    have HLV := HL
    have hlt := Lib.hid (show Lows V.heap.size ((cellsI w.heap.size I0 (.slice ad I0.l.length cap)) ++ (cellsSt bm s1)) from (Lows.app (show Lows _ (cellsI w.heap.size I0 (.slice ad I0.l.length cap)) from ⟨HY.out.lt, HY.out.lt, HY.out.lt, HY.out.lt, trivial⟩) (lows_St HM1.out.lt)))
    have Bc := Lib.hid (Below.refl V.heap.size V)
    simp only [cellsI, cellsSt, List.cons_append, List.nil_append] at HS0 hlt hSn ⊢
    refine tks [0, 1, 2, 3, 4, 5, 6, 8, 10] 9 rfl (by kernel_rfl) (fun _ _ _ _ h => h) (by assumption) (fun KT hKT => ?_)
    iterate 9 (refine tkT (by (simp only [gA, gB, gC]; rfl)) (by rfl) (by (intro w hSw; (simp only [Holds] at hSw); go_simp <;> with_reducible rfl)) ?_; simp only [Act.put, pA, pB, pC])
    refine hKT _ ?_
    clear KT hKT
    refine wpAnyH_ready (rs := [7, 16]) (by kernel_rfl) (by simp) ?_
    refine (AllReadyH.cons (o := ?oz22) ?iz22 (fun K hK => ?kz22) (AllReadyH.cons (o := ?oz23) ?iz23 (fun K hK => ?kz23) AllReadyH.nil))
    case iz22 => (simp only [List.getElem?_toArray, List.getElem?_cons_zero, List.getElem?_cons_succ]; rfl)
    case iz23 => (simp only [List.getElem?_toArray, List.getElem?_cons_zero, List.getElem?_cons_succ]; rfl)
    · skip
      have HSY := Lib.hid Bc.out.size
      obtain ⟨by1, hby⟩ : ∃ x, x = V.heap.size := ⟨_, rfl⟩
      go_simp
      refine held_more hK HS0.out hlt (Bc.out.alloc Bc.out.size _) (fun Bc hSn => ?_)
      clear hK
      have HW := Lib.hid (show OwnN V V.heap.size (V.alloc (boxN s1 c1 (.slice au c cu))) (.slice (some ⟨by1, 0, none⟩) 1 1) [⟨s1, c1, l1.take c⟩] from by rw [hby]; exact ⟨[⟨s1, c1, au, c, cu⟩], own_one HSY.out (nod_new V s1 c1 (.slice au c cu)), ⟨rfl, rfl, .inl (row_cut HUV.out c (Nat.le_of_lt HCL.out))⟩, trivial⟩)
      change wpAnyH _ _ _ _ _ _ _ _ (V.alloc (boxN s1 c1 (.slice au c cu)))
      have Bc2 := Lib.hid (show Below V.heap.size V (V.alloc (boxN s1 c1 (.slice au c cu))) from Bc.out)
      clear Bc
      have Bc := Bc2
      clear Bc2
      generalize V.alloc (boxN s1 c1 (.slice au c cu)) = Y at *
      rw [← hby]
      clear HSY hby
      refine wpAnyH_ready (rs := [9, 16]) (by kernel_rfl) (by simp) ?_
      refine (AllReadyH.cons (o := ?oz24) ?iz24 (fun K hK => ?kz24) (AllReadyH.cons (o := ?oz25) ?iz25 (fun K hK => ?kz25) AllReadyH.nil))
      case iz24 => (simp only [List.getElem?_toArray, List.getElem?_cons_zero, List.getElem?_cons_succ]; rfl)
      case iz25 => (simp only [List.getElem?_toArray, List.getElem?_cons_zero, List.getElem?_cons_succ]; rfl)
      · skip
        simp only [Act.put, List.setIfInBounds_toArray, List.set_cons_zero, List.set_cons_succ]
        rw [if_pos (by rfl)]
        refine wp_app_nodes _ _ (by rfl) V.heap.size _ _ (by rfl) HW.out _ (by rfl) l3 (NRowB.below HLV.out Bc.out) (by have := HLE.out; (try simp only [List.length_cons, List.length_nil]); omega) Bc.out.size ?_
        intro av w7 hown hbb hgw
        have hbcw := Bc.out.trans hbb
        refine held_more hK HS0.out hlt hbcw (fun Bc hSn => ?_)
        have HWn := Lib.hid hown
        clear hK hown hbb hgw hbcw HW
        have HW := HWn
        clear HWn
        obtain ⟨ava, avc, rfl⟩ := HW.out.shape
        refine wpAnyH_ready (rs := [11, 16]) (by kernel_rfl) (by simp) ?_
        refine (AllReadyH.cons (o := ?oz26) ?iz26 (fun K hK => ?kz26) (AllReadyH.cons (o := ?oz27) ?iz27 (fun K hK => ?kz27) AllReadyH.nil))
        case iz26 => (simp only [List.getElem?_toArray, List.getElem?_cons_zero, List.getElem?_cons_succ]; rfl)
        case iz27 => (simp only [List.getElem?_toArray, List.getElem?_cons_zero, List.getElem?_cons_succ]; rfl)
        · skip
          go_simp
          change Calls _ _ #[insV I0 (.slice ad I0.l.length cap), _, .int .i64 a4] _ _
          refine (lexpand_any (w0 := V) (up := a4) (HR.out.below Bc.out) HW.out.rowB Bc.out HN1.out (by have := HLE.out; simp only [List.cons_append, List.nil_append, List.length_cons]; omega)).mono ?_
          rintro e w6 ⟨z, pb, pn, pc, rfl, hu, _, hb⟩
          refine held_more hK HS0.out hlt (Bc.out.trans (hb.mono Bc.out.size)) (fun Bc hSn => ?_)
          have HZ := Lib.hid hu
          clear hb hK hu HW
          unfold nodeV
          refine tks [12, 13, 14, 15] 4 rfl (by kernel_rfl) (fun _ _ _ _ h => h) (by assumption) (fun KT hKT => ?_)
          iterate 4 (refine tkT (by (simp only [gA, gB, gC]; rfl)) (by rfl) (by (intro w hSw; (simp only [Holds] at hSw); go_simp <;> with_reducible rfl)) ?_; simp only [Act.put, pA, pB, pC])
          refine hKT _ ?_
          clear KT hKT
          have HSZ := Lib.hid Bc.out.size
          refine wpAnyH_ready (rs := [16]) (by kernel_rfl) (by simp) ?_
          refine AllReadyH.cons (o := ?oz28) ?iz28 (fun K hK => ?kz28) AllReadyH.nil
          case iz28 => (simp only [List.getElem?_toArray, List.getElem?_cons_zero, List.getElem?_cons_succ]; rfl)
          go_simp
          refine held_more hK HS0.out hlt (Bc.out.alloc Bc.out.size _) (fun Bc hSn => ?_)
          have HN := Lib.hid (nod_new w6 noughtS 0 (.slice none 0 0))
          change wpAnyH _ _ _ _ _ _ _ _ (w6.alloc (boxN noughtS 0 (.slice none 0 0)))
          have Bc2 := Lib.hid (show Below V.heap.size V (w6.alloc (boxN noughtS 0 (.slice none 0 0))) from Bc.out)
          clear Bc
          have Bc := Bc2
          clear Bc2
          change Holds _ (w6.alloc (boxN noughtS 0 (.slice none 0 0))) at hSn
          have HAP := Lib.hid (show ∀ g, z.ownBlock = some g → g ≠ w6.heap.size from fun g hg e => by have h1 := (HZ.out.lt g hg).2; omega)
          have HZn := Lib.hid (HZ.out.below ((Below.refl w6.heap.size w6).alloc (Nat.le_refl _) (boxN noughtS 0 (.slice none 0 0))))
          clear HZ
          have HZ := HZn
          clear HZn
          generalize w6.alloc (boxN noughtS 0 (.slice none 0 0)) = Xn at *
          obtain ⟨bx, hbx⟩ : ∃ bx, w6.heap.size = bx := ⟨_, rfl⟩
          have HLX := Lib.hid (show V.heap.size ≤ bx by rw [← hbx]; exact HSZ.out)
          rw [hbx] at HN ⊢
          rw [hbx] at HAP
          clear hbx HSZ
          refine tks [17] 1 rfl (by kernel_rfl) (fun _ _ _ _ h => h) (by assumption) (fun KT hKT => ?_)
          refine tkT (by (simp only [gA, gB, gC]; rfl)) (by rfl) (by (intro w hSw; (simp only [Holds] at hSw); go_simp <;> with_reducible rfl)) ?_
          simp only [Act.put, pA, pB, pC]
          refine hKT _ ?_
          clear KT hKT
          refine wpAnyH_ready (rs := [18]) (by kernel_rfl) (by simp) ?_
          refine (AllReadyH.cons (o := ?oz29) ?iz29 (fun K hK => ?kz29) AllReadyH.nil)
          case iz29 => (simp only [List.getElem?_toArray, List.getElem?_cons_zero, List.getElem?_cons_succ]; rfl)
          simp only [Act.put]
          rw [if_pos (by rfl)]
          refine wp_store_node (.tmp 25) (.tmp 120) (by rfl) bx _ _ _ ⟨(bestV (bestL I0 (⟨s1, c1, l1.take c⟩ :: l3))).s, (bestV (bestL I0 (⟨s1, c1, l1.take c⟩ :: l3))).cost, pb, pn, pc⟩ (by rfl) (by rfl) HN.out ?_
          intro wE hE hbE hoE hgE
          refine held_more hK HS0.out hlt (Bc.out.trans (hbE _ HLX.out)) (fun Bc hSn => ?_)
          clear hK
          have HUE := Lib.hid ((HZ.out.keptN (fun e => HAP.out _ e rfl) hgE HN.out).row Bc.out)
          clear hE hbE hoE hgE HZ HAP HN
          refine tks [19] 1 rfl (by kernel_rfl) (fun _ _ _ _ h => h) (by assumption) (fun KT hKT => ?_)
          refine tkT (by (simp only [gA, gB, gC]; rfl)) (by rfl) (by (intro w hSw; (simp only [Holds] at hSw); go_simp <;> with_reducible rfl)) ?_
          simp only [Act.put, pA, pB, pC]
          refine hKT _ ?_
          clear KT hKT
          refine wpAnyH_done (by kernel_rfl) ?_ _
          go_wp2_with fail
          go_meet
          exact ⟨HUE.out, hM2d.out.later Bc.out, HB.out.trans (Bc.out.mono HB.out.size)⟩
        · skip
          have HSZ := Lib.hid Bc.out.size
          go_simp
          refine held_more hK HS0.out hlt (Bc.out.alloc Bc.out.size _) (fun Bc hSn => ?_)
          clear hK
          have HN := Lib.hid (nod_new w7 noughtS 0 (.slice none 0 0))
          change wpAnyH _ _ _ _ _ _ _ _ (w7.alloc (boxN noughtS 0 (.slice none 0 0)))
          have Bc2 := Lib.hid (show Below V.heap.size V (w7.alloc (boxN noughtS 0 (.slice none 0 0))) from Bc.out)
          clear Bc
          have Bc := Bc2
          clear Bc2
          change Holds _ (w7.alloc (boxN noughtS 0 (.slice none 0 0))) at hSn
          have HWn := Lib.hid (HW.out.below ((Below.refl w7.heap.size w7).alloc (Nat.le_refl _) (boxN noughtS 0 (.slice none 0 0))))
          clear HW
          have HW := HWn
          clear HWn
          generalize w7.alloc (boxN noughtS 0 (.slice none 0 0)) = Xn at *
          obtain ⟨bx, hbx⟩ : ∃ bx, w7.heap.size = bx := ⟨_, rfl⟩
          have HLX := Lib.hid (show V.heap.size ≤ bx by rw [← hbx]; exact HSZ.out)
          rw [hbx] at HN ⊢
          clear hbx HSZ
          refine wpAnyH_ready (rs := [11]) (by kernel_rfl) (by simp) ?_
          refine AllReadyH.cons (o := ?oz30) ?iz30 (fun K hK => ?kz30) AllReadyH.nil
          case iz30 => (simp only [List.getElem?_toArray, List.getElem?_cons_zero, List.getElem?_cons_succ]; rfl)
          go_simp
          change Calls _ _ #[insV I0 (.slice ad I0.l.length cap), _, .int .i64 a4] _ _
          refine (lexpand_any (w0 := V) (up := a4) (HR.out.below Bc.out) HW.out.rowB Bc.out HN1.out (by have := HLE.out; simp only [List.cons_append, List.nil_append, List.length_cons]; omega)).mono ?_
          rintro e w6 ⟨z, pb, pn, pc, rfl, hu, _, hb⟩
          refine held_more hK HS0.out hlt (Bc.out.trans (hb.mono Bc.out.size)) (fun Bc hSn => ?_)
          have HAP := Lib.hid (show ∀ g, z.ownBlock = some g → g ≠ bx from fun g hg e => by have h1 := (hu.lt g hg).1; have h2 := HN.out.lt; omega)
          have HNn := Lib.hid (HN.out.later hb)
          clear HN
          have HN := HNn
          clear HNn
          have HZ := Lib.hid hu
          clear hb hK hu HW
          unfold nodeV
          refine tks [12, 13, 14, 15] 4 rfl (by kernel_rfl) (fun _ _ _ _ h => h) (by assumption) (fun KT hKT => ?_)
          iterate 4 (refine tkT (by (simp only [gA, gB, gC]; rfl)) (by rfl) (by (intro w hSw; (simp only [Holds] at hSw); go_simp <;> with_reducible rfl)) ?_; simp only [Act.put, pA, pB, pC])
          refine hKT _ ?_
          clear KT hKT
          refine tks [17] 1 rfl (by kernel_rfl) (fun _ _ _ _ h => h) (by assumption) (fun KT hKT => ?_)
          refine tkT (by (simp only [gA, gB, gC]; rfl)) (by rfl) (by (intro w hSw; (simp only [Holds] at hSw); go_simp <;> with_reducible rfl)) ?_
          simp only [Act.put, pA, pB, pC]
          refine hKT _ ?_
          clear KT hKT
          refine wpAnyH_ready (rs := [18]) (by kernel_rfl) (by simp) ?_
          refine (AllReadyH.cons (o := ?oz31) ?iz31 (fun K hK => ?kz31) AllReadyH.nil)
          case iz31 => (simp only [List.getElem?_toArray, List.getElem?_cons_zero, List.getElem?_cons_succ]; rfl)
          simp only [Act.put]
          rw [if_pos (by rfl)]
          refine wp_store_node (.tmp 25) (.tmp 120) (by rfl) bx _ _ _ ⟨(bestV (bestL I0 (⟨s1, c1, l1.take c⟩ :: l3))).s, (bestV (bestL I0 (⟨s1, c1, l1.take c⟩ :: l3))).cost, pb, pn, pc⟩ (by rfl) (by rfl) HN.out ?_
          intro wE hE hbE hoE hgE
          refine held_more hK HS0.out hlt (Bc.out.trans (hbE _ HLX.out)) (fun Bc hSn => ?_)
          clear hK
          have HUE := Lib.hid ((HZ.out.keptN (fun e => HAP.out _ e rfl) hgE HN.out).row Bc.out)
          clear hE hbE hoE hgE HZ HAP HN
          refine tks [19] 1 rfl (by kernel_rfl) (fun _ _ _ _ h => h) (by assumption) (fun KT hKT => ?_)
          refine tkT (by (simp only [gA, gB, gC]; rfl)) (by rfl) (by (intro w hSw; (simp only [Holds] at hSw); go_simp <;> with_reducible rfl)) ?_
          simp only [Act.put, pA, pB, pC]
          refine hKT _ ?_
          clear KT hKT
          refine wpAnyH_done (by kernel_rfl) ?_ _
          go_wp2_with fail
          go_meet
          exact ⟨HUE.out, hM2d.out.later Bc.out, HB.out.trans (Bc.out.mono HB.out.size)⟩
      · skip
        have HSZ := Lib.hid Bc.out.size
        go_simp
        refine held_more hK HS0.out hlt (Bc.out.alloc Bc.out.size _) (fun Bc hSn => ?_)
        clear hK
        have HN := Lib.hid (nod_new Y noughtS 0 (.slice none 0 0))
        change wpAnyH _ _ _ _ _ _ _ _ (Y.alloc (boxN noughtS 0 (.slice none 0 0)))
        have Bc2 := Lib.hid (show Below V.heap.size V (Y.alloc (boxN noughtS 0 (.slice none 0 0))) from Bc.out)
        clear Bc
        have Bc := Bc2
        clear Bc2
        change Holds _ (Y.alloc (boxN noughtS 0 (.slice none 0 0))) at hSn
        have HZN := Lib.hid (show by1 ≠ Y.heap.size from by have h1 := (HW.out.lt by1 rfl).2; omega)
        have HWn := Lib.hid (HW.out.below ((Below.refl Y.heap.size Y).alloc (Nat.le_refl _) (boxN noughtS 0 (.slice none 0 0))))
        clear HW
        have HW := HWn
        clear HWn
        generalize Y.alloc (boxN noughtS 0 (.slice none 0 0)) = Xn at *
        obtain ⟨bx, hbx⟩ : ∃ bx, Y.heap.size = bx := ⟨_, rfl⟩
        have HLX := Lib.hid (show V.heap.size ≤ bx by rw [← hbx]; exact HSZ.out)
        rw [hbx] at HN ⊢
        rw [hbx] at HZN
        clear hbx HSZ
        refine wpAnyH_ready (rs := [9]) (by kernel_rfl) (by simp) ?_
        refine (AllReadyH.cons (o := ?oz32) ?iz32 (fun K hK => ?kz32) AllReadyH.nil)
        case iz32 => (simp only [List.getElem?_toArray, List.getElem?_cons_zero, List.getElem?_cons_succ]; rfl)
        simp only [Act.put, List.setIfInBounds_toArray, List.set_cons_zero, List.set_cons_succ]
        rw [if_pos (by rfl)]
        refine wp_app_nodes _ _ (by rfl) V.heap.size _ _ (by rfl) HW.out _ (by rfl) l3 (NRowB.below HLV.out Bc.out) (by have := HLE.out; (try simp only [List.length_cons, List.length_nil]); omega) Bc.out.size ?_
        intro av w7 hown hbb hgw
        have hbcw := Bc.out.trans hbb
        refine held_more hK HS0.out hlt hbcw (fun Bc hSn => ?_)
        have HWn := Lib.hid hown
        have HNn := Lib.hid (HN.out.stay hgw (fun e => HZN.out (by cases e; rfl)))
        clear HN
        have HN := HNn
        clear HNn HZN
        clear hK hown hbb hgw hbcw HW
        have HW := HWn
        clear HWn
        obtain ⟨ava, avc, rfl⟩ := HW.out.shape
        refine wpAnyH_ready (rs := [11]) (by kernel_rfl) (by simp) ?_
        refine AllReadyH.cons (o := ?oz33) ?iz33 (fun K hK => ?kz33) AllReadyH.nil
        case iz33 => (simp only [List.getElem?_toArray, List.getElem?_cons_zero, List.getElem?_cons_succ]; rfl)
        go_simp
        change Calls _ _ #[insV I0 (.slice ad I0.l.length cap), _, .int .i64 a4] _ _
        refine (lexpand_any (w0 := V) (up := a4) (HR.out.below Bc.out) HW.out.rowB Bc.out HN1.out (by have := HLE.out; simp only [List.cons_append, List.nil_append, List.length_cons]; omega)).mono ?_
        rintro e w6 ⟨z, pb, pn, pc, rfl, hu, _, hb⟩
        refine held_more hK HS0.out hlt (Bc.out.trans (hb.mono Bc.out.size)) (fun Bc hSn => ?_)
        have HAP := Lib.hid (show ∀ g, z.ownBlock = some g → g ≠ bx from fun g hg e => by have h1 := (hu.lt g hg).1; have h2 := HN.out.lt; omega)
        have HNn := Lib.hid (HN.out.later hb)
        clear HN
        have HN := HNn
        clear HNn
        have HZ := Lib.hid hu
        clear hb hK hu HW
        unfold nodeV
        refine tks [12, 13, 14, 15] 4 rfl (by kernel_rfl) (fun _ _ _ _ h => h) (by assumption) (fun KT hKT => ?_)
        iterate 4 (refine tkT (by (simp only [gA, gB, gC]; rfl)) (by rfl) (by (intro w hSw; (simp only [Holds] at hSw); go_simp <;> with_reducible rfl)) ?_; simp only [Act.put, pA, pB, pC])
        refine hKT _ ?_
        clear KT hKT
        refine tks [17] 1 rfl (by kernel_rfl) (fun _ _ _ _ h => h) (by assumption) (fun KT hKT => ?_)
        refine tkT (by (simp only [gA, gB, gC]; rfl)) (by rfl) (by (intro w hSw; (simp only [Holds] at hSw); go_simp <;> with_reducible rfl)) ?_
        simp only [Act.put, pA, pB, pC]
        refine hKT _ ?_
        clear KT hKT
        refine wpAnyH_ready (rs := [18]) (by kernel_rfl) (by simp) ?_
        refine (AllReadyH.cons (o := ?oz34) ?iz34 (fun K hK => ?kz34) AllReadyH.nil)
        case iz34 => (simp only [List.getElem?_toArray, List.getElem?_cons_zero, List.getElem?_cons_succ]; rfl)
        simp only [Act.put]
        rw [if_pos (by rfl)]
        refine wp_store_node (.tmp 25) (.tmp 120) (by rfl) bx _ _ _ ⟨(bestV (bestL I0 (⟨s1, c1, l1.take c⟩ :: l3))).s, (bestV (bestL I0 (⟨s1, c1, l1.take c⟩ :: l3))).cost, pb, pn, pc⟩ (by rfl) (by rfl) HN.out ?_
        intro wE hE hbE hoE hgE
        refine held_more hK HS0.out hlt (Bc.out.trans (hbE _ HLX.out)) (fun Bc hSn => ?_)
        clear hK
        have HUE := Lib.hid ((HZ.out.keptN (fun e => HAP.out _ e rfl) hgE HN.out).row Bc.out)
        clear hE hbE hoE hgE HZ HAP HN
        refine tks [19] 1 rfl (by kernel_rfl) (fun _ _ _ _ h => h) (by assumption) (fun KT hKT => ?_)
        refine tkT (by (simp only [gA, gB, gC]; rfl)) (by rfl) (by (intro w hSw; (simp only [Holds] at hSw); go_simp <;> with_reducible rfl)) ?_
        simp only [Act.put, pA, pB, pC]
        refine hKT _ ?_
        clear KT hKT
        refine wpAnyH_done (by kernel_rfl) ?_ _
        go_wp2_with fail
        go_meet
        exact ⟨HUE.out, hM2d.out.later Bc.out, HB.out.trans (Bc.out.mono HB.out.size)⟩
    · skip
      have HSZ := Lib.hid Bc.out.size
      go_simp
      refine held_more hK HS0.out hlt (Bc.out.alloc Bc.out.size _) (fun Bc hSn => ?_)
      clear hK
      have HN := Lib.hid (nod_new V noughtS 0 (.slice none 0 0))
      change wpAnyH _ _ _ _ _ _ _ _ (V.alloc (boxN noughtS 0 (.slice none 0 0)))
      have Bc2 := Lib.hid (show Below V.heap.size V (V.alloc (boxN noughtS 0 (.slice none 0 0))) from Bc.out)
      clear Bc
      have Bc := Bc2
      clear Bc2
      change Holds _ (V.alloc (boxN noughtS 0 (.slice none 0 0))) at hSn
      generalize V.alloc (boxN noughtS 0 (.slice none 0 0)) = Xn at *
      obtain ⟨bx, hbx⟩ : ∃ bx, V.heap.size = bx := ⟨_, rfl⟩
      have HLX := Lib.hid (show V.heap.size ≤ bx by rw [← hbx]; exact HSZ.out)
      rw [hbx] at HN ⊢
      clear hbx HSZ
      have HSY := Lib.hid Bc.out.size
      obtain ⟨by1, hby⟩ : ∃ x, x = Xn.heap.size := ⟨_, rfl⟩
      refine wpAnyH_ready (rs := [7]) (by kernel_rfl) (by simp) ?_
      refine AllReadyH.cons (o := ?oz35) ?iz35 (fun K hK => ?kz35) AllReadyH.nil
      case iz35 => (simp only [List.getElem?_toArray, List.getElem?_cons_zero, List.getElem?_cons_succ]; rfl)
      go_simp
      refine held_more hK HS0.out hlt (Bc.out.alloc Bc.out.size _) (fun Bc hSn => ?_)
      have HW := Lib.hid (show OwnN V V.heap.size (Xn.alloc (boxN s1 c1 (.slice au c cu))) (.slice (some ⟨by1, 0, none⟩) 1 1) [⟨s1, c1, l1.take c⟩] from by rw [hby]; exact ⟨[⟨s1, c1, au, c, cu⟩], own_one HSY.out (nod_new Xn s1 c1 (.slice au c cu)), ⟨rfl, rfl, .inl (row_cut HUV.out c (Nat.le_of_lt HCL.out))⟩, trivial⟩)
      have HZN := Lib.hid (show by1 ≠ bx from fun e => by have := HN.out.lt; omega)
      have HNn := Lib.hid (HN.out.later ((Below.refl _ Xn).alloc (Nat.le_refl _) (boxN s1 c1 (.slice au c cu))))
      clear HN
      have HN := HNn
      clear HNn
      change wpAnyH _ _ _ _ _ _ _ _ (Xn.alloc (boxN s1 c1 (.slice au c cu)))
      have Bc2 := Lib.hid (show Below V.heap.size V (Xn.alloc (boxN s1 c1 (.slice au c cu))) from Bc.out)
      clear Bc
      have Bc := Bc2
      clear Bc2
      generalize Xn.alloc (boxN s1 c1 (.slice au c cu)) = Y at *
      rw [← hby]
      clear HSY hby
      refine wpAnyH_ready (rs := [9]) (by kernel_rfl) (by simp) ?_
      refine (AllReadyH.cons (o := ?oz36) ?iz36 (fun K hK => ?kz36) AllReadyH.nil)
      case iz36 => (simp only [List.getElem?_toArray, List.getElem?_cons_zero, List.getElem?_cons_succ]; rfl)
      simp only [Act.put, List.setIfInBounds_toArray, List.set_cons_zero, List.set_cons_succ]
      rw [if_pos (by rfl)]
      refine wp_app_nodes _ _ (by rfl) V.heap.size _ _ (by rfl) HW.out _ (by rfl) l3 (NRowB.below HLV.out Bc.out) (by have := HLE.out; (try simp only [List.length_cons, List.length_nil]); omega) Bc.out.size ?_
      intro av w7 hown hbb hgw
      have hbcw := Bc.out.trans hbb
      refine held_more hK HS0.out hlt hbcw (fun Bc hSn => ?_)
      have HWn := Lib.hid hown
      have HNn := Lib.hid (HN.out.stay hgw (fun e => HZN.out (by cases e; rfl)))
      clear HN
      have HN := HNn
      clear HNn HZN
      clear hK hown hbb hgw hbcw HW
      have HW := HWn
      clear HWn
      obtain ⟨ava, avc, rfl⟩ := HW.out.shape
      refine wpAnyH_ready (rs := [11]) (by kernel_rfl) (by simp) ?_
      refine AllReadyH.cons (o := ?oz37) ?iz37 (fun K hK => ?kz37) AllReadyH.nil
      case iz37 => (simp only [List.getElem?_toArray, List.getElem?_cons_zero, List.getElem?_cons_succ]; rfl)
      go_simp
      change Calls _ _ #[insV I0 (.slice ad I0.l.length cap), _, .int .i64 a4] _ _
      refine (lexpand_any (w0 := V) (up := a4) (HR.out.below Bc.out) HW.out.rowB Bc.out HN1.out (by have := HLE.out; simp only [List.cons_append, List.nil_append, List.length_cons]; omega)).mono ?_
      rintro e w6 ⟨z, pb, pn, pc, rfl, hu, _, hb⟩
      refine held_more hK HS0.out hlt (Bc.out.trans (hb.mono Bc.out.size)) (fun Bc hSn => ?_)
      have HAP := Lib.hid (show ∀ g, z.ownBlock = some g → g ≠ bx from fun g hg e => by have h1 := (hu.lt g hg).1; have h2 := HN.out.lt; omega)
      have HNn := Lib.hid (HN.out.later hb)
      clear HN
      have HN := HNn
      clear HNn
      have HZ := Lib.hid hu
      clear hb hK hu HW
      unfold nodeV
      refine tks [12, 13, 14, 15] 4 rfl (by kernel_rfl) (fun _ _ _ _ h => h) (by assumption) (fun KT hKT => ?_)
      iterate 4 (refine tkT (by (simp only [gA, gB, gC]; rfl)) (by rfl) (by (intro w hSw; (simp only [Holds] at hSw); go_simp <;> with_reducible rfl)) ?_; simp only [Act.put, pA, pB, pC])
      refine hKT _ ?_
      clear KT hKT
      refine tks [17] 1 rfl (by kernel_rfl) (fun _ _ _ _ h => h) (by assumption) (fun KT hKT => ?_)
      refine tkT (by (simp only [gA, gB, gC]; rfl)) (by rfl) (by (intro w hSw; (simp only [Holds] at hSw); go_simp <;> with_reducible rfl)) ?_
      simp only [Act.put, pA, pB, pC]
      refine hKT _ ?_
      clear KT hKT
      refine wpAnyH_ready (rs := [18]) (by kernel_rfl) (by simp) ?_
      refine (AllReadyH.cons (o := ?oz38) ?iz38 (fun K hK => ?kz38) AllReadyH.nil)
      case iz38 => (simp only [List.getElem?_toArray, List.getElem?_cons_zero, List.getElem?_cons_succ]; rfl)
      simp only [Act.put]
      rw [if_pos (by rfl)]
      refine wp_store_node (.tmp 25) (.tmp 120) (by rfl) bx _ _ _ ⟨(bestV (bestL I0 (⟨s1, c1, l1.take c⟩ :: l3))).s, (bestV (bestL I0 (⟨s1, c1, l1.take c⟩ :: l3))).cost, pb, pn, pc⟩ (by rfl) (by rfl) HN.out ?_
      intro wE hE hbE hoE hgE
      refine held_more hK HS0.out hlt (Bc.out.trans (hbE _ HLX.out)) (fun Bc hSn => ?_)
      clear hK
      have HUE := Lib.hid ((HZ.out.keptN (fun e => HAP.out _ e rfl) hgE HN.out).row Bc.out)
      clear hE hbE hoE hgE HZ HAP HN
      refine tks [19] 1 rfl (by kernel_rfl) (fun _ _ _ _ h => h) (by assumption) (fun KT hKT => ?_)
      refine tkT (by (simp only [gA, gB, gC]; rfl)) (by rfl) (by (intro w hSw; (simp only [Holds] at hSw); go_simp <;> with_reducible rfl)) ?_
      simp only [Act.put, pA, pB, pC]
      refine hKT _ ?_
      clear KT hKT
      refine wpAnyH_done (by kernel_rfl) ?_ _
      go_wp2_with fail
      go_meet
      exact ⟨HUE.out, hM2d.out.later Bc.out, HB.out.trans (Bc.out.mono HB.out.size)⟩
  case rest =>
  obtain ⟨f1, f2, f3⟩ := hcut
  have HZ := Lib.hid f1
  have HM := Lib.hid f2
  have HBZ := Lib.hid f3
  clear f1 f2 f3 HB HY HR HL HU
  obtain ⟨M, hM⟩ : ∃ M, expandL I0 a4 (⟨s1, c1, l1.take c⟩ :: l3) = M := ⟨_, rfl⟩
  rw [hM] at HZ HKE
  have HML := Lib.hid (show M.length ≤ 1000000 by rw [← hM]; have h1 := expand_le (I := I0) (up := a4) (l := ⟨s1, c1, l1.take c⟩ :: l3); have := HLE.out; rw [List.length_cons] at h1; omega)
  clear hM
  generalize wc = W9 at *
  obtain ⟨za, zc, rfl, _⟩ := HZ.out.form
  obtain ⟨ml, hml⟩ : ∃ m, M.length = m := ⟨_, rfl⟩
  rw [hml] at HZ HML ⊢
  have HLM := Lib.hid hml
  have hmlm : ml ≤ 9223372036854775807 := by have := HML.out; omega
  clear hml
  go_wp2_with fail
  go_loopw [27] (fun i wr => ∃ k : Nat, k ≤ ml ∧ i = .int .i64 k ∧ (∀ j, j < k → ¬ ((nodAt M j).s = s2 ∧ (nodAt M j).cost ≤ c2)) ∧ Below W9.heap.size W9 wr) (fun i _ => ml - (intOf i).toNat)
  case atStart => exact ⟨0, Nat.zero_le _, rfl, fun j hj => absurd hj (Nat.not_lt_zero _), Below.refl _ _⟩
  case round =>
    obtain ⟨k, hk, rfl, hno, hbw⟩ := hrel
    have HBW := Lib.hid hbw
    have HNO := Lib.hid hno
    clear hbw hno
    generalize wr = W1 at *
    by_cases hlt : k < ml
    rotate_left
    · exfalso
      obtain ⟨y, hy, h1, h2⟩ := HKE.out
      obtain ⟨i, hi, rfl⟩ := nod_in hy
      exact HNO.out i (by have := HLM.out; omega) ⟨h1, h2⟩
    have HK := Lib.hid hlt
    have hki : (k : Int) < (ml : Int) := by omega
    have hka : IntKind.i64.wrap ((k : Int) + 1) = ((k + 1 : Nat) : Int) := by rw [IntWalk.i64_in _ (by omega)]; omega
    obtain ⟨b1, o1, qa, qc, ha1, hn1, hl1, _⟩ := nrow_at (HZ.out.below HBW.out) k _ (nodAt_is (by rw [HLM.out]; exact hlt))
    subst ha1
    have HN3 := Lib.hid hn1
    have HL3 := Lib.hid hl1
    have HMk := Lib.hid (HM.out.later HBW.out)
    have HON := Lib.hid (show ¬ ((nodAt M k).s = s2 ∧ (nodAt M k).cost ≤ c2) → ∀ j, j < k + 1 → ¬ ((nodAt M j).s = s2 ∧ (nodAt M j).cost ≤ c2) from fun h j hj => by
      by_cases e : j = k
      · subst e; exact h
      · exact HNO.out j (by omega))
    obtain ⟨y, hy⟩ : ∃ y, nodAt M k = y := ⟨_, rfl⟩
    rw [hy] at HN3 HON
    clear hn1 hl1 hy hlt hk
    go_upto_region 13 with fail
    have HBD := Lib.hid HBW.out.drew
    have HL3v := Lib.hid (show b1 < W1.drew.heap.size from HL3.out)
    have HMkn := Lib.hid (HMk.out.later (Below.refl _ W1).drew)
    have HBWn := Lib.hid HBW.out.drew
    clear HMk HBW
    have HMk := HMkn
    have HBW := HBWn
    clear HMkn HBWn
    have HS0 := Lib.hid (show Holds ((cellsRN b1 (o1 + k * 10) y.s y.cost (.slice qa y.path.length qc)) ++ (cellsSt bn s2)) W1.drew from (Holds.app.2 ⟨holds_RN HN3.out, HMk.out.holds⟩))
    refine wp_region_held_drew (S := Holds ((cellsRN b1 (o1 + k * 10) y.s y.cost (.slice qa y.path.length qc)) ++ (cellsSt bn s2))) (by kernel_rfl) HS0.out (fun hSn => ?_)
    generalize W1.drew = V at *
    have hlt := Lib.hid (show Lows V.heap.size ((cellsRN b1 (o1 + k * 10) y.s y.cost (.slice qa y.path.length qc)) ++ (cellsSt bn s2)) from (Lows.app (lows_RN HL3v.out) (lows_St HMk.out.lt)))
    have Bc := Lib.hid (Below.refl V.heap.size V)
    simp only [cellsRN, cellsSt, List.cons_append, List.nil_append] at HS0 hlt hSn ⊢
    have kg := guardSta
    by_cases e1 : y.s = s2
    rotate_left
    · have keq := fun w => equalSta y.s s2 w
      rw [decide_eq_false e1] at keq
      have HQ := Lib.hid (HON.out (fun h => e1 h.1))
      clear e1
      refine tks [0, 1, 2, 3, 4, 5, 6, 7] 8 rfl (by kernel_rfl) (fun _ _ _ _ h => h) (by assumption) (fun KT hKT => ?_)
      iterate 8 (refine tkT (by (simp only [gA, gB, gC]; rfl)) (by rfl) (by (intro w hSw; (simp only [Holds] at hSw); go_simp <;> with_reducible rfl)) ?_; simp only [Act.put, pA, pB, pC])
      refine hKT _ ?_
      clear KT hKT
      refine tks [8, 9, 10, 11, 12, 13, 14] 7 rfl (by kernel_rfl) (fun _ _ _ _ h => h) (by assumption) (fun KT hKT => ?_)
      iterate 7 (refine tkS (by (simp only [gA, gB, gC]; rfl)) (by rfl) ?_; simp only [Act.put, pA, pB, pC])
      refine hKT _ ?_
      clear KT hKT
      refine tks [15] 1 rfl (by kernel_rfl) (fun _ _ _ _ h => h) (by assumption) (fun KT hKT => ?_)
      refine tkT (by (simp only [gA, gB, gC]; rfl)) (by rfl) (by (intro w hSw; (simp only [Holds] at hSw); go_simp <;> with_reducible rfl)) ?_
      simp only [Act.put, pA, pB, pC]
      refine hKT _ ?_
      clear KT hKT
      refine wpAnyH_done (by kernel_rfl) ?_ _
      go_wp2_with fail
      go_roundw
      case rel => exact ⟨k + 1, HK.out, by go_num, HQ.out, HBD.out⟩
      case measure => have := HK.out; simp [intOf]; omega
    have keq := fun w => equalSta y.s s2 w
    rw [decide_eq_true e1] at keq
    by_cases e2 : y.cost ≤ c2
    rotate_left
    · have d2 := decide_eq_false e2
      have HQ := Lib.hid (HON.out (fun h => e2 h.2))
      clear e1 e2
      refine tks [0, 1, 2, 3, 4, 5, 6, 7, 8, 9, 10, 11, 12, 13, 14, 15] 16 rfl (by kernel_rfl) (fun _ _ _ _ h => h) (by assumption) (fun KT hKT => ?_)
      iterate 16 (refine tkT (by (simp only [gA, gB, gC]; rfl)) (by rfl) (by (intro w hSw; (simp only [Holds] at hSw); go_simp <;> with_reducible rfl)) ?_; simp only [Act.put, pA, pB, pC])
      refine hKT _ ?_
      clear KT hKT
      refine wpAnyH_done (by kernel_rfl) ?_ _
      go_wp2_with fail
      go_roundw
      case rel => exact ⟨k + 1, HK.out, by go_num, HQ.out, HBD.out⟩
      case measure => have := HK.out; simp [intOf]; omega
    have d2 := decide_eq_true e2
    clear e1 e2
    refine tks [0, 1, 2, 3, 4, 5, 6, 7, 8, 9, 10, 11, 12, 13, 14, 15] 16 rfl (by kernel_rfl) (fun _ _ _ _ h => h) (by assumption) (fun KT hKT => ?_)
    iterate 16 (refine tkT (by (simp only [gA, gB, gC]; rfl)) (by rfl) (by (intro w hSw; (simp only [Holds] at hSw); go_simp <;> with_reducible rfl)) ?_; simp only [Act.put, pA, pB, pC])
    refine hKT _ ?_
    clear KT hKT
    refine wpAnyH_done (by kernel_rfl) ?_ _
    go_wp2
    go_ret
    exact ⟨rfl, HBZ.out.trans (HBD.out.mono HBZ.out.size)⟩

set_option maxRecDepth 100000 in
theorem lifted (os : Os) (started : os.Started) (H : Type) (enc : TypeId × Value → H) :
    ReturnsInHanded {} Try.checked os 3 .any (Rows.levelKeepsSpec.pre6 enc Try.prog Try.f3 Rows.levelKeepsRow.domain false) (Rows.levelKeepsSpec.post enc Try.prog Try.f3 false true false false) := by
  refine returnsInHanded_of_change (C := Try.checked) own started (by kernel_rfl) Try.func3
    (ChangeSpec.witness6 (enc := enc) (C := Try.checked) false ⟨#[], #[.agg #[.int .i64 0, .int .i64 0, .int .i64 0, .slice none 0 0], .slice none 0 0, .int .i64 0, .slice none 0 0, .int .i64 0], []⟩ 8 (by kernel_rfl) (by kernel_rfl) (by kernel_rfl) (by kernel_rfl)) ?_
  intro W base args ds gs before hval0 hW hcnd _
  have hval : ∀ (j : Nat) t v, Try.f3.params[j]? = some t → args[j]? = some v → Value.okWide Try.prog W .any base t v := hval0
  have hW' := hW
  obtain ⟨p, q, hA0, hV, rfl, hfz, hnd⟩ := hW
  have hA : DataW.TrodAll enc Try.prog W 0 (fun _ => true) true Try.f3.params.toList args.toList ds p := hA0
  rw [Try.params3] at hA hval
  obtain ⟨v0, vs0, d0, ds0, p0, q0, hargs, rfl, rfl, h0, r0⟩ := trodAll_cons hA
  obtain ⟨v1, vs1, d1, ds1, p1, q1, rfl, rfl, rfl, h1, r1⟩ := trodAll_cons r0
  obtain ⟨v2, vs2, d2, ds2, p2, q2, rfl, rfl, rfl, h2, r2⟩ := trodAll_cons r1
  obtain ⟨v3, vs3, d3, ds3, p3, q3, rfl, rfl, rfl, h3, r3⟩ := trodAll_cons r2
  obtain ⟨v4, vs4, d4, ds4, p4, q4, rfl, rfl, rfl, h4, r4⟩ := trodAll_cons r3
  obtain ⟨rfl, rfl, rfl⟩ := trodAll_nil r4
  obtain rfl : args = #[v0, v1, v2, v3, v4] := by cases args; simp_all
  obtain ⟨rfl, rfl⟩ := trodVars_none hV
  have k0 := h0
  have lt0 : ∀ x ∈ p0, x.block < W.heap.size := by obtain ⟨m, hm⟩ := k0; exact DataW.trod_lt m _ _ _ hm
  have k1 := h1
  have lt1 : ∀ x ∈ p1, x.block < W.heap.size := by obtain ⟨m, hm⟩ := k1; exact DataW.trod_lt m _ _ _ hm
  have k2 := h2
  have lt2 : ∀ x ∈ p2, x.block < W.heap.size := by obtain ⟨m, hm⟩ := k2; exact DataW.trod_lt m _ _ _ hm
  have k3 := h3
  have lt3 : ∀ x ∈ p3, x.block < W.heap.size := by obtain ⟨m, hm⟩ := k3; exact DataW.trod_lt m _ _ _ hm
  have k4 := h4
  have lt4 : ∀ x ∈ p4, x.block < W.heap.size := by obtain ⟨m, hm⟩ := k4; exact DataW.trod_lt m _ _ _ hm
  obtain ⟨I0, u0, rfl, e0, _⟩ := open_inst (hval 0 24 v0 rfl rfl) h0
  obtain ⟨a1, len1, cap1, rfl⟩ := okWide_slice Try.underlying25 (hval 1 25 v1 rfl rfl)
  obtain ⟨l1, e1, _⟩ := uopen_row h1
  obtain ⟨a2, rfl, rfl, rfl, i2⟩ := open_int Try.underlying3 (hval 2 3 v2 rfl rfl) h2
  obtain ⟨a3, len3, cap3, rfl⟩ := okWide_slice Try.underlying26 (hval 3 26 v3 rfl rfl)
  obtain ⟨l3, e3, f3⟩ := open_nodes h3
  obtain ⟨a4, rfl, rfl, rfl, i4⟩ := open_int Try.underlying3 (hval 4 3 v4 rfl rfl) h4
  clear hA0 hval0
  refine (walk I0 _ _ l1 a2 _ l3 a4 W e0 e1 e3 f3).mono fun e W' ⟨he, bel⟩ => ?_
  subst he
  exact ⟨_, rfl, _, _, _, [], _, [], hW', trodAll_mk1 (shut_bool Try.underlying4 _), (trodAll_cons_mk (Below.trod laidOut (by kernel_rfl) (of_decide_eq_true (by kernel_rfl)) k0 bel lt0) (trodAll_cons_mk (Below.trod laidOut (by kernel_rfl) (of_decide_eq_true (by kernel_rfl)) k1 bel lt1) (trodAll_cons_mk (Below.trod laidOut (by kernel_rfl) (of_decide_eq_true (by kernel_rfl)) k2 bel lt2) (trodAll_cons_mk (Below.trod laidOut (by kernel_rfl) (of_decide_eq_true (by kernel_rfl)) k3 bel lt3) (trodAll_cons_mk (Below.trod laidOut (by kernel_rfl) (of_decide_eq_true (by kernel_rfl)) k4 bel lt4) trodAll_mk0))))), rfl, bel.frame _, fun h => by cases h⟩

theorem over : Rows.levelKeepsRow.holds Try.pinned (OpenSpec.ofChange Rows.levelKeepsSpec) :=
  OpenClaim.holds_of_wide 3 Try.f3 rfl rfl rfl rfl rfl rfl rfl ⟨rfl, rfl, rfl, rfl, rfl⟩ rfl rfl rfl rfl rfl (by kernel_rfl) Try.func3 (by kernel_rfl)
    (of_decide_eq_true (by kernel_rfl)) (by unfold Func.isWrapper; first | (rw [if_pos (by decide +kernel)]; kernel_rfl) | (rw [if_neg (by decide +kernel)]; exact ⟨rfl, rfl⟩))
    (fun os started H enc _ => lifted os started H enc)

theorem proved : Rows.LevelKeepsSaid := over
#print axioms proved
end Go.Proofs.Ytkljmnfekdoocaa.levelKeeps
