/- A plan that may be may not be without one of its routes, nor with one twice; no route goes further than all: for every instance, every plan and every number (the law answers true at once for more than 33 stops, 40 routes, 100 stops of a route). -/
import Derived.Test.YtpdeffpmfbplnaaDoorXVD
import Derived.Test.YtpdeffpmfbplnaaDoorRows
import Derived.Test.YtpdeffpmfbplnaaDoorTie
import Derived.Test.YtpdeffpmfbplnaaDoorCards
import Derived.Test.YtpdeffpmfbplnaaDoorXPrint
import Derived.SevenTiedAt
import Derived.Test.YtpdeffpmfbplnaaDoorVVals
import Derived.Test.YtpdeffpmfbplnaaDoorVAwake
import Derived.Test.YtpdeffpmfbplnaaDoorXVB
namespace Go.Proofs.YtpdeffpmfbplnaaDoor.planSplit
open Go.ChangeShapes Go.WideShapes Go.ChangeAt Go.RowKit

theorem whole_len {I : Ins} {L : List (List Int)} (h : costE I L = 0) : (L.flatten.length : Int) = 2 * I.p := by
  obtain ⟨h1, _, h3, h4, h5⟩ := costE_ok h
  have hr := flat_rng h3
  have hp := (fine_of h1).p0
  have := rng_len (n := (2 * I.p).toNat) h4 (fun i hi => by have := hr i hi; omega)
  omega
theorem farS_mem {I : Ins} {l : List Int} : ∀ {L : List (List Int)}, firstE I L = 0 → l ∈ L → farT I l ≤ farS I L := by
  intro L
  induction L with
  | nil => intro _ h; cases h
  | cons x L ih =>
    intro h hl
    have ha := (firstE_zero I (x :: L)).1 h
    have hL : firstE I L = 0 := (firstE_zero I L).2 (fun y hy => ha y (List.mem_cons_of_mem _ hy))
    have h0 := far_bds (errR_zero (ha x List.mem_cons_self)).2
    have h1 := farS_bds L hL
    simp only [farS]
    rcases List.mem_cons.1 hl with rfl | h2
    · omega
    · have := ih hL h2; omega
theorem split_at {L : List (List Int)} {k : Nat} (hk : k < L.length) : L = L.take k ++ L.getD k [] :: L.drop (k + 1) := by
  rw [List.getD_eq_getElem?_getD, List.getElem?_eq_getElem hk]
  simp only [Option.getD_some]
  rw [← List.drop_eq_getElem_cons hk, List.take_append_drop]
/-- Without one of its routes a plan lacks stops. -/
theorem cost_less {I : Ins} {L : List (List Int)} {k : Nat} (hc : costE I L = 0) (hk : k < L.length) : costE I (L.eraseIdx k) = 4 := by
  obtain ⟨h1, h2, h3, h4, h5⟩ := costE_ok hc
  have hw := whole_len hc
  have hs := split_at hk
  have hx : L.getD k [] ∈ L := by rw [List.getD_eq_getElem?_getD, List.getElem?_eq_getElem hk]; exact List.getElem_mem hk
  have hn := (errR_zero ((firstE_zero I L).1 h3 _ hx)).1
  have hp := List.length_pos_iff.2 hn
  have hsub : (L.eraseIdx k).Sublist L := List.eraseIdx_sublist _ _
  have hf : firstE I (L.eraseIdx k) = 0 := (firstE_zero I _).2 (fun l hl => (firstE_zero I L).1 h3 l (hsub.subset hl))
  have hl := hsub.length_le
  rw [costE_of h1 (by omega) hf]
  have he : (L.eraseIdx k).flatten = (L.take k).flatten ++ (L.drop (k + 1)).flatten := by rw [List.eraseIdx_eq_take_drop_succ, List.flatten_append]
  have hF : L.flatten = (L.take k).flatten ++ (L.getD k [] ++ (L.drop (k + 1)).flatten) := by
    conv => lhs; rw [hs]
    rw [List.flatten_append, List.flatten_cons]
  have hd : ((L.take k).flatten ++ (L.drop (k + 1)).flatten).Sublist L.flatten := by
    rw [hF]
    exact List.Sublist.append (List.Sublist.refl _) (List.sublist_append_right _ _)
  rw [he]
  refine togE_none (h4.sublist hd) ?_
  have hlF := congrArg List.length hF
  simp only [List.length_append] at hlF ⊢
  omega
/-- With a route twice: too many, or a stop twice. -/
theorem cost_more {I : Ins} {L : List (List Int)} {k : Nat} (hc : costE I L = 0) (hk : k < L.length) : costE I (L ++ [L.getD k []]) = 5 ∨ costE I (L ++ [L.getD k []]) = 6 := by
  obtain ⟨h1, h2, h3, h4, h5⟩ := costE_ok hc
  have hx : L.getD k [] ∈ L := by rw [List.getD_eq_getElem?_getD, List.getElem?_eq_getElem hk]; exact List.getElem_mem hk
  have hn := (errR_zero ((firstE_zero I L).1 h3 _ hx)).1
  by_cases hcar : I.c < (L.length : Int) + 1
  · right
    unfold costE
    rw [if_neg (by simp [h1]), if_pos (by simp only [List.length_append, List.length_singleton]; omega)]
  · left
    have hf : firstE I (L ++ [L.getD k []]) = 0 := (firstE_zero I _).2 (fun l hl => by
      rcases List.mem_append.1 hl with h | h
      · exact (firstE_zero I L).1 h3 l h
      · rw [List.mem_singleton.1 h]; exact (firstE_zero I L).1 h3 _ hx)
    rw [costE_of h1 (by simp only [List.length_append, List.length_singleton]; omega) hf]
    refine togE_twice (fun hnd => ?_)
    rw [flat_snoc] at hnd
    obtain ⟨y, hy⟩ := List.exists_mem_of_ne_nil _ hn
    exact (List.nodup_append.1 hnd).2.2 y (List.mem_flatten.2 ⟨_, hx, hy⟩) y hy rfl
theorem drop_same {L : List (List Int)} {k : Nat} (hk : k < L.length) : (L.take (k + 1)).eraseIdx k = (L.take k).eraseIdx k := by
  have h : (L.take k).length = k := by rw [List.length_take]; omega
  rw [take_getD hk, List.eraseIdx_append_of_length_le (by omega), h, Nat.sub_self, List.eraseIdx_of_length_le (l := L.take k) (by omega)]
  simp
theorem drop_more {L : List (List Int)} {k i : Nat} (hi : i < L.length) (hk : i ≠ k) : (L.take (i + 1)).eraseIdx k = (L.take i).eraseIdx k ++ [L.getD i []] := by
  rw [take_getD hi]
  by_cases h : i < k
  · rw [List.eraseIdx_of_length_le (by rw [List.length_append, List.length_take, List.length_singleton]; omega), List.eraseIdx_of_length_le (by rw [List.length_take]; omega)]
  · rw [List.eraseIdx_append_of_lt_length (by rw [List.length_take]; omega)]
/-- All values of a row put behind nothing, at a step of a drawn region. -/
theorem wp_app_all {w : World} {o : Oper} {a : Act} {K : Act → World → Prop} {Q : Exit → Act → World → Prop} (s x : Operand)
    (ho : o.op = .call { callee := .builtin .append, args := #[s, x], argTypes := #[25, 25] }) (B : Nat) (vs : List Value) (hs : a.eval s = .slice none 0 0)
    (u : Value) (hx : a.eval x = u) (hu : Row w u vs) (one : ∀ y ∈ vs, y.oneCell' = true) (hlen : vs.length ≤ 1000000) (h0 : 0 < vs.length) (hB : B ≤ w.heap.size)
    (h : ∀ gg cap w', OwnV w' B (.slice (some ⟨gg, 0, none⟩) vs.length cap) vs → w.grownBy w' none → K (a.put o.dst (.slice (some ⟨gg, 0, none⟩) vs.length cap)) w') : o.wp Tryd.prog a w K Q := by
  obtain ⟨i0, hi, hz0, hz1, hz2⟩ := info_parts infoInts
  obtain ⟨hm, a0, cap0, rfl, hc, hc2, hd⟩ := hu
  rcases hd with rfl | ⟨b, off, rfl, hcl⟩
  · simp at h0
  refine wp_append_lies w s x 25 ho B 42 i0 _ 1 24 Tryd.underlying25 hi hz0 hz1 hz2 rfl (by decide) (.slice none 0 0) 0 [] hs (ownV_nil w B) ⟨b, off, none⟩ vs.length cap0 vs hx (by simp) ?_ one (by omega) (by unfold maxLen; omega) (by omega) hB _ rfl ?_
  · intro j y hj
    have hjl : j < vs.length := (List.getElem?_eq_some_iff.1 hj).1
    rw [add_off, hcl j hjl, hj]
  · intro g' cap w' h1 h2 _ _
    have h1' : OwnV w' B (.slice (some ⟨g', 0, none⟩) vs.length cap) vs := by
      have := h1
      rw [Nat.zero_add] at this
      exact this
    have h3 := h g' cap w' h1' h2
    rw [Nat.zero_add]
    exact h3
theorem in_one {w : World} : ∀ {vs : List Value} {L : List (List Int)}, In w vs L → ∀ y ∈ vs, y.oneCell' = true
  | [], [], _, y, hy => by cases hy
  | v :: vs, l :: L, h, y, hy => by
    rcases List.mem_cons.1 hy with rfl | hy
    · obtain ⟨a, cap, rfl, _⟩ := h.1.form; rfl
    · exact in_one h.2 y hy
  | [], _ :: _, h, _, _ => h.elim
  | _ :: _, [], h, _, _ => h.elim
theorem own_set {w : World} {B : Nat} {v : Value} {vs : List Value} (h : OwnV w B v vs) (N : Nat) (hN : v.ownBlock ≠ some N) (x : Value) : OwnV (w.setCell ⟨N, 0, none⟩ x) B v vs := by
  refine World.ownsRow.kept (row := some N) h ⟨rfl, rfl, rfl, by simp [World.setCell], fun k _ hk => heap_setCell_other w ⟨N, 0, none⟩ k _ (fun e => hk (by rw [e]))⟩ ?_
  cases hb : v.ownBlock with
  | none => exact .inl rfl
  | some g => exact .inr (fun e => hN (hb.trans e))
set_option maxRecDepth 1000000 in
set_option maxHeartbeats 4000000 in
theorem walk (I0 : Ins) (v0 : Value) (v1 : Value) (l1 : List (List Int)) (a2 : Int) (w : World) (e0 : SRow w v0 I0.l) (e1 : IsLL w v1 l1) (hT : Tab w.heap.size w) :
    Calls Tryd.prog 8 #[insV I0 v0, planV v1, .int .i64 a2] w fun e w' => e = .returned (.bool true) ∧ Below w.heap.size w w' := by
  have HT := Lib.hid hT
  have HE := Lib.hid e0
  have HP := Lib.hid e1
  obtain ⟨ad, cap, rfl, hm, _⟩ := e0.form
  obtain ⟨la, lc, rfl, hlm⟩ := e1.form
  have hm1 : I0.l.length ≤ 9223372036854775807 := by unfold maxLen at hm; omega
  have hlm1 : l1.length ≤ 9223372036854775807 := by unfold maxLen at hlm; omega
  obtain ⟨hy, hx, hb, hsz⟩ := worldC_facts w I0 (.slice ad I0.l.length cap) (.slice la l1.length lc)
  have HY := Lib.hid hy
  have HX := Lib.hid (show PBox _ _ _ from hx)
  have HB := Lib.hid hb
  have HSZ := Lib.hid hsz
  clear hT e0 e1 hm hlm hy hx hb hsz
  unfold insV planV
  go_enter Tryd.func8, Tryd.ntmps8
  go_upto_region 1 with fail
  change Code.wp _ _ _ _ (worldC w I0 (.slice ad I0.l.length cap) (.slice la l1.length lc))
  generalize worldC w I0 (.slice ad I0.l.length cap) (.slice la l1.length lc) = W at *
  go_wp2_with fail
  refine (vawake_any ((HT.out.on HB.out).up HB.out.size)).mono ?_
  rintro e w1 ⟨rfl, hb⟩
  have HB1 := Lib.hid (HB.out.trans (hb.mono HB.out.size))
  have HY1 := Lib.hid (HY.out.later hb)
  have HX1 := Lib.hid (HX.out.later hb)
  have HSZ1 := Lib.hid (show w.heap.size + 2 ≤ w1.heap.size by have := HSZ.out; have := hb.size; omega)
  have x0 := HX1.out.cell
  clear hb
  go_wp2_with fail
  change Calls _ _ #[planV (.slice la l1.length lc)] _ _
  refine (vfew_any (HP.out.below HB1.out)).mono ?_
  rintro e w2 ⟨rfl, hb⟩
  have HB2 := Lib.hid (HB1.out.trans (hb.mono HB1.out.size))
  have HY2 := Lib.hid (HY1.out.later hb)
  have HX2 := Lib.hid (HX1.out.later hb)
  have HSZ2 := Lib.hid (show w.heap.size + 2 ≤ w2.heap.size by have := HSZ1.out; have := hb.size; omega)
  clear hb x0
  obtain ⟨c0, c1, c2, c3⟩ := HY2.out.cells
  have x0 := HX2.out.cell
  obtain ⟨few, hfew⟩ : ∃ few, decide (FewP l1) = few := ⟨_, rfl⟩
  have HFW := Lib.hid hfew
  rw [hfew]
  clear hfew
  go_wp2_with fail
  change Calls _ _ #[insV I0 (.slice ad I0.l.length cap), planV (.slice la l1.length lc)] _ _
  refine (cost_any (HE.out.below HB2.out) (HP.out.below HB2.out)).mono ?_
  rintro e w3 ⟨rfl, hb⟩
  have HB3 := Lib.hid (HB2.out.trans (hb.mono HB2.out.size))
  have HY3 := Lib.hid (HY2.out.later hb)
  have HX3 := Lib.hid (HX2.out.later hb)
  have HSZ3 := Lib.hid (show w.heap.size + 2 ≤ w3.heap.size by have := HSZ2.out; have := hb.size; omega)
  clear hb x0 c0 c1 c2 c3
  obtain ⟨c0, c1, c2, c3⟩ := HY3.out.cells
  have x0 := HX3.out.cell
  cases few with
  | false =>
    generalize costN I0 l1 = cn
    generalize costE I0 l1 = ce
    go_wp2
    go_ret
    exact ⟨rfl, HB3.out⟩
  | true =>
    have hfew : FewP l1 := of_decide_eq_true HFW.out
    have HW := Lib.hid hfew
    clear hfew HFW
    by_cases hlen : 33 < I0.l.length
    · have hlen2 : (33 : Int) < (I0.l.length : Int) := by omega
      generalize costN I0 l1 = cn
      generalize costE I0 l1 = ce
      go_wp2
      go_ret
      exact ⟨rfl, HB3.out⟩
    have hlen2 : ¬ (33 : Int) < (I0.l.length : Int) := by omega
    obtain ⟨ce, hce⟩ : ∃ ce, costE I0 l1 = ce := ⟨_, rfl⟩
    rw [hce]
    by_cases hce0 : ce = 0
    rotate_left
    · have hce1 : (ce != 0) = true := by simpa using hce0
      generalize costN I0 l1 = cn
      clear hce
      go_wp2
      go_ret
      exact ⟨rfl, HB3.out⟩
    have hc0 : costE I0 l1 = 0 := by rw [hce, hce0]
    have HC0 := Lib.hid hc0
    have HC := Lib.hid (costE_ok hc0)
    have HN := Lib.hid (costN_ok hc0)
    rw [HN.out]
    clear hce hc0
    subst hce0
    by_cases hneg : a2 < 0
    · generalize farS I0 l1 = cn
      go_wp2
      go_ret
      exact ⟨rfl, HB3.out⟩
    obtain ⟨k, hk⟩ : ∃ k : Nat, a2 = (k : Int) := ⟨a2.toNat, by omega⟩
    subst hk
    have hneg2 : ¬ (k : Int) < 0 := by omega
    by_cases hkl : l1.length ≤ k
    · have hkl2 : (l1.length : Int) ≤ (k : Int) := by omega
      generalize farS I0 l1 = cn
      go_wp2
      go_ret
      exact ⟨rfl, HB3.out⟩
    have hkl2 : ¬ (l1.length : Int) ≤ (k : Int) := by omega
    have hkl3 : k < l1.length := by omega
    have hkl4 : (k : Int) < (l1.length : Int) := by omega
    have hd33 : decide ((33 : Int) < (I0.l.length : Int)) = false := decide_eq_false hlen2
    have hdk0 : decide ((k : Int) < 0) = false := decide_eq_false hneg2
    have hdkl : decide ((l1.length : Int) ≤ (k : Int)) = false := decide_eq_false hkl2
    have HLE := Lib.hid (cost_less HC0.out hkl3)
    have HMO := Lib.hid (cost_more HC0.out hkl3)
    have hkm : l1.getD k [] ∈ l1 := by rw [List.getD_eq_getElem?_getD, List.getElem?_eq_getElem hkl3]; exact List.getElem_mem hkl3
    have HFA := Lib.hid (farS_mem HC.out.2.2.1 hkm)
    have HER := Lib.hid (errR_zero ((firstE_zero I0 l1).1 HC.out.2.2.1 _ hkm))
    obtain ⟨tb, off, a1, n1, d1, rfl, htb, hcw, hn1, hmx, hrow⟩ := ll_at HP.out k hkl3
    have hcl := (HB3.out.cell (p := ⟨tb, off + k, none⟩) htb).trans hcw
    have HCW := Lib.hid hcw
    have HRow := Lib.hid hrow
    have HTB := Lib.hid htb
    obtain ⟨lk, hlk⟩ : ∃ lk, l1.getD k [] = lk := ⟨_, rfl⟩
    rw [hlk] at HRow HER HFA HMO
    clear hlk
    have he0 := HER.out.2
    obtain ⟨ft, hft⟩ : ∃ ft, farT I0 lk = ft := ⟨_, rfl⟩
    have HFN := Lib.hid (show ft ≤ farS I0 l1 by rw [← hft]; exact HFA.out)
    clear HFA
    have hszw3 : w.heap.size ≤ w3.heap.size := HB3.out.size
    have htr : tb < w3.heap.size := by omega
    have hnx : w.heap.size + 1 < w3.heap.size := HX3.out.lt
    obtain ⟨vs0, hv0, hin0⟩ : ∃ vs0, Row w (.slice (some ⟨tb, off, none⟩) l1.length lc) vs0 ∧ In w vs0 l1 := HP.out
    have HV0 := Lib.hid hv0
    have HI0 := Lib.hid hin0
    clear hkm hcw hn1 hmx hrow hneg hkl htb hv0 hin0 hlen
    generalize farS I0 l1 = cn at *
    go_upto_region 6 with fail
    have HS0 := Lib.hid (show Holds (cellsI w.heap.size I0 (.slice ad I0.l.length cap) ++ [(⟨w.heap.size + 1, 0, none⟩, .slice (some ⟨tb, off, none⟩) l1.length lc), (⟨tb, off + k, none⟩, .slice a1 n1 d1)]) w3.drew from Holds.app.2 ⟨⟨c0, c1, c2, c3, trivial⟩, x0, hcl, trivial⟩)
    have hlt := Lib.hid (show Lows w3.drew.heap.size (cellsI w.heap.size I0 (.slice ad I0.l.length cap) ++ [(⟨w.heap.size + 1, 0, none⟩, .slice (some ⟨tb, off, none⟩) l1.length lc), (⟨tb, off + k, none⟩, .slice a1 n1 d1)]) from ⟨by show w.heap.size < w3.heap.size; omega, by show w.heap.size < w3.heap.size; omega, by show w.heap.size < w3.heap.size; omega, by show w.heap.size < w3.heap.size; omega, by show w.heap.size + 1 < w3.heap.size; omega, htr, trivial⟩)
    clear c0 c1 c2 c3 x0 hcl
    refine wp_region_held_drew (S := Holds (cellsI w.heap.size I0 (.slice ad I0.l.length cap) ++ [(⟨w.heap.size + 1, 0, none⟩, .slice (some ⟨tb, off, none⟩) l1.length lc), (⟨tb, off + k, none⟩, .slice a1 n1 d1)])) (by kernel_rfl) HS0.out (fun hSn => ?_)
    have Bc := Lib.hid (Below.refl w3.drew.heap.size w3.drew)
    simp only [cellsI, List.cons_append, List.nil_append] at HS0 hlt hSn ⊢
    refine tks [0, 1, 2, 3, 4, 5] 6 rfl (by kernel_rfl) (fun _ _ _ _ h => h) (by assumption) (fun KT hKT => ?_)
    iterate 6 (refine tkT (by (simp only [gA, gB, gC]; rfl)) (by rfl) (by (intro w hSw; (simp only [Holds] at hSw); go_simp <;> with_reducible rfl)) ?_; simp only [Act.put, pA, pB, pC])
    refine hKT _ ?_
    clear KT hKT
    refine wpAnyH_ready (rs := [6]) (by kernel_rfl) (by simp) ?_
    refine AllReadyH.cons (o := ?oz20) ?iz20 (fun K hK => ?kz20) AllReadyH.nil
    case iz20 => (simp only [List.getElem?_toArray, List.getElem?_cons_zero, List.getElem?_cons_succ]; rfl)
    go_simp
    change Calls _ _ #[insV I0 (.slice ad I0.l.length cap), _] _ _
    refine (times_any ((HE.out.below HB3.out).below ((Below.refl w3.heap.size w3).drew.trans Bc.out)) ((HRow.out.below HB3.out).below ((Below.refl w3.heap.size w3).drew.trans Bc.out))).mono ?_
    rw [hft, he0]
    rintro e w4 ⟨tu, rfl, _, hb⟩
    refine held_more hK HS0.out hlt (Bc.out.trans (hb.mono Bc.out.size)) (fun Bc hSn => ?_)
    clear hb hK
    refine tks [7, 8, 9, 10, 11, 12, 13] 7 rfl (by kernel_rfl) (fun _ _ _ _ h => h) (by assumption) (fun KT hKT => ?_)
    iterate 7 (refine tkT (by (simp only [gA, gB, gC]; rfl)) (by rfl) (by (intro w hSw; (simp only [Holds] at hSw); go_simp <;> with_reducible rfl)) ?_; simp only [Act.put, pA, pB, pC])
    refine hKT _ ?_
    clear KT hKT
    refine wpAnyH_done (by kernel_rfl) ?_ _
    have HB34 := Lib.hid ((Below.refl w3.heap.size w3).drew.trans Bc.out)
    have HB4' := Lib.hid (HB3.out.trans (HB34.out.mono HB3.out.size))
    have HY4' := Lib.hid (HY3.out.later HB34.out)
    have HX4' := Lib.hid (HX3.out.later HB34.out)
    clear HS0 hlt hSn Bc hft he0
    have HBq := (Below.refl w4.heap.size w4).alloc (Nat.le_refl _) (.cells #[.slice none 0 0] 27)
    have HB4 := Lib.hid (HB4'.out.alloc HB4'.out.size (.cells #[.slice none 0 0] 27))
    have HY4 := Lib.hid (HY4'.out.later HBq)
    have HX4 := Lib.hid (HX4'.out.later HBq)
    have HXQ := Lib.hid (pbox_new w4 (.slice none 0 0))
    have hnx : w.heap.size + 1 < w4.heap.size := HX4'.out.lt
    have hsz4 : (w4.alloc (.cells #[.slice none 0 0] 27)).heap.size = w4.heap.size + 1 := by simp
    clear HBq
    go_upto_region 8 with fail
    generalize w4.alloc (.cells #[.slice none 0 0] 27) = W4 at *
    have hszw2 : w.heap.size ≤ w4.heap.size := HB4'.out.size
    generalize w4.heap.size = NQ at *
    go_wp2_with fail
    go_loopw [15] (fun iv wr => ∃ (i : Nat) (qv : Value) (vs : List Value), i ≤ l1.length ∧ iv = .int .i64 i ∧ PBox wr NQ qv ∧ OwnV wr (NQ + 1) qv vs ∧ In w vs ((l1.take i).eraseIdx k) ∧ Below w.heap.size w wr ∧ Below NQ W4 wr) (fun iv _ => l1.length - (intOf iv).toNat)
    case atStart => exact ⟨0, .slice none 0 0, [], Nat.zero_le _, rfl, HXQ.out, ownV_nil _ _, by simp [In], HB4.out, Below.refl _ _⟩
    case round =>
      obtain ⟨i, qv, vs, hi, rfl, hxq, hov, hin, hbw, hbw1⟩ := hrel
      have HXq := Lib.hid hxq
      have HOV := Lib.hid hov
      have HIN := Lib.hid hin
      have HBr := Lib.hid hbw
      have HBr1 := Lib.hid hbw1
      have HYr := Lib.hid (HY4.out.below (M := NQ) (by omega) hbw1)
      have HXr := Lib.hid (HX4.out.below (M := NQ) (by omega) hbw1)
      have hlq := hxq.lt
      have x0 := HXr.out.cell
      by_cases hlt : i < l1.length
      · have hlt2 : (i : Int) < (l1.length : Int) := by omega
        by_cases hik : i = k
        · subst hik
          have hik2 : ((i : Int) != (i : Int)) = false := by simp
          have HDR := Lib.hid (drop_same hlt)
          have HIN7 := Lib.hid (show In w vs ((l1.take (i + 1)).eraseIdx i) by rw [HDR.out]; exact HIN.out)
          clear hxq hov hin hbw hbw1
          go_wp2_with fail
          go_roundw
          case rel => exact ⟨i + 1, qv, vs, by omega, by go_num, HXq.out, HOV.out, HIN7.out, HBr.out, HBr1.out⟩
          case measure => simp [intOf]; omega
        · have hik2 : ((i : Int) != (k : Int)) = true := by simp; omega
          have HDR := Lib.hid (drop_more hlt hik)
          obtain ⟨tb2, off2, a3, n3, d3, hpe, htb, hcw, hn1, hmx, hrow⟩ := ll_at HP.out i hlt
          simp only [Option.some.injEq, Addr.mk.injEq, and_true] at hpe
          obtain ⟨rfl, rfl⟩ := hpe
          have hcl := (hbw.cell (p := ⟨tb, off + i, none⟩) htb).trans hcw
          have HRw := Lib.hid hrow
          have htq : tb < NQ := by omega
          have hvs : vs.length ≤ 1000000 := by
            have h1 := hin.len
            have h2 := (List.eraseIdx_sublist (l1.take i) k).length_le
            have := HW.out.1
            rw [List.length_take] at h2
            omega
          clear hxq hov hin hbw hbw1 hrow hn1 hmx
          go_wp2_with fail
          have HS0 := Lib.hid (show Holds [((⟨w.heap.size + 1, 0, none⟩ : Addr), Value.slice (some ⟨tb, off, none⟩) l1.length lc), (⟨tb, off + i, none⟩, .slice a3 n3 d3)] wr.drew from ⟨x0, hcl, trivial⟩)
          have hltq := Lib.hid (show Lows NQ [((⟨w.heap.size + 1, 0, none⟩ : Addr), Value.slice (some ⟨tb, off, none⟩) l1.length lc), (⟨tb, off + i, none⟩, .slice a3 n3 d3)] from ⟨hnx, htq, trivial⟩)
          have hlt := Lib.hid (show Lows wr.drew.heap.size [((⟨w.heap.size + 1, 0, none⟩ : Addr), Value.slice (some ⟨tb, off, none⟩) l1.length lc), (⟨tb, off + i, none⟩, .slice a3 n3 d3)] from ⟨by show w.heap.size + 1 < wr.heap.size; omega, by show tb < wr.heap.size; omega, trivial⟩)
          clear x0 hcl
          refine wp_region_held_drew (S := Holds [((⟨w.heap.size + 1, 0, none⟩ : Addr), Value.slice (some ⟨tb, off, none⟩) l1.length lc), (⟨tb, off + i, none⟩, .slice a3 n3 d3)]) (by kernel_rfl) HS0.out (fun hSn => ?_)
          have Bc := Lib.hid (Below.refl wr.drew.heap.size wr.drew)
          have HXD := Lib.hid (show PBox wr.drew NQ qv from HXq.out.later ((Below.refl _ _).drew))
          have HOD := Lib.hid (show OwnV wr.drew (NQ + 1) qv vs from HOV.out.below ((Below.refl _ _).drew))
          have hdsz : wr.drew.heap.size = wr.heap.size := rfl
          refine tks [0, 2, 3, 4, 5, 6] 6 rfl (by kernel_rfl) (fun _ _ _ _ h => h) (by assumption) (fun KT hKT => ?_)
          iterate 6 (refine tkT (by (simp only [gA, gB, gC]; rfl)) (by rfl) (by (intro w hSw; (simp only [Holds] at hSw); go_simp <;> with_reducible rfl)) ?_; simp only [Act.put, pA, pB, pC])
          refine hKT _ ?_
          clear KT hKT
          refine wpAnyH_ready (rs := [1, 7]) (by kernel_rfl) (by simp) ?_
          refine (AllReadyH.cons (o := ?oz21) ?iz21 (fun K hK => ?kz21) (AllReadyH.cons (o := ?oz22) ?iz22 (fun K hK => ?kz22) AllReadyH.nil))
          case iz21 => (simp only [List.getElem?_toArray, List.getElem?_cons_zero, List.getElem?_cons_succ]; rfl)
          case iz22 => (simp only [List.getElem?_toArray, List.getElem?_cons_zero, List.getElem?_cons_succ]; rfl)
          · have q0 := HXD.out.cell
            go_simp
            refine held_more hK HS0.out hlt Bc.out (fun Bc hSn => ?_)
            refine wpAnyH_ready (rs := [7]) (by kernel_rfl) (by simp) ?_
            refine AllReadyH.cons (o := ?oz23) ?iz23 (fun K hK => ?kz23) AllReadyH.nil
            case iz23 => (simp only [List.getElem?_toArray, List.getElem?_cons_zero, List.getElem?_cons_succ]; rfl)
            go_simp
            refine held_more hK HS0.out hlt (Bc.out.alloc Bc.out.size _) (fun Bc hSn => ?_)
            refine wpAnyH_ready (rs := [8]) (by kernel_rfl) (by simp) ?_
            refine (AllReadyH.cons (o := ?oz24) ?iz24 (fun K hK => ?kz24) AllReadyH.nil)
            case iz24 => (simp only [List.getElem?_toArray, List.getElem?_cons_zero, List.getElem?_cons_succ]; rfl)
            simp only [Act.put, List.setIfInBounds_toArray, List.set_cons_zero, List.set_cons_succ]
            rw [if_pos (by rfl)]
            refine wp_app_val _ _ (by rfl) (NQ + 1) qv vs (by rfl) (HOD.out.below ((Below.refl wr.drew.heap.size wr.drew).alloc (Nat.le_refl _) (.cells #[.slice a3 n3 d3] 42))) wr.heap.size (.slice a3 n3 d3) (by rfl) (show (wr.drew.alloc (.cells #[.slice a3 n3 d3] 42)).cell? ⟨wr.drew.heap.size, 0, none⟩ = some (.slice a3 n3 d3) by rw [cell_of_row _ _ _ _ _ _ (heap_alloc_new wr.drew (.cells #[.slice a3 n3 d3] 42))]; rfl) rfl hvs (by simp; omega) ?_
            intro gg cq w5 hown hgrow
            have hrq : ∀ q, qv.ownBlock = some q → NQ ≤ q := fun q hq => by have := HOV.out.ge q hq; omega
            have HOV5 := Lib.hid (hown.set NQ (Nat.lt_succ_self _) (.slice (some ⟨gg, 0, none⟩) (vs.length + 1) cq))
            have HXq5 := Lib.hid (show PBox (w5.setCell ⟨NQ, 0, none⟩ (.slice (some ⟨gg, 0, none⟩) (vs.length + 1) cq)) NQ (.slice (some ⟨gg, 0, none⟩) (vs.length + 1) cq) from PBox.stored (v := qv) (by
              have h1 := (HXD.out.later ((Below.refl wr.drew.heap.size wr.drew).alloc (Nat.le_refl _) (.cells #[.slice a3 n3 d3] 42)))
              unfold PBox at h1 ⊢
              rw [hgrow.block NQ (by simp; omega) (fun e => by have := HOV.out.ge NQ e.symm; omega)]
              exact h1) _)
            have HBA := Lib.hid ((((Below.refl NQ wr).drew).alloc (by show NQ ≤ wr.heap.size; omega) (.cells #[.slice a3 n3 d3] 42)).grown hgrow (by simp; omega) (fun q hq => hrq q hq))
            have HBA5 := Lib.hid (HBA.out.setCell (p := ⟨NQ, 0, none⟩) (Nat.le_refl _) (.slice (some ⟨gg, 0, none⟩) (vs.length + 1) cq))
            have hSn5 := Holds.grown hgrow (by simp; omega) hrq hSn hltq.out
            have hcq : ∃ z, w5.cell? ⟨NQ, 0, none⟩ = some z := by
              have h1 := (HXD.out.later ((Below.refl wr.drew.heap.size wr.drew).alloc (Nat.le_refl _) (.cells #[.slice a3 n3 d3] 42)))
              have h2 : PBox w5 NQ qv := by
                unfold PBox at h1 ⊢
                rw [hgrow.block NQ (by simp; omega) (fun e => by have := HOV.out.ge NQ e.symm; omega)]
                exact h1
              exact ⟨_, h2.cell⟩
            have hfq : w5.frozen? ⟨NQ, 0, none⟩ = false := by
              have h1 := (HXD.out.later ((Below.refl wr.drew.heap.size wr.drew).alloc (Nat.le_refl _) (.cells #[.slice a3 n3 d3] 42)))
              have h2 : PBox w5 NQ qv := by
                unfold PBox at h1 ⊢
                rw [hgrow.block NQ (by simp; omega) (fun e => by have := HOV.out.ge NQ e.symm; omega)]
                exact h1
              exact h2.free 0
            obtain ⟨zq, hzq⟩ := hcq
            refine hK.out _ _ hSn5 (fun hSn => ?_)
            clear hown hgrow hK q0
            refine tks [9] 1 rfl (by kernel_rfl) (fun _ _ _ _ h => h) (by assumption) (fun KT hKT => ?_)
            refine tkT (by (simp only [gA, gB, gC]; rfl)) (by rfl) (by (intro w hSw; (simp only [Holds] at hSw); go_simp <;> with_reducible rfl)) ?_
            simp only [Act.put, pA, pB, pC]
            refine hKT _ ?_
            clear KT hKT
            refine wpAnyH_ready (rs := [10]) (by kernel_rfl) (by simp) ?_
            refine (AllReadyH.cons (o := ?oz25) ?iz25 (fun K hK => ?kz25) AllReadyH.nil)
            case iz25 => (simp only [List.getElem?_toArray, List.getElem?_cons_zero, List.getElem?_cons_succ]; rfl)
            go_simp
            refine hK.out _ _ (Holds.set (Nat.le_refl _) hSn hltq.out) (fun hSn => ?_)
            refine wpAnyH_done (by kernel_rfl) ?_ _
            clear hSn hSn5 HS0 hlt hltq Bc hzq hfq
            generalize w5.setCell ⟨NQ, 0, none⟩ (.slice (some ⟨gg, 0, none⟩) (vs.length + 1) cq) = w7 at *
            have HB7 := Lib.hid (HBr.out.trans (HBA5.out.mono hszw2))
            have HB71 := Lib.hid (HBr1.out.trans HBA5.out)
            have HIN7 := Lib.hid (show In w (vs ++ [.slice a3 n3 d3]) ((l1.take (i + 1)).eraseIdx k) by rw [HDR.out]; exact HIN.out.snoc HRw.out)
            have HOV7 := Lib.hid (show OwnV w7 (NQ + 1) (.slice (some ⟨gg, 0, none⟩) (vs.length + 1) cq) (vs ++ [.slice a3 n3 d3]) from HOV5.out)
            clear HOV5 HXD HOD
            go_wp2_with fail
            go_roundw
            case rel => exact ⟨i + 1, _, _, by omega, by go_num, HXq5.out, HOV7.out, HIN7.out, HB7.out, HB71.out⟩
            case measure => simp [intOf]; omega
          · go_simp
            refine held_more hK HS0.out hlt (Bc.out.alloc Bc.out.size _) (fun Bc hSn => ?_)
            have q0 : (wr.alloc (.cells #[.slice a3 n3 d3] 42)).drew.cell? ⟨NQ, 0, none⟩ = some qv := (HXD.out.later ((Below.refl wr.drew.heap.size wr.drew).alloc (Nat.le_refl _) (.cells #[.slice a3 n3 d3] 42))).cell
            refine wpAnyH_ready (rs := [1]) (by kernel_rfl) (by simp) ?_
            refine (AllReadyH.cons (o := ?oz26) ?iz26 (fun K hK => ?kz26) AllReadyH.nil)
            case iz26 => (simp only [List.getElem?_toArray, List.getElem?_cons_zero, List.getElem?_cons_succ]; rfl)
            go_simp
            refine held_more hK HS0.out hlt Bc.out (fun Bc hSn => ?_)
            refine wpAnyH_ready (rs := [8]) (by kernel_rfl) (by simp) ?_
            refine (AllReadyH.cons (o := ?oz27) ?iz27 (fun K hK => ?kz27) AllReadyH.nil)
            case iz27 => (simp only [List.getElem?_toArray, List.getElem?_cons_zero, List.getElem?_cons_succ]; rfl)
            simp only [Act.put, List.setIfInBounds_toArray, List.set_cons_zero, List.set_cons_succ]
            rw [if_pos (by rfl)]
            refine wp_app_val _ _ (by rfl) (NQ + 1) qv vs (by rfl) (HOD.out.below ((Below.refl wr.drew.heap.size wr.drew).alloc (Nat.le_refl _) (.cells #[.slice a3 n3 d3] 42))) wr.heap.size (.slice a3 n3 d3) (by rfl) (show (wr.drew.alloc (.cells #[.slice a3 n3 d3] 42)).cell? ⟨wr.drew.heap.size, 0, none⟩ = some (.slice a3 n3 d3) by rw [cell_of_row _ _ _ _ _ _ (heap_alloc_new wr.drew (.cells #[.slice a3 n3 d3] 42))]; rfl) rfl hvs (by simp; omega) ?_
            intro gg cq w5 hown hgrow
            have hrq : ∀ q, qv.ownBlock = some q → NQ ≤ q := fun q hq => by have := HOV.out.ge q hq; omega
            have HOV5 := Lib.hid (hown.set NQ (Nat.lt_succ_self _) (.slice (some ⟨gg, 0, none⟩) (vs.length + 1) cq))
            have HXq5 := Lib.hid (show PBox (w5.setCell ⟨NQ, 0, none⟩ (.slice (some ⟨gg, 0, none⟩) (vs.length + 1) cq)) NQ (.slice (some ⟨gg, 0, none⟩) (vs.length + 1) cq) from PBox.stored (v := qv) (by
              have h1 := (HXD.out.later ((Below.refl wr.drew.heap.size wr.drew).alloc (Nat.le_refl _) (.cells #[.slice a3 n3 d3] 42)))
              unfold PBox at h1 ⊢
              rw [hgrow.block NQ (by simp; omega) (fun e => by have := HOV.out.ge NQ e.symm; omega)]
              exact h1) _)
            have HBA := Lib.hid ((((Below.refl NQ wr).drew).alloc (by show NQ ≤ wr.heap.size; omega) (.cells #[.slice a3 n3 d3] 42)).grown hgrow (by simp; omega) (fun q hq => hrq q hq))
            have HBA5 := Lib.hid (HBA.out.setCell (p := ⟨NQ, 0, none⟩) (Nat.le_refl _) (.slice (some ⟨gg, 0, none⟩) (vs.length + 1) cq))
            have hSn5 := Holds.grown hgrow (by simp; omega) hrq hSn hltq.out
            have hcq : ∃ z, w5.cell? ⟨NQ, 0, none⟩ = some z := by
              have h1 := (HXD.out.later ((Below.refl wr.drew.heap.size wr.drew).alloc (Nat.le_refl _) (.cells #[.slice a3 n3 d3] 42)))
              have h2 : PBox w5 NQ qv := by
                unfold PBox at h1 ⊢
                rw [hgrow.block NQ (by simp; omega) (fun e => by have := HOV.out.ge NQ e.symm; omega)]
                exact h1
              exact ⟨_, h2.cell⟩
            have hfq : w5.frozen? ⟨NQ, 0, none⟩ = false := by
              have h1 := (HXD.out.later ((Below.refl wr.drew.heap.size wr.drew).alloc (Nat.le_refl _) (.cells #[.slice a3 n3 d3] 42)))
              have h2 : PBox w5 NQ qv := by
                unfold PBox at h1 ⊢
                rw [hgrow.block NQ (by simp; omega) (fun e => by have := HOV.out.ge NQ e.symm; omega)]
                exact h1
              exact h2.free 0
            obtain ⟨zq, hzq⟩ := hcq
            refine hK.out _ _ hSn5 (fun hSn => ?_)
            clear hown hgrow hK q0
            refine tks [9] 1 rfl (by kernel_rfl) (fun _ _ _ _ h => h) (by assumption) (fun KT hKT => ?_)
            refine tkT (by (simp only [gA, gB, gC]; rfl)) (by rfl) (by (intro w hSw; (simp only [Holds] at hSw); go_simp <;> with_reducible rfl)) ?_
            simp only [Act.put, pA, pB, pC]
            refine hKT _ ?_
            clear KT hKT
            refine wpAnyH_ready (rs := [10]) (by kernel_rfl) (by simp) ?_
            refine (AllReadyH.cons (o := ?oz28) ?iz28 (fun K hK => ?kz28) AllReadyH.nil)
            case iz28 => (simp only [List.getElem?_toArray, List.getElem?_cons_zero, List.getElem?_cons_succ]; rfl)
            go_simp
            refine hK.out _ _ (Holds.set (Nat.le_refl _) hSn hltq.out) (fun hSn => ?_)
            refine wpAnyH_done (by kernel_rfl) ?_ _
            clear hSn hSn5 HS0 hlt hltq Bc hzq hfq
            generalize w5.setCell ⟨NQ, 0, none⟩ (.slice (some ⟨gg, 0, none⟩) (vs.length + 1) cq) = w7 at *
            have HB7 := Lib.hid (HBr.out.trans (HBA5.out.mono hszw2))
            have HB71 := Lib.hid (HBr1.out.trans HBA5.out)
            have HIN7 := Lib.hid (show In w (vs ++ [.slice a3 n3 d3]) ((l1.take (i + 1)).eraseIdx k) by rw [HDR.out]; exact HIN.out.snoc HRw.out)
            have HOV7 := Lib.hid (show OwnV w7 (NQ + 1) (.slice (some ⟨gg, 0, none⟩) (vs.length + 1) cq) (vs ++ [.slice a3 n3 d3]) from HOV5.out)
            clear HOV5 HXD HOD
            go_wp2_with fail
            go_roundw
            case rel => exact ⟨i + 1, _, _, by omega, by go_num, HXq5.out, HOV7.out, HIN7.out, HB7.out, HB71.out⟩
            case measure => simp [intOf]; omega
      · obtain rfl : i = l1.length := by omega
        have hl2 : ¬ (l1.length : Int) < (l1.length : Int) := by omega
        have HQL := Lib.hid (show In w vs (l1.eraseIdx k) by have := HIN.out; rwa [List.take_length] at this)
        obtain ⟨c0, c1, c2, c3⟩ := HYr.out.cells
        obtain ⟨qa, qc, rfl⟩ : ∃ a c, qv = .slice a vs.length c := own_shape (show wr.ownsRow _ 42 1 qv vs.length vs from hov)
        have q0 := HXq.out.cell
        have HQR := Lib.hid (show IsLL wr (.slice qa vs.length qc) (l1.eraseIdx k) from HOV.out.lines (HQL.out.below HBr.out))
        obtain ⟨LB, hLB⟩ : ∃ LB, l1 ++ [lk] = LB := ⟨_, rfl⟩
        have HLB := Lib.hid hLB
        have HM2 := Lib.hid (show costE I0 LB = 5 ∨ costE I0 LB = 6 by rw [← hLB]; exact HMO.out)
        have hvs0 : vs0.length = l1.length := HI0.out.len
        have hlv0 : 0 < vs0.length := by omega
        have hlv1 : vs0.length ≤ 1000000 := by have := HW.out.1; omega
        have HV00 := Lib.hid hlv0
        have HV01 := Lib.hid hlv1
        clear hxq hov hin hbw hbw1 hlt hLB hvs0 hlv0 hlv1
        go_wp2_with fail
        change Calls _ _ #[insV I0 (.slice ad I0.l.length cap), planV (.slice qa vs.length qc)] _ _
        refine (cost_any (HE.out.below HBr.out) HQR.out).mono ?_
        rw [HLE.out]
        rintro e w5 ⟨rfl, hb⟩
        have HB5 := Lib.hid (HBr.out.trans (hb.mono HBr.out.size))
        have HY5 := Lib.hid (HYr.out.later hb)
        have HX5 := Lib.hid (HXr.out.later hb)
        clear hb x0 c0 c1 c2 c3 q0
        generalize costN I0 (l1.eraseIdx k) = an
        go_upto_region 14 with fail
        go_cut [18] from 96 (fun v wx => ∃ (NB : Nat) (qb : Value), v = .pointer (some ⟨NB, 0, none⟩) ∧ PBox wx NB qb ∧ IsLL wx qb LB ∧ Below w.heap.size w wx ∧ Below w5.heap.size w5 wx)
        case first =>
          have hcl : w5.cell? ⟨tb, off + k, none⟩ = some (.slice a1 n1 d1) := (HB5.out.cell (p := ⟨tb, off + k, none⟩) HTB.out).trans HCW.out
          have x0 := HX5.out.cell
          have hlx := HX5.out.lt
          have htb := HTB.out
          have hs5 := HB5.out.size
          have HS0 := Lib.hid (show Holds [((⟨w.heap.size + 1, 0, none⟩ : Addr), Value.slice (some ⟨tb, off, none⟩) l1.length lc), (⟨tb, off + k, none⟩, .slice a1 n1 d1)] w5.drew from ⟨x0, hcl, trivial⟩)
          have hlt := Lib.hid (show Lows w5.drew.heap.size [((⟨w.heap.size + 1, 0, none⟩ : Addr), Value.slice (some ⟨tb, off, none⟩) l1.length lc), (⟨tb, off + k, none⟩, .slice a1 n1 d1)] from ⟨by show w.heap.size + 1 < w5.heap.size; omega, by show tb < w5.heap.size; omega, trivial⟩)
          have HV := Lib.hid (show Row w5.drew (.slice (some ⟨tb, off, none⟩) l1.length lc) vs0 from (HV0.out.below HB5.out).below ((Below.refl w5.heap.size w5).drew))
          have HBz := Lib.hid (show Below w5.heap.size w5 w5.drew from (Below.refl _ _).drew)
          have HLZ := Lib.hid (show w5.heap.size ≤ w5.drew.heap.size from Nat.le_refl _)
          clear x0 hcl hlx htb hs5
          refine wp_region_held_drew (S := Holds [((⟨w.heap.size + 1, 0, none⟩ : Addr), Value.slice (some ⟨tb, off, none⟩) l1.length lc), (⟨tb, off + k, none⟩, .slice a1 n1 d1)]) (by kernel_rfl) HS0.out (fun hSn => ?_)
          have hlv0 := HV00.out
          have hlv1 := HV01.out
          generalize w5.drew = V0 at HS0 hlt HV HBz HLZ hSn ⊢
          have Bc := Lib.hid (Below.refl V0.heap.size V0)
          refine tks [0, 1, 3, 4, 5, 6, 7] 7 rfl (by kernel_rfl) (fun _ _ _ _ h => h) (by assumption) (fun KT hKT => ?_)
          iterate 7 (refine tkT (by (simp only [gA, gB, gC]; rfl)) (by rfl) (by (intro w hSw; (simp only [Holds] at hSw); go_simp <;> with_reducible rfl)) ?_; simp only [Act.put, pA, pB, pC])
          refine hKT _ ?_
          clear KT hKT
          refine wpAnyH_ready (rs := [2, 8, 11]) (by kernel_rfl) (by simp) ?_
          refine (AllReadyH.cons (o := ?oz29) ?iz29 (fun K hK => ?kz29) (AllReadyH.cons (o := ?oz30) ?iz30 (fun K hK => ?kz30) (AllReadyH.cons (o := ?oz31) ?iz31 (fun K hK => ?kz31) AllReadyH.nil)))
          case iz29 => (simp only [List.getElem?_toArray, List.getElem?_cons_zero, List.getElem?_cons_succ]; rfl)
          case iz30 => (simp only [List.getElem?_toArray, List.getElem?_cons_zero, List.getElem?_cons_succ]; rfl)
          case iz31 => (simp only [List.getElem?_toArray, List.getElem?_cons_zero, List.getElem?_cons_succ]; rfl)
          · skip
            simp only [Act.put, List.setIfInBounds_toArray, List.set_cons_zero, List.set_cons_succ]
            rw [if_pos (by rfl)]
            refine wp_app_all _ _ (by rfl) V0.heap.size vs0 (by rfl) _ (by rfl) (HV.out.below Bc.out) (in_one HI0.out) hlv1 hlv0 (Nat.le_refl _) ?_
            intro hgA cA V1 hown hgrow
            have BA := (Below.refl V0.heap.size V0).grown hgrow (Nat.le_refl _) (fun q hq => by cases hq)
            refine held_more hK HS0.out hlt (Bc.out.trans (BA.mono Bc.out.size)) (fun Bc hSn => ?_)
            have H2 := Lib.hid hown
            have LA := (World.ownsRow.lt hown hgA rfl).2
            have EV1 : V0.heap.size ≤ V1.heap.size := BA.size
            clear BA hown hgrow hK
            have FV1 : V0.heap.size ≤ V1.heap.size := Bc.out.size
            refine wpAnyH_ready (rs := [8, 11]) (by kernel_rfl) (by simp) ?_
            refine (AllReadyH.cons (o := ?oz32) ?iz32 (fun K hK => ?kz32) (AllReadyH.cons (o := ?oz33) ?iz33 (fun K hK => ?kz33) AllReadyH.nil))
            case iz32 => (simp only [List.getElem?_toArray, List.getElem?_cons_zero, List.getElem?_cons_succ]; rfl)
            case iz33 => (simp only [List.getElem?_toArray, List.getElem?_cons_zero, List.getElem?_cons_succ]; rfl)
            · skip
              go_simp
              refine held_more hK HS0.out hlt (Bc.out.alloc Bc.out.size (.cells #[.slice a1 n1 d1] 42)) (fun Bc hSn => ?_)
              have BA := (Below.refl V1.heap.size V1).alloc (Nat.le_refl _) (.cells #[.slice a1 n1 d1] 42)
              have H2 := Lib.hid (H2.out.below BA)
              have H8 := Lib.hid (show (V1.alloc (.cells #[.slice a1 n1 d1] 42)).cell? ⟨V1.heap.size, 0, none⟩ = some (.slice a1 n1 d1) by rw [cell_of_row _ _ _ _ _ _ (heap_alloc_new V1 (.cells #[.slice a1 n1 d1] 42))]; rfl)
              have L8 : V1.heap.size < (V1.alloc (.cells #[.slice a1 n1 d1] 42)).heap.size := by simp
              have EV2 : V1.heap.size ≤ (V1.alloc (.cells #[.slice a1 n1 d1] 42)).heap.size := BA.size
              clear BA hK
              generalize V1.alloc (.cells #[.slice a1 n1 d1] 42) = V2 at Bc hSn H2 H8 L8 EV2 ⊢
              have FV2 : V0.heap.size ≤ V2.heap.size := Bc.out.size
              refine wpAnyH_ready (rs := [9, 11]) (by kernel_rfl) (by simp) ?_
              refine (AllReadyH.cons (o := ?oz34) ?iz34 (fun K hK => ?kz34) (AllReadyH.cons (o := ?oz35) ?iz35 (fun K hK => ?kz35) AllReadyH.nil))
              case iz34 => (simp only [List.getElem?_toArray, List.getElem?_cons_zero, List.getElem?_cons_succ]; rfl)
              case iz35 => (simp only [List.getElem?_toArray, List.getElem?_cons_zero, List.getElem?_cons_succ]; rfl)
              · skip
                simp only [Act.put, List.setIfInBounds_toArray, List.set_cons_zero, List.set_cons_succ]
                rw [if_pos (by rfl)]
                refine wp_app_val _ _ (by rfl) V0.heap.size _ vs0 (by rfl) H2.out V1.heap.size (.slice a1 n1 d1) (by rfl) H8.out rfl hlv1 (by omega) ?_
                intro hgB cB V3 hown hgrow
                have BA := (Below.refl V0.heap.size V2).grown hgrow (by have := Bc.out.size; omega) (fun q hq => by have := H2.out.ge q hq; omega)
                refine held_more hK HS0.out hlt (Bc.out.trans BA) (fun Bc hSn => ?_)
                have H9 := Lib.hid hown
                have EV3 : V2.heap.size ≤ V3.heap.size := BA.size
                clear BA hown hgrow hK
                refine tks [10] 1 rfl (by kernel_rfl) (fun _ _ _ _ h => h) (by assumption) (fun KT hKT => ?_)
                refine tkT (by (simp only [gA, gB, gC]; rfl)) (by rfl) (by (intro w hSw; (simp only [Holds] at hSw); go_simp <;> with_reducible rfl)) ?_
                simp only [Act.put, pA, pB, pC]
                refine hKT _ ?_
                clear KT hKT
                have FV3 : V0.heap.size ≤ V3.heap.size := Bc.out.size
                refine wpAnyH_ready (rs := [11]) (by kernel_rfl) (by simp) ?_
                refine (AllReadyH.cons (o := ?oz36) ?iz36 (fun K hK => ?kz36) AllReadyH.nil)
                case iz36 => (simp only [List.getElem?_toArray, List.getElem?_cons_zero, List.getElem?_cons_succ]; rfl)
                go_simp
                refine held_more hK HS0.out hlt (Bc.out.alloc Bc.out.size (.cells #[.slice none 0 0] 27)) (fun Bc hSn => ?_)
                have BA := (Below.refl V3.heap.size V3).alloc (Nat.le_refl _) (.cells #[.slice none 0 0] 27)
                have H9 := Lib.hid (H9.out.below BA)
                have H11 := Lib.hid (pbox_new V3 (.slice none 0 0))
                have EV4 : V3.heap.size ≤ (V3.alloc (.cells #[.slice none 0 0] 27)).heap.size := BA.size
                clear BA hK
                generalize V3.alloc (.cells #[.slice none 0 0] 27) = V4 at Bc hSn H9 H11 EV4 ⊢
                have FV4 : V0.heap.size ≤ V4.heap.size := Bc.out.size
                refine wpAnyH_ready (rs := [12]) (by kernel_rfl) (by simp) ?_
                refine (AllReadyH.cons (o := ?oz37) ?iz37 (fun K hK => ?kz37) AllReadyH.nil)
                case iz37 => (simp only [List.getElem?_toArray, List.getElem?_cons_zero, List.getElem?_cons_succ]; rfl)
                have hz := H11.out.cell
                have hf := H11.out.free 0
                go_simp
                refine hK.out _ _ (Holds.set (M := V0.heap.size) (a := ⟨V3.heap.size, 0, none⟩) (by first | exact Nat.le_refl _ | omega) hSn hlt.out) (fun hSn => ?_)
                clear hK
                refine wpAnyH_done (by kernel_rfl) ?_ _
                have HXB := Lib.hid (H11.out.stored (.slice (some ⟨hgB, 0, none⟩) (vs0.length + 1) cB))
                have HBS := Lib.hid (Bc.out.setCell (p := ⟨V3.heap.size, 0, none⟩) (by first | exact Nat.le_refl _ | omega) (.slice (some ⟨hgB, 0, none⟩) (vs0.length + 1) cB))
                have HOB := Lib.hid (own_set H9.out V3.heap.size (own_ne (show World.ownsRow _ _ 42 1 _ _ _ from H9.out) H11.out (by decide)) (.slice (some ⟨hgB, 0, none⟩) (vs0.length + 1) cB))
                clear hz hf hSn
                generalize V4.setCell ⟨V3.heap.size, 0, none⟩ (.slice (some ⟨hgB, 0, none⟩) (vs0.length + 1) cB) = VX at HXB HBS HOB ⊢
                have HBX := Lib.hid (HBz.out.trans (HBS.out.mono HLZ.out))
                have HBY := Lib.hid (HB5.out.trans (HBX.out.mono HB5.out.size))
                have HLL := Lib.hid (HOB.out.lines (In.snoc (HI0.out.below HBY.out) (HRow.out.below HBY.out)))
                rw [HLB.out] at HLL
                go_wp2_with fail
                go_meet
                case rel => exact ⟨V3.heap.size, _, rfl, HXB.out, HLL.out, HBY.out, HBX.out⟩
              · skip
                go_simp
                refine held_more hK HS0.out hlt (Bc.out.alloc Bc.out.size (.cells #[.slice none 0 0] 27)) (fun Bc hSn => ?_)
                have BA := (Below.refl V2.heap.size V2).alloc (Nat.le_refl _) (.cells #[.slice none 0 0] 27)
                have H2 := Lib.hid (H2.out.below BA)
                have H8 := Lib.hid ((BA.cell (p := ⟨V1.heap.size, 0, none⟩) L8).trans H8.out)
                have L8 : V1.heap.size < (V2.alloc (.cells #[.slice none 0 0] 27)).heap.size := by have := BA.size; omega
                have H11 := Lib.hid (pbox_new V2 (.slice none 0 0))
                have EV5 : V2.heap.size ≤ (V2.alloc (.cells #[.slice none 0 0] 27)).heap.size := BA.size
                clear BA hK
                generalize V2.alloc (.cells #[.slice none 0 0] 27) = V5 at Bc hSn H2 H8 L8 H11 EV5 ⊢
                have FV5 : V0.heap.size ≤ V5.heap.size := Bc.out.size
                refine wpAnyH_ready (rs := [9]) (by kernel_rfl) (by simp) ?_
                refine (AllReadyH.cons (o := ?oz38) ?iz38 (fun K hK => ?kz38) AllReadyH.nil)
                case iz38 => (simp only [List.getElem?_toArray, List.getElem?_cons_zero, List.getElem?_cons_succ]; rfl)
                simp only [Act.put, List.setIfInBounds_toArray, List.set_cons_zero, List.set_cons_succ]
                rw [if_pos (by rfl)]
                refine wp_app_val _ _ (by rfl) V0.heap.size _ vs0 (by rfl) H2.out V1.heap.size (.slice a1 n1 d1) (by rfl) H8.out rfl hlv1 (by omega) ?_
                intro hgB cB V6 hown hgrow
                have BA := (Below.refl V0.heap.size V5).grown hgrow (by have := Bc.out.size; omega) (fun q hq => by have := H2.out.ge q hq; omega)
                refine held_more hK HS0.out hlt (Bc.out.trans BA) (fun Bc hSn => ?_)
                have H9 := Lib.hid hown
                have EV6 : V5.heap.size ≤ V6.heap.size := BA.size
                have H11 := Lib.hid (show PBox V6 V2.heap.size (.slice none 0 0) by unfold PBox; rw [hgrow.block V2.heap.size H11.out.lt (fun e => own_ne (show World.ownsRow _ _ 42 1 _ _ _ from H2.out) H11.out (by decide) e.symm)]; exact H11.out)
                clear BA hown hgrow hK
                refine tks [10] 1 rfl (by kernel_rfl) (fun _ _ _ _ h => h) (by assumption) (fun KT hKT => ?_)
                refine tkT (by (simp only [gA, gB, gC]; rfl)) (by rfl) (by (intro w hSw; (simp only [Holds] at hSw); go_simp <;> with_reducible rfl)) ?_
                simp only [Act.put, pA, pB, pC]
                refine hKT _ ?_
                clear KT hKT
                have FV6 : V0.heap.size ≤ V6.heap.size := Bc.out.size
                refine wpAnyH_ready (rs := [12]) (by kernel_rfl) (by simp) ?_
                refine (AllReadyH.cons (o := ?oz39) ?iz39 (fun K hK => ?kz39) AllReadyH.nil)
                case iz39 => (simp only [List.getElem?_toArray, List.getElem?_cons_zero, List.getElem?_cons_succ]; rfl)
                have hz := H11.out.cell
                have hf := H11.out.free 0
                go_simp
                refine hK.out _ _ (Holds.set (M := V0.heap.size) (a := ⟨V2.heap.size, 0, none⟩) (by first | exact Nat.le_refl _ | omega) hSn hlt.out) (fun hSn => ?_)
                clear hK
                refine wpAnyH_done (by kernel_rfl) ?_ _
                have HXB := Lib.hid (H11.out.stored (.slice (some ⟨hgB, 0, none⟩) (vs0.length + 1) cB))
                have HBS := Lib.hid (Bc.out.setCell (p := ⟨V2.heap.size, 0, none⟩) (by first | exact Nat.le_refl _ | omega) (.slice (some ⟨hgB, 0, none⟩) (vs0.length + 1) cB))
                have HOB := Lib.hid (own_set H9.out V2.heap.size (own_ne (show World.ownsRow _ _ 42 1 _ _ _ from H9.out) H11.out (by decide)) (.slice (some ⟨hgB, 0, none⟩) (vs0.length + 1) cB))
                clear hz hf hSn
                generalize V6.setCell ⟨V2.heap.size, 0, none⟩ (.slice (some ⟨hgB, 0, none⟩) (vs0.length + 1) cB) = VX at HXB HBS HOB ⊢
                have HBX := Lib.hid (HBz.out.trans (HBS.out.mono HLZ.out))
                have HBY := Lib.hid (HB5.out.trans (HBX.out.mono HB5.out.size))
                have HLL := Lib.hid (HOB.out.lines (In.snoc (HI0.out.below HBY.out) (HRow.out.below HBY.out)))
                rw [HLB.out] at HLL
                go_wp2_with fail
                go_meet
                case rel => exact ⟨V2.heap.size, _, rfl, HXB.out, HLL.out, HBY.out, HBX.out⟩
            · skip
              go_simp
              refine held_more hK HS0.out hlt (Bc.out.alloc Bc.out.size (.cells #[.slice none 0 0] 27)) (fun Bc hSn => ?_)
              have BA := (Below.refl V1.heap.size V1).alloc (Nat.le_refl _) (.cells #[.slice none 0 0] 27)
              have H2 := Lib.hid (H2.out.below BA)
              have H11 := Lib.hid (pbox_new V1 (.slice none 0 0))
              have EV7 : V1.heap.size ≤ (V1.alloc (.cells #[.slice none 0 0] 27)).heap.size := BA.size
              clear BA hK
              generalize V1.alloc (.cells #[.slice none 0 0] 27) = V7 at Bc hSn H2 H11 EV7 ⊢
              have FV7 : V0.heap.size ≤ V7.heap.size := Bc.out.size
              refine wpAnyH_ready (rs := [8]) (by kernel_rfl) (by simp) ?_
              refine (AllReadyH.cons (o := ?oz40) ?iz40 (fun K hK => ?kz40) AllReadyH.nil)
              case iz40 => (simp only [List.getElem?_toArray, List.getElem?_cons_zero, List.getElem?_cons_succ]; rfl)
              go_simp
              refine held_more hK HS0.out hlt (Bc.out.alloc Bc.out.size (.cells #[.slice a1 n1 d1] 42)) (fun Bc hSn => ?_)
              have BA := (Below.refl V7.heap.size V7).alloc (Nat.le_refl _) (.cells #[.slice a1 n1 d1] 42)
              have H2 := Lib.hid (H2.out.below BA)
              have H11 := Lib.hid (H11.out.later BA)
              have H8 := Lib.hid (show (V7.alloc (.cells #[.slice a1 n1 d1] 42)).cell? ⟨V7.heap.size, 0, none⟩ = some (.slice a1 n1 d1) by rw [cell_of_row _ _ _ _ _ _ (heap_alloc_new V7 (.cells #[.slice a1 n1 d1] 42))]; rfl)
              have L8 : V7.heap.size < (V7.alloc (.cells #[.slice a1 n1 d1] 42)).heap.size := by simp
              have EV8 : V7.heap.size ≤ (V7.alloc (.cells #[.slice a1 n1 d1] 42)).heap.size := BA.size
              clear BA hK
              generalize V7.alloc (.cells #[.slice a1 n1 d1] 42) = V8 at Bc hSn H2 H11 H8 L8 EV8 ⊢
              have FV8 : V0.heap.size ≤ V8.heap.size := Bc.out.size
              refine wpAnyH_ready (rs := [9]) (by kernel_rfl) (by simp) ?_
              refine (AllReadyH.cons (o := ?oz41) ?iz41 (fun K hK => ?kz41) AllReadyH.nil)
              case iz41 => (simp only [List.getElem?_toArray, List.getElem?_cons_zero, List.getElem?_cons_succ]; rfl)
              simp only [Act.put, List.setIfInBounds_toArray, List.set_cons_zero, List.set_cons_succ]
              rw [if_pos (by rfl)]
              refine wp_app_val _ _ (by rfl) V0.heap.size _ vs0 (by rfl) H2.out V7.heap.size (.slice a1 n1 d1) (by rfl) H8.out rfl hlv1 (by omega) ?_
              intro hgB cB V9 hown hgrow
              have BA := (Below.refl V0.heap.size V8).grown hgrow (by have := Bc.out.size; omega) (fun q hq => by have := H2.out.ge q hq; omega)
              refine held_more hK HS0.out hlt (Bc.out.trans BA) (fun Bc hSn => ?_)
              have H9 := Lib.hid hown
              have EV9 : V8.heap.size ≤ V9.heap.size := BA.size
              have H11 := Lib.hid (show PBox V9 V1.heap.size (.slice none 0 0) by unfold PBox; rw [hgrow.block V1.heap.size H11.out.lt (fun e => own_ne (show World.ownsRow _ _ 42 1 _ _ _ from H2.out) H11.out (by decide) e.symm)]; exact H11.out)
              clear BA hown hgrow hK
              refine tks [10] 1 rfl (by kernel_rfl) (fun _ _ _ _ h => h) (by assumption) (fun KT hKT => ?_)
              refine tkT (by (simp only [gA, gB, gC]; rfl)) (by rfl) (by (intro w hSw; (simp only [Holds] at hSw); go_simp <;> with_reducible rfl)) ?_
              simp only [Act.put, pA, pB, pC]
              refine hKT _ ?_
              clear KT hKT
              have FV9 : V0.heap.size ≤ V9.heap.size := Bc.out.size
              refine wpAnyH_ready (rs := [12]) (by kernel_rfl) (by simp) ?_
              refine (AllReadyH.cons (o := ?oz42) ?iz42 (fun K hK => ?kz42) AllReadyH.nil)
              case iz42 => (simp only [List.getElem?_toArray, List.getElem?_cons_zero, List.getElem?_cons_succ]; rfl)
              have hz := H11.out.cell
              have hf := H11.out.free 0
              go_simp
              refine hK.out _ _ (Holds.set (M := V0.heap.size) (a := ⟨V1.heap.size, 0, none⟩) (by first | exact Nat.le_refl _ | omega) hSn hlt.out) (fun hSn => ?_)
              clear hK
              refine wpAnyH_done (by kernel_rfl) ?_ _
              have HXB := Lib.hid (H11.out.stored (.slice (some ⟨hgB, 0, none⟩) (vs0.length + 1) cB))
              have HBS := Lib.hid (Bc.out.setCell (p := ⟨V1.heap.size, 0, none⟩) (by first | exact Nat.le_refl _ | omega) (.slice (some ⟨hgB, 0, none⟩) (vs0.length + 1) cB))
              have HOB := Lib.hid (own_set H9.out V1.heap.size (own_ne (show World.ownsRow _ _ 42 1 _ _ _ from H9.out) H11.out (by decide)) (.slice (some ⟨hgB, 0, none⟩) (vs0.length + 1) cB))
              clear hz hf hSn
              generalize V9.setCell ⟨V1.heap.size, 0, none⟩ (.slice (some ⟨hgB, 0, none⟩) (vs0.length + 1) cB) = VX at HXB HBS HOB ⊢
              have HBX := Lib.hid (HBz.out.trans (HBS.out.mono HLZ.out))
              have HBY := Lib.hid (HB5.out.trans (HBX.out.mono HB5.out.size))
              have HLL := Lib.hid (HOB.out.lines (In.snoc (HI0.out.below HBY.out) (HRow.out.below HBY.out)))
              rw [HLB.out] at HLL
              go_wp2_with fail
              go_meet
              case rel => exact ⟨V1.heap.size, _, rfl, HXB.out, HLL.out, HBY.out, HBX.out⟩
          · skip
            go_simp
            refine held_more hK HS0.out hlt (Bc.out.alloc Bc.out.size (.cells #[.slice a1 n1 d1] 42)) (fun Bc hSn => ?_)
            have BA := (Below.refl V0.heap.size V0).alloc (Nat.le_refl _) (.cells #[.slice a1 n1 d1] 42)
            have H8 := Lib.hid (show (V0.alloc (.cells #[.slice a1 n1 d1] 42)).cell? ⟨V0.heap.size, 0, none⟩ = some (.slice a1 n1 d1) by rw [cell_of_row _ _ _ _ _ _ (heap_alloc_new V0 (.cells #[.slice a1 n1 d1] 42))]; rfl)
            have L8 : V0.heap.size < (V0.alloc (.cells #[.slice a1 n1 d1] 42)).heap.size := by simp
            have EV10 : V0.heap.size ≤ (V0.alloc (.cells #[.slice a1 n1 d1] 42)).heap.size := BA.size
            clear BA hK
            generalize V0.alloc (.cells #[.slice a1 n1 d1] 42) = V10 at Bc hSn H8 L8 EV10 ⊢
            have FV10 : V0.heap.size ≤ V10.heap.size := Bc.out.size
            refine wpAnyH_ready (rs := [2, 11]) (by kernel_rfl) (by simp) ?_
            refine (AllReadyH.cons (o := ?oz43) ?iz43 (fun K hK => ?kz43) (AllReadyH.cons (o := ?oz44) ?iz44 (fun K hK => ?kz44) AllReadyH.nil))
            case iz43 => (simp only [List.getElem?_toArray, List.getElem?_cons_zero, List.getElem?_cons_succ]; rfl)
            case iz44 => (simp only [List.getElem?_toArray, List.getElem?_cons_zero, List.getElem?_cons_succ]; rfl)
            · skip
              simp only [Act.put, List.setIfInBounds_toArray, List.set_cons_zero, List.set_cons_succ]
              rw [if_pos (by rfl)]
              refine wp_app_all _ _ (by rfl) V10.heap.size vs0 (by rfl) _ (by rfl) (HV.out.below Bc.out) (in_one HI0.out) hlv1 hlv0 (Nat.le_refl _) ?_
              intro hgA cA V11 hown hgrow
              have BA := (Below.refl V10.heap.size V10).grown hgrow (Nat.le_refl _) (fun q hq => by cases hq)
              refine held_more hK HS0.out hlt (Bc.out.trans (BA.mono Bc.out.size)) (fun Bc hSn => ?_)
              have H2 := Lib.hid hown
              have LA := (World.ownsRow.lt hown hgA rfl).2
              have EV11 : V10.heap.size ≤ V11.heap.size := BA.size
              have H8 := Lib.hid ((BA.cell (p := ⟨V0.heap.size, 0, none⟩) L8).trans H8.out)
              have L8 : V0.heap.size < V11.heap.size := by omega
              clear BA hown hgrow hK
              have FV11 : V0.heap.size ≤ V11.heap.size := Bc.out.size
              refine wpAnyH_ready (rs := [9, 11]) (by kernel_rfl) (by simp) ?_
              refine (AllReadyH.cons (o := ?oz45) ?iz45 (fun K hK => ?kz45) (AllReadyH.cons (o := ?oz46) ?iz46 (fun K hK => ?kz46) AllReadyH.nil))
              case iz45 => (simp only [List.getElem?_toArray, List.getElem?_cons_zero, List.getElem?_cons_succ]; rfl)
              case iz46 => (simp only [List.getElem?_toArray, List.getElem?_cons_zero, List.getElem?_cons_succ]; rfl)
              · skip
                simp only [Act.put, List.setIfInBounds_toArray, List.set_cons_zero, List.set_cons_succ]
                rw [if_pos (by rfl)]
                refine wp_app_val _ _ (by rfl) V10.heap.size _ vs0 (by rfl) H2.out V0.heap.size (.slice a1 n1 d1) (by rfl) H8.out rfl hlv1 (by omega) ?_
                intro hgB cB V12 hown hgrow
                have BA := (Below.refl V0.heap.size V11).grown hgrow (by have := Bc.out.size; omega) (fun q hq => by have := H2.out.ge q hq; omega)
                refine held_more hK HS0.out hlt (Bc.out.trans BA) (fun Bc hSn => ?_)
                have H9 := Lib.hid hown
                have EV12 : V11.heap.size ≤ V12.heap.size := BA.size
                clear BA hown hgrow hK
                refine tks [10] 1 rfl (by kernel_rfl) (fun _ _ _ _ h => h) (by assumption) (fun KT hKT => ?_)
                refine tkT (by (simp only [gA, gB, gC]; rfl)) (by rfl) (by (intro w hSw; (simp only [Holds] at hSw); go_simp <;> with_reducible rfl)) ?_
                simp only [Act.put, pA, pB, pC]
                refine hKT _ ?_
                clear KT hKT
                have FV12 : V0.heap.size ≤ V12.heap.size := Bc.out.size
                refine wpAnyH_ready (rs := [11]) (by kernel_rfl) (by simp) ?_
                refine (AllReadyH.cons (o := ?oz47) ?iz47 (fun K hK => ?kz47) AllReadyH.nil)
                case iz47 => (simp only [List.getElem?_toArray, List.getElem?_cons_zero, List.getElem?_cons_succ]; rfl)
                go_simp
                refine held_more hK HS0.out hlt (Bc.out.alloc Bc.out.size (.cells #[.slice none 0 0] 27)) (fun Bc hSn => ?_)
                have BA := (Below.refl V12.heap.size V12).alloc (Nat.le_refl _) (.cells #[.slice none 0 0] 27)
                have H9 := Lib.hid (H9.out.below BA)
                have H11 := Lib.hid (pbox_new V12 (.slice none 0 0))
                have EV13 : V12.heap.size ≤ (V12.alloc (.cells #[.slice none 0 0] 27)).heap.size := BA.size
                clear BA hK
                generalize V12.alloc (.cells #[.slice none 0 0] 27) = V13 at Bc hSn H9 H11 EV13 ⊢
                have FV13 : V0.heap.size ≤ V13.heap.size := Bc.out.size
                refine wpAnyH_ready (rs := [12]) (by kernel_rfl) (by simp) ?_
                refine (AllReadyH.cons (o := ?oz48) ?iz48 (fun K hK => ?kz48) AllReadyH.nil)
                case iz48 => (simp only [List.getElem?_toArray, List.getElem?_cons_zero, List.getElem?_cons_succ]; rfl)
                have hz := H11.out.cell
                have hf := H11.out.free 0
                go_simp
                refine hK.out _ _ (Holds.set (M := V0.heap.size) (a := ⟨V12.heap.size, 0, none⟩) (by first | exact Nat.le_refl _ | omega) hSn hlt.out) (fun hSn => ?_)
                clear hK
                refine wpAnyH_done (by kernel_rfl) ?_ _
                have HXB := Lib.hid (H11.out.stored (.slice (some ⟨hgB, 0, none⟩) (vs0.length + 1) cB))
                have HBS := Lib.hid (Bc.out.setCell (p := ⟨V12.heap.size, 0, none⟩) (by first | exact Nat.le_refl _ | omega) (.slice (some ⟨hgB, 0, none⟩) (vs0.length + 1) cB))
                have HOB := Lib.hid (own_set H9.out V12.heap.size (own_ne (show World.ownsRow _ _ 42 1 _ _ _ from H9.out) H11.out (by decide)) (.slice (some ⟨hgB, 0, none⟩) (vs0.length + 1) cB))
                clear hz hf hSn
                generalize V13.setCell ⟨V12.heap.size, 0, none⟩ (.slice (some ⟨hgB, 0, none⟩) (vs0.length + 1) cB) = VX at HXB HBS HOB ⊢
                have HBX := Lib.hid (HBz.out.trans (HBS.out.mono HLZ.out))
                have HBY := Lib.hid (HB5.out.trans (HBX.out.mono HB5.out.size))
                have HLL := Lib.hid (HOB.out.lines (In.snoc (HI0.out.below HBY.out) (HRow.out.below HBY.out)))
                rw [HLB.out] at HLL
                go_wp2_with fail
                go_meet
                case rel => exact ⟨V12.heap.size, _, rfl, HXB.out, HLL.out, HBY.out, HBX.out⟩
              · skip
                go_simp
                refine held_more hK HS0.out hlt (Bc.out.alloc Bc.out.size (.cells #[.slice none 0 0] 27)) (fun Bc hSn => ?_)
                have BA := (Below.refl V11.heap.size V11).alloc (Nat.le_refl _) (.cells #[.slice none 0 0] 27)
                have H2 := Lib.hid (H2.out.below BA)
                have H8 := Lib.hid ((BA.cell (p := ⟨V0.heap.size, 0, none⟩) L8).trans H8.out)
                have L8 : V0.heap.size < (V11.alloc (.cells #[.slice none 0 0] 27)).heap.size := by have := BA.size; omega
                have H11 := Lib.hid (pbox_new V11 (.slice none 0 0))
                have EV14 : V11.heap.size ≤ (V11.alloc (.cells #[.slice none 0 0] 27)).heap.size := BA.size
                clear BA hK
                generalize V11.alloc (.cells #[.slice none 0 0] 27) = V14 at Bc hSn H2 H8 L8 H11 EV14 ⊢
                have FV14 : V0.heap.size ≤ V14.heap.size := Bc.out.size
                refine wpAnyH_ready (rs := [9]) (by kernel_rfl) (by simp) ?_
                refine (AllReadyH.cons (o := ?oz49) ?iz49 (fun K hK => ?kz49) AllReadyH.nil)
                case iz49 => (simp only [List.getElem?_toArray, List.getElem?_cons_zero, List.getElem?_cons_succ]; rfl)
                simp only [Act.put, List.setIfInBounds_toArray, List.set_cons_zero, List.set_cons_succ]
                rw [if_pos (by rfl)]
                refine wp_app_val _ _ (by rfl) V10.heap.size _ vs0 (by rfl) H2.out V0.heap.size (.slice a1 n1 d1) (by rfl) H8.out rfl hlv1 (by omega) ?_
                intro hgB cB V15 hown hgrow
                have BA := (Below.refl V0.heap.size V14).grown hgrow (by have := Bc.out.size; omega) (fun q hq => by have := H2.out.ge q hq; omega)
                refine held_more hK HS0.out hlt (Bc.out.trans BA) (fun Bc hSn => ?_)
                have H9 := Lib.hid hown
                have EV15 : V14.heap.size ≤ V15.heap.size := BA.size
                have H11 := Lib.hid (show PBox V15 V11.heap.size (.slice none 0 0) by unfold PBox; rw [hgrow.block V11.heap.size H11.out.lt (fun e => own_ne (show World.ownsRow _ _ 42 1 _ _ _ from H2.out) H11.out (by decide) e.symm)]; exact H11.out)
                clear BA hown hgrow hK
                refine tks [10] 1 rfl (by kernel_rfl) (fun _ _ _ _ h => h) (by assumption) (fun KT hKT => ?_)
                refine tkT (by (simp only [gA, gB, gC]; rfl)) (by rfl) (by (intro w hSw; (simp only [Holds] at hSw); go_simp <;> with_reducible rfl)) ?_
                simp only [Act.put, pA, pB, pC]
                refine hKT _ ?_
                clear KT hKT
                have FV15 : V0.heap.size ≤ V15.heap.size := Bc.out.size
                refine wpAnyH_ready (rs := [12]) (by kernel_rfl) (by simp) ?_
                refine (AllReadyH.cons (o := ?oz50) ?iz50 (fun K hK => ?kz50) AllReadyH.nil)
                case iz50 => (simp only [List.getElem?_toArray, List.getElem?_cons_zero, List.getElem?_cons_succ]; rfl)
                have hz := H11.out.cell
                have hf := H11.out.free 0
                go_simp
                refine hK.out _ _ (Holds.set (M := V0.heap.size) (a := ⟨V11.heap.size, 0, none⟩) (by first | exact Nat.le_refl _ | omega) hSn hlt.out) (fun hSn => ?_)
                clear hK
                refine wpAnyH_done (by kernel_rfl) ?_ _
                have HXB := Lib.hid (H11.out.stored (.slice (some ⟨hgB, 0, none⟩) (vs0.length + 1) cB))
                have HBS := Lib.hid (Bc.out.setCell (p := ⟨V11.heap.size, 0, none⟩) (by first | exact Nat.le_refl _ | omega) (.slice (some ⟨hgB, 0, none⟩) (vs0.length + 1) cB))
                have HOB := Lib.hid (own_set H9.out V11.heap.size (own_ne (show World.ownsRow _ _ 42 1 _ _ _ from H9.out) H11.out (by decide)) (.slice (some ⟨hgB, 0, none⟩) (vs0.length + 1) cB))
                clear hz hf hSn
                generalize V15.setCell ⟨V11.heap.size, 0, none⟩ (.slice (some ⟨hgB, 0, none⟩) (vs0.length + 1) cB) = VX at HXB HBS HOB ⊢
                have HBX := Lib.hid (HBz.out.trans (HBS.out.mono HLZ.out))
                have HBY := Lib.hid (HB5.out.trans (HBX.out.mono HB5.out.size))
                have HLL := Lib.hid (HOB.out.lines (In.snoc (HI0.out.below HBY.out) (HRow.out.below HBY.out)))
                rw [HLB.out] at HLL
                go_wp2_with fail
                go_meet
                case rel => exact ⟨V11.heap.size, _, rfl, HXB.out, HLL.out, HBY.out, HBX.out⟩
            · skip
              go_simp
              refine held_more hK HS0.out hlt (Bc.out.alloc Bc.out.size (.cells #[.slice none 0 0] 27)) (fun Bc hSn => ?_)
              have BA := (Below.refl V10.heap.size V10).alloc (Nat.le_refl _) (.cells #[.slice none 0 0] 27)
              have H8 := Lib.hid ((BA.cell (p := ⟨V0.heap.size, 0, none⟩) L8).trans H8.out)
              have L8 : V0.heap.size < (V10.alloc (.cells #[.slice none 0 0] 27)).heap.size := by have := BA.size; omega
              have H11 := Lib.hid (pbox_new V10 (.slice none 0 0))
              have EV16 : V10.heap.size ≤ (V10.alloc (.cells #[.slice none 0 0] 27)).heap.size := BA.size
              clear BA hK
              generalize V10.alloc (.cells #[.slice none 0 0] 27) = V16 at Bc hSn H8 L8 H11 EV16 ⊢
              have FV16 : V0.heap.size ≤ V16.heap.size := Bc.out.size
              refine wpAnyH_ready (rs := [2]) (by kernel_rfl) (by simp) ?_
              refine (AllReadyH.cons (o := ?oz51) ?iz51 (fun K hK => ?kz51) AllReadyH.nil)
              case iz51 => (simp only [List.getElem?_toArray, List.getElem?_cons_zero, List.getElem?_cons_succ]; rfl)
              simp only [Act.put, List.setIfInBounds_toArray, List.set_cons_zero, List.set_cons_succ]
              rw [if_pos (by rfl)]
              refine wp_app_all _ _ (by rfl) V16.heap.size vs0 (by rfl) _ (by rfl) (HV.out.below Bc.out) (in_one HI0.out) hlv1 hlv0 (Nat.le_refl _) ?_
              intro hgA cA V17 hown hgrow
              have BA := (Below.refl V16.heap.size V16).grown hgrow (Nat.le_refl _) (fun q hq => by cases hq)
              refine held_more hK HS0.out hlt (Bc.out.trans (BA.mono Bc.out.size)) (fun Bc hSn => ?_)
              have H2 := Lib.hid hown
              have LA := (World.ownsRow.lt hown hgA rfl).2
              have EV17 : V16.heap.size ≤ V17.heap.size := BA.size
              have H8 := Lib.hid ((BA.cell (p := ⟨V0.heap.size, 0, none⟩) L8).trans H8.out)
              have L8 : V0.heap.size < V17.heap.size := by omega
              have H11 := Lib.hid (H11.out.later BA)
              clear BA hown hgrow hK
              have FV17 : V0.heap.size ≤ V17.heap.size := Bc.out.size
              refine wpAnyH_ready (rs := [9]) (by kernel_rfl) (by simp) ?_
              refine (AllReadyH.cons (o := ?oz52) ?iz52 (fun K hK => ?kz52) AllReadyH.nil)
              case iz52 => (simp only [List.getElem?_toArray, List.getElem?_cons_zero, List.getElem?_cons_succ]; rfl)
              simp only [Act.put, List.setIfInBounds_toArray, List.set_cons_zero, List.set_cons_succ]
              rw [if_pos (by rfl)]
              refine wp_app_val _ _ (by rfl) V16.heap.size _ vs0 (by rfl) H2.out V0.heap.size (.slice a1 n1 d1) (by rfl) H8.out rfl hlv1 (by omega) ?_
              intro hgB cB V18 hown hgrow
              have BA := (Below.refl V0.heap.size V17).grown hgrow (by have := Bc.out.size; omega) (fun q hq => by have := H2.out.ge q hq; omega)
              refine held_more hK HS0.out hlt (Bc.out.trans BA) (fun Bc hSn => ?_)
              have H9 := Lib.hid hown
              have EV18 : V17.heap.size ≤ V18.heap.size := BA.size
              have H11 := Lib.hid (show PBox V18 V10.heap.size (.slice none 0 0) by unfold PBox; rw [hgrow.block V10.heap.size H11.out.lt (fun e => own_ne (show World.ownsRow _ _ 42 1 _ _ _ from H2.out) H11.out (by decide) e.symm)]; exact H11.out)
              clear BA hown hgrow hK
              refine tks [10] 1 rfl (by kernel_rfl) (fun _ _ _ _ h => h) (by assumption) (fun KT hKT => ?_)
              refine tkT (by (simp only [gA, gB, gC]; rfl)) (by rfl) (by (intro w hSw; (simp only [Holds] at hSw); go_simp <;> with_reducible rfl)) ?_
              simp only [Act.put, pA, pB, pC]
              refine hKT _ ?_
              clear KT hKT
              have FV18 : V0.heap.size ≤ V18.heap.size := Bc.out.size
              refine wpAnyH_ready (rs := [12]) (by kernel_rfl) (by simp) ?_
              refine (AllReadyH.cons (o := ?oz53) ?iz53 (fun K hK => ?kz53) AllReadyH.nil)
              case iz53 => (simp only [List.getElem?_toArray, List.getElem?_cons_zero, List.getElem?_cons_succ]; rfl)
              have hz := H11.out.cell
              have hf := H11.out.free 0
              go_simp
              refine hK.out _ _ (Holds.set (M := V0.heap.size) (a := ⟨V10.heap.size, 0, none⟩) (by first | exact Nat.le_refl _ | omega) hSn hlt.out) (fun hSn => ?_)
              clear hK
              refine wpAnyH_done (by kernel_rfl) ?_ _
              have HXB := Lib.hid (H11.out.stored (.slice (some ⟨hgB, 0, none⟩) (vs0.length + 1) cB))
              have HBS := Lib.hid (Bc.out.setCell (p := ⟨V10.heap.size, 0, none⟩) (by first | exact Nat.le_refl _ | omega) (.slice (some ⟨hgB, 0, none⟩) (vs0.length + 1) cB))
              have HOB := Lib.hid (own_set H9.out V10.heap.size (own_ne (show World.ownsRow _ _ 42 1 _ _ _ from H9.out) H11.out (by decide)) (.slice (some ⟨hgB, 0, none⟩) (vs0.length + 1) cB))
              clear hz hf hSn
              generalize V18.setCell ⟨V10.heap.size, 0, none⟩ (.slice (some ⟨hgB, 0, none⟩) (vs0.length + 1) cB) = VX at HXB HBS HOB ⊢
              have HBX := Lib.hid (HBz.out.trans (HBS.out.mono HLZ.out))
              have HBY := Lib.hid (HB5.out.trans (HBX.out.mono HB5.out.size))
              have HLL := Lib.hid (HOB.out.lines (In.snoc (HI0.out.below HBY.out) (HRow.out.below HBY.out)))
              rw [HLB.out] at HLL
              go_wp2_with fail
              go_meet
              case rel => exact ⟨V10.heap.size, _, rfl, HXB.out, HLL.out, HBY.out, HBX.out⟩
          · skip
            go_simp
            refine held_more hK HS0.out hlt (Bc.out.alloc Bc.out.size (.cells #[.slice none 0 0] 27)) (fun Bc hSn => ?_)
            have BA := (Below.refl V0.heap.size V0).alloc (Nat.le_refl _) (.cells #[.slice none 0 0] 27)
            have H11 := Lib.hid (pbox_new V0 (.slice none 0 0))
            have EV19 : V0.heap.size ≤ (V0.alloc (.cells #[.slice none 0 0] 27)).heap.size := BA.size
            clear BA hK
            generalize V0.alloc (.cells #[.slice none 0 0] 27) = V19 at Bc hSn H11 EV19 ⊢
            have FV19 : V0.heap.size ≤ V19.heap.size := Bc.out.size
            refine wpAnyH_ready (rs := [2, 8]) (by kernel_rfl) (by simp) ?_
            refine (AllReadyH.cons (o := ?oz54) ?iz54 (fun K hK => ?kz54) (AllReadyH.cons (o := ?oz55) ?iz55 (fun K hK => ?kz55) AllReadyH.nil))
            case iz54 => (simp only [List.getElem?_toArray, List.getElem?_cons_zero, List.getElem?_cons_succ]; rfl)
            case iz55 => (simp only [List.getElem?_toArray, List.getElem?_cons_zero, List.getElem?_cons_succ]; rfl)
            · skip
              simp only [Act.put, List.setIfInBounds_toArray, List.set_cons_zero, List.set_cons_succ]
              rw [if_pos (by rfl)]
              refine wp_app_all _ _ (by rfl) V19.heap.size vs0 (by rfl) _ (by rfl) (HV.out.below Bc.out) (in_one HI0.out) hlv1 hlv0 (Nat.le_refl _) ?_
              intro hgA cA V20 hown hgrow
              have BA := (Below.refl V19.heap.size V19).grown hgrow (Nat.le_refl _) (fun q hq => by cases hq)
              refine held_more hK HS0.out hlt (Bc.out.trans (BA.mono Bc.out.size)) (fun Bc hSn => ?_)
              have H2 := Lib.hid hown
              have LA := (World.ownsRow.lt hown hgA rfl).2
              have EV20 : V19.heap.size ≤ V20.heap.size := BA.size
              have H11 := Lib.hid (H11.out.later BA)
              clear BA hown hgrow hK
              have FV20 : V0.heap.size ≤ V20.heap.size := Bc.out.size
              refine wpAnyH_ready (rs := [8]) (by kernel_rfl) (by simp) ?_
              refine (AllReadyH.cons (o := ?oz56) ?iz56 (fun K hK => ?kz56) AllReadyH.nil)
              case iz56 => (simp only [List.getElem?_toArray, List.getElem?_cons_zero, List.getElem?_cons_succ]; rfl)
              go_simp
              refine held_more hK HS0.out hlt (Bc.out.alloc Bc.out.size (.cells #[.slice a1 n1 d1] 42)) (fun Bc hSn => ?_)
              have BA := (Below.refl V20.heap.size V20).alloc (Nat.le_refl _) (.cells #[.slice a1 n1 d1] 42)
              have H2 := Lib.hid (H2.out.below BA)
              have H11 := Lib.hid (H11.out.later BA)
              have H8 := Lib.hid (show (V20.alloc (.cells #[.slice a1 n1 d1] 42)).cell? ⟨V20.heap.size, 0, none⟩ = some (.slice a1 n1 d1) by rw [cell_of_row _ _ _ _ _ _ (heap_alloc_new V20 (.cells #[.slice a1 n1 d1] 42))]; rfl)
              have L8 : V20.heap.size < (V20.alloc (.cells #[.slice a1 n1 d1] 42)).heap.size := by simp
              have EV21 : V20.heap.size ≤ (V20.alloc (.cells #[.slice a1 n1 d1] 42)).heap.size := BA.size
              clear BA hK
              generalize V20.alloc (.cells #[.slice a1 n1 d1] 42) = V21 at Bc hSn H2 H11 H8 L8 EV21 ⊢
              have FV21 : V0.heap.size ≤ V21.heap.size := Bc.out.size
              refine wpAnyH_ready (rs := [9]) (by kernel_rfl) (by simp) ?_
              refine (AllReadyH.cons (o := ?oz57) ?iz57 (fun K hK => ?kz57) AllReadyH.nil)
              case iz57 => (simp only [List.getElem?_toArray, List.getElem?_cons_zero, List.getElem?_cons_succ]; rfl)
              simp only [Act.put, List.setIfInBounds_toArray, List.set_cons_zero, List.set_cons_succ]
              rw [if_pos (by rfl)]
              refine wp_app_val _ _ (by rfl) V19.heap.size _ vs0 (by rfl) H2.out V20.heap.size (.slice a1 n1 d1) (by rfl) H8.out rfl hlv1 (by omega) ?_
              intro hgB cB V22 hown hgrow
              have BA := (Below.refl V0.heap.size V21).grown hgrow (by have := Bc.out.size; omega) (fun q hq => by have := H2.out.ge q hq; omega)
              refine held_more hK HS0.out hlt (Bc.out.trans BA) (fun Bc hSn => ?_)
              have H9 := Lib.hid hown
              have EV22 : V21.heap.size ≤ V22.heap.size := BA.size
              have H11 := Lib.hid (show PBox V22 V0.heap.size (.slice none 0 0) by unfold PBox; rw [hgrow.block V0.heap.size H11.out.lt (fun e => own_ne (show World.ownsRow _ _ 42 1 _ _ _ from H2.out) H11.out (by decide) e.symm)]; exact H11.out)
              clear BA hown hgrow hK
              refine tks [10] 1 rfl (by kernel_rfl) (fun _ _ _ _ h => h) (by assumption) (fun KT hKT => ?_)
              refine tkT (by (simp only [gA, gB, gC]; rfl)) (by rfl) (by (intro w hSw; (simp only [Holds] at hSw); go_simp <;> with_reducible rfl)) ?_
              simp only [Act.put, pA, pB, pC]
              refine hKT _ ?_
              clear KT hKT
              have FV22 : V0.heap.size ≤ V22.heap.size := Bc.out.size
              refine wpAnyH_ready (rs := [12]) (by kernel_rfl) (by simp) ?_
              refine (AllReadyH.cons (o := ?oz58) ?iz58 (fun K hK => ?kz58) AllReadyH.nil)
              case iz58 => (simp only [List.getElem?_toArray, List.getElem?_cons_zero, List.getElem?_cons_succ]; rfl)
              have hz := H11.out.cell
              have hf := H11.out.free 0
              go_simp
              refine hK.out _ _ (Holds.set (M := V0.heap.size) (a := ⟨V0.heap.size, 0, none⟩) (by first | exact Nat.le_refl _ | omega) hSn hlt.out) (fun hSn => ?_)
              clear hK
              refine wpAnyH_done (by kernel_rfl) ?_ _
              have HXB := Lib.hid (H11.out.stored (.slice (some ⟨hgB, 0, none⟩) (vs0.length + 1) cB))
              have HBS := Lib.hid (Bc.out.setCell (p := ⟨V0.heap.size, 0, none⟩) (by first | exact Nat.le_refl _ | omega) (.slice (some ⟨hgB, 0, none⟩) (vs0.length + 1) cB))
              have HOB := Lib.hid (own_set H9.out V0.heap.size (own_ne (show World.ownsRow _ _ 42 1 _ _ _ from H9.out) H11.out (by decide)) (.slice (some ⟨hgB, 0, none⟩) (vs0.length + 1) cB))
              clear hz hf hSn
              generalize V22.setCell ⟨V0.heap.size, 0, none⟩ (.slice (some ⟨hgB, 0, none⟩) (vs0.length + 1) cB) = VX at HXB HBS HOB ⊢
              have HBX := Lib.hid (HBz.out.trans (HBS.out.mono HLZ.out))
              have HBY := Lib.hid (HB5.out.trans (HBX.out.mono HB5.out.size))
              have HLL := Lib.hid (HOB.out.lines (In.snoc (HI0.out.below HBY.out) (HRow.out.below HBY.out)))
              rw [HLB.out] at HLL
              go_wp2_with fail
              go_meet
              case rel => exact ⟨V0.heap.size, _, rfl, HXB.out, HLL.out, HBY.out, HBX.out⟩
            · skip
              go_simp
              refine held_more hK HS0.out hlt (Bc.out.alloc Bc.out.size (.cells #[.slice a1 n1 d1] 42)) (fun Bc hSn => ?_)
              have BA := (Below.refl V19.heap.size V19).alloc (Nat.le_refl _) (.cells #[.slice a1 n1 d1] 42)
              have H11 := Lib.hid (H11.out.later BA)
              have H8 := Lib.hid (show (V19.alloc (.cells #[.slice a1 n1 d1] 42)).cell? ⟨V19.heap.size, 0, none⟩ = some (.slice a1 n1 d1) by rw [cell_of_row _ _ _ _ _ _ (heap_alloc_new V19 (.cells #[.slice a1 n1 d1] 42))]; rfl)
              have L8 : V19.heap.size < (V19.alloc (.cells #[.slice a1 n1 d1] 42)).heap.size := by simp
              have EV23 : V19.heap.size ≤ (V19.alloc (.cells #[.slice a1 n1 d1] 42)).heap.size := BA.size
              clear BA hK
              generalize V19.alloc (.cells #[.slice a1 n1 d1] 42) = V23 at Bc hSn H11 H8 L8 EV23 ⊢
              have FV23 : V0.heap.size ≤ V23.heap.size := Bc.out.size
              refine wpAnyH_ready (rs := [2]) (by kernel_rfl) (by simp) ?_
              refine (AllReadyH.cons (o := ?oz59) ?iz59 (fun K hK => ?kz59) AllReadyH.nil)
              case iz59 => (simp only [List.getElem?_toArray, List.getElem?_cons_zero, List.getElem?_cons_succ]; rfl)
              simp only [Act.put, List.setIfInBounds_toArray, List.set_cons_zero, List.set_cons_succ]
              rw [if_pos (by rfl)]
              refine wp_app_all _ _ (by rfl) V23.heap.size vs0 (by rfl) _ (by rfl) (HV.out.below Bc.out) (in_one HI0.out) hlv1 hlv0 (Nat.le_refl _) ?_
              intro hgA cA V24 hown hgrow
              have BA := (Below.refl V23.heap.size V23).grown hgrow (Nat.le_refl _) (fun q hq => by cases hq)
              refine held_more hK HS0.out hlt (Bc.out.trans (BA.mono Bc.out.size)) (fun Bc hSn => ?_)
              have H2 := Lib.hid hown
              have LA := (World.ownsRow.lt hown hgA rfl).2
              have EV24 : V23.heap.size ≤ V24.heap.size := BA.size
              have H8 := Lib.hid ((BA.cell (p := ⟨V19.heap.size, 0, none⟩) L8).trans H8.out)
              have L8 : V19.heap.size < V24.heap.size := by omega
              have H11 := Lib.hid (H11.out.later BA)
              clear BA hown hgrow hK
              have FV24 : V0.heap.size ≤ V24.heap.size := Bc.out.size
              refine wpAnyH_ready (rs := [9]) (by kernel_rfl) (by simp) ?_
              refine (AllReadyH.cons (o := ?oz60) ?iz60 (fun K hK => ?kz60) AllReadyH.nil)
              case iz60 => (simp only [List.getElem?_toArray, List.getElem?_cons_zero, List.getElem?_cons_succ]; rfl)
              simp only [Act.put, List.setIfInBounds_toArray, List.set_cons_zero, List.set_cons_succ]
              rw [if_pos (by rfl)]
              refine wp_app_val _ _ (by rfl) V23.heap.size _ vs0 (by rfl) H2.out V19.heap.size (.slice a1 n1 d1) (by rfl) H8.out rfl hlv1 (by omega) ?_
              intro hgB cB V25 hown hgrow
              have BA := (Below.refl V0.heap.size V24).grown hgrow (by have := Bc.out.size; omega) (fun q hq => by have := H2.out.ge q hq; omega)
              refine held_more hK HS0.out hlt (Bc.out.trans BA) (fun Bc hSn => ?_)
              have H9 := Lib.hid hown
              have EV25 : V24.heap.size ≤ V25.heap.size := BA.size
              have H11 := Lib.hid (show PBox V25 V0.heap.size (.slice none 0 0) by unfold PBox; rw [hgrow.block V0.heap.size H11.out.lt (fun e => own_ne (show World.ownsRow _ _ 42 1 _ _ _ from H2.out) H11.out (by decide) e.symm)]; exact H11.out)
              clear BA hown hgrow hK
              refine tks [10] 1 rfl (by kernel_rfl) (fun _ _ _ _ h => h) (by assumption) (fun KT hKT => ?_)
              refine tkT (by (simp only [gA, gB, gC]; rfl)) (by rfl) (by (intro w hSw; (simp only [Holds] at hSw); go_simp <;> with_reducible rfl)) ?_
              simp only [Act.put, pA, pB, pC]
              refine hKT _ ?_
              clear KT hKT
              have FV25 : V0.heap.size ≤ V25.heap.size := Bc.out.size
              refine wpAnyH_ready (rs := [12]) (by kernel_rfl) (by simp) ?_
              refine (AllReadyH.cons (o := ?oz61) ?iz61 (fun K hK => ?kz61) AllReadyH.nil)
              case iz61 => (simp only [List.getElem?_toArray, List.getElem?_cons_zero, List.getElem?_cons_succ]; rfl)
              have hz := H11.out.cell
              have hf := H11.out.free 0
              go_simp
              refine hK.out _ _ (Holds.set (M := V0.heap.size) (a := ⟨V0.heap.size, 0, none⟩) (by first | exact Nat.le_refl _ | omega) hSn hlt.out) (fun hSn => ?_)
              clear hK
              refine wpAnyH_done (by kernel_rfl) ?_ _
              have HXB := Lib.hid (H11.out.stored (.slice (some ⟨hgB, 0, none⟩) (vs0.length + 1) cB))
              have HBS := Lib.hid (Bc.out.setCell (p := ⟨V0.heap.size, 0, none⟩) (by first | exact Nat.le_refl _ | omega) (.slice (some ⟨hgB, 0, none⟩) (vs0.length + 1) cB))
              have HOB := Lib.hid (own_set H9.out V0.heap.size (own_ne (show World.ownsRow _ _ 42 1 _ _ _ from H9.out) H11.out (by decide)) (.slice (some ⟨hgB, 0, none⟩) (vs0.length + 1) cB))
              clear hz hf hSn
              generalize V25.setCell ⟨V0.heap.size, 0, none⟩ (.slice (some ⟨hgB, 0, none⟩) (vs0.length + 1) cB) = VX at HXB HBS HOB ⊢
              have HBX := Lib.hid (HBz.out.trans (HBS.out.mono HLZ.out))
              have HBY := Lib.hid (HB5.out.trans (HBX.out.mono HB5.out.size))
              have HLL := Lib.hid (HOB.out.lines (In.snoc (HI0.out.below HBY.out) (HRow.out.below HBY.out)))
              rw [HLB.out] at HLL
              go_wp2_with fail
              go_meet
              case rel => exact ⟨V0.heap.size, _, rfl, HXB.out, HLL.out, HBY.out, HBX.out⟩
        case rest =>
          obtain ⟨NB, qb, rfl, hxb, hll, hbw, hbw1⟩ := hcut
          obtain ⟨pa, pc, rfl, _⟩ := hll.form
          have HXB := Lib.hid hxb
          have HLL := Lib.hid hll
          have HB6 := Lib.hid hbw
          obtain ⟨c0, c1, c2, c3⟩ := (HY5.out.later hbw1).cells
          have b0 := hxb.cell
          clear hxb hll hbw hbw1
          go_wp2_with fail
          change Calls _ _ #[insV I0 (.slice ad I0.l.length cap), planV (.slice pa LB.length pc)] _ _
          refine (cost_any (HE.out.below HB6.out) HLL.out).mono ?_
          rintro e w8 ⟨rfl, hb⟩
          have HB8 := Lib.hid (HB6.out.trans (hb.mono HB6.out.size))
          clear hb c0 c1 c2 c3 b0
          have hle := HFN.out
          generalize costN I0 LB = bn
          rcases HM2.out with h5 | h6
          · rw [h5]
            go_wp2
            go_ret
            exact ⟨rfl, HB8.out⟩
          · rw [h6]
            go_wp2
            go_ret
            exact ⟨rfl, HB8.out⟩

set_option maxRecDepth 100000 in
theorem lifted (os : Os) (started : os.Started) (H : Type) (enc : TypeId × Value → H) :
    ReturnsInHanded {} Tryd.checked os 8 .any (fun w args => (Rows.planSplitSpec.pre enc Tryd.prog Tryd.f8 [] false w args ∧ laidMetH Tryd.prog Rows.planSplitRow.laid w) ∧ sizedMet enc Tryd.prog Tryd.f8 (OpenSpec.ofChange Rows.planSplitSpec) false w args)
      (Rows.planSplitSpec.post enc Tryd.prog Tryd.f8 false true false false) := by
  refine returnsInHanded_of_change_and (C := Tryd.checked) (X := fun w _ => laidMetH Tryd.prog Rows.planSplitRow.laid w) (fun _ _ _ hh h => h.of_heap hh) own started (by kernel_rfl) Tryd.func8
    (ChangeSpec.witness_shaped (enc := enc) (C := Tryd.checked) (os := os) (X := fun w _ => laidMetH Tryd.prog Rows.planSplitRow.laid w) false (World.doorLaid Tryd.prog 24 os) #[.agg #[.int .i64 0, .int .i64 0, .int .i64 0, .slice none 0 0], .agg #[.slice none 0 0], .int .i64 0] 8 rfl (World.shaped_of_RefB (by kernel_rfl) (by kernel_rfl)) (by kernel_rfl) (by kernel_rfl) (by kernel_rfl) (door_met os _)) ?_
  intro W base args ds gs before hval0 hW _ _ hL _
  have hval : ∀ (j : Nat) t v, Tryd.f8.params[j]? = some t → args[j]? = some v → Value.okWide Tryd.prog W .any base t v := hval0
  have hW' := hW
  obtain ⟨p, q, hA0, hV, rfl, hfz, hnd⟩ := hW
  have hA : DataW.TrodAll enc Tryd.prog W 0 (fun _ => true) true Tryd.f8.params.toList args.toList ds p := hA0
  rw [Tryd.params8] at hA hval
  obtain ⟨v0, vs0, d0, ds0, p0, q0, hargs, rfl, rfl, h0, r0⟩ := trodAll_cons hA
  obtain ⟨v1, vs1, d1, ds1, p1, q1, rfl, rfl, rfl, h1, r1⟩ := trodAll_cons r0
  obtain ⟨v2, vs2, d2, ds2, p2, q2, rfl, rfl, rfl, h2, r2⟩ := trodAll_cons r1
  obtain ⟨rfl, rfl, rfl⟩ := trodAll_nil r2
  obtain rfl : args = #[v0, v1, v2] := by cases args; simp_all
  obtain ⟨rfl, rfl⟩ := trodVars_none hV
  have k0 := h0
  have lt0 : ∀ x ∈ p0, x.block < W.heap.size := by obtain ⟨m, hm⟩ := k0; exact DataW.trod_lt m _ _ _ hm
  have k1 := h1
  have lt1 : ∀ x ∈ p1, x.block < W.heap.size := by obtain ⟨m, hm⟩ := k1; exact DataW.trod_lt m _ _ _ hm
  have k2 := h2
  have lt2 : ∀ x ∈ p2, x.block < W.heap.size := by obtain ⟨m, hm⟩ := k2; exact DataW.trod_lt m _ _ _ hm
  obtain ⟨I0, u0, rfl, e0, _⟩ := open_inst (hval 0 24 v0 rfl rfl) h0
  obtain ⟨u1, l1, rfl, e1, _⟩ := open_plan (hval 1 27 v1 rfl rfl) h1
  obtain ⟨a2, rfl, rfl, rfl, i2⟩ := open_int Tryd.underlying3 (hval 2 3 v2 rfl rfl) h2
  have hT := tab_of_laid hL
  clear hA0 hval0
  refine (walk I0 _ _ l1 a2 W e0 e1 hT).mono fun e W' ⟨he, bel⟩ => ?_
  subst he
  exact ⟨_, rfl, _, _, _, [], _, [], hW', trodAll_mk1 (shut_bool Tryd.underlying4 _), (trodAll_cons_mk (Below.trod laidOut (by kernel_rfl) (of_decide_eq_true (by kernel_rfl)) k0 bel lt0) (trodAll_cons_mk (Below.trod laidOut (by kernel_rfl) (of_decide_eq_true (by kernel_rfl)) k1 bel lt1) (trodAll_cons_mk (Below.trod laidOut (by kernel_rfl) (of_decide_eq_true (by kernel_rfl)) k2 bel lt2) trodAll_mk0))), rfl, bel.frame _, fun h => by cases h⟩

theorem over : Rows.PlanSplitSaid :=
  OpenClaim.holds_of_wide 8 Tryd.f8 rfl rfl rfl rfl rfl rfl rfl ⟨rfl, rfl, rfl, rfl, rfl⟩ rfl rfl rfl rfl rfl (by kernel_rfl) Tryd.func8 (by kernel_rfl)
    (of_decide_eq_true (by kernel_rfl)) (by unfold Func.isWrapper; first | (rw [if_pos (by decide +kernel)]; kernel_rfl) | (rw [if_neg (by decide +kernel)]; exact ⟨rfl, rfl⟩))
    (fun os started H enc _ => lifted os started H enc)

theorem proved : Rows.PlanSplitCardSaid :=
  Claim7.holds_tied_plain_at .later [] [.data, .data, .data] true Rows.planSplitCard.stood.harness false
    over (fun _ h => by cases h) (by kernel_rfl) (fun _ h => by cases h) planSplit_row_tie rfl ⟨rfl, rfl⟩ (by kernel_rfl) rfl
    (fun f fn hf hfn => by
      obtain rfl : f = 8 := Option.some.inj ((show Tryd.prog.funcNamed Rows.planSplitRow.func = some 8 by kernel_rfl).symm.trans hf) |>.symm
      obtain rfl : fn = Tryd.f8 := (Option.some.inj (Tryd.func8.symm.trans hfn)).symm
      refine ⟨by kernel_rfl, fun j t ht => ?_⟩
      rw [Tryd.params8] at ht
      rcases j with _ | _ | _ | j
      · obtain rfl : t = 24 := by simpa using ht.symm
        exact (show Tryd.prog.wantsStandIn 24 = false by kernel_rfl)
      · obtain rfl : t = 27 := by simpa using ht.symm
        exact (show Tryd.prog.wantsStandIn 27 = false by kernel_rfl)
      · obtain rfl : t = 3 := by simpa using ht.symm
        exact (show Tryd.prog.wantsStandIn 3 = false by kernel_rfl)
      · simp at ht)
    (by kernel_rfl)
#print axioms proved
end Go.Proofs.YtpdeffpmfbplnaaDoor.planSplit
