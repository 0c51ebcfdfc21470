/- The program's own among: which places of a list are left. -/
import Derived.Test.YtgplajofemencaaGreatGLeft
namespace Go.Proofs.YtgplajofemencaaGreat
open Go.ChangeShapes Go.WideShapes Go.ChangeAt Go.RowKit

theorem kf_saw {s : Sta} (h1 : Fit s.pos) (h2 : SetsOk s) : KeyFit (sawS s) := by
  have h0 : Fit 0 := by unfold Fit; omega
  exact ⟨⟨h1, h0, h0, h0, h0⟩, h2⟩
theorem wp_app_int_at {w : World} {o : Oper} {a : Act} {K : Act → World → Prop} {Q : Exit → Act → World → Prop} (s x : Operand)
    (ho : o.op = .call { callee := .builtin .append, args := #[s, x], argTypes := #[28, 28] }) (B : Nat) (v : Value) (ys : List Int) (hs : a.eval s = v) (hown : OwnI w B v ys)
    (g : Nat) (n : Int) (hx : a.eval x = .slice (some ⟨g, 0, none⟩) 1 1) (hg : w.cell? ⟨g, 0, none⟩ = some (.int .i64 n)) (hlen : ys.length ≤ 1000000) (hB : B ≤ w.heap.size)
    (h : ∀ v' w', OwnI w' B v' (ys ++ [n]) → w.grownBy w' v.ownBlock → (v'.ownBlock = v.ownBlock ∨ v'.ownBlock = some w.heap.size) → K (a.put o.dst v') w') : o.wp Tryz.prog a w K Q := by
  obtain ⟨i0, hi, hz0, hz1, hz2⟩ := info_parts infoInt
  refine wp_append_lies w s x 28 ho B 3 i0 _ 1 8 Tryz.underlying28 hi hz0 hz1 hz2 rfl (by decide) v ys.length (ints ys) hs hown ⟨g, 0, none⟩ 1 1 [.int .i64 n] hx rfl ?_ (by simp [Value.oneCell']) (by decide) (by unfold maxLen; omega) (by omega) hB _ rfl ?_
  · intro j u hj
    match j with
    | 0 => simp at hj; subst hj; rw [add_off]; exact hg
    | j + 1 => simp at hj
  · intro g' cap w' h1 h2 h3 _
    refine h _ w' ?_ h2 (h3.elim (fun e => .inl e.symm) (fun e => .inr (by rw [← e]; rfl)))
    unfold OwnI
    rw [List.length_append, show ints (ys ++ [n]) = ints ys ++ [.int .i64 n] by simp [ints]]
    exact h1
theorem stays_in {l : List Nod} {i : Nat} (hi : i < l.length) : decide ((i : Int) ∈ ni (leftK l l.length (sawS (nodAt l i).s))) = decide (Stays l i) := by
  rw [Bool.eq_iff_iff, decide_eq_true_eq, decide_eq_true_eq, mem_ni_nat, leftK_end hi]
/-- A round's first half: what is in the map at what this node has seen. -/
structure AmR (w wr : World) (v : Value) (l : List Nod) (k N : Nat) (n : Nod) (x : Value) (u : Value) : Prop where
  box : CellB wr w.heap.size 35 v
  mp : CellB wr (w.heap.size + 1 + 1) 127 (.map (some (w.heap.size + 1)))
  nod : NodB wr N n.s n.cost x
  bel : Below w.heap.size w wr
  left : ∃ f, LeftAt wr w.heap.size (w.heap.size + 1) k l f ∧ u = f (sawS n.s)
theorem AmR.below {w wr w' : World} {v : Value} {l : List Nod} {k N : Nat} {n : Nod} {x u : Value} (h : AmR w wr v l k N n x u) (hb : Below wr.heap.size wr w') : AmR w w' v l k N n x u := by
  obtain ⟨h1, h2, h3, h4, f, h5, h6⟩ := h
  exact ⟨h1.later hb, h2.later hb, h3.later hb, h4.trans (hb.mono h4.size), f, h5.below hb, h6⟩
/-- A round's second half: the row of what this node has seen is u now, and has zs. -/
structure AmO (w wr : World) (v : Value) (l : List Nod) (k N : Nat) (n : Nod) (x : Value) (f : Sta → Value) (u : Value) (zs : List Int) : Prop where
  box : CellB wr w.heap.size 35 v
  mp : CellB wr (w.heap.size + 1 + 1) 127 (.map (some (w.heap.size + 1)))
  nod : NodB wr N n.s n.cost x
  bel : Below w.heap.size w wr
  left : LeftOut wr w.heap.size (w.heap.size + 1) k l f (sawS n.s) u zs
section
variable {w wr w' : World} {v : Value} {l : List Nod} {k N : Nat} {n : Nod} {x u u' : Value} {f : Sta → Value} {zs zs' : List Int}
theorem AmO.below (h : AmO w wr v l k N n x f u zs) (hb : Below wr.heap.size wr w') : AmO w w' v l k N n x f u zs :=
  ⟨h.box.later hb, h.mp.later hb, h.nod.later hb, h.bel.trans (hb.mono h.bel.size), h.left.below hb⟩
theorem AmO.turn (h : AmO w wr v l k N n x f u zs) (hg : wr.grownBy w' u.ownBlock) (ho : OwnI w' w.heap.size u' zs') (hl : u'.ownBlock = u.ownBlock ∨ u'.ownBlock = some wr.heap.size) : AmO w w' v l k N n x f u' zs' :=
  ⟨h.box.kept hg (own_cell h.left.own h.box (by decide)), h.mp.kept hg (own_cell h.left.own h.mp (by decide)), h.nod.kept hg (own_nod h.left.own h.nod),
    Below.grown h.bel hg h.bel.size (fun g e => (own_lt h.left.own g e).1), h.left.turn hg ho hl⟩
theorem AmO.holds (h : AmO w wr v l k N n x f u zs) : Holds (cellsN N n.s n.cost x ++ [(⟨w.heap.size + 1 + 1, 0, none⟩, .map (some (w.heap.size + 1)))]) wr := Holds.app.2 ⟨h.nod.holds, h.mp.cell, trivial⟩
theorem AmO.lows (h : AmO w wr v l k N n x f u zs) : Lows wr.heap.size (cellsN N n.s n.cost x ++ [(⟨w.heap.size + 1 + 1, 0, none⟩, .map (some (w.heap.size + 1)))]) := Lows.app (lows_N h.nod.lt) ⟨h.mp.lt, trivial⟩
theorem AmR.holds (h : AmR w wr v l k N n x u) : Holds (cellsN N n.s n.cost x ++ [(⟨w.heap.size + 1 + 1, 0, none⟩, .map (some (w.heap.size + 1)))]) wr := Holds.app.2 ⟨h.nod.holds, h.mp.cell, trivial⟩
theorem AmR.lows (h : AmR w wr v l k N n x u) : Lows wr.heap.size (cellsN N n.s n.cost x ++ [(⟨w.heap.size + 1 + 1, 0, none⟩, .map (some (w.heap.size + 1)))]) := Lows.app (lows_N h.nod.lt) ⟨h.mp.lt, trivial⟩
theorem AmO.put (h : AmO w wr v l k N n x f u zs) (hn : nodAt l k = n) (hm : MapV w' (w.heap.size + 1) (k + 1) (fun r => if r = sawS n.s then u else f r)) (hg : wr.grownBy w' (some (w.heap.size + 1))) (hz : zs = ni (leftK l (k + 1) (sawS n.s))) : AmJ w w' v l (k + 1) := by
  have e : ∀ {b : Nat} {c : Array Value} {t : TypeId} {fr : Nat × Nat}, wr.heap[b]? = some (.cells c t fr) → some b ≠ some (w.heap.size + 1) := fun hb e2 => by
    cases e2
    exact h.left.map.notCells hb
  exact ⟨h.box.kept hg (e h.box), h.mp.kept hg (e h.mp), Below.grown h.bel hg h.bel.size (fun g e2 => by cases e2; omega), _, h.left.put hm hg (by rw [hn]) hz⟩
/-- The map's own block holds no cells: the cells of others stay. -/
theorem AmO.holds_put (h : AmO w wr v l k N n x f u zs) (hg : wr.grownBy w' (some (w.heap.size + 1))) : Holds (cellsN N n.s n.cost x ++ [(⟨w.heap.size + 1 + 1, 0, none⟩, .map (some (w.heap.size + 1)))]) w' := by
  have e : ∀ {b : Nat} {c : Array Value} {t : TypeId} {fr : Nat × Nat}, wr.heap[b]? = some (.cells c t fr) → some b ≠ some (w.heap.size + 1) := fun hb e2 => by
    cases e2
    exact h.left.map.notCells hb
  exact Holds.app.2 ⟨(h.nod.kept hg (e h.nod)).holds, (h.mp.kept hg (e h.mp)).cell, trivial⟩
theorem AmR.out (h : AmR w wr v l k N n x u) (hk : KeyFit (sawS n.s)) : ∃ f, AmO w wr v l k N n x f u (ni (leftK l k (sawS n.s))) := by
  obtain ⟨h1, h2, h3, h4, f, h5, rfl⟩ := h
  exact ⟨f, h1, h2, h3, h4, h5.out hk⟩
theorem AmR.same (h : AmR w wr v l k N n x u) (he : ∀ q, leftK l (k + 1) q = leftK l k q) : AmJ w wr v l (k + 1) := by
  obtain ⟨h1, h2, _, h4, f, h5, _⟩ := h
  exact ⟨h1, h2, h4, f, h5.same he⟩
/-- What the closures are asked. -/
theorem asks_better {xn : Option Addr} {nn cn : Nat} (hr : NRow w v l) (h : AmR w wr v l k N n (.slice xn nn cn) u) (hk : k ≤ l.length) (hs : ∀ x ∈ l, SetsOk x.s) (hn : SetsOk n.s) (hlen : l.length ≤ 1000000) (q : Sta) :
    Asks wr none 84 (.pointer (some ⟨w.heap.size, 0, none⟩)) (.pointer (some ⟨N, 0, none⟩)) (fun y => decide (Than (nodAt l y.toNat) n)) (ni (leftK l k q)) := by
  intro y hy w2 hg
  obtain ⟨i, hi, rfl⟩ := mem_ni.1 hy
  have hik := (mem_leftK.1 hi).1
  exact better_any hr (Below.grown h.bel hg h.bel.size (fun g e => by cases e)) (h.box.kept hg (by simp)) (h.nod.kept hg (by simp)) (by omega) hs hn hlen
theorem asks_worse {xn : Option Addr} {nn cn : Nat} (hr : NRow w v l) (h : AmO w wr v l k N n (.slice xn nn cn) f u zs) (hk : k ≤ l.length) (hs : ∀ x ∈ l, SetsOk x.s) (hn : SetsOk n.s) (hlen : l.length ≤ 1000000) (q : Sta) :
    Asks wr u.ownBlock 86 (.pointer (some ⟨N, 0, none⟩)) (.pointer (some ⟨w.heap.size, 0, none⟩)) (fun y => decide (Than n (nodAt l y.toNat))) (ni (leftK l k q)) := by
  intro y hy w2 hg
  obtain ⟨i, hi, rfl⟩ := mem_ni.1 hy
  have hik := (mem_leftK.1 hi).1
  exact worse_any hr (Below.grown h.bel hg h.bel.size (fun g e => (own_lt h.left.own g e).1)) (h.box.kept hg (own_cell h.left.own h.box (by decide))) (h.nod.kept hg (own_nod h.left.own h.nod)) (by omega) hs hn hlen
end
set_option maxRecDepth 1000000 in
set_option maxHeartbeats 4000000 in
theorem useless_any {wc w : World} {v : Value} {l : List Nod} {i : Nat} {wr : World} (hr : NRow wc v l) (hJ : AmJ wc wr v l l.length) (hb : Below wr.heap.size wr w) (hi : i < l.length) (hs : ∀ x ∈ l, SetsOk x.s) (hf : ∀ x ∈ l, Fit x.s.pos) (hlen : l.length ≤ 1000000) :
    Calls Tryz.prog 89 #[.int .i64 (i : Int), .pointer (some ⟨wc.heap.size + 1 + 1, 0, none⟩), .pointer (some ⟨wc.heap.size, 0, none⟩)] w fun e w' => e = .returned (.bool (!decide (Stays l i))) ∧ Below w.heap.size w w' := by
  have HJ := Lib.hid (hJ.below hb)
  clear hJ hb wr
  have HKF := Lib.hid (kf_saw (hf _ (nodAt_mem hi)) (hs _ (nodAt_mem hi)))
  have HST := Lib.hid (stays_in hi)
  have HRI := Lib.hid (ni_rises (leftK_rises l l.length (sawS (nodAt l i).s)))
  have HLE := Lib.hid (show (ni (leftK l l.length (sawS (nodAt l i).s))).length ≤ 1000000 by rw [ni_len]; have := leftK_len l l.length (sawS (nodAt l i).s); omega)
  obtain ⟨a0, cap, rfl, _⟩ := hr.form
  obtain ⟨b1, o1, qa, qc, ha, hn1, hl1, _⟩ := nrow_at hr i _ (nodAt_is hi)
  subst ha
  have HN1 := Lib.hid (hn1.below hl1 HJ.out.bel)
  have HB1 := Lib.hid (Nat.lt_of_lt_of_le hl1 HJ.out.bel.size)
  have hki : (i : Int) < (l.length : Int) := by omega
  have hil : i < 9223372036854775807 := by omega
  have hik : i < l.length := hi
  clear hr hn1 hl1 hi hs hf
  obtain ⟨y, hy⟩ : ∃ y, nodAt l i = y := ⟨_, rfl⟩
  rw [hy] at HN1 HKF HST HRI HLE
  clear hy
  obtain ⟨T, hT⟩ : ∃ T, wc.heap.size + 1 + 1 = T := ⟨_, rfl⟩
  obtain ⟨bm, hbm⟩ : ∃ bm, wc.heap.size + 1 = bm := ⟨_, rfl⟩
  obtain ⟨L, hL⟩ : ∃ L, wc.heap.size = L := ⟨_, rfl⟩
  have HBX := Lib.hid (show CellB w L 35 (.slice (some ⟨b1, o1, none⟩) l.length cap) by rw [← hL]; exact HJ.out.box)
  have HMP := Lib.hid (show CellB w T 127 (.map (some bm)) by rw [← hT, ← hbm]; exact HJ.out.mp)
  obtain ⟨f, hf0⟩ := HJ.out.left
  rw [hbm] at hf0
  have HLF := Lib.hid hf0
  rw [hT, hL]
  clear HJ hf0 hT hbm hL
  go_enter Tryz.func89, Tryz.ntmps89
  go_upto_region 1 with fail
  have HS0 := Lib.hid (show Holds ((⟨T, 0, none⟩, .map (some bm)) :: (⟨L, 0, none⟩, .slice (some ⟨b1, o1, none⟩) l.length cap) :: cellsRN b1 (o1 + i * 10) y.s y.cost (.slice qa y.path.length qc)) w.drew from ⟨HMP.out.cell, HBX.out.cell, holds_RN HN1.out⟩)
  have hlt := Lib.hid (show Lows w.drew.heap.size ((⟨T, 0, none⟩, .map (some bm)) :: (⟨L, 0, none⟩, .slice (some ⟨b1, o1, none⟩) l.length cap) :: cellsRN b1 (o1 + i * 10) y.s y.cost (.slice qa y.path.length qc)) from ⟨HMP.out.lt, HBX.out.lt, lows_RN HB1.out⟩)
  have HLD := Lib.hid (HLF.out.below ((Below.refl w.heap.size w).drew))
  refine wp_region_held_drew (S := Holds ((⟨T, 0, none⟩, .map (some bm)) :: (⟨L, 0, none⟩, .slice (some ⟨b1, o1, none⟩) l.length cap) :: cellsRN b1 (o1 + i * 10) y.s y.cost (.slice qa y.path.length qc))) (by kernel_rfl) HS0.out (fun hSn => ?_)
  have HD := Lib.hid ((Below.refl w.heap.size w).drew)
  generalize w.drew = V at *
  have Bc := Lib.hid (Below.refl V.heap.size V)
  simp only [cellsRN] at HS0 hlt hSn ⊢
  refine tks [0, 1, 2, 3, 4, 5, 8] 7 rfl (by kernel_rfl) (fun _ _ _ _ h => h) (by assumption) (fun KT hKT => ?_)
  iterate 7 (refine tkT (by (simp only [gA, gB, gC]; rfl)) (by rfl) (by (intro w hSw; (simp only [Holds] at hSw); go_simp <;> with_reducible rfl)) ?_; simp only [Act.put, pA, pB, pC])
  refine hKT _ ?_
  clear KT hKT
  refine wpAnyH_ready (rs := [6]) (by kernel_rfl) (by simp) ?_
  refine AllReadyH.cons (o := ?oz280) ?iz280 (fun K hK => ?kz280) AllReadyH.nil
  case iz280 => (simp only [List.getElem?_toArray, List.getElem?_cons_zero, List.getElem?_cons_succ]; rfl)
  go_simp
  change Calls _ _ #[staV y.s] _ _
  refine (gseen_any y.s _).mono ?_
  rintro e w' ⟨rfl, hb⟩
  refine held_more hK HS0.out hlt (Bc.out.trans (hb.mono Bc.out.size)) (fun Bc hSn => ?_)
  have HL2 := Lib.hid (HLD.out.below hb)
  clear hb hK
  have hlook := HL2.out.1.look HKF.out
  have HU := Lib.hid (HL2.out.2.1 _ HKF.out)
  obtain ⟨u, hu⟩ : ∃ u, f (sawS y.s) = u := ⟨_, rfl⟩
  rw [hu] at hlook HU
  clear hu
  refine wpAnyH_ready (rs := [7]) (by kernel_rfl) (by simp) ?_
  refine (AllReadyH.cons (o := ?oz281) ?iz281 (fun K hK => ?kz281) AllReadyH.nil)
  case iz281 => (simp only [List.getElem?_toArray, List.getElem?_cons_zero, List.getElem?_cons_succ]; rfl)
  go_simp
  refine held_more hK HS0.out hlt Bc.out (fun Bc hSn => ?_)
  clear hlook
  refine wpAnyH_ready (rs := [9]) (by kernel_rfl) (by simp) ?_
  refine AllReadyH.cons (o := ?oz282) ?iz282 (fun K hK => ?kz282) AllReadyH.nil
  case iz282 => (simp only [List.getElem?_toArray, List.getElem?_cons_zero, List.getElem?_cons_succ]; rfl)
  go_simp
  refine (binary_any (t := (i : Int)) HU.out.row HRI.out HLE.out).mono ?_
  rintro e w3 ⟨⟨j, rfl⟩, rfl⟩
  refine held_more hK HS0.out hlt Bc.out (fun Bc hSn => ?_)
  clear hK
  rw [HST.out]
  refine tks [10, 11, 12, 13, 14] 5 rfl (by kernel_rfl) (fun _ _ _ _ h => h) (by assumption) (fun KT hKT => ?_)
  iterate 5 (refine tkT (by (simp only [gA, gB, gC]; rfl)) (by rfl) (by (intro w hSw; (simp only [Holds] at hSw); go_simp <;> with_reducible rfl)) ?_; simp only [Act.put, pA, pB, pC])
  refine hKT _ ?_
  clear KT hKT
  refine wpAnyH_done (by kernel_rfl) ?_ _
  go_wp2
  go_ret
  exact ⟨rfl, HD.out.trans (Bc.out.mono HD.out.size)⟩
set_option maxRecDepth 1000000 in
set_option maxHeartbeats 4000000 in
theorem among_any {w : World} {v : Value} {l : List Nod} (hr : NRow w v l) (hs : ∀ x ∈ l, SetsOk x.s) (hf : ∀ x ∈ l, Fit x.s.pos) (hlen : l.length ≤ 1000000) :
    Calls Tryz.prog 55 #[v] w fun e w' => e = .returned (.func (.func 89) #[] #[.pointer (some ⟨w.heap.size + 1 + 1, 0, none⟩), .pointer (some ⟨w.heap.size, 0, none⟩)]) ∧ AmJ w w' v l l.length := by
  have HR := Lib.hid hr
  have HS := Lib.hid hs
  have HF := Lib.hid hf
  have HLE := Lib.hid hlen
  have H64 := Lib.hid (show ∀ x ∈ l, Fits64 x.s from fun x hx => fits_of (hs x hx))
  have hlm : l.length ≤ 9223372036854775807 := by omega
  obtain ⟨a0, cap, rfl, _⟩ := hr.form
  clear hr hs hf hlen
  have hmm := @run_makeMap Tryz.prog
  go_enter Tryz.func55, Tryz.ntmps55
  go_upto_region 2 with fail
  clear hmm
  have HJ0 := Lib.hid (amj_start w (.slice a0 l.length cap) l)
  change Code.wp _ _ _ _ (((w.alloc (.cells #[.slice a0 l.length cap] 35)).alloc (.map #[] 0)).alloc (.cells #[.map (some (w.heap.size + 1))] 127))
  generalize ((w.alloc (.cells #[.slice a0 l.length cap] 35)).alloc (.map #[] 0)).alloc (.cells #[.map (some (w.heap.size + 1))] 127) = W0 at *
  have x1 := HJ0.out.box.cell
  go_wp2_with fail
  clear x1
  go_loopw [12] (fun i wr => ∃ k : Nat, k ≤ l.length ∧ i = .int .i64 k ∧ AmJ w wr (.slice a0 l.length cap) l k) (fun i _ => l.length - (intOf i).toNat)
  case atStart => exact ⟨0, Nat.zero_le _, rfl, HJ0.out⟩
  case round =>
    obtain ⟨k, hk, rfl, hj⟩ := hrel
    have HJ := Lib.hid hj
    clear hj HJ0
    generalize wr = W1 at *
    by_cases hlt : k < l.length
    rotate_left
    · obtain rfl : k = l.length := by omega
      clear hlt hk
      go_wp2
      go_ret
      exact ⟨rfl, HJ.out⟩
    have HK := Lib.hid hlt
    obtain ⟨b1, o1, pa, pc, ha, hn1, hl1, _⟩ := nrow_at HR.out k _ (nodAt_is hlt)
    subst ha
    have HN1 := Lib.hid (hn1.below hl1 HJ.out.bel)
    have HKF := Lib.hid (kf_saw (HF.out _ (nodAt_mem hlt)) (HS.out _ (nodAt_mem hlt)))
    have HSN := Lib.hid (HS.out _ (nodAt_mem hlt))
    have HBT := Lib.hid (fun i => leftK_beaten H64.out hlt (i := i))
    have HNW := Lib.hid (leftK_new H64.out hlt)
    have HOT := Lib.hid (fun q => leftK_other (l := l) (k := k) (q := q))
    have hki : (k : Int) < (l.length : Int) := by omega
    have hk2 : IntKind.i64.wrap ((k : Int) + 1) = (k : Int) + 1 := IntWalk.i64_in _ (by omega)
    clear hn1 hl1 hk hlt
    obtain ⟨n, hn⟩ : ∃ n, nodAt l k = n := ⟨_, rfl⟩
    rw [hn] at HN1 HKF HSN HBT HNW HOT
    have HNN := Lib.hid hn
    clear hn
    obtain ⟨q0, q1, q2, q3, q4, q5, q6, q7, q8, q9⟩ := HN1.out
    go_upto_region 5 with fail
    clear q0 q1 q2 q3 q4 q5 q6 q7 q8 q9
    obtain ⟨nn, hnn⟩ : ∃ m, n.path.length = m := ⟨_, rfl⟩
    rw [hnn]
    change Code.wp _ _ _ _ (W1.alloc (boxN n.s n.cost (.slice pa nn pc)))
    have HR0 := Lib.hid (show AmR w (W1.alloc (boxN n.s n.cost (.slice pa nn pc))) (.slice (some ⟨b1, o1, none⟩) l.length cap) l k W1.heap.size n (.slice pa nn pc) ((Classical.choose HJ.out.left) (sawS n.s)) from by
      have hb := (Below.refl W1.heap.size W1).alloc (Nat.le_refl _) (boxN n.s n.cost (.slice pa nn pc))
      have h2 := HJ.out.below hb
      exact ⟨h2.box, h2.mp, nod_new _ _ _ _, h2.bel, _, (Classical.choose_spec HJ.out.left).below hb, rfl⟩)
    generalize (Classical.choose HJ.out.left) (sawS n.s) = u0 at HR0
    obtain ⟨N, hN⟩ : ∃ N, W1.heap.size = N := ⟨_, rfl⟩
    rw [hN] at HR0 ⊢
    clear hN hnn HN1 HJ
    generalize W1.alloc (boxN n.s n.cost (.slice pa nn pc)) = W2 at *
    obtain ⟨x, hx⟩ : ∃ x, x = Value.slice pa nn pc := ⟨_, rfl⟩
    go_cut [6] from 17 to 38 (fun u wx => AmR w wx (.slice (some ⟨b1, o1, none⟩) l.length cap) l k N n (.slice pa nn pc) u)
    case first =>
      have HRD := Lib.hid (HR0.out.below ((Below.refl _ W2).drew))
      have HS0 := Lib.hid HRD.out.holds
      have hlt := Lib.hid HRD.out.lows
      refine wp_region_held_drew (S := Holds (cellsN N n.s n.cost (.slice pa nn pc) ++ [(⟨w.heap.size + 1 + 1, 0, none⟩, .map (some (w.heap.size + 1)))])) (by kernel_rfl) HS0.out (fun hSn => ?_)
      generalize W2.drew = V at *
      have Bc := Lib.hid (Below.refl V.heap.size V)
      simp only [cellsN, List.cons_append, List.nil_append] at HS0 hlt hSn ⊢
      refine tks [0, 1, 2] 3 rfl (by kernel_rfl) (fun _ _ _ _ h => h) (by assumption) (fun KT hKT => ?_)
      iterate 3 (refine tkT (by (simp only [gA, gB, gC]; rfl)) (by rfl) (by (intro w hSw; (simp only [Holds] at hSw); go_simp <;> with_reducible rfl)) ?_; simp only [Act.put, pA, pB, pC])
      refine hKT _ ?_
      clear KT hKT
      refine wpAnyH_ready (rs := [3]) (by kernel_rfl) (by simp) ?_
      refine AllReadyH.cons (o := ?oz283) ?iz283 (fun K hK => ?kz283) AllReadyH.nil
      case iz283 => (simp only [List.getElem?_toArray, List.getElem?_cons_zero, List.getElem?_cons_succ]; rfl)
      go_simp
      change Calls _ _ #[staV n.s] _ _
      refine (gseen_any n.s _).mono ?_
      rintro e w3 ⟨rfl, hb⟩
      refine held_more hK HS0.out hlt (Bc.out.trans (hb.mono Bc.out.size)) (fun Bc hSn => ?_)
      have HR3 := Lib.hid (HRD.out.below hb)
      clear hb hK
      obtain ⟨f, hf1, hf2⟩ := HR3.out.left
      have hlook := hf1.1.look HKF.out
      rw [← hf2] at hlook
      clear hf1 hf2
      refine wpAnyH_ready (rs := [4]) (by kernel_rfl) (by simp) ?_
      refine (AllReadyH.cons (o := ?oz284) ?iz284 (fun K hK => ?kz284) AllReadyH.nil)
      case iz284 => (simp only [List.getElem?_toArray, List.getElem?_cons_zero, List.getElem?_cons_succ]; rfl)
      go_simp
      refine held_more hK HS0.out hlt Bc.out (fun Bc hSn => ?_)
      clear hlook
      refine tks [5] 1 rfl (by kernel_rfl) (fun _ _ _ _ h => h) (by assumption) (fun KT hKT => ?_)
      refine tkT (by (simp only [gA, gB, gC]; rfl)) (by rfl) (by (intro w hSw; (simp only [Holds] at hSw); go_simp <;> with_reducible rfl)) ?_
      simp only [Act.put, pA, pB, pC]
      refine hKT _ ?_
      clear KT hKT
      refine wpAnyH_done (by kernel_rfl) ?_ _
      go_wp2_with fail
      go_meet
      exact HR3.out
    case rest =>
    have HR2 := Lib.hid hcut
    clear hcut HR0 u0 hx x
    generalize wc = W3 at *
    obtain ⟨L, hL⟩ : ∃ L, ni (leftK l k (sawS n.s)) = L := ⟨_, rfl⟩
    have HAB := Lib.hid (asks_better HR.out HR2.out (Nat.le_of_lt HK.out) HS.out HSN.out HLE.out (sawS n.s))
    obtain ⟨f0, hf0⟩ := HR2.out.out HKF.out
    have HROW := Lib.hid hf0.left.own.row
    clear hf0
    obtain ⟨anyb, hany⟩ : ∃ b, (ni (leftK l k (sawS n.s))).any (fun y => decide (Than (nodAt l y.toNat) n)) = b := ⟨_, rfl⟩
    have HANY := Lib.hid hany
    go_wp2_with fail
    refine (contains_any enters1 HROW.out HAB.out).mono ?_
    rintro e w2 ⟨rfl, hb⟩
    have HR3 := Lib.hid (HR2.out.below hb)
    rw [hany]
    clear hb HROW HAB HR2 hany hL L f0
    cases anyb with
    | true =>
      have HSM := Lib.hid (show ∀ q, leftK l (k + 1) q = leftK l k q from fun q => by
        by_cases e : sawS n.s = q
        · subst e
          have h1 := HANY.out
          rw [ni_any] at h1
          obtain ⟨i, hi, ht⟩ := List.any_eq_true.1 h1
          simp only [Int.toNat_natCast, decide_eq_true_eq] at ht
          exact HBT.out i hi ht
        · exact HOT.out q e)
      go_wp2_with fail
      go_roundw
      case rel => exact ⟨k + 1, HK.out, by go_num, HR3.out.same HSM.out⟩
      case measure => have := HK.out; simp [intOf]; omega
    | false =>
      have HNT := Lib.hid (show leftK l (k + 1) (sawS n.s) = (leftK l k (sawS n.s)).filter (fun i => !decide (Than n (nodAt l i))) ++ [k] from HNW.out (fun i hi ht => by
        have h1 := HANY.out
        rw [ni_any] at h1
        have h2 : (leftK l k (sawS n.s)).any (fun i => decide (Than (nodAt l (i : Int).toNat) n)) = true := List.any_eq_true.2 ⟨i, hi, by simpa using ht⟩
        rw [h2] at h1
        cases h1))
      have HZS := Lib.hid (show (ni (leftK l k (sawS n.s))).filter (notP (fun y => decide (Than n (nodAt l y.toNat)))) ++ [(k : Int)] = ni (leftK l (k + 1) (sawS n.s)) by
        rw [HNT.out, ni_snoc, ni_filter]; rfl)
      have HLK := Lib.hid (show (ni (leftK l k (sawS n.s))).length ≤ 1000000 by rw [ni_len]; have := leftK_len l k (sawS n.s); have := HLE.out; have := HK.out; omega)
      have HLN := Lib.hid (show ((ni (leftK l k (sawS n.s))).filter (notP (fun y => decide (Than n (nodAt l y.toNat))))).length ≤ 1000000 from Nat.le_trans (List.length_filter_le _ _) HLK.out)
      clear HANY HNT HBT HNW HOT
      go_upto_region 9 with fail
      obtain ⟨f, hf1⟩ := (HR3.out.below ((Below.refl _ w2).drew)).out HKF.out
      have HO := Lib.hid hf1
      have HOL := Lib.hid hf1
      clear hf1
      have HS0 := Lib.hid HO.out.holds
      have hlt := Lib.hid HO.out.lows
      refine wp_region_held_drew (S := Holds (cellsN N n.s n.cost (.slice pa nn pc) ++ [(⟨w.heap.size + 1 + 1, 0, none⟩, .map (some (w.heap.size + 1)))])) (by kernel_rfl) HS0.out (fun hSn => ?_)
      generalize w2.drew = V at *
      have Bc := Lib.hid (Below.refl V.heap.size V)
      simp only [cellsN, List.cons_append, List.nil_append] at HS0 hlt hSn ⊢
      refine tks [0, 1, 2, 4, 5, 7] 6 rfl (by kernel_rfl) (fun _ _ _ _ h => h) (by assumption) (fun KT hKT => ?_)
      iterate 6 (refine tkT (by (simp only [gA, gB, gC]; rfl)) (by rfl) (by (intro w hSw; (simp only [Holds] at hSw); go_simp <;> with_reducible rfl)) ?_; simp only [Act.put, pA, pB, pC])
      refine hKT _ ?_
      clear KT hKT
      refine wpAnyH_ready (rs := [3, 8]) (by kernel_rfl) (by simp) ?_
      refine (AllReadyH.cons (o := ?oz285) ?iz285 (fun K hK => ?kz285) (AllReadyH.cons (o := ?oz286) ?iz286 (fun K hK => ?kz286) AllReadyH.nil))
      case iz285 => (simp only [List.getElem?_toArray, List.getElem?_cons_zero, List.getElem?_cons_succ]; rfl)
      case iz286 => (simp only [List.getElem?_toArray, List.getElem?_cons_zero, List.getElem?_cons_succ]; rfl)
      · skip
        go_simp
        change Calls _ _ #[staV n.s] _ _
        refine (gseen_any n.s _).mono ?_
        rintro e w3 ⟨rfl, hb⟩
        refine held_more hK HS0.out hlt (Bc.out.trans (hb.mono Bc.out.size)) (fun Bc hSn => ?_)
        have HOn := Lib.hid (HO.out.below hb)
        clear HO
        have HO := HOn
        clear HOn
        have HOL3 := Lib.hid HO.out
        clear HOL
        have HOL := HOL3
        clear HOL3
        clear hb hK
        refine wpAnyH_ready (rs := [6, 8]) (by kernel_rfl) (by simp) ?_
        refine (AllReadyH.cons (o := ?oz287) ?iz287 (fun K hK => ?kz287) (AllReadyH.cons (o := ?oz288) ?iz288 (fun K hK => ?kz288) AllReadyH.nil))
        case iz287 => (simp only [List.getElem?_toArray, List.getElem?_cons_zero, List.getElem?_cons_succ]; rfl)
        case iz288 => (simp only [List.getElem?_toArray, List.getElem?_cons_zero, List.getElem?_cons_succ]; rfl)
        · skip
          go_simp
          refine (delete_any (p := fun y => decide (Than n (nodAt l y.toNat))) enters2 HO.out.left.own (asks_worse HR.out HO.out (Nat.le_of_lt HK.out) HS.out HSN.out HLE.out _) HLK.out).mono ?_
          rintro e w4 ⟨u4, rfl, hu, heq, hg⟩
          have HO4 := Lib.hid (HO.out.turn hg hu (.inl heq))
          have HSX := Lib.hid HO4.out.holds
          have HLX := Lib.hid HO4.out.lows
          simp only [cellsN, List.cons_append, List.nil_append] at HSX HLX
          refine hK.out _ _ HSX.out (fun hSn => ?_)
          clear hu heq hg hK HO HS0 hlt Bc
          have HO := HO4
          have HS0 := HSX
          have hlt := HLX
          clear HO4 HSX HLX
          have Bc := Lib.hid (Below.refl w4.heap.size w4)
          refine wpAnyH_ready (rs := [8]) (by kernel_rfl) (by simp) ?_
          refine AllReadyH.cons (o := ?oz289) ?iz289 (fun K hK => ?kz289) AllReadyH.nil
          case iz289 => (simp only [List.getElem?_toArray, List.getElem?_cons_zero, List.getElem?_cons_succ]; rfl)
          go_simp
          refine held_more hK HS0.out hlt (Bc.out.alloc Bc.out.size _) (fun Bc hSn => ?_)
          have HOn := Lib.hid (HO.out.below ((Below.refl _ w4).alloc (Nat.le_refl _) (.cells #[.int .i64 (k : Int)] 3)))
          clear HO
          have HO := HOn
          clear HOn
          obtain ⟨Z, hZ⟩ : ∃ Z, w4.heap.size = Z := ⟨_, rfl⟩
          have HZ := Lib.hid (show CellB (w4.alloc (.cells #[.int .i64 (k : Int)] 3)) Z 3 (.int .i64 (k : Int)) by rw [← hZ]; exact heap_alloc_new _ _)
          rw [hZ]
          clear hZ
          obtain ⟨WB, hWB⟩ : ∃ W, w4.alloc (.cells #[.int .i64 (k : Int)] 3) = W := ⟨_, rfl⟩
          rw [hWB] at HO HZ Bc hSn ⊢
          clear hWB hK
          refine wpAnyH_ready (rs := [9]) (by kernel_rfl) (by simp) ?_
          refine (AllReadyH.cons (o := ?oz290) ?iz290 (fun K hK => ?kz290) AllReadyH.nil)
          case iz290 => (simp only [List.getElem?_toArray, List.getElem?_cons_zero, List.getElem?_cons_succ]; rfl)
          simp only [Act.put, List.setIfInBounds_toArray, List.set_cons_zero, List.set_cons_succ]
          rw [if_pos (by rfl)]
          refine wp_app_int_at _ _ (by rfl) w.heap.size _ _ (by rfl) HO.out.left.own Z (k : Int) (by rfl) HZ.out.cell HLN.out HO.out.bel.size ?_
          intro v5 w5 hown hgrow hat
          have HON := Lib.hid (HO.out.turn hgrow hown hat)
          clear hown hgrow hat
          refine hK.out _ _ HON.out.holds (fun hSn => ?_)
          clear hK HO
          refine wpAnyH_ready (rs := [10]) (by kernel_rfl) (by simp) ?_
          refine (AllReadyH.cons (o := ?oz291) ?iz291 (fun K hK => ?kz291) AllReadyH.nil)
          case iz291 => (simp only [List.getElem?_toArray, List.getElem?_cons_zero, List.getElem?_cons_succ]; rfl)
          simp only [Act.put, List.setIfInBounds_toArray, List.set_cons_zero, List.set_cons_succ]
          rw [if_pos (by rfl)]
          refine HON.out.left.map.wp_put (by have := HK.out; have := HLE.out; unfold maxLen; omega) HKF.out _ _ _ (by rfl) (by rfl) (by rfl) (by rfl) ?_
          intro w6 hm hg
          refine hK.out _ _ (HON.out.holds_put hg) (fun hSn => ?_)
          have HF6 := Lib.hid (HON.out.put HNN.out hm hg HZS.out)
          clear hm hg hK
          refine wpAnyH_done (by kernel_rfl) ?_ _
          go_wp2_with fail
          go_roundw
          case rel => exact ⟨k + 1, HK.out, by go_num, HF6.out⟩
          case measure => have := HK.out; simp [intOf]; omega
        · skip
          go_simp
          refine held_more hK HS0.out hlt (Bc.out.alloc Bc.out.size _) (fun Bc hSn => ?_)
          have HOn := Lib.hid (HO.out.below ((Below.refl _ w3).alloc (Nat.le_refl _) (.cells #[.int .i64 (k : Int)] 3)))
          clear HO
          have HO := HOn
          clear HOn
          obtain ⟨Z, hZ⟩ : ∃ Z, w3.heap.size = Z := ⟨_, rfl⟩
          have HZ := Lib.hid (show CellB (w3.alloc (.cells #[.int .i64 (k : Int)] 3)) Z 3 (.int .i64 (k : Int)) by rw [← hZ]; exact heap_alloc_new _ _)
          have HZL := Lib.hid (show ∀ g, u6.ownBlock = some g → g < Z from fun g e => by rw [← hZ]; exact (own_lt HOL.out.left.own g e).2)
          rw [hZ]
          clear hZ
          obtain ⟨WB, hWB⟩ : ∃ W, w3.alloc (.cells #[.int .i64 (k : Int)] 3) = W := ⟨_, rfl⟩
          rw [hWB] at HO HZ Bc hSn ⊢
          clear hWB hK
          refine wpAnyH_ready (rs := [6]) (by kernel_rfl) (by simp) ?_
          refine AllReadyH.cons (o := ?oz292) ?iz292 (fun K hK => ?kz292) AllReadyH.nil
          case iz292 => (simp only [List.getElem?_toArray, List.getElem?_cons_zero, List.getElem?_cons_succ]; rfl)
          go_simp
          refine (delete_any (p := fun y => decide (Than n (nodAt l y.toNat))) enters2 HO.out.left.own (asks_worse HR.out HO.out (Nat.le_of_lt HK.out) HS.out HSN.out HLE.out _) HLK.out).mono ?_
          rintro e w4 ⟨u4, rfl, hu, heq, hg⟩
          have HZn := Lib.hid (HZ.out.kept hg (fun e => Nat.lt_irrefl _ (HZL.out Z e.symm)))
          clear HZ
          have HZ := HZn
          clear HZn
          have HO4 := Lib.hid (HO.out.turn hg hu (.inl heq))
          have HSX := Lib.hid HO4.out.holds
          have HLX := Lib.hid HO4.out.lows
          simp only [cellsN, List.cons_append, List.nil_append] at HSX HLX
          refine hK.out _ _ HSX.out (fun hSn => ?_)
          clear hu heq hg hK HO HS0 hlt Bc
          have HO := HO4
          have HS0 := HSX
          have hlt := HLX
          clear HO4 HSX HLX
          have Bc := Lib.hid (Below.refl w4.heap.size w4)
          refine wpAnyH_ready (rs := [9]) (by kernel_rfl) (by simp) ?_
          refine (AllReadyH.cons (o := ?oz293) ?iz293 (fun K hK => ?kz293) AllReadyH.nil)
          case iz293 => (simp only [List.getElem?_toArray, List.getElem?_cons_zero, List.getElem?_cons_succ]; rfl)
          simp only [Act.put, List.setIfInBounds_toArray, List.set_cons_zero, List.set_cons_succ]
          rw [if_pos (by rfl)]
          refine wp_app_int_at _ _ (by rfl) w.heap.size _ _ (by rfl) HO.out.left.own Z (k : Int) (by rfl) HZ.out.cell HLN.out HO.out.bel.size ?_
          intro v5 w5 hown hgrow hat
          have HON := Lib.hid (HO.out.turn hgrow hown hat)
          clear hown hgrow hat
          refine hK.out _ _ HON.out.holds (fun hSn => ?_)
          clear hK HO
          refine wpAnyH_ready (rs := [10]) (by kernel_rfl) (by simp) ?_
          refine (AllReadyH.cons (o := ?oz294) ?iz294 (fun K hK => ?kz294) AllReadyH.nil)
          case iz294 => (simp only [List.getElem?_toArray, List.getElem?_cons_zero, List.getElem?_cons_succ]; rfl)
          simp only [Act.put, List.setIfInBounds_toArray, List.set_cons_zero, List.set_cons_succ]
          rw [if_pos (by rfl)]
          refine HON.out.left.map.wp_put (by have := HK.out; have := HLE.out; unfold maxLen; omega) HKF.out _ _ _ (by rfl) (by rfl) (by rfl) (by rfl) ?_
          intro w6 hm hg
          refine hK.out _ _ (HON.out.holds_put hg) (fun hSn => ?_)
          have HF6 := Lib.hid (HON.out.put HNN.out hm hg HZS.out)
          clear hm hg hK
          refine wpAnyH_done (by kernel_rfl) ?_ _
          go_wp2_with fail
          go_roundw
          case rel => exact ⟨k + 1, HK.out, by go_num, HF6.out⟩
          case measure => have := HK.out; simp [intOf]; omega
      · skip
        go_simp
        refine held_more hK HS0.out hlt (Bc.out.alloc Bc.out.size _) (fun Bc hSn => ?_)
        have HOn := Lib.hid (HO.out.below ((Below.refl _ V).alloc (Nat.le_refl _) (.cells #[.int .i64 (k : Int)] 3)))
        clear HO
        have HO := HOn
        clear HOn
        obtain ⟨Z, hZ⟩ : ∃ Z, V.heap.size = Z := ⟨_, rfl⟩
        have HZ := Lib.hid (show CellB (V.alloc (.cells #[.int .i64 (k : Int)] 3)) Z 3 (.int .i64 (k : Int)) by rw [← hZ]; exact heap_alloc_new _ _)
        have HZL := Lib.hid (show ∀ g, u6.ownBlock = some g → g < Z from fun g e => by rw [← hZ]; exact (own_lt HOL.out.left.own g e).2)
        rw [hZ]
        clear hZ
        obtain ⟨WB, hWB⟩ : ∃ W, V.alloc (.cells #[.int .i64 (k : Int)] 3) = W := ⟨_, rfl⟩
        rw [hWB] at HO HZ Bc hSn ⊢
        clear hWB hK
        refine wpAnyH_ready (rs := [3]) (by kernel_rfl) (by simp) ?_
        refine AllReadyH.cons (o := ?oz295) ?iz295 (fun K hK => ?kz295) AllReadyH.nil
        case iz295 => (simp only [List.getElem?_toArray, List.getElem?_cons_zero, List.getElem?_cons_succ]; rfl)
        go_simp
        change Calls _ _ #[staV n.s] _ _
        refine (gseen_any n.s _).mono ?_
        rintro e w3 ⟨rfl, hb⟩
        refine held_more hK HS0.out hlt (Bc.out.trans (hb.mono Bc.out.size)) (fun Bc hSn => ?_)
        have HOn := Lib.hid (HO.out.below hb)
        clear HO
        have HO := HOn
        clear HOn
        have HZn := Lib.hid (HZ.out.later hb)
        clear HZ
        have HZ := HZn
        clear HZn
        clear hb hK
        refine wpAnyH_ready (rs := [6]) (by kernel_rfl) (by simp) ?_
        refine AllReadyH.cons (o := ?oz296) ?iz296 (fun K hK => ?kz296) AllReadyH.nil
        case iz296 => (simp only [List.getElem?_toArray, List.getElem?_cons_zero, List.getElem?_cons_succ]; rfl)
        go_simp
        refine (delete_any (p := fun y => decide (Than n (nodAt l y.toNat))) enters2 HO.out.left.own (asks_worse HR.out HO.out (Nat.le_of_lt HK.out) HS.out HSN.out HLE.out _) HLK.out).mono ?_
        rintro e w4 ⟨u4, rfl, hu, heq, hg⟩
        have HZn := Lib.hid (HZ.out.kept hg (fun e => Nat.lt_irrefl _ (HZL.out Z e.symm)))
        clear HZ
        have HZ := HZn
        clear HZn
        have HO4 := Lib.hid (HO.out.turn hg hu (.inl heq))
        have HSX := Lib.hid HO4.out.holds
        have HLX := Lib.hid HO4.out.lows
        simp only [cellsN, List.cons_append, List.nil_append] at HSX HLX
        refine hK.out _ _ HSX.out (fun hSn => ?_)
        clear hu heq hg hK HO HS0 hlt Bc
        have HO := HO4
        have HS0 := HSX
        have hlt := HLX
        clear HO4 HSX HLX
        have Bc := Lib.hid (Below.refl w4.heap.size w4)
        refine wpAnyH_ready (rs := [9]) (by kernel_rfl) (by simp) ?_
        refine (AllReadyH.cons (o := ?oz297) ?iz297 (fun K hK => ?kz297) AllReadyH.nil)
        case iz297 => (simp only [List.getElem?_toArray, List.getElem?_cons_zero, List.getElem?_cons_succ]; rfl)
        simp only [Act.put, List.setIfInBounds_toArray, List.set_cons_zero, List.set_cons_succ]
        rw [if_pos (by rfl)]
        refine wp_app_int_at _ _ (by rfl) w.heap.size _ _ (by rfl) HO.out.left.own Z (k : Int) (by rfl) HZ.out.cell HLN.out HO.out.bel.size ?_
        intro v5 w5 hown hgrow hat
        have HON := Lib.hid (HO.out.turn hgrow hown hat)
        clear hown hgrow hat
        refine hK.out _ _ HON.out.holds (fun hSn => ?_)
        clear hK HO
        refine wpAnyH_ready (rs := [10]) (by kernel_rfl) (by simp) ?_
        refine (AllReadyH.cons (o := ?oz298) ?iz298 (fun K hK => ?kz298) AllReadyH.nil)
        case iz298 => (simp only [List.getElem?_toArray, List.getElem?_cons_zero, List.getElem?_cons_succ]; rfl)
        simp only [Act.put, List.setIfInBounds_toArray, List.set_cons_zero, List.set_cons_succ]
        rw [if_pos (by rfl)]
        refine HON.out.left.map.wp_put (by have := HK.out; have := HLE.out; unfold maxLen; omega) HKF.out _ _ _ (by rfl) (by rfl) (by rfl) (by rfl) ?_
        intro w6 hm hg
        refine hK.out _ _ (HON.out.holds_put hg) (fun hSn => ?_)
        have HF6 := Lib.hid (HON.out.put HNN.out hm hg HZS.out)
        clear hm hg hK
        refine wpAnyH_done (by kernel_rfl) ?_ _
        go_wp2_with fail
        go_roundw
        case rel => exact ⟨k + 1, HK.out, by go_num, HF6.out⟩
        case measure => have := HK.out; simp [intOf]; omega
end Go.Proofs.YtgplajofemencaaGreat
