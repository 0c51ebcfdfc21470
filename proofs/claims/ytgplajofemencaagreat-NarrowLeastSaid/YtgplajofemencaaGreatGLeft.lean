/- What among keeps in memory, and what its closures answer. -/
import Derived.Test.YtgplajofemencaaGreatGThan13
import Derived.Test.YtgplajofemencaaGreatGMap
import Derived.Test.YtgplajofemencaaGreatXG
import Derived.Test.YtgplajofemencaaGreatXN
import Derived.Test.YtgplajofemencaaGreatYG
import Derived.Test.YtgplajofemencaaGreatYJ
namespace Go.Proofs.YtgplajofemencaaGreat
open Go.ChangeShapes Go.WideShapes Go.ChangeAt Go.RowKit

/-- A variable in a block of its own. -/
def CellB (w : World) (b : Nat) (t : TypeId) (v : Value) : Prop := w.heap[b]? = some (.cells #[v] t (0, 0))
theorem CellB.lt {w : World} {b : Nat} {t : TypeId} {v : Value} (h : CellB w b t v) : b < w.heap.size := (Array.getElem?_eq_some_iff.1 h).1
theorem CellB.later {w w' : World} {b : Nat} {t : TypeId} {v : Value} (h : CellB w b t v) (hb : Below w.heap.size w w') : CellB w' b t v := by unfold CellB; rw [hb.block b h.lt]; exact h
theorem CellB.kept {w w' : World} {b : Nat} {t : TypeId} {v : Value} {g : Option Nat} (h : CellB w b t v) (hg : w.grownBy w' g) (hne : some b ≠ g) : CellB w' b t v := by unfold CellB; rw [hg.block b h.lt hne]; exact h
theorem CellB.cell {w : World} {b : Nat} {t : TypeId} {v : Value} (h : CellB w b t v) : w.cell? ⟨b, 0, none⟩ = some v := cell_of_row w b 0 _ _ _ h
theorem NodB.kept {w w' : World} {b : Nat} {s : Sta} {c : Int} {v : Value} {g : Option Nat} (h : NodB w b s c v) (hg : w.grownBy w' g) (hne : some b ≠ g) : NodB w' b s c v := by unfold NodB; rw [hg.block b h.lt hne]; exact h
/-- A row of numbers that the call has made lies in none of these. -/
theorem own_cell {w : World} {B b : Nat} {t : TypeId} {v x : Value} {zs : List Int} (h : OwnI w B v zs) (hb : CellB w b t x) (ht : t ≠ 3) : some b ≠ v.ownBlock := fun e =>
  (own_ne (show w.ownsRow B 3 1 v zs.length (ints zs) from h) hb (fun e => ht e.symm)) e.symm
theorem own_nod {w : World} {B b : Nat} {s : Sta} {c : Int} {v u : Value} {zs : List Int} (h : OwnI w B v zs) (hb : NodB w b s c u) : some b ≠ v.ownBlock := fun e =>
  (own_ne (show w.ownsRow B 3 1 v zs.length (ints zs) from h) hb (by decide)) e.symm
theorem own_map {w : World} {B bm n : Nat} {v : Value} {zs : List Int} {f : Sta → Value} (h : OwnI w B v zs) (hm : MapV w bm n f) : v.ownBlock ≠ some bm := by
  intro e
  rcases (show w.ownsRow B 3 1 v zs.length (ints zs) from h).2 with ⟨rfl, _⟩ | ⟨g, cap, cur, rfl, _, hg, _⟩
  · simp [Value.ownBlock] at e
  · simp only [Value.ownBlock, Option.some.injEq] at e
    subst e
    exact hm.notCells hg
theorem own_lt {w : World} {B : Nat} {v : Value} {zs : List Int} (h : OwnI w B v zs) (g : Nat) (hg : v.ownBlock = some g) : B ≤ g ∧ g < w.heap.size := World.ownsRow.lt (show w.ownsRow B 3 1 v zs.length (ints zs) from h) g hg
theorem MapV.mono {w : World} {bm n m : Nat} {f : Sta → Value} (h : MapV w bm n f) (hn : n ≤ m) : MapV w bm m f := by
  obtain ⟨D, h1, h2⟩ := h
  exact ⟨D, h1.mono hn, h2⟩
theorem ni_any (L : List Nat) (p : Int → Bool) : (ni L).any p = L.any (fun i => p (i : Int)) := by
  unfold ni; rw [List.any_map]; rfl
theorem ni_filter (L : List Nat) (p : Int → Bool) : (ni L).filter (notP p) = ni (L.filter (fun i => !p (i : Int))) := by
  unfold ni; rw [List.filter_map]; rfl
theorem ni_snoc (L : List Nat) (k : Nat) : ni (L ++ [k]) = ni L ++ [(k : Int)] := by simp [ni]
theorem ni_rises {L : List Nat} (h : L.Pairwise (fun a b => a < b)) : (ni L).Pairwise (fun a b => a < b) := by
  unfold ni; exact List.Pairwise.map _ (fun a b h => by omega) h
theorem mem_ni {L : List Nat} {x : Int} : x ∈ ni L ↔ ∃ i ∈ L, (i : Int) = x := by unfold ni; exact List.mem_map
theorem mem_ni_nat {L : List Nat} {i : Nat} : (i : Int) ∈ ni L ↔ i ∈ L := by
  rw [mem_ni]
  constructor
  · rintro ⟨j, hj, e⟩
    obtain rfl : j = i := by omega
    exact hj
  · exact fun h => ⟨i, h, rfl⟩
/-- The map of the places that are left so far. -/
def LeftAt (w : World) (B bm k : Nat) (l : List Nod) (f : Sta → Value) : Prop :=
  MapV w bm k f ∧ (∀ q, KeyFit q → OwnI w B (f q) (ni (leftK l k q))) ∧ ∀ q r, KeyFit q → KeyFit r → q ≠ r → (f q).ownBlock = none ∨ (f q).ownBlock ≠ (f r).ownBlock
/-- The same, but for one state's row, which is u now, and has zs. -/
structure LeftOut (w : World) (B bm k : Nat) (l : List Nod) (f : Sta → Value) (q0 : Sta) (u : Value) (zs : List Int) : Prop where
  map : MapV w bm k f
  own : OwnI w B u zs
  others : ∀ q, KeyFit q → q ≠ q0 → OwnI w B (f q) (ni (leftK l k q))
  apart : ∀ q, KeyFit q → q ≠ q0 → (f q).ownBlock = none ∨ (f q).ownBlock ≠ u.ownBlock
  pairs : ∀ q r, KeyFit q → KeyFit r → q ≠ q0 → r ≠ q0 → q ≠ r → (f q).ownBlock = none ∨ (f q).ownBlock ≠ (f r).ownBlock
theorem LeftAt.below {w w' : World} {B bm k : Nat} {l : List Nod} {f : Sta → Value} (h : LeftAt w B bm k l f) (hb : Below w.heap.size w w') : LeftAt w' B bm k l f :=
  ⟨h.1.kept (grown_from (g := none) hb) (by simp), fun q hq => (h.2.1 q hq).below hb, h.2.2⟩
theorem LeftAt.out {w : World} {B bm k : Nat} {l : List Nod} {f : Sta → Value} (h : LeftAt w B bm k l f) {q0 : Sta} (h0 : KeyFit q0) : LeftOut w B bm k l f q0 (f q0) (ni (leftK l k q0)) :=
  ⟨h.1, h.2.1 q0 h0, fun q hq _ => h.2.1 q hq, fun q hq hne => h.2.2 q q0 hq h0 hne, fun q r hq hr _ _ hne => h.2.2 q r hq hr hne⟩
theorem LeftOut.below {w w' : World} {B bm k : Nat} {l : List Nod} {f : Sta → Value} {q0 : Sta} {u : Value} {zs : List Int} (h : LeftOut w B bm k l f q0 u zs) (hb : Below w.heap.size w w') : LeftOut w' B bm k l f q0 u zs :=
  ⟨h.map.kept (grown_from (g := none) hb) (by simp), h.own.below hb, fun q hq hne => (h.others q hq hne).below hb, h.apart, h.pairs⟩
theorem LeftOut.turn {w w' : World} {B bm k : Nat} {l : List Nod} {f : Sta → Value} {q0 : Sta} {u u' : Value} {zs zs' : List Int} (h : LeftOut w B bm k l f q0 u zs) (hg : w.grownBy w' u.ownBlock)
    (ho : OwnI w' B u' zs') (hl : u'.ownBlock = u.ownBlock ∨ u'.ownBlock = some w.heap.size) : LeftOut w' B bm k l f q0 u' zs' :=
  ⟨h.map.kept hg (fun e => own_map h.own h.map e.symm), ho, fun q hq hne => (h.others q hq hne).kept hg (h.apart q hq hne), fun q hq hne => by
    rcases hl with e | e
    · rw [e]; exact h.apart q hq hne
    · cases hx : (f q).ownBlock with
      | none => exact .inl rfl
      | some g =>
        refine .inr (fun e2 => ?_)
        have := (own_lt (h.others q hq hne) g hx).2
        rw [e] at e2
        cases e2
        omega, h.pairs⟩
theorem LeftOut.put {w w' : World} {B bm k : Nat} {l : List Nod} {f : Sta → Value} {q0 : Sta} {u : Value} {zs : List Int} (h : LeftOut w B bm k l f q0 u zs)
    (hm : MapV w' bm (k + 1) (fun r => if r = q0 then u else f r)) (hg : w.grownBy w' (some bm)) (hq0 : sawS (nodAt l k).s = q0) (hz : zs = ni (leftK l (k + 1) q0)) : LeftAt w' B bm (k + 1) l (fun r => if r = q0 then u else f r) := by
  refine ⟨hm, fun q hq => ?_, fun q r hq hr hne => ?_⟩
  · show OwnI w' B (if q = q0 then u else f q) _
    by_cases e : q = q0
    · subst e
      rw [if_pos rfl, ← hz]
      exact h.own.kept hg (.inr (own_map h.own h.map))
    · rw [if_neg e, leftK_other (fun e2 => e (by rw [← e2, hq0]))]
      exact (h.others q hq e).kept hg (.inr (own_map (h.others q hq e) h.map))
  · show (if q = q0 then u else f q).ownBlock = none ∨ (if q = q0 then u else f q).ownBlock ≠ (if r = q0 then u else f r).ownBlock
    by_cases e : q = q0
    · rw [if_pos e]
      have e2 : r ≠ q0 := fun e2 => hne (by rw [e, e2])
      rw [if_neg e2]
      rcases h.apart r hr e2 with h1 | h1
      · rw [h1]
        cases u.ownBlock with
        | none => exact .inl rfl
        | some g => exact .inr (by simp)
      · exact .inr (fun e3 => h1 e3.symm)
    · rw [if_neg e]
      by_cases e2 : r = q0
      · rw [if_pos e2]; exact h.apart q hq e
      · rw [if_neg e2]; exact h.pairs q r hq hr e e2 hne
theorem LeftAt.same {w : World} {B bm k : Nat} {l : List Nod} {f : Sta → Value} (h : LeftAt w B bm k l f) (he : ∀ q, leftK l (k + 1) q = leftK l k q) : LeftAt w B bm (k + 1) l f :=
  ⟨h.1.mono (Nat.le_succ _), fun q hq => by rw [he]; exact h.2.1 q hq, h.2.2⟩
theorem left_made (w : World) (B : Nat) (l : List Nod) : LeftAt (w.alloc (.map #[] 0)) B w.heap.size 0 l (fun _ => nilI) :=
  ⟨mapV_made w, fun _ _ => ownI_nil _ _, fun _ _ _ _ _ => .inl rfl⟩
/-- What a round finds, and leaves. -/
structure AmJ (w wr : World) (v : Value) (l : List Nod) (k : Nat) : Prop where
  box : CellB wr w.heap.size 35 v
  mp : CellB wr (w.heap.size + 1 + 1) 127 (.map (some (w.heap.size + 1)))
  bel : Below w.heap.size w wr
  left : ∃ f, LeftAt wr w.heap.size (w.heap.size + 1) k l f
theorem amj_start (w : World) (v : Value) (l : List Nod) : AmJ w (((w.alloc (.cells #[v] 35)).alloc (.map #[] 0)).alloc (.cells #[.map (some (w.heap.size + 1))] 127)) v l 0 := by
  have s1 : (w.alloc (.cells #[v] 35)).heap.size = w.heap.size + 1 := by simp
  have s2 : ((w.alloc (.cells #[v] 35)).alloc (.map #[] 0)).heap.size = w.heap.size + 1 + 1 := by simp
  have b1 := (Below.refl w.heap.size w).alloc (Nat.le_refl _) (.cells #[v] 35)
  have b2 := (Below.refl _ (w.alloc (.cells #[v] 35))).alloc (Nat.le_refl _) (.map #[] 0)
  have b3 := (Below.refl _ ((w.alloc (.cells #[v] 35)).alloc (.map #[] 0))).alloc (Nat.le_refl _) (.cells #[.map (some (w.heap.size + 1))] 127)
  have c1 : CellB (w.alloc (.cells #[v] 35)) w.heap.size 35 v := heap_alloc_new w _
  have c3 : CellB (((w.alloc (.cells #[v] 35)).alloc (.map #[] 0)).alloc (.cells #[.map (some (w.heap.size + 1))] 127)) (w.heap.size + 1 + 1) 127 (.map (some (w.heap.size + 1))) := by
    rw [← s2]; exact heap_alloc_new _ _
  have m := left_made (w.alloc (.cells #[v] 35)) w.heap.size l
  rw [s1] at m
  exact ⟨(c1.later b2).later b3, c3, (b1.trans (b2.mono (by omega))).trans (b3.mono (by omega)), _, m.below b3⟩
theorem AmJ.below {w wr w' : World} {v : Value} {l : List Nod} {k : Nat} (h : AmJ w wr v l k) (hb : Below wr.heap.size wr w') : AmJ w w' v l k := by
  obtain ⟨h1, h2, h3, f, h4⟩ := h
  exact ⟨h1.later hb, h2.later hb, h3.trans (hb.mono h3.size), f, h4.below hb⟩
set_option maxRecDepth 1000000 in
set_option maxHeartbeats 4000000 in
theorem better_any {wc w : World} {L N i nn cn : Nat} {v : Value} {l : List Nod} {n : Nod} {xn : Option Addr} (hr : NRow wc v l) (hw : Below wc.heap.size wc w) (hL : CellB w L 35 v) (hN : NodB w N n.s n.cost (.slice xn nn cn))
    (hi : i < l.length) (hs : ∀ x ∈ l, SetsOk x.s) (hn : SetsOk n.s) (hlen : l.length ≤ 1000000) :
    Calls Tryz.prog 84 #[.int .i64 (i : Int), .pointer (some ⟨L, 0, none⟩), .pointer (some ⟨N, 0, none⟩)] w fun e w' => e = .returned (.bool (decide (Than (nodAt l i) n))) ∧ Below w.heap.size w w' := by
  have HW := Lib.hid hw
  have HN := Lib.hid hN
  have HL := Lib.hid hL
  have HSN := Lib.hid hn
  have HSY := Lib.hid (hs _ (nodAt_mem hi))
  obtain ⟨a0, cap, rfl, _⟩ := hr.form
  obtain ⟨b1, o1, qa, qc, ha, hn1, hl1, _⟩ := nrow_at hr i _ (nodAt_is hi)
  subst ha
  have HN1 := Lib.hid (hn1.below hl1 hw)
  have HB1 := Lib.hid (Nat.lt_of_lt_of_le hl1 hw.size)
  have hki : (i : Int) < (l.length : Int) := by omega
  have hil : i < 9223372036854775807 := by omega
  have hik : i < l.length := hi
  clear hr hw hL hN hn hs hn1 hl1 hi
  obtain ⟨y, hy⟩ : ∃ y, nodAt l i = y := ⟨_, rfl⟩
  rw [hy] at HN1 HSY ⊢
  clear hy
  go_enter Tryz.func84, Tryz.ntmps84
  go_upto_region 1 with fail
  have HS0 := Lib.hid (show Holds (cellsN N n.s n.cost (.slice xn nn cn) ++ ((⟨L, 0, none⟩, .slice (some ⟨b1, o1, none⟩) l.length cap) :: cellsRN b1 (o1 + i * 10) y.s y.cost (.slice qa y.path.length qc))) w.drew from Holds.app.2 ⟨HN.out.holds, HL.out.cell, holds_RN HN1.out⟩)
  have hlt := Lib.hid (show Lows w.drew.heap.size (cellsN N n.s n.cost (.slice xn nn cn) ++ ((⟨L, 0, none⟩, .slice (some ⟨b1, o1, none⟩) l.length cap) :: cellsRN b1 (o1 + i * 10) y.s y.cost (.slice qa y.path.length qc))) from Lows.app (lows_N HN.out.lt) ⟨HL.out.lt, lows_RN HB1.out⟩)
  refine wp_region_held_drew (S := Holds (cellsN N n.s n.cost (.slice xn nn cn) ++ ((⟨L, 0, none⟩, .slice (some ⟨b1, o1, none⟩) l.length cap) :: cellsRN b1 (o1 + i * 10) y.s y.cost (.slice qa y.path.length qc)))) (by kernel_rfl) HS0.out (fun hSn => ?_)
  have HD := Lib.hid ((Below.refl w.heap.size w).drew)
  generalize w.drew = V at *
  have Bc := Lib.hid (Below.refl V.heap.size V)
  simp only [cellsN, cellsRN, List.cons_append, List.nil_append] at HS0 hlt hSn ⊢
  refine tks [0, 1, 2, 3, 4] 5 rfl (by kernel_rfl) (fun _ _ _ _ h => h) (by assumption) (fun KT hKT => ?_)
  iterate 5 (refine tkT (by (simp only [gA, gB, gC]; rfl)) (by rfl) (by (intro w hSw; (simp only [Holds] at hSw); go_simp <;> with_reducible rfl)) ?_; simp only [Act.put, pA, pB, pC])
  refine hKT _ ?_
  clear KT hKT
  refine wpAnyH_ready (rs := [5]) (by kernel_rfl) (by simp) ?_
  refine AllReadyH.cons (o := ?oz278) ?iz278 (fun K hK => ?kz278) AllReadyH.nil
  case iz278 => (simp only [List.getElem?_toArray, List.getElem?_cons_zero, List.getElem?_cons_succ]; rfl)
  go_simp
  change Calls _ _ #[nodeV y.s y.cost _, nodeV n.s n.cost _] _ _
  refine (gthan_any (a := y) (b := n) _ HSY.out HSN.out).mono ?_
  rintro e w' ⟨rfl, hb⟩
  refine held_more hK HS0.out hlt (Bc.out.trans (hb.mono Bc.out.size)) (fun Bc hSn => ?_)
  clear hb hK
  refine tks [6] 1 rfl (by kernel_rfl) (fun _ _ _ _ h => h) (by assumption) (fun KT hKT => ?_)
  refine tkT (by (simp only [gA, gB, gC]; rfl)) (by rfl) (by (intro w hSw; (simp only [Holds] at hSw); go_simp <;> with_reducible rfl)) ?_
  simp only [Act.put, pA, pB, pC]
  refine hKT _ ?_
  clear KT hKT
  refine wpAnyH_done (by kernel_rfl) ?_ _
  go_wp2
  go_ret
  exact ⟨rfl, HD.out.trans (Bc.out.mono HD.out.size)⟩
set_option maxRecDepth 1000000 in
set_option maxHeartbeats 4000000 in
theorem worse_any {wc w : World} {L N i nn cn : Nat} {v : Value} {l : List Nod} {n : Nod} {xn : Option Addr} (hr : NRow wc v l) (hw : Below wc.heap.size wc w) (hL : CellB w L 35 v) (hN : NodB w N n.s n.cost (.slice xn nn cn))
    (hi : i < l.length) (hs : ∀ x ∈ l, SetsOk x.s) (hn : SetsOk n.s) (hlen : l.length ≤ 1000000) :
    Calls Tryz.prog 86 #[.int .i64 (i : Int), .pointer (some ⟨N, 0, none⟩), .pointer (some ⟨L, 0, none⟩)] w fun e w' => e = .returned (.bool (decide (Than n (nodAt l i)))) ∧ Below w.heap.size w w' := by
  have HW := Lib.hid hw
  have HN := Lib.hid hN
  have HL := Lib.hid hL
  have HSN := Lib.hid hn
  have HSY := Lib.hid (hs _ (nodAt_mem hi))
  obtain ⟨a0, cap, rfl, _⟩ := hr.form
  obtain ⟨b1, o1, qa, qc, ha, hn1, hl1, _⟩ := nrow_at hr i _ (nodAt_is hi)
  subst ha
  have HN1 := Lib.hid (hn1.below hl1 hw)
  have HB1 := Lib.hid (Nat.lt_of_lt_of_le hl1 hw.size)
  have hki : (i : Int) < (l.length : Int) := by omega
  have hil : i < 9223372036854775807 := by omega
  have hik : i < l.length := hi
  clear hr hw hL hN hn hs hn1 hl1 hi
  obtain ⟨y, hy⟩ : ∃ y, nodAt l i = y := ⟨_, rfl⟩
  rw [hy] at HN1 HSY ⊢
  clear hy
  go_enter Tryz.func86, Tryz.ntmps86
  go_upto_region 1 with fail
  have HS0 := Lib.hid (show Holds (cellsN N n.s n.cost (.slice xn nn cn) ++ ((⟨L, 0, none⟩, .slice (some ⟨b1, o1, none⟩) l.length cap) :: cellsRN b1 (o1 + i * 10) y.s y.cost (.slice qa y.path.length qc))) w.drew from Holds.app.2 ⟨HN.out.holds, HL.out.cell, holds_RN HN1.out⟩)
  have hlt := Lib.hid (show Lows w.drew.heap.size (cellsN N n.s n.cost (.slice xn nn cn) ++ ((⟨L, 0, none⟩, .slice (some ⟨b1, o1, none⟩) l.length cap) :: cellsRN b1 (o1 + i * 10) y.s y.cost (.slice qa y.path.length qc))) from Lows.app (lows_N HN.out.lt) ⟨HL.out.lt, lows_RN HB1.out⟩)
  refine wp_region_held_drew (S := Holds (cellsN N n.s n.cost (.slice xn nn cn) ++ ((⟨L, 0, none⟩, .slice (some ⟨b1, o1, none⟩) l.length cap) :: cellsRN b1 (o1 + i * 10) y.s y.cost (.slice qa y.path.length qc)))) (by kernel_rfl) HS0.out (fun hSn => ?_)
  have HD := Lib.hid ((Below.refl w.heap.size w).drew)
  generalize w.drew = V at *
  have Bc := Lib.hid (Below.refl V.heap.size V)
  simp only [cellsN, cellsRN, List.cons_append, List.nil_append] at HS0 hlt hSn ⊢
  refine tks [0, 1, 2, 3, 4] 5 rfl (by kernel_rfl) (fun _ _ _ _ h => h) (by assumption) (fun KT hKT => ?_)
  iterate 5 (refine tkT (by (simp only [gA, gB, gC]; rfl)) (by rfl) (by (intro w hSw; (simp only [Holds] at hSw); go_simp <;> with_reducible rfl)) ?_; simp only [Act.put, pA, pB, pC])
  refine hKT _ ?_
  clear KT hKT
  refine wpAnyH_ready (rs := [5]) (by kernel_rfl) (by simp) ?_
  refine AllReadyH.cons (o := ?oz279) ?iz279 (fun K hK => ?kz279) AllReadyH.nil
  case iz279 => (simp only [List.getElem?_toArray, List.getElem?_cons_zero, List.getElem?_cons_succ]; rfl)
  go_simp
  change Calls _ _ #[nodeV n.s n.cost _, nodeV y.s y.cost _] _ _
  refine (gthan_any (a := n) (b := y) _ HSN.out HSY.out).mono ?_
  rintro e w' ⟨rfl, hb⟩
  refine held_more hK HS0.out hlt (Bc.out.trans (hb.mono Bc.out.size)) (fun Bc hSn => ?_)
  clear hb hK
  refine tks [6] 1 rfl (by kernel_rfl) (fun _ _ _ _ h => h) (by assumption) (fun KT hKT => ?_)
  refine tkT (by (simp only [gA, gB, gC]; rfl)) (by rfl) (by (intro w hSw; (simp only [Holds] at hSw); go_simp <;> with_reducible rfl)) ?_
  simp only [Act.put, pA, pB, pC]
  refine hKT _ ?_
  clear KT hKT
  refine wpAnyH_done (by kernel_rfl) ?_ _
  go_wp2
  go_ret
  exact ⟨rfl, HD.out.trans (Bc.out.mono HD.out.size)⟩
end Go.Proofs.YtgplajofemencaaGreat
