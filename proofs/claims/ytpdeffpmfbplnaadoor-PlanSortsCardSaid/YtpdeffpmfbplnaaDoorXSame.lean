/- Whether two lists of lines are the same; the chapter's example. -/
import Derived.Test.YtpdeffpmfbplnaaDoorLines
import Derived.Lib.SlBytesConst
import Derived.Laws.AppendOwnNone
import Derived.Deep.Slices
import Derived.ChangeSame
import Derived.ShutString
import Derived.ChangeOld
namespace Go.Proofs.YtpdeffpmfbplnaaDoor
open Go.ChangeShapes Go.WideShapes Go.ChangeAt Go.RowKit

theorem row_cell {w : World} {a : Option Addr} {n cap : Nat} {xs : List Value} (h : Row w (.slice a n cap) xs) (p : Nat) (hp : p < xs.length) : ∃ tb off, a = some ⟨tb, off, none⟩ ∧ w.cell? ⟨tb, off + p, none⟩ = xs[p]? ∧ tb < w.heap.size := by
  obtain ⟨tb, off, cap', he, hc, _, hlt⟩ := row_at h hp
  simp at he
  exact ⟨tb, off, he.1, hc, hlt⟩
theorem Row.form {w : World} {v : Value} {xs : List Value} (h : Row w v xs) : ∃ a cap, v = .slice a xs.length cap ∧ xs.length ≤ maxLen := by
  obtain ⟨hm, a, cap, rfl, _⟩ := h
  exact ⟨a, cap, rfl, hm⟩
theorem IsLL.form {w : World} {v : Value} {L : List (List Int)} (h : IsLL w v L) : ∃ a cap, v = .slice a L.length cap ∧ L.length ≤ maxLen := by
  obtain ⟨vs, h1, h2⟩ := h
  obtain ⟨a, cap, rfl, hm⟩ := h1.form
  rw [h2.len] at *
  exact ⟨a, cap, rfl, hm⟩
theorem ll_at {w : World} {a : Option Addr} {n cap : Nat} {L : List (List Int)} (h : IsLL w (.slice a n cap) L) (j : Nat) (hj : j < L.length) :
    ∃ tb off a1 n1 c1, a = some ⟨tb, off, none⟩ ∧ tb < w.heap.size ∧ w.cell? ⟨tb, off + j, none⟩ = some (.slice a1 n1 c1) ∧ n1 = (L.getD j []).length ∧ n1 ≤ maxLen ∧ Row w (.slice a1 n1 c1) (ints (L.getD j [])) := by
  obtain ⟨vs, h1, h2⟩ := h
  obtain ⟨u, hu, hr⟩ := h2.at j hj
  obtain ⟨tb, off, ha, hc, hlt⟩ := row_cell h1 j (by rw [h2.len]; exact hj)
  obtain ⟨a1, c1, rfl, hm⟩ := hr.form
  rw [ints_len] at *
  exact ⟨tb, off, a1, _, c1, ha, hlt, by rw [hc, hu], rfl, hm, hr⟩
theorem take_ne {A B : List (List Int)} {j : Nat} (h : A.getD j [] ≠ B.getD j []) : A ≠ B := fun e => h (by rw [e])
theorem take_on {α : Type} {d : α} {A B : List α} {j : Nat} (hl : A.length = B.length) (hj : j < A.length) (h : A.take j = B.take j) (he : A.getD j d = B.getD j d) : A.take (j + 1) = B.take (j + 1) := by
  rw [List.take_add_one, List.take_add_one, h]
  rw [List.getD_eq_getElem?_getD, List.getD_eq_getElem?_getD, List.getElem?_eq_getElem hj, List.getElem?_eq_getElem (by omega)] at he
  rw [List.getElem?_eq_getElem hj, List.getElem?_eq_getElem (by omega)]
  simp at he
  rw [he]
theorem take_all {α : Type} {A B : List α} (hl : A.length = B.length) (h : A.take A.length = B.take A.length) : A = B := by
  rw [List.take_length, hl, List.take_length] at h; exact h

set_option maxRecDepth 1000000 in
set_option maxHeartbeats 1000000 in
theorem same_any {w : World} {av bv : Value} {A B : List (List Int)} (hA : IsLL w av A) (hB : IsLL w bv B) :
    Calls Tryd.prog 16 #[av, bv] w fun e w' => e = .returned (.bool (decide (A = B))) ∧ Below w.heap.size w w' := by
  have HA := Lib.hid hA
  have HB := Lib.hid hB
  obtain ⟨a, capa, rfl, hma⟩ := hA.form
  obtain ⟨b, capb, rfl, hmb⟩ := hB.form
  clear hA hB
  have hm1 : A.length ≤ 9223372036854775807 := by unfold maxLen at hma; omega
  have hm2 : B.length ≤ 9223372036854775807 := by unfold maxLen at hmb; omega
  clear hma hmb
  by_cases hl : A.length = B.length
  · have HL := Lib.hid hl
    rw [← hl]
    have hne : ((A.length : Int) != (A.length : Int)) = false := by simp
    clear hl hm2
    go_enter Tryd.func16, Tryd.ntmps16
    go_wp2_with fail
    go_loopw [5] (fun i wr => ∃ j : Nat, j ≤ A.length ∧ i = .int .i64 j ∧ A.take j = B.take j ∧ Below w.heap.size w wr) (fun i _ => A.length - (intOf i).toNat)
    case atStart => exact ⟨0, Nat.zero_le _, rfl, by simp, Below.refl _ _⟩
    case round =>
      obtain ⟨j, hj, rfl, htk, hbw⟩ := hrel
      have HTK := Lib.hid htk
      have HBW := Lib.hid hbw
      clear htk hbw
      by_cases hlt : j < A.length
      · obtain ⟨ta, oa, a1, n1, c1, rfl, hta, ca, hn1, hx1, r1⟩ := ll_at (HA.out.below HBW.out) j hlt
        obtain ⟨tb, ob, a2, n2, c2, rfl, htb, cb, hn2, hx2, r2⟩ := ll_at (HB.out.below HBW.out) j (by rw [← HL.out]; exact hlt)
        have hm3 : n1 ≤ 9223372036854775807 := by unfold maxLen at hx1; omega
        have H1 := Lib.hid r1
        have H2 := Lib.hid r2
        have HN1 := Lib.hid hn1
        have HN2 := Lib.hid hn2
        clear r1 r2 hn1 hn2 hx1 hx2
        by_cases hnn : n1 = n2
        · have HNN := Lib.hid (show (A.getD j []).length = (B.getD j []).length by rw [← HN1.out, ← HN2.out]; exact hnn)
          subst hnn
          have hne2 : ((n1 : Int) != (n1 : Int)) = false := by simp
          go_wp2_with fail
          go_quiet (fail)
          have HW1 := Lib.hid (below_drewN (Below.refl wr.heap.size wr) nq)
          generalize wr.drewN nq = w1 at *
          go_wp2_with fail
          go_loopw [6] (fun i wk => ∃ k : Nat, k ≤ n1 ∧ i = .int .i64 k ∧ (A.getD j []).take k = (B.getD j []).take k ∧ Below wr.heap.size wr wk) (fun i _ => n1 - (intOf i).toNat)
          case atStart => exact ⟨0, Nat.zero_le _, rfl, by simp, HW1.out⟩
          case round =>
            obtain ⟨k, hk, rfl, htk, hbk⟩ := hrel
            have HTK2 := Lib.hid htk
            have HBK := Lib.hid hbk
            have da := (hbk.cell (p := ⟨ta, oa + j, none⟩) hta).trans ca
            have db := (hbk.cell (p := ⟨tb, ob + j, none⟩) htb).trans cb
            have HJ := Lib.hid hj
            clear htk hbk hj
            by_cases hkl : k < n1
            · obtain ⟨t1, o1, rfl, e1, _⟩ := row_cell (H1.out.below HBK.out) k (by rw [ints_len, ← HN1.out]; exact hkl)
              obtain ⟨t2, o2, rfl, e2, _⟩ := row_cell (H2.out.below HBK.out) k (by rw [ints_len, ← HN2.out]; exact hkl)
              rw [ints_at _ _ (by rw [← HN1.out]; exact hkl)] at e1
              rw [ints_at _ _ (by rw [← HN2.out]; exact hkl)] at e2
              obtain ⟨x, hx⟩ : ∃ x, (A.getD j []).getD k 0 = x := ⟨_, rfl⟩
              obtain ⟨y, hy⟩ : ∃ y, (B.getD j []).getD k 0 = y := ⟨_, rfl⟩
              rw [hx] at e1
              rw [hy] at e2
              have HX := Lib.hid hx
              have HY := Lib.hid hy
              clear hx hy ca cb
              by_cases hxy : x = y
              · have HXY := Lib.hid hxy
                have hb0 : (x != y) = false := by simp [hxy]
                clear hxy
                go_wp2_with fail
                go_quiet (fail)
                have HW2 := Lib.hid (below_drewN HBK.out nq)
                generalize wr.drewN nq = w3 at *
                go_wp2
                go_roundw
                case rel => exact ⟨k + 1, by omega, by go_num, take_on (d := 0) HNN.out (by rw [← HN1.out]; exact hkl) HTK2.out (by rw [HX.out, HY.out, HXY.out]), HW2.out⟩
                case measure => simp [intOf]; omega
              · have HXY := Lib.hid hxy
                have hb0 : (x != y) = true := by simp [hxy]
                clear hxy
                go_wp2_with fail
                go_quiet (fail)
                have HW2 := Lib.hid (below_drewN HBK.out nq)
                generalize wr.drewN nq = w3 at *
                go_wp2
                go_ret
                exact ⟨ret_bool (decide_eq_false (take_ne (j := j) (fun e => HXY.out (by rw [← HX.out, ← HY.out, e])))).symm, HBW.out.trans (HW2.out.mono HBW.out.size)⟩
            · obtain rfl : k = n1 := by omega
              clear hkl hk ca cb
              have HEQ := Lib.hid (take_all HNN.out (by rw [← HN1.out]; exact HTK2.out))
              go_wp2
              go_roundw
              case rel => exact ⟨j + 1, by omega, by go_num, take_on (d := []) HL.out hlt HTK.out HEQ.out, HBW.out.trans (HBK.out.mono HBW.out.size)⟩
              case measure => simp [intOf]; omega
        · have hne2 : ((n1 : Int) != (n2 : Int)) = true := by simp; omega
          have HNN := Lib.hid hnn
          clear hnn
          go_wp2_with fail
          go_quiet (fail)
          have HW1 := Lib.hid (below_drewN HBW.out nq)
          generalize wr.drewN nq = w1 at *
          go_wp2
          go_ret
          exact ⟨ret_bool (decide_eq_false (take_ne (j := j) (fun e => HNN.out (by rw [HN1.out, HN2.out, e])))).symm, HW1.out⟩
      · obtain rfl : j = A.length := by omega
        clear hlt hj
        go_wp2
        go_ret
        exact ⟨ret_bool (decide_eq_true (take_all HL.out HTK.out)).symm, HBW.out⟩
  · have HL := Lib.hid hl
    have hne : ((A.length : Int) != (B.length : Int)) = true := by simp; omega
    clear hl
    go_enter Tryd.func16, Tryd.ntmps16
    go_wp2
    go_ret
    exact ⟨ret_bool (decide_eq_false (fun e => HL.out (by rw [e]))).symm, Below.refl _ _⟩

def egBytes : List Int := [49, 32, 45, 50, 32, 32, 35, 32, 120, 10, 10, 48, 48, 55]
theorem eg_res : errOf egBytes = 0 ∧ resOf egBytes = [[1, -2], [7]] := by decide +kernel
theorem eg_row (w : World) : Row (w.alloc (.cells #[.int .u8 49, .int .u8 32, .int .u8 45, .int .u8 50, .int .u8 32, .int .u8 32, .int .u8 35, .int .u8 32, .int .u8 120, .int .u8 10, .int .u8 10, .int .u8 48, .int .u8 48,  .int .u8 55] 5 (14, 15))) (.slice (some ⟨w.heap.size, 0, none⟩) 14 14) (byts egBytes) := by
  refine ⟨by simp [egBytes, byts, maxLen], _, _, rfl, by simp [egBytes, byts], ⟨by simp [maxLen], by simp⟩, .inr ⟨_, _, rfl, fun i hi => ?_⟩⟩
  rw [Nat.zero_add, World.cell?_alloc_mark]
  simp [egBytes, byts]
end Go.Proofs.YtpdeffpmfbplnaaDoor
/- Texts that a law is handed, and texts that it puts together. -/
namespace Go.Proofs.YtpdeffpmfbplnaaDoor
open Go.ChangeShapes Go.WideShapes Go.ChangeAt Go.RowKit

theorem own : ownKnob Tryd.prog.godebug = none := by kernel_rfl
theorem laidOut : laidOutB Tryd.prog = true := by kernel_rfl
theorem add_off (b off k : Nat) : (⟨b, off, none⟩ : Addr).add k = ⟨b, off + k, none⟩ := by rw [Go.WideShapes.add_plain]

section
variable {H : Type} {enc : TypeId × Value → H} {w : World} {base : Nat} {spare : Nat → Bool} {held : Bool}
theorem row_of_ints {k : IntKind} {x : Addr} {len cap : Nat} {zs : List Int} (hl : len ≤ cap) (hm : cap ≤ maxLen) (hz : len ≤ zs.length) (hc : ∀ i, i < zs.length → w.cell? (x.add i) = some (.int k (zs.getD i 0))) :
    Row w (.slice (some x) len cap) ((zs.take len).map (Value.int k)) := by
  have e : ((zs.take len).map (Value.int k)).length = len := by simp; omega
  refine ⟨by rw [e]; omega, some x, cap, by rw [e], by rw [e]; exact hl, ⟨hm, fun h => by simp at h⟩, ?_⟩
  by_cases h0 : len = 0
  · left; subst h0; simp
  · right
    obtain ⟨b, off, spot⟩ := x
    have hspot : spot = none := by
      have := World.cell?_spot (hc 0 (by omega))
      simpa [Addr.add] using this
    subst hspot
    refine ⟨b, off, rfl, fun i hi => ?_⟩
    rw [e] at hi
    have := hc i (by omega)
    rw [add_off] at this
    rw [this]
    simp [hi, List.getD_eq_getElem?_getD, show i < zs.length by omega]
theorem open_bytes {a : Option Addr} {len cap : Nat} {d : DataW H} {p : List MemPlace} (h : DataW.Trod enc Tryd.prog w base spare held 34 (.slice a len cap) d p) : ∃ l : List Int, Row w (.slice a len cap) (byts l) := by
  obtain ⟨fuel, hf⟩ := h
  rcases open_ints Tryd.underlying34 Tryd.underlying5 (by kernel_rfl) hf with ⟨hcs, _⟩ | ⟨x, l, c, zs, hcs, _, hl, hm, hz, _, hcell, hwz⟩
  · simp [Value.cells] at hcs
    obtain ⟨rfl, rfl, rfl⟩ := hcs
    exact ⟨[], by simp [byts], none, 0, rfl, by simp [byts], ⟨by simp, fun _ => rfl⟩, .inl rfl⟩
  · simp [Value.cells] at hcs
    obtain ⟨rfl, rfl, rfl⟩ := hcs
    exact ⟨zs.take len, row_of_ints hl hm (by rw [hz]; split <;> omega) hcell⟩
end

theorem row_here {w : World} {tb off n cap : Nat} {xs : List Value} (h : Row w (.slice (some ⟨tb, off, none⟩) n cap) xs) (p : Nat) (hp : p < xs.length) : w.cell? ⟨tb, off + p, none⟩ = xs[p]? := by
  obtain ⟨tb', off', he, hc, _⟩ := row_cell h p hp
  simp only [Option.some.injEq, Addr.mk.injEq, and_true] at he
  obtain ⟨rfl, rfl⟩ := he
  exact hc
/-- A text that the law has made. -/
def OwnB (w : World) (B : Nat) (v : Value) (ys : List Int) : Prop := w.ownsRow B 5 1 v ys.length (byts ys)
theorem OwnB.alloc {w : World} {B : Nat} {v : Value} {ys : List Int} (h : OwnB w B v ys) (O : Obj) : OwnB (w.alloc O) B v ys := World.ownsRow.alloc h O
theorem OwnB.row {w : World} {B : Nat} {v : Value} {ys : List Int} (h : OwnB w B v ys) : Row w v (byts ys) := own_row h
theorem OwnB.below {w w' : World} {B : Nat} {v : Value} {ys : List Int} (h : OwnB w B v ys) (hb : Below w.heap.size w w') : OwnB w' B v ys := own_below h hb
theorem ownB_nil (w : World) (B : Nat) : OwnB w B (.slice none 0 0) [] := World.ownsRow_nil _ _ _ _
/-- Two of them: what grows at one leaves the other. -/
theorem OwnB.kept {w w' : World} {B : Nat} {v : Value} {ys : List Int} {row : Option Nat} (h : OwnB w B v ys) (hg : w.grownBy w' row) (hne : v.ownBlock = none ∨ v.ownBlock ≠ row) : OwnB w' B v ys := World.ownsRow.kept h hg hne
/-- A text put behind one that the law has made. -/
theorem app_bytes {w : World} {ops : Array Oper} {rest : List Oper} {o : Oper} {a : Act} {Q : Exit → Act → World → Prop} (hgd : o.guard = none) (s x : Operand)
    (ho : o.op = .call { callee := .builtin .append, args := #[s, x], argTypes := #[34, 34] }) (B : Nat) (v : Value) (ys : List Int) (hs : a.eval s = v) (hown : OwnB w B v ys)
    (u : Value) (xs : List Int) (hx : a.eval x = u) (hr : Row w u (byts xs)) (hlen : ys.length + xs.length ≤ 10000000) (hB : B ≤ w.heap.size)
    (h : ∀ v' w', OwnB w' B v' (ys ++ xs) → w.grownBy w' v.ownBlock → (v'.ownBlock = v.ownBlock ∨ v'.ownBlock = some w.heap.size) → wpList Tryd.prog ops Q rest (a.put o.dst v') w') : wpList Tryd.prog ops Q (o :: rest) a w := by
  obtain ⟨i0, hi, hz0, hz1, hz2⟩ := info_parts infoByte
  obtain ⟨hm, ad, cap, rfl, hc, ⟨hc2, hn⟩, hcell⟩ := hr
  rw [byts_len] at *
  cases ad with
  | none =>
    have hc0 : cap = 0 := hn rfl
    subst hc0
    have hxs : xs = [] := List.eq_nil_of_length_eq_zero (by omega)
    subst hxs
    refine wpList_append_own_none hgd s x 34 ho B 5 i0 1 Tryd.underlying34 hi v ys.length (byts ys) hs hown hx (h v w ?_ ⟨rfl, rfl, rfl, Nat.le_refl _, fun _ _ _ => rfl⟩ (.inl rfl))
    rw [List.append_nil]; exact hown
  | some ad =>
    refine wpList_append_own_at w hgd s x 34 ho B 5 i0 _ 1 1 Tryd.underlying34 hi hz0 hz1 hz2 rfl (by decide) v ys.length (byts ys) hs hown ad xs.length cap (byts xs) hx (by rw [byts_len]; omega) ?_ ?_ (by unfold maxLen; omega) (by omega) hB ?_
    · intro j w0 hj
      rcases hcell with h0 | ⟨b, off, he, hcc⟩
      · rw [h0] at hj; simp at hj
      · simp at he
        subst he
        have hjl : j < xs.length := by
          rcases Nat.lt_or_ge j xs.length with h | h
          · exact h
          · rw [List.getElem?_eq_none (by rw [byts_len]; exact h)] at hj; simp at hj
        rw [add_off, hcc j hjl, hj]
    · intro u hu
      simp only [byts, List.mem_map] at hu
      obtain ⟨n, _, rfl⟩ := hu
      rfl
    · intro v' w' h1 h2 _ h4
      refine h v' w' ?_ h2 h4
      unfold OwnB
      rw [List.length_append, show byts (ys ++ xs) = byts ys ++ byts xs by simp [byts]]
      exact h1
/-- Two texts that share no memory: one is new. -/
theorem apart_new {w : World} {B : Nat} {u v : Value} {ys : List Int} (h : OwnB w B v ys) (ht : u.ownBlock = (Value.slice none 0 0).ownBlock ∨ u.ownBlock = some w.heap.size) : u.ownBlock = none ∨ u.ownBlock ≠ v.ownBlock := by
  rcases ht with ht | ht
  · exact .inl ht
  · right
    rw [ht]
    intro e
    have := (World.ownsRow.lt h _ e.symm).2
    omega
/-- One of them has grown. -/
theorem apart_grow {w : World} {B : Nat} {u v v' : Value} {ys : List Int} (h : OwnB w B u ys) (ha : u.ownBlock = none ∨ u.ownBlock ≠ v.ownBlock) {k : Nat} (hk : w.heap.size ≤ k) (ht : v'.ownBlock = v.ownBlock ∨ v'.ownBlock = some k) : u.ownBlock = none ∨ u.ownBlock ≠ v'.ownBlock := by
  rcases ht with ht | ht
  · rw [ht]; exact ha
  · right
    rw [ht]
    intro e
    have := (World.ownsRow.lt h _ e).2
    omega
theorem apart_swap {u v : Value} (h : u.ownBlock = none ∨ u.ownBlock ≠ v.ownBlock) : v.ownBlock = none ∨ v.ownBlock ≠ u.ownBlock := by
  cases hv : v.ownBlock with
  | none => exact .inl rfl
  | some g =>
    right
    intro e
    rw [hv, ← e] at h
    simp at h
theorem row_new (w : World) (c : Int) : Row (w.alloc (.cells #[.int .u8 c] 5)) (.slice (some ⟨w.heap.size, 0, none⟩) 1 1) (byts [c]) := by
  refine ⟨by simp [byts, maxLen], _, _, rfl, by simp [byts], ⟨by simp [maxLen], by simp⟩, .inr ⟨_, _, rfl, fun i hi => ?_⟩⟩
  have : i = 0 := by simp [byts] at hi; omega
  subst this
  rw [cell_of_row _ _ _ _ _ _ (heap_alloc_new w _)]
  rfl
theorem same_refl {w : World} {av bv : Value} {A : List (List Int)} (hA : IsLL w av A) (hB : IsLL w bv A) : Calls Tryd.prog 16 #[av, bv] w fun e w' => e = .returned (.bool true) ∧ Below w.heap.size w w' :=
  (same_any hA hB).mono fun e w' ⟨h1, h2⟩ => ⟨by rw [h1, decide_eq_true rfl], h2⟩
/-- All that a law has made so far lies behind what it was handed. -/
theorem made {w0 w w' : World} {v : Value} {xs : List Int} (h : Below w0.heap.size w0 w) (ho : OwnB w w0.heap.size v xs) (hg : w.grownBy w' v.ownBlock) : Below w0.heap.size w0 w' :=
  h.trans (grown_below hg h.size (fun k hk => (World.ownsRow.lt ho k hk).1))
theorem made_alloc {w0 w w' : World} {v : Value} {xs : List Int} {O : Obj} (h : Below w0.heap.size w0 w) (ho : OwnB w w0.heap.size v xs) (hg : (w.alloc O).grownBy w' v.ownBlock) : Below w0.heap.size w0 w' :=
  made h ho (grown_alloc hg)

/-- Lines put behind lines that the law has made. -/
theorem app_lines {w : World} {ops : Array Oper} {rest : List Oper} {o : Oper} {a : Act} {Q : Exit → Act → World → Prop} (hgd : o.guard = none) (s x : Operand)
    (ho : o.op = .call { callee := .builtin .append, args := #[s, x], argTypes := #[25, 25] }) (B : Nat) (v : Value) (A : List (List Int)) (hs : a.eval s = v) (hown : OwnLL w B v A)
    (u : Value) (C : List (List Int)) (hx : a.eval x = u) (hr : OwnLL w B u C) (hlen : A.length + C.length ≤ 1000000) (hB : B ≤ w.heap.size)
    (h : ∀ v' w', OwnLL w' B v' (A ++ C) → w.grownBy w' v.ownBlock → wpList Tryd.prog ops Q rest (a.put o.dst v') w') : wpList Tryd.prog ops Q (o :: rest) a w := by
  obtain ⟨i0, hi, hz0, hz1, hz2⟩ := info_parts infoInts
  obtain ⟨vs, h1, h2⟩ := hown
  obtain ⟨us, k1, k2⟩ := hr
  have hvl := h2.in.len
  have hul := k2.in.len
  have post : ∀ w', w.grownBy w' v.ownBlock → OwnIn w' B (vs ++ us) (A ++ C) := by
    intro w' hg
    have hall := h2.append k2
    refine hall.kept hg (fun z hz => ?_)
    rcases h1.2 with ⟨rfl, _⟩ | ⟨g, cap, cur, rfl, _, hgg, _⟩
    · cases z.ownBlock <;> simp [Value.ownBlock]
    · exact .inr (hall.ne hgg (by decide) z hz)
  rcases k1.2 with ⟨rfl, hn⟩ | ⟨g, cap, cur, rfl, hb, hg, hc, hm, hsz, ht⟩
  · have hus : us = [] := List.eq_nil_of_length_eq_zero hn
    subst hus
    refine wpList_append_own_none hgd s x 25 ho B 42 i0 1 Tryd.underlying25 hi v vs.length vs hs h1 hx (h v w ⟨vs ++ [], by simpa using h1, post w ⟨rfl, rfl, rfl, Nat.le_refl _, fun _ _ _ => rfl⟩⟩ ⟨rfl, rfl, rfl, Nat.le_refl _, fun _ _ _ => rfl⟩)
  · refine wpList_append_own_at w hgd s x 25 ho B 42 i0 _ 1 24 Tryd.underlying25 hi hz0 hz1 hz2 rfl (by decide) v vs.length vs hs h1 ⟨g, 0, none⟩ us.length cap us hx (by omega) ?_ k2.one (by unfold maxLen; omega) (by omega) hB ?_
    · intro j w0 hj
      have hjl : j < us.length := by
        rcases Nat.lt_or_ge j us.length with h | h
        · exact h
        · rw [List.getElem?_eq_none h] at hj; simp at hj
      rw [add_off, Nat.zero_add, k1.cellAt _ (by omega), hj]
    · intro v' w' q1 q2 _ _
      refine h v' w' ⟨vs ++ us, ?_, post w' q2⟩ q2
      rw [List.length_append]; exact q1
/-- A text that grows leaves lines as they were. -/
theorem OwnLL.text {w w' : World} {B C : Nat} {v u : Value} {L : List (List Int)} {ys : List Int} (h : OwnLL w B v L) (k : OwnB w C u ys) (hg : w.grownBy w' u.ownBlock) : OwnLL w' B v L := by
  obtain ⟨vs, h1, h2⟩ := h
  refine ⟨vs, h1.kept hg (own_diff h1 k (by decide)), h2.kept hg (fun z hz => ?_)⟩
  rcases (show w.ownsRow C 5 1 u ys.length (byts ys) from k).2 with ⟨rfl, _⟩ | ⟨g, cap, cur, rfl, _, hgg, _⟩
  · cases z.ownBlock <;> simp [Value.ownBlock]
  · exact .inr (h2.ne hgg (by decide) z hz)
theorem OwnLL.alloc {w : World} {B : Nat} {v : Value} {L : List (List Int)} (h : OwnLL w B v L) (O : Obj) : OwnLL (w.alloc O) B v L := h.below ((Below.refl _ _).alloc (Nat.le_refl _) O)
/-- What was made later stays. -/
theorem OwnLL.later {w w' : World} {B : Nat} {v : Value} {L : List (List Int)} {row : Option Nat} (h : OwnLL w B v L) (hg : w.grownBy w' row) (hr : ∀ g, row = some g → g < B) : OwnLL w' B v L := by
  obtain ⟨vs, h1, h2⟩ := h
  refine ⟨vs, h1.kept hg ?_, h2.kept hg (fun u hu => ?_)⟩
  · cases hv : v.ownBlock with
    | none => exact .inl rfl
    | some g =>
      right
      intro e
      have := (h1.lt g hv).1
      have := hr g e.symm
      omega
  · cases hv : u.ownBlock with
    | none => exact .inl rfl
    | some g =>
      right
      intro e
      have := (h2.lt u hu g hv).1
      have := hr g e.symm
      omega
theorem OwnLL.ge {w : World} {B : Nat} {v : Value} {L : List (List Int)} (h : OwnLL w B v L) : ∀ g, v.ownBlock = some g → B ≤ g := by
  obtain ⟨vs, h1, h2⟩ := h
  exact fun g hg => (h1.lt g hg).1
/-- A text has no more lines than bytes, and one. -/
theorem step_len (m m' : M) (c : Int) (h : step m c = some m') : m'.ls.length ≤ m.ls.length + 1 := by
  unfold step take gapM noteM addL at h
  repeat' split at h
  all_goals first | (simp at h; done) | (simp at h; subst h; simp)
theorem steps_len : ∀ (r : List Int) (m m' : M), steps m r = some m' → m'.ls.length ≤ m.ls.length + r.length
  | [], m, m', h => by simp [steps] at h; subst h; simp
  | c :: r, m, m', h => by
    unfold steps at h
    cases hs : step m c with
    | none => rw [hs] at h; simp at h
    | some m2 =>
      rw [hs] at h
      have h1 := step_len m m2 c hs
      have h2 := steps_len r m2 m' h
      simp; omega
theorem parse_len (l : List Int) (A : List (List Int)) (h : parse l = some A) : A.length ≤ l.length + 1 := by
  unfold parse run at h
  cases hs : steps (gapM [] []) l with
  | none => rw [hs] at h; simp at h
  | some m =>
    rw [hs] at h
    simp only [Option.bind_some] at h
    cases ht : step m 10 with
    | none => rw [ht] at h; simp at h
    | some m2 =>
      rw [ht] at h
      simp at h
      have h1 := steps_len l _ m hs
      have h2 := step_len m m2 10 ht
      subst h
      simp [gapM] at h1
      omega
theorem OwnLL.lt {w : World} {B : Nat} {v : Value} {L : List (List Int)} (h : OwnLL w B v L) : ∀ g, v.ownBlock = some g → g < w.heap.size := by
  obtain ⟨vs, h1, h2⟩ := h
  exact fun g hg => (h1.lt g hg).2
end Go.Proofs.YtpdeffpmfbplnaaDoor
