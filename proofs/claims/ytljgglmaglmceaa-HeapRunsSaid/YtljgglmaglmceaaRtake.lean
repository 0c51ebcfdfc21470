/- What the document's Least and Take do. -/
import Derived.Test.YtljgglmaglmceaaRef
namespace Go.Proofs.Ytljgglmaglmceaa
open Go.ChangeShapes Go.WideShapes Go.ChangeAt Go.RowKit

theorem minB_one (l : List Ent) (h : 0 < l.length) : minB (l.take 1) = (nth l 0).b := by
  cases l with
  | nil => simp at h
  | cons x r => rfl
theorem minB_succ (l : List Ent) (k : Nat) (h0 : 0 < k) (h : k < l.length) : minB (l.take (k + 1)) = min (minB (l.take k)) (nth l k).b := by
  rw [take_snoc l k h]
  cases hl : l.take k with
  | nil => have := congrArg List.length hl; rw [List.length_take, List.length_nil] at this; omega
  | cons y r => exact minFrom_snoc (nth l k) r y.b
theorem first_one (o : Int) (l : List Ent) (h : 0 < l.length) : first o (l.take 1) = nth l 0 := by
  cases l with
  | nil => simp at h
  | cons x r => rfl
theorem first_succ (o : Int) (l : List Ent) (k : Nat) (h0 : 0 < k) (h : k < l.length) : first o (l.take (k + 1)) = if lt o (nth l k) (first o (l.take k)) = true then nth l k else first o (l.take k) := by
  rw [take_snoc l k h]
  cases hl : l.take k with
  | nil => have := congrArg List.length hl; rw [List.length_take, List.length_nil] at this; omega
  | cons y r => exact firstFrom_snoc o (nth l k) r y

theorem rleast_none (w : World) (b : Nat) (hq : w.cell? ⟨b, 1, none⟩ = some (.slice none 0 0)) : Calls Try.prog 17 #[.pointer (some ⟨b, 0, none⟩)] w fun e w' => e = .returned (.int .i64 (minB [])) ∧ w = w' := by
  go_enter Try.func17, Try.ntmps17
  go_wp2
  go_loop [3, 4] (fun t i => t = .int .i64 1152921504606846976 ∧ i = .int .i64 0) (fun _ _ => 0)
  case atStart => exact ⟨rfl, rfl⟩
  case round =>
    obtain ⟨rfl, rfl⟩ := hrel
    go_wp2
    go_ret
    exact ⟨rfl, rfl⟩
set_option maxRecDepth 1000000 in
theorem rleast_some {w : World} {B b g n cap : Nat} {o : Int} {l : List Ent} (h : RefAt w B b o (.slice (some ⟨g, 0, none⟩) n cap) l) (hl : l.length = n) (hn : n ≤ 1000) :
    Calls Try.prog 17 #[.pointer (some ⟨b, 0, none⟩)] w fun e w' => e = .returned (.int .i64 (minB l)) ∧ w = w' := by
  have H := Lib.hid h
  have hq := h.items
  have HL := Lib.hid hl
  clear h hl
  go_enter Try.func17, Try.ntmps17
  go_wp2
  go_loop [3, 4] (fun t i => ∃ k : Nat, k ≤ n ∧ i = .int .i64 k ∧ t = .int .i64 (minB (l.take k))) (fun _ i => n - (intOf i).toNat)
  case atStart => exact ⟨0, Nat.zero_le _, rfl, rfl⟩
  case round =>
    obtain ⟨k, hk, rfl, rfl⟩ := hrel
    by_cases hlt : k < n
    · obtain ⟨c0, -, -⟩ := RefAt.ent (w := w) (l := l) (by rw [HL.out]; exact H.out) k (by rw [HL.out]; exact hlt)
      rcases Nat.eq_zero_or_pos k with hk0 | hk0
      · have HM := Lib.hid (show minB (l.take (k + 1)) = (nth l k).b by rw [hk0]; exact minB_one l (by rw [HL.out]; omega))
        have e0 : ((k : Int) == 0) = true := by simp; omega
        generalize nth l k = x at *
        clear hk0
        go_wp2
        go_round
        case rel => exact ⟨k + 1, by omega, by go_num, by rw [HM.out]⟩
        case measure => simp [intOf]; omega
      · have HM := Lib.hid (minB_succ l k hk0 (by rw [HL.out]; exact hlt))
        have e0 : ((k : Int) == 0) = false := by simp; omega
        generalize nth l k = x at *
        clear hk0
        generalize minB (l.take k) = mk at *
        by_cases hx : x.b < mk
        · have e1 : decide (x.b < mk) = true := decide_eq_true hx
          go_wp2
          go_round
          case rel => exact ⟨k + 1, by omega, by go_num, by rw [HM.out]; congr 1; omega⟩
          case measure => simp [intOf]; omega
        · have e1 : decide (x.b < mk) = false := decide_eq_false hx
          go_wp2
          go_round
          case rel => exact ⟨k + 1, by omega, by go_num, by rw [HM.out]; congr 1; omega⟩
          case measure => simp [intOf]; omega
    · go_wp2
      go_ret
      exact ⟨ret_int (by rw [List.take_of_length_le (by rw [HL.out]; omega)]), rfl⟩
theorem rleast_any {w : World} {B b : Nat} {o : Int} {v : Value} {m : List Ent} (h : RefOf w B b o v m) (hn : m.length ≤ 1000) :
    Calls Try.prog 17 #[.pointer (some ⟨b, 0, none⟩)] w fun e w' => e = .returned (.int .i64 (minB m)) ∧ w = w' := by
  obtain ⟨l, h1, h2⟩ := h
  rw [← minB_perm l m h2]
  have hq := h1.items
  rcases h1.form with ⟨rfl, rfl⟩ | ⟨g, cap, rfl, _⟩
  · exact rleast_none w b hq
  · exact rleast_some h1 rfl (by rw [h2.length_eq]; exact hn)

theorem rtake_none {w : World} {B b : Nat} {o : Int} {v : Value} (h : RefOf w B b o v []) :
    Calls Try.prog 14 #[.pointer (some ⟨b, 0, none⟩)] w fun e w' => e = .returned (.tuple #[entV ⟨0, 0, 0⟩, .bool false]) ∧ Below w.heap.size w w' := by
  obtain ⟨l, h1, h2⟩ := h
  obtain rfl : l = [] := h2.eq_nil
  have hb := (Below.refl _ w).alloc (Nat.le_refl _) (.cells #[.int .i64 0, .int .i64 0, .int .i64 0] 24)
  have hq := (h1.below hb).items
  obtain ⟨a, cap, rfl⟩ : ∃ a cap, v = .slice a 0 cap := by
    rcases h1.form with ⟨rfl, _⟩ | ⟨g, cap, rfl, _⟩
    · exact ⟨_, _, rfl⟩
    · exact ⟨_, _, rfl⟩
  have HB := Lib.hid hb
  have hlt := (h1.lt b (.inl rfl)).2
  clear hb h1 h2
  go_enter Try.func14, Try.ntmps14
  go_wp2
  refine bodyPost_ret (v := .tuple #[entV ⟨0, 0, 0⟩, .bool false]) ?_ rfl ⟨rfl, HB.out⟩
  simp [results, Try.results14, go_sem, entV]

/-- The cells ahead of a place, and those behind it. -/
theorem news_take {w : World} {B b g n cap : Nat} {o : Int} {l : List Ent} (h : RefAt w B b o (.slice (some ⟨g, 0, none⟩) n cap) l) (j : Nat) : ∀ i u, (rowE (l.take j))[i]? = some u → w.cell? ((⟨g, 0, none⟩ : Addr).add i) = some u := by
  intro i u hu
  refine h.own.cells rfl i u ?_
  rw [← rowE_take, List.getElem?_take] at hu
  split at hu
  · exact hu
  · cases hu
theorem news_drop {w : World} {B b g n cap : Nat} {o : Int} {l : List Ent} (h : RefAt w B b o (.slice (some ⟨g, 0, none⟩) n cap) l) (j : Nat) : ∀ i u, (rowE (l.drop j))[i]? = some u → w.cell? ((⟨g, j * 3, none⟩ : Addr).add i) = some u := by
  intro i u hu
  rw [← rowE_drop, List.getElem?_drop] at hu
  have := h.own.cells rfl (j * 3 + i) u hu
  rw [add_off] at this ⊢
  rw [Nat.zero_add] at this
  exact this
/-- Behind the two appends, the field stored. -/
theorem rtake_mid {W2 W3 W4 : World} {B b : Nat} {o : Int} {v v1 v2 : Value} {l l' : List Ent} {q : Nat} (h : RefAt W2 B b o v l) (g3 : W2.grownBy W3 (Value.ownBlock (.slice none 0 0))) (h1 : v1.ownBlock = Value.ownBlock (.slice none 0 0) ∨ v1.ownBlock = some W2.heap.size)
    (g4 : W3.grownBy W4 v1.ownBlock) (hq : q = l'.length) (o4 : W4.ownsRow B 24 3 v2 q (rowE l')) (h2 : v2.ownBlock = v1.ownBlock ∨ v2.ownBlock = some W3.heap.size) :
    (∀ k, k < W2.heap.size → W4.heap[k]? = W2.heap[k]?) ∧ RefAt (W4.setCell ⟨b, 1, none⟩ v2) B b o v2 l' ∧ Turned (· = b) W2 (W4.setCell ⟨b, 1, none⟩ v2) ∧ ∀ k, Foot b v2 k → k = b ∨ W2.heap.size ≤ k := by
  subst hq
  have hbl := (h.lt b (.inl rfl)).2
  have hs3 := g3.size
  have hk : ∀ k, k < W2.heap.size → W4.heap[k]? = W2.heap[k]? := fun k hk => by
    rw [g4.block k (by omega) (fun e => by rcases h1 with h1 | h1 <;> rw [h1] at e <;> simp [Value.ownBlock] at e; omega), g3.block k hk (by simp [Value.ownBlock])]
  have hfoot : ∀ k, v2.ownBlock = some k → W2.heap.size ≤ k := fun k hk => by
    rcases h2 with h2 | h2
    · rcases h1 with h1 | h1
      · rw [h2, h1] at hk; simp [Value.ownBlock] at hk
      · rw [h2, h1] at hk; simp at hk; omega
    · rw [h2] at hk; simp at hk; omega
  have hb4 : W4.heap[b]? = some (.cells #[.int .i64 o, v] 31 (0, 0)) := (hk b hbl).trans h.blk
  refine ⟨hk, ⟨h.base, ?_, ?_, ?_⟩, ?_, ?_⟩
  · rw [heap_setCell_same W4 b 1 _ _ _ hb4]; rfl
  · refine o4.kept (row := some b) ⟨rfl, rfl, rfl, by simp [World.setCell], fun k _ hk => heap_setCell_other W4 ⟨b, 1, none⟩ k _ (fun e => hk (by rw [e]))⟩ (.inr ?_)
    intro e
    have := hfoot b e
    omega
  · intro e; have := hfoot b e; omega
  · exact ⟨g4.os.trans g3.os, g4.tape.trans g3.tape, g4.output.trans g3.output, by have := g4.size; simp [World.setCell]; omega, fun k hkl hne => (Below.heap_setCell _ _ _ _ hne).trans (hk k hkl)⟩
  · rintro k (rfl | e)
    · exact .inl rfl
    · exact .inr (hfoot k e)
theorem rtake_perm (o : Int) (l : List Ent) (j : Nat) (h : j < l.length) (hf : nth l j = first o l) : (l.take j ++ l.drop (j + 1)).Perm (left o l) := by
  refine left_of o l _ (fun e => by rw [e] at h; simp at h) ?_
  have h1 := List.take_append_drop j l
  rw [List.drop_eq_getElem_cons h, ← nth_eq l j h, hf] at h1
  have h2 : l.Perm (l.take j ++ first o l :: l.drop (j + 1)) := List.Perm.of_eq h1.symm
  exact h2.trans List.perm_middle

theorem own_slice {w : World} {B : Nat} {e : TypeId} {s : Nat} {v : Value} {n : Nat} {xs : List Value} (h : w.ownsRow B e s v n xs) : ∃ a q c, v = .slice a q c := by
  rcases h.2 with ⟨rfl, _⟩ | ⟨g, cap, cur, rfl, _⟩
  · exact ⟨_, _, _, rfl⟩
  · exact ⟨_, _, _, rfl⟩
/-- All that the last steps of Take need, and what they leave. -/
theorem rtake_post {w wa wr W3 W4 : World} {B b N q : Nat} {o : Int} {v v1 v2 : Value} {l : List Ent} {j : Nat} {f : Ent} (h : RefAt w B b o v l) (hN : w.heap.size = N) (ha : Below w.heap.size w wa) (hz : wa.heap[N]? = some (boxOf ⟨0, 0, 0⟩)) (hr : Below wa.heap.size wa wr)
    (hj : j < l.length) (hf : nth l j = f) (hf2 : first o l = f) (g3 : (wr.alloc (boxOf f)).grownBy W3 (Value.ownBlock (.slice none 0 0))) (h1 : v1.ownBlock = Value.ownBlock (.slice none 0 0) ∨ v1.ownBlock = some (wr.heap.size + 1))
    (g4 : W3.grownBy W4 v1.ownBlock) (hq : q = (l.take j ++ l.drop (j + 1)).length) (o4 : W4.ownsRow B 24 3 v2 q (rowE (l.take j) ++ rowE (l.drop (j + 1)))) (h2 : v2.ownBlock = v1.ownBlock ∨ v2.ownBlock = some W3.heap.size) :
    W4.heap[b]? = some (.cells #[.int .i64 o, v] 31 (0, 0)) ∧ W4.heap[wr.heap.size]? = some (boxOf f) ∧ W4.heap[N]? = some (boxOf ⟨0, 0, 0⟩) ∧ b < N ∧ N < wr.heap.size ∧
    Post (fun w v => RefOf w B b o v (left o l)) b w v (set3 (W4.setCell ⟨b, 1, none⟩ v2) N 0 f) := by
  subst hN
  have hNa : w.heap.size < wa.heap.size := (Array.getElem?_eq_some_iff.1 hz).1
  have hbl := (h.lt b (.inl rfl)).2
  have hra := h.below ha
  have hrr := hra.below hr
  have hb2 : Below wr.heap.size wr (wr.alloc (boxOf f)) := (Below.refl _ _).alloc (Nat.le_refl _) _
  have hR2 := hrr.below hb2
  have hs2 : (wr.alloc (boxOf f)).heap.size = wr.heap.size + 1 := by simp
  have hsr := hr.size
  rw [← rowE_append] at o4
  rw [← hs2] at h1
  obtain ⟨m1, m2, m3, m4⟩ := rtake_mid hR2 g3 h1 g4 hq o4 h2
  have hzr : (wr.alloc (boxOf f)).heap[w.heap.size]? = some (boxOf ⟨0, 0, 0⟩) := by
    rw [Below.heap_alloc _ _ _ (by omega), hr.block _ hNa]; exact hz
  refine ⟨(m1 b (by omega)).trans hR2.blk, (m1 _ (by omega)).trans (heap_alloc_new wr _), (m1 _ (by omega)).trans hzr, hbl, by omega, ?_⟩
  have tN := set3_turned (W4.setCell ⟨b, 1, none⟩ v2) w.heap.size 0 f
  refine ⟨v2, ⟨_, m2.kept tN (fun k hk e => ?_), rtake_perm o l j hj (hf.trans hf2.symm)⟩, ?_, fun k hk => ?_⟩
  · rcases m4 k hk with h | h <;> omega
  · have t1 : Turned (Foot b v) w (wr.alloc (boxOf f)) := turned_of_below ((ha.trans (hr.mono ha.size)).alloc (by omega) _)
    exact (t1.trans m3 (fun k _ e => .inl e)).trans tN (fun k hk e => by omega)
  · rcases m4 k hk with h | h
    · exact .inl (.inl h)
    · exact .inr (by omega)

set_option maxRecDepth 1000000 in
set_option maxHeartbeats 1000000 in
theorem rtake_some {w : World} {B b g n cap : Nat} {o : Int} {l : List Ent} (h : RefAt w B b o (.slice (some ⟨g, 0, none⟩) n cap) l) (hl : l.length = n) (h0 : 0 < n) (hn : n ≤ 1000) :
    Calls Try.prog 14 #[.pointer (some ⟨b, 0, none⟩)] w fun e w' => e = .returned (.tuple #[entV (first o l), .bool true]) ∧ Post (fun w v => RefOf w B b o v (left o l)) b w (.slice (some ⟨g, 0, none⟩) n cap) w' := by
  have HTa := Lib.hid ((Below.refl _ w).alloc (Nat.le_refl _) (.cells #[.int .i64 0, .int .i64 0, .int .i64 0] 24))
  have HA := Lib.hid (h.below HTa.out)
  have H := Lib.hid h
  have HZ := Lib.hid (heap_alloc_new w (.cells #[.int .i64 0, .int .i64 0, .int .i64 0] 24))
  have HL := Lib.hid hl
  have hq := HA.out.items
  have hn0 : ((n : Int) == 0) = false := by simp; omega
  clear h hl
  go_enter Try.func14, Try.ntmps14
  go_wp2_with fail
  generalize w.alloc (.cells #[.int .i64 0, .int .i64 0, .int .i64 0] 24) = wa at *
  generalize hN : w.heap.size = N at HZ ⊢
  have HNe := Lib.hid hN
  clear hN
  go_loopw [4, 5] (fun t i wr => ∃ j k : Nat, 1 ≤ k ∧ k ≤ n ∧ j < k ∧ i = .int .i64 k ∧ t = .int .i64 j ∧ nth l j = first o (l.take k) ∧ Below wa.heap.size wa wr) (fun _ i _ => n - (intOf i).toNat)
  case atStart => exact ⟨0, 1, Nat.le_refl _, by omega, by omega, rfl, rfl, (first_one o l (by rw [HL.out]; exact h0)).symm, Below.refl _ _⟩
  case round =>
    obtain ⟨j, k, hk1, hk, hjk, rfl, rfl, hj, hb⟩ := hrel
    have HJ := Lib.hid hj
    have HB := Lib.hid hb
    have HR := Lib.hid (HA.out.below hb)
    clear hj hb hq
    have hq := HR.out.items
    have ho := HR.out.order
    by_cases hlt : k < n
    · obtain ⟨c0, c1, c2⟩ := RefAt.ent (w := wr) (l := l) (by rw [HL.out]; exact HR.out) k (by rw [HL.out]; exact hlt)
      obtain ⟨d0, d1, d2⟩ := RefAt.ent (w := wr) (l := l) (by rw [HL.out]; exact HR.out) j (by rw [HL.out]; omega)
      have HF := Lib.hid (first_succ o l k (by omega) (by rw [HL.out]; exact hlt))
      have hjn : j < n := by omega
      obtain ⟨x, hx⟩ : ∃ x, nth l k = x := ⟨_, rfl⟩
      obtain ⟨y, hy⟩ : ∃ y, nth l j = y := ⟨_, rfl⟩
      rw [hx] at c0 c1 c2 HF
      rw [hy] at d0 d1 d2
      rw [← HJ.out, hy] at HF
      have HX := Lib.hid hx
      have HY := Lib.hid hy
      clear hx hy
      go_wp2_with fail
      go_still_tail 18, (by kernel_rfl)
      change wpList _ _ _ _ _ wr.drew
      generalize hw2 : wr.drew = w2
      have HW := Lib.hid hw2
      clear hw2
      go_wp2_with fail
      refine (rless_any o x y _).mono ?_
      rintro e w3 ⟨rfl, hb⟩
      have HB3 := Lib.hid (HB.out.trans ((fb_world HW.out hb).mono HB.out.size))
      clear hb c0 c1 c2 d0 d1 d2 hq ho HW
      cases hlx : lt o x y
      · rw [hlx] at HF
        go_wp2
        go_roundw
        case rel => exact ⟨j, k + 1, by omega, by omega, by omega, by go_num, rfl, by rw [HF.out, HY.out]; rfl, HB3.out⟩
        case measure => simp [intOf]; omega
      · rw [hlx] at HF
        go_wp2
        go_roundw
        case rel => exact ⟨k, k + 1, by omega, by omega, by omega, by go_num, rfl, by rw [HF.out, HX.out]; rfl, HB3.out⟩
        case measure => simp [intOf]; omega
    · obtain rfl : k = n := by omega
      have HF := Lib.hid (show nth l j = first o l by have := HJ.out; rw [List.take_of_length_le (by rw [HL.out]; exact Nat.le_refl _)] at this; exact this)
      obtain ⟨d0, d1, d2⟩ := RefAt.ent (w := wr) (l := l) (by rw [HL.out]; exact HR.out) j (by rw [HL.out]; omega)
      rw [HF.out] at d0 d1 d2
      generalize hf : first o l = f at *
      have HFf := Lib.hid hf
      clear hf
      have hbw := (HR.out.lt b (.inl rfl)).2
      have hgw := (HR.out.lt g (.inr rfl)).2
      have HS := Lib.hid (show RefAt (wr.alloc (.cells #[.int .i64 f.b, .int .i64 f.d, .int .i64 f.n] 24)) B b o (.slice (some ⟨g, 0, none⟩) k cap) l from HR.out.below ((Below.refl _ _).alloc (Nat.le_refl _) _))
      have hcap : k ≤ cap := by rcases HR.out.form with ⟨e, _⟩ | ⟨g', cap', e, _, _, _, hc⟩ <;> simp at e; omega
      have hjc : j ≤ cap := by omega
      obtain ⟨i0, hi, hz0, hz1, hz2⟩ := info_parts info24
      have hBs : B ≤ wr.heap.size := by have := (HR.out.lt b (.inl rfl)); omega
      go_wp2_with (first | (at_builtin; refine wpList_append_own_at _ rfl _ _ 29 rfl B 24 i0 _ 3 24 Try.underlying29 hi hz0 hz1 hz2 rfl (by decide) _ 0 [] rfl (World.ownsRow_nil _ _ _ _) ⟨g, 0, none⟩ j cap (rowE (l.take j)) rfl ?c1 (news_take HS.out j) (rowE_one_cell _) ?c3 ?c4 ?c5 ?_))
      case c1 => rw [rowE_len, List.length_take, HL.out, Nat.min_eq_left (by omega)]
      case c3 => unfold maxLen; omega
      case c4 => omega
      case c5 => simp; omega
      intro v1 W3 own3 grow3 nil3 at3
      have H3 := Lib.hid (HS.out.kept (turned_of_grown (F := fun _ => False) grow3 (by simp [Value.ownBlock])) (fun _ _ hf => hf))
      have hq3 := H3.out.items
      have Own3 := Lib.hid own3
      have Grow3 := Lib.hid grow3
      have At3 := Lib.hid at3
      have hB3 : B ≤ W3.heap.size := by have := grow3.size; simp at this; omega
      clear own3 grow3 nil3 at3 hq ho d0 d1 d2
      have i1 : IntKind.i64.wrap ((j : Int) + 1) = (j : Int) + 1 := IntWalk.i64_in _ (by omega)
      have hlen2 : (rowE (l.drop (j + 1))).length = (k - (j + 1)) * 3 := by rw [rowE_len, List.length_drop, HL.out]
      have HLen2 := Lib.hid hlen2
      clear hlen2
      by_cases hjcap : j + 1 < cap
      · go_wp2_with (first | (at_builtin; refine wpList_append_own_at _ rfl _ _ 29 rfl B 24 i0 _ 3 24 Try.underlying29 hi hz0 hz1 hz2 rfl (by decide) _ j (rowE (l.take j)) rfl Own3.out ⟨g, (j + 1) * 3, none⟩ (k - (j + 1)) _ (rowE (l.drop (j + 1))) rfl HLen2.out (news_drop H3.out (j + 1)) (rowE_one_cell _) ?d3 ?d4 hB3 ?_))
        case d3 => unfold maxLen; omega
        case d4 => omega
        intro v2 W4 own4 grow4 nil4 at4
        obtain ⟨av, qv, cv, rfl⟩ := own_slice own4
        obtain ⟨q1, q2, q3, q4, q5, q6⟩ := rtake_post H.out HNe.out HTa.out HZ.out HB.out (by rw [HL.out]; exact hjk) HF.out HFf.out Grow3.out At3.out grow4 (by rw [List.length_append, List.length_take, List.length_drop, HL.out]; omega) own4 at4
        have HD := Lib.hid q6
        have n1 : W4.cell? ⟨b, 1, none⟩ = some (.slice (some ⟨g, 0, none⟩) k cap) := by rw [cell_of_row _ _ _ _ _ _ q1]; rfl
        have nf := frozen_of_row _ _ 1 _ _ q1
        obtain ⟨e0, e1, e2⟩ := box_cells q2
        obtain ⟨z0, z1, z2⟩ := box_cells q3
        have zf := box_free q3
        clear q1 q2 q3 q6 own4 grow4 nil4 at4 i1
        generalize wr.heap.size = E at *
        go_wp2
        refine bodyPost_ret (v := .tuple #[entV f, .bool true]) ?_ rfl ⟨by rw [HFf.out], HD.out⟩
        simp [results, Try.results14, go_sem, z0, z1, z2, entV]
      · obtain rfl : cap = k := by omega
        obtain rfl : cap = j + 1 := by omega
        have HD0 := Lib.hid (show rowE (l.drop (j + 1)) = [] by rw [List.drop_of_length_le (by rw [HL.out]; exact Nat.le_refl _)]; rfl)
        clear HLen2
        go_wp2_with (first | (at_builtin; refine wpList_append_own_at _ rfl _ _ 29 rfl B 24 i0 _ 3 24 Try.underlying29 hi hz0 hz1 hz2 rfl (by decide) _ j (rowE (l.take j)) rfl Own3.out ⟨g, 0, none⟩ 0 _ [] rfl rfl (fun _ _ hu => by simp at hu) (fun _ hu => by simp at hu) ?d3 ?d4 hB3 ?_))
        case d3 => unfold maxLen; omega
        case d4 => omega
        intro v2 W4 own4 grow4 nil4 at4
        replace own4 : W4.ownsRow B 24 3 v2 j (rowE (l.take j) ++ rowE (l.drop (j + 1))) := by rw [HD0.out, List.append_nil]; exact own4
        obtain ⟨av, qv, cv, rfl⟩ := own_slice own4
        obtain ⟨q1, q2, q3, q4, q5, q6⟩ := rtake_post H.out HNe.out HTa.out HZ.out HB.out (by rw [HL.out]; exact hjk) HF.out HFf.out Grow3.out At3.out grow4 (by rw [List.length_append, List.length_take, List.length_drop, HL.out]; omega) own4 at4
        have HD := Lib.hid q6
        have n1 : W4.cell? ⟨b, 1, none⟩ = some (.slice (some ⟨g, 0, none⟩) (j + 1) (j + 1)) := by rw [cell_of_row _ _ _ _ _ _ q1]; rfl
        have nf := frozen_of_row _ _ 1 _ _ q1
        obtain ⟨e0, e1, e2⟩ := box_cells q2
        obtain ⟨z0, z1, z2⟩ := box_cells q3
        have zf := box_free q3
        clear q1 q2 q3 q6 own4 grow4 nil4 at4 i1
        generalize wr.heap.size = E at *
        go_wp2
        refine bodyPost_ret (v := .tuple #[entV f, .bool true]) ?_ rfl ⟨by rw [HFf.out], HD.out⟩
        simp [results, Try.results14, go_sem, z0, z1, z2, entV]
theorem rtake_any {w : World} {B b : Nat} {o : Int} {v : Value} {m : List Ent} (h : RefOf w B b o v m) (hm : m ≠ []) (hn : m.length ≤ 1000) :
    Calls Try.prog 14 #[.pointer (some ⟨b, 0, none⟩)] w fun e w' => e = .returned (.tuple #[entV (first o m), .bool true]) ∧ Post (fun w v => RefOf w B b o v (left o m)) b w v w' := by
  obtain ⟨l, h1, h2⟩ := h
  have hlen := h2.length_eq
  have h0 : 0 < m.length := by cases m with | nil => exact absurd rfl hm | cons _ _ => simp
  rcases h1.form with ⟨_, hl⟩ | ⟨g, cap, rfl, _, _, _, _⟩
  · rw [hl] at hlen; simp at hlen; omega
  · refine (rtake_some h1 rfl (by omega) (by omega)).mono ?_
    rintro e w' ⟨he, v', ⟨l', q1, q2⟩, q3⟩
    exact ⟨by rw [he, first_perm o l m h2], v', ⟨l', q1, q2.trans (left_permut o l m h2)⟩, q3⟩
end Go.Proofs.Ytljgglmaglmceaa
