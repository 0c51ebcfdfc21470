/- The document's sets of what both have, of what one has, and all of a set. -/
import Derived.Test.YtpgbbnmflnhlbaaXE
import Derived.Test.YtpgbbnmflnhlbaaXRef
import Derived.Test.YtpgbbnmflnhlbaaXR2
import Derived.Test.YtpgbbnmflnhlbaaXSNext
import Derived.Test.YtpgbbnmflnhlbaaXTCar
import Derived.Test.YtpgbbnmflnhlbaaXSDoc
import Derived.Test.YtpgbbnmflnhlbaaXTSched
namespace Go.Proofs.Ytpgbbnmflnhlbaa
open Go.ChangeShapes Go.WideShapes Go.ChangeAt Go.RowKit

def someN (s k : Nat) : List Int := ((List.range k).filter (fun i : Nat => s.testBit i)).map (fun i : Nat => (i : Int))
theorem someN_yes (s k : Nat) (h : s.testBit k = true) : someN s (k + 1) = someN s k ++ [(k : Int)] := by
  unfold someN; rw [List.range_succ, List.filter_append, List.map_append]; simp [h]
theorem someN_no (s k : Nat) (h : s.testBit k = false) : someN s (k + 1) = someN s k := by
  unfold someN; rw [List.range_succ, List.filter_append, List.map_append]; simp [h]
theorem someN_len (s k : Nat) : (someN s k).length ≤ k := by
  unfold someN
  rw [List.length_map]
  exact Nat.le_trans (List.length_filter_le _ _) (by simp)
theorem of_allN (s : Nat) (hs : s < 18446744073709551616) : ofN (allN s) = s := ofN_of_mem _ s hs (fun k _ => mem_allN s k)
/-- What both have of the first k. -/
def bothN (s t k : Nat) : Nat := (s &&& t) % 2 ^ k
theorem bothN_lt (s t k : Nat) (hs : s < 18446744073709551616) : bothN s t k < 18446744073709551616 := Nat.lt_of_le_of_lt (Nat.mod_le _ _) (and_lt hs)
theorem bothN_step (s t k : Nat) (hk : k ≤ 63) : bothN s t (k + 1) = if has s k && has t k then bothN s t k ||| bitN k else bothN s t k := by
  rw [has_nat s k (by omega), has_nat t k (by omega), ← Nat.testBit_and]
  unfold bothN
  apply Nat.eq_of_testBit_eq
  intro i
  rw [Nat.testBit_mod_two_pow]
  cases h : (s &&& t).testBit k
  · rw [if_neg (by simp), Nat.testBit_mod_two_pow]
    by_cases e : i = k
    · subst e; rw [h]; simp
    · congr 1
      rw [Bool.eq_iff_iff]; simp; omega
  · rw [if_pos rfl, Nat.testBit_or, Nat.testBit_mod_two_pow, bitN_nat k hk, Nat.testBit_two_pow]
    by_cases e : i = k
    · subst e; rw [h]; simp
    · rw [show decide (k = i) = false by simp; omega, Bool.or_false]
      congr 1
      rw [Bool.eq_iff_iff]; simp; omega
theorem bothN_all (s t : Nat) (hs : s < 18446744073709551616) : bothN s t 64 = s &&& t := Nat.mod_eq_of_lt (show s &&& t < 2 ^ 64 from and_lt hs)
/-- What the one has, and the first k of the other one's. -/
theorem oneN_step (s t k : Nat) (h : k < (allN t).length) : s ||| ofN ((allN t).take (k + 1)) = (s ||| ofN ((allN t).take k)) ||| bitN ((allN t).getD k 0) := by
  rw [List.take_succ_eq_append_getElem h, ofN_snoc, Nat.or_assoc]
  simp [List.getD, h]
theorem allN_le (s : Nat) : (allN s).length ≤ 64 := someN_len s 64
end Go.Proofs.Ytpgbbnmflnhlbaa
/- States thrown together: the document's answer. -/
namespace Go.Proofs.Ytpgbbnmflnhlbaa
open Go.ChangeShapes Go.WideShapes Go.ChangeAt Go.RowKit

theorem joinF_next {s u t : Sta} {r : List Sta} {k : Nat} (hk : 1 ≤ k) (h : joinF s (r.take (k - 1)) = some u) (hs : (s :: r)[k]? = some t) : joinF s (r.take (k + 1 - 1)) = if t.pos = u.pos then some (join2 u t) else none := by
  obtain ⟨j, rfl⟩ : ∃ j, k = j + 1 := ⟨k - 1, by omega⟩
  rw [Nat.add_sub_cancel] at h
  rw [show j + 1 + 1 - 1 = j + 1 from rfl]
  exact joinF_take h (by simpa using hs)
theorem holds_st {w : World} {b c : Nat} {s t : Sta} (h : StB w b s) (k : StB w c t) : Holds (cellsSt b s ++ cellsSt c t) w := Holds.app.2 ⟨h.holds, k.holds⟩
end Go.Proofs.Ytpgbbnmflnhlbaa
/- The chapter's example. -/
namespace Go.Proofs.Ytpgbbnmflnhlbaa
open Go.ChangeShapes Go.WideShapes Go.ChangeAt Go.RowKit

def xg1 : Sta := ⟨4, 0, 5, 0, 0, 6, 6, 0⟩
def xg2 : Sta := ⟨4, 0, 4, 0, 0, 10, 10, 0⟩
def xgJ : Sta := ⟨4, 0, 4, 0, 0, 2, 14, 0⟩
theorem xg_join : joinS [xg1, xg2] = some xgJ := by decide +kernel
theorem xg_cov : Covers xgJ xg1 := by decide +kernel
theorem xg_sets : SetsOk xg1 ∧ SetsOk xg2 ∧ SetsOk xgJ := by unfold SetsOk; decide
set_option maxRecDepth 1000000 in
set_option maxHeartbeats 4000000 in
theorem xawake_any (w : World) : Calls Try.prog 64 #[] w fun e w' => e = .returned (.bool true) ∧ Below w.heap.size w w' := by
  have keq : ∀ w : World, (Op.equalIn 10000 55 (.agg #[.int .i64 4, .int .i64 0, .int .i64 4, .int .i64 0, .int .i64 0, .int .u64 2, .int .u64 14, .int .u64 0]) (.agg #[.int .i64 4, .int .i64 0, .int .i64 4, .int .i64 0, .int .i64 0, .int .u64 2, .int .u64 14, .int .u64 0])).run Try.prog w = .ok true w := fun w => equalSta xgJ xgJ w
  have kg := guardSta
  go_enter Try.func64, Try.ntmps64
  go_wp2_with fail
  have HB := Lib.hid ((Below.refl w.heap.size w).alloc (Nat.le_refl _) (.cells (gflat stL [xg1, xg2]).toArray 55))
  have HR := Lib.hid (grow_block (l := [xg1, xg2]) encSta (heap_alloc_new w (.cells (gflat stL [xg1, xg2]).toArray 55)) (by decide))
  change Calls _ _ _ (w.alloc (.cells (gflat stL [xg1, xg2]).toArray 55)) _
  generalize w.alloc (.cells (gflat stL [xg1, xg2]).toArray 55) = W at *
  refine (xjoin_any (l := [xg1, xg2]) HR.out (by
    intro s hs
    simp only [List.mem_cons, List.not_mem_nil, or_false] at hs
    rcases hs with rfl | rfl
    · exact xg_sets.1
    · exact xg_sets.2.1)).mono ?_
  rw [jOf_some xg_join, xg_join]
  rintro e w1 ⟨rfl, hb⟩
  have HB1 := Lib.hid (HB.out.trans (hb.mono HB.out.size))
  clear hb HB HR
  rw [show staV xgJ = (.agg #[.int .i64 4, .int .i64 0, .int .i64 4, .int .i64 0, .int .i64 0, .int .u64 2, .int .u64 14, .int .u64 0]) from rfl, show (some xgJ).isSome = true from rfl]
  go_upto_region 2 with fail
  have HT := Lib.hid (st_new w1 xgJ)
  have HB2 := Lib.hid (HB1.out.alloc HB1.out.size (boxSt xgJ))
  change Code.wp _ _ _ _ (w1.alloc (boxSt xgJ))
  generalize w1.alloc (boxSt xgJ) = W2 at *
  generalize w1.heap.size = bs at *
  have z0 := HT.out.c0
  have z1 := HT.out.c1
  have z2 := HT.out.c2
  have z3 := HT.out.c3
  have z4 := HT.out.c4
  have z5 := HT.out.c5
  have z6 := HT.out.c6
  have z7 := HT.out.c7
  rw [show xgJ = ⟨4, 0, 4, 0, 0, 2, 14, 0⟩ from rfl] at z0 z1 z2 z3 z4 z5 z6 z7
  simp only at z0 z1 z2 z3 z4 z5 z6 z7
  go_wp2_with fail
  clear z0 z1 z2 z3 z4 z5 z6 z7
  change Calls _ _ #[staV xgJ, staV xg1] _ _
  refine (covers_any _ xg_sets.2.2 xg_sets.1).mono ?_
  rw [decide_eq_true xg_cov]
  rintro e w3 ⟨rfl, hb⟩
  have HB3 := Lib.hid (HB2.out.trans (hb.mono HB2.out.size))
  clear hb HB2
  go_wp2
  go_ret
  exact ⟨rfl, HB3.out⟩
end Go.Proofs.Ytpgbbnmflnhlbaa
/- A row's state, as a drawn region holds it. -/
namespace Go.Proofs.Ytpgbbnmflnhlbaa
open Go.ChangeShapes Go.WideShapes Go.ChangeAt Go.RowKit

/-- The cells of a state on a row, as a region holds them. -/
def cellsR (b o : Nat) (s : Sta) : List (Addr × Value) := [(⟨b, o, none⟩, .int .i64 s.pos), (⟨b, o + 1, none⟩, .int .i64 s.car), (⟨b, o + 2, none⟩, .int .i64 s.time), (⟨b, o + 3, none⟩, .int .i64 s.load), (⟨b, o + 4, none⟩, .int .i64 s.first), (⟨b, o + 5, none⟩, .int .u64 s.must), (⟨b, o + 6, none⟩, .int .u64 s.may), (⟨b, o + 7, none⟩, .int .u64 s.on)]
theorem holds_row {w : World} {b o : Nat} {s : Sta} (h : StAt w b o s) : Holds (cellsR b o s) w := ⟨h.1, h.2.1, h.2.2.1, h.2.2.2.1, h.2.2.2.2.1, h.2.2.2.2.2.1, h.2.2.2.2.2.2.1, h.2.2.2.2.2.2.2, trivial⟩
theorem lows_R {M b o : Nat} {s : Sta} (hb : b < M) : Lows M (cellsR b o s) := ⟨hb, hb, hb, hb, hb, hb, hb, hb, trivial⟩
theorem arow_lt {w : World} {b off n cap : Nat} {l : List Sta} (h : ARow w (.slice (some ⟨b, off, none⟩) n cap) l) (i : Nat) (s : Sta) (hi : l[i]? = some s) : b < w.heap.size := by
  have h1 := (arow_here h i s hi).1
  exact World.block_lt_of_cell? w _ h1
end Go.Proofs.Ytpgbbnmflnhlbaa
/- A whole state stored over another one: what else stays. -/
namespace Go.Proofs.Ytpgbbnmflnhlbaa
open Go.ChangeShapes Go.WideShapes Go.ChangeAt Go.RowKit

theorem put_other {w : World} {r b : Nat} (h : b ≠ r) (s : Sta) : (w.setCells r 0 (stL s)).heap[b]? = w.heap[b]? :=
  (heap_setCell_other _ ⟨r, 7, none⟩ b _ h).trans ((heap_setCell_other _ ⟨r, 6, none⟩ b _ h).trans ((heap_setCell_other _ ⟨r, 5, none⟩ b _ h).trans ((heap_setCell_other _ ⟨r, 4, none⟩ b _ h).trans ((heap_setCell_other _ ⟨r, 3, none⟩ b _ h).trans ((heap_setCell_other _ ⟨r, 2, none⟩ b _ h).trans ((heap_setCell_other _ ⟨r, 1, none⟩ b _ h).trans (heap_setCell_other _ ⟨r, 0, none⟩ b _ h)))))))
theorem wpList_store_over {ops : Array Oper} {rest : List Oper} {op : Oper} {a : Act} {w : World} {Q : Exit → Act → World → Prop} (hgd : op.guard = none) (x y : Operand) (ho : op.op = .store 55 x y)
    (r : Nat) (s0 s : Sta) (hx : a.eval x = .pointer (some ⟨r, 0, none⟩)) (hy : a.eval y = staV s) (k : StB w r s0)
    (h : ∀ w', StB w' r s → (∀ M, M ≤ r → Below M w w') → (∀ b, b ≠ r → w'.heap[b]? = w.heap[b]?) → wpList Try.prog ops Q rest (a.put op.dst undef) w') : wpList Try.prog ops Q (op :: rest) a w := by
  refine wpList_store_mid hgd 55 x y ho r 0 (stL s).toArray hx (hy.trans rfl) (by exact k.there) (by exact infoState) (all_oneCell_toArray (fun v hv => by
    simp only [stL, List.mem_cons, List.not_mem_nil, or_false] at hv
    rcases hv with rfl | rfl | rfl | rfl | rfl | rfl | rfl | rfl <;> rfl)) ?_
  exact h _ (by exact put_state k s) (fun M hM => by exact put_below hM s) (fun b hb => by exact put_other hb s)
theorem StB.same {w w' : World} {b : Nat} {s : Sta} (k : StB w b s) (h : w'.heap[b]? = w.heap[b]?) : StB w' b s := by unfold StB; rw [h]; exact k
end Go.Proofs.Ytpgbbnmflnhlbaa
/- Rows of structs put behind a row that a call has made, at a step of a drawn region; parts of a row of states. -/
namespace Go.Proofs.Ytpgbbnmflnhlbaa
open Go.ChangeShapes Go.WideShapes Go.ChangeAt Go.RowKit

theorem wp_app_rows {α : Type} {f : α → List Value} {k : Nat} {tS t : TypeId} {z : Value} {bytes : Nat} (E : Enc f k) (hU : Try.prog.underlying tS = some (.slice t)) (hI : (Try.prog.info? t).map (fun i => (i.zero, i.size, i.bytes)) = some (some z, k, bytes)) (hz : z.cells.size = k) (hby : bytes ≤ 1024)
    {w : World} {o : Oper} {a : Act} {K : Act → World → Prop} {Q : Exit → Act → World → Prop} (s x : Operand)
    (ho : o.op = .call { callee := .builtin .append, args := #[s, x], argTypes := #[tS, tS] }) (B : Nat) (v : Value) (l : List α) (hs : a.eval s = v) (hown : OwnG f k t w B v l)
    (g n c : Nat) (m : List α) (hx : a.eval x = .slice (some ⟨g, 0, none⟩) n c) (hr : GRow f k w (.slice (some ⟨g, 0, none⟩) n c) m) (hn : m.length = n) (hm : 0 < n) (hlen : l.length + n ≤ 1000000) (hB : B ≤ w.heap.size)
    (h : ∀ v' w', OwnG f k t w' B v' (l ++ m) → w.grownBy w' v.ownBlock → K (a.put o.dst v') w') : o.wp Try.prog a w K Q := by
  obtain ⟨i0, hi, hz0, hz1, hz2⟩ := info_parts hI
  subst hn
  refine wp_append_lies w s x tS ho B t i0 _ k bytes hU hi hz0 hz1 hz2 hz E.pos v l.length (gflat f l) hs hown ⟨g, 0, none⟩ m.length c (gflat f m) hx (gflat_len E m) (grow_cells E hr) (gflat_one E m) hm (by unfold maxLen; omega) (Nat.le_trans (Nat.mul_le_mul hlen hby) (by decide)) hB _ rfl ?_
  intro g' cap w' h1 h2 _ _
  refine h _ w' ?_ h2
  unfold OwnG
  rw [List.length_append, gflat_append]
  exact h1
theorem infoSta : (Try.prog.info? 55).map (fun i => (i.zero, i.size, i.bytes)) = some (some (.agg #[.int .i64 0, .int .i64 0, .int .i64 0, .int .i64 0, .int .i64 0, .int .u64 0, .int .u64 0, .int .u64 0]), 8, 64) := by kernel_rfl
theorem ARow.head {w : World} {b off n cap : Nat} {l : List Sta} (h : ARow w (.slice (some ⟨b, off, none⟩) n cap) l) (c : Nat) (hc : c ≤ l.length) : ARow w (.slice (some ⟨b, off, none⟩) c cap) (l.take c) := by
  have := GRow.part h 0 c (Nat.zero_le _) hc (some ⟨b, off, none⟩) (by split <;> simp)
  rw [List.drop_zero, Nat.sub_zero, Nat.sub_zero] at this
  exact this
theorem ARow.tail {w : World} {b off n cap : Nat} {l : List Sta} (h : ARow w (.slice (some ⟨b, off, none⟩) n cap) l) (c : Nat) (hc : c ≤ l.length) (a : Option Addr) (ha : a = (if cap = c then some ⟨b, off, none⟩ else some ⟨b, off + c * 8, none⟩)) : ARow w (.slice a (l.length - c) (cap - c)) (l.drop c) := by
  have := GRow.part h c l.length hc (Nat.le_refl _) a ha
  rw [List.take_of_length_le (by simp)] at this
  exact this
end Go.Proofs.Ytpgbbnmflnhlbaa
