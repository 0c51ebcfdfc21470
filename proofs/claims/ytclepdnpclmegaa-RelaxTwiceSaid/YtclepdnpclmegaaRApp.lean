/- Rows of structs put behind a row that a call has made, at a step of a drawn region; parts of a row of states. -/
import Derived.Test.YtclepdnpclmegaaRHold
namespace Go.Proofs.Ytclepdnpclmegaa
open Go.ChangeShapes Go.WideShapes Go.ChangeAt Go.RowKit

theorem wp_app_rows {α : Type} {f : α → List Value} {k : Nat} {tS t : TypeId} {z : Value} {bytes : Nat} (E : Enc f k) (hU : Try.prog.underlying tS = some (.slice t)) (hI : (Try.prog.info? t).map (fun i => (i.zero, i.size, i.bytes)) = some (some z, k, bytes)) (hz : z.cells.size = k) (hby : bytes ≤ 1024)
    {w : World} {o : Oper} {a : Act} {K : Act → World → Prop} {Q : Exit → Act → World → Prop} (s x : Operand)
    (ho : o.op = .call { callee := .builtin .append, args := #[s, x], argTypes := #[tS, tS] }) (B : Nat) (v : Value) (l : List α) (hs : a.eval s = v) (hown : OwnG f k t w B v l)
    (g n c : Nat) (m : List α) (hx : a.eval x = .slice (some ⟨g, 0, none⟩) n c) (hr : GRow f k w (.slice (some ⟨g, 0, none⟩) n c) m) (hn : m.length = n) (hm : 0 < n) (hlen : l.length + n ≤ 1000000) (hB : B ≤ w.heap.size)
    (h : ∀ v' w', OwnG f k t w' B v' (l ++ m) → w.grownBy w' v.ownBlock → K (a.put o.dst v') w') : o.wp Try.prog a w K Q := by
  obtain ⟨i0, hi, hz0, hz1, hz2⟩ := info_parts hI
  subst hn
  refine wp_append_lies w s x tS ho B t i0 _ k bytes hU hi hz0 hz1 hz2 hz E.pos v l.length (gflat f l) hs hown ⟨g, 0, none⟩ m.length c (gflat f m) hx (gflat_len E m) (grow_cells E hr) (gflat_one E m) hm (by unfold maxLen; omega) (Nat.le_trans (Nat.mul_le_mul hlen hby) (by decide)) hB _ rfl ?_
  intro g' cap w' h1 h2 _ _
  refine h _ w' ?_ h2
  unfold OwnG
  rw [List.length_append, gflat_append]
  exact h1
theorem infoSta : (Try.prog.info? 24).map (fun i => (i.zero, i.size, i.bytes)) = some (some (.agg #[.int .i64 0, .int .i64 0, .int .i64 0, .int .i64 0, .int .i64 0, .int .u64 0, .int .u64 0, .int .u64 0]), 8, 64) := by kernel_rfl
theorem ARow.head {w : World} {b off n cap : Nat} {l : List Sta} (h : ARow w (.slice (some ⟨b, off, none⟩) n cap) l) (c : Nat) (hc : c ≤ l.length) : ARow w (.slice (some ⟨b, off, none⟩) c cap) (l.take c) := by
  have := GRow.part h 0 c (Nat.zero_le _) hc (some ⟨b, off, none⟩) (by split <;> simp)
  rw [List.drop_zero, Nat.sub_zero, Nat.sub_zero] at this
  exact this
theorem ARow.tail {w : World} {b off n cap : Nat} {l : List Sta} (h : ARow w (.slice (some ⟨b, off, none⟩) n cap) l) (c : Nat) (hc : c ≤ l.length) (a : Option Addr) (ha : a = (if cap = c then some ⟨b, off, none⟩ else some ⟨b, off + c * 8, none⟩)) : ARow w (.slice a (l.length - c) (cap - c)) (l.drop c) := by
  have := GRow.part h c l.length hc (Nat.le_refl _) a ha
  rw [List.take_of_length_le (by simp)] at this
  exact this
end Go.Proofs.Ytclepdnpclmegaa
