/- Nodes put behind nodes that the call has made, at a step of a drawn region (also where nothing is put behind). -/
import Derived.Test.YtkljmnfekdoocaaXN
namespace Go.Proofs.Ytkljmnfekdoocaa
open Go.ChangeShapes Go.WideShapes Go.ChangeAt Go.RowKit

theorem own_one {w : World} {B b : Nat} {s : Sta} {c : Int} {pa : Option Addr} {pn pc : Nat} (hB : B ≤ b) (h : NodB w b s c (.slice pa pn pc)) : OwnG nvL 10 38 w B (.slice (some ⟨b, 0, none⟩) 1 1) [⟨s, c, pa, pn, pc⟩] :=
  ⟨rfl, .inr ⟨b, 1, _, rfl, hB, h, Nat.le_refl _, by simp [maxLen], rfl, rfl⟩⟩
theorem NodB.stay {w w' : World} {b : Nat} {s : Sta} {c : Int} {v : Value} {g : Option Nat} (h : NodB w b s c v) (hg : w.grownBy w' g) (hne : some b ≠ g) : NodB w' b s c v := by unfold NodB; rw [hg.block b h.lt hne]; exact h
theorem wp_app_nodes {w0 w : World} {o : Oper} {a : Act} {K : Act → World → Prop} {Q : Exit → Act → World → Prop} (s x : Operand)
    (ho : o.op = .call { callee := .builtin .append, args := #[s, x], argTypes := #[26, 26] }) (B : Nat) (v : Value) (l : List Nod) (hs : a.eval s = v) (hown : OwnN w0 B w v l)
    (u : Value) (hx : a.eval x = u) (ns : List Nod) (hr : NRowB w0 w u ns) (hlen : l.length + ns.length ≤ 1000000) (hB : B ≤ w.heap.size)
    (h : ∀ v' w', OwnN w0 B w' v' (l ++ ns) → Below B w w' → w.grownBy w' v.ownBlock → K (a.put o.dst v') w') : o.wp Try.prog a w K Q := by
  obtain ⟨raw, h1, h2⟩ := hown
  obtain ⟨raws, hr1, hn⟩ := hr
  obtain ⟨i0, hi, hz0, hz1, hz2⟩ := info_parts infoNode
  have hr' := hr1
  obtain ⟨hm, ad, cap, rfl, hc, ⟨hc2, hn0⟩, hcell⟩ := hr1
  have hl1 := h2.len
  have hl2 := hn.len
  cases ad with
  | none =>
    have hc0 : cap = 0 := hn0 rfl
    subst hc0
    have hms : raws = [] := List.eq_nil_of_length_eq_zero (by omega)
    subst hms
    have hns : ns = [] := List.eq_nil_of_length_eq_zero (by rw [← hl2]; rfl)
    subst hns
    have hrun := run_append_owned_none (P := Try.prog) (w := w) B 26 o.type 38 i0 10 Try.underlying26 hi v raw.length (gflat nvL raw) h1
    unfold Oper.wp
    simp [execOp, ho, resolve, invoke, builtin, hs, hx, hrun, Result.andThen]
    exact h v w (by rw [List.append_nil]; exact ⟨raw, h1, h2⟩) (Below.refl _ _) ⟨rfl, rfl, rfl, Nat.le_refl _, fun _ _ _ => rfl⟩
  | some ad =>
    obtain ⟨v', w', hrun, k1, k2, _, _⟩ := run_append_own_at (P := Try.prog) w B 26 o.type 38 i0 _ 10 96 Try.underlying26 hi hz0 hz1 hz2 rfl (by decide) v raw.length (gflat nvL raw) h1 ad raws.length cap (gflat nvL raws) (gflat_len encNod raws) (fun j u hj => by
      rcases hcell with h0 | ⟨b, off, he, hcc⟩
      · rw [h0] at hj; simp [gflat] at hj
      · simp at he
        subst he
        exact grow_cells encNod hr' j u hj) (gflat_one encNod raws) (by unfold maxLen; omega) (by omega) hB
    have hk : OwnG nvL 10 38 w' B v' (raw ++ raws) := by
      unfold OwnG
      rw [List.length_append, gflat_append]
      exact k1
    have hbb : Below B w w' := (Below.refl B w).grown k2 hB (fun j e => (World.ownsRow.lt (show w.ownsRow B 38 10 v raw.length (gflat nvL raw) from h1) j e).1)
    unfold Oper.wp execOp
    simp only [ho, resolve, invoke, builtin, Sem.run_bind, Sem.run_pure, Result.andThen_ok, List.map_toArray, List.map_cons, List.map_nil, hs, hx, hrun]
    exact h v' w' ⟨_, hk, (NIn.grown h1 k2 h2).append (NIn.grown h1 k2 hn)⟩ hbb k2
end Go.Proofs.Ytkljmnfekdoocaa
