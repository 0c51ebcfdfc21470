/- What scan.Print answers. -/
import Derived.Test.YtofapalakpkkpaaXSame
import Derived.Test.YtofapalakpkkpaaXMath
import Derived.LaidMore
import Derived.Lib.LaidTab
import Derived.Stop.Joined
import Derived.MakeChecks
import Derived.Laws.BytesArg
import Derived.Deep.RegionHeld3
namespace Go.Proofs.Ytofapalakpkkpaa
open Go.ChangeShapes Go.WideShapes Go.ChangeAt Go.RowKit

def Fits (L : List (List Int)) : Prop := ∀ l ∈ L, ∀ n ∈ l, -9223372036854775808 ≤ n ∧ n ≤ 9223372036854775807
theorem cells_itoa (i : Int) : Lib.byteCells (Lib.itoa i) = byts (itoaI i) := by
  unfold Lib.byteCells byts itoaI toI
  rw [List.map_map]
  rfl
theorem len_itoa (i : Int) : (Lib.itoa i).length = (itoaI i).length := by simp [itoaI, toI]
theorem own_some {w : World} {B : Nat} {v : Value} {ys : List Int} (h : OwnB w B v ys) (hn : ys ≠ []) : ∃ g cg, v = .slice (some ⟨g, 0, none⟩) ys.length cg := by
  unfold OwnB at h
  rcases h.2 with ⟨_, h0⟩ | ⟨g, cg, cur, h, _⟩
  · exact (hn (List.eq_nil_of_length_eq_zero h0)).elim
  · exact ⟨g, cg, h⟩
/-- Its last byte is another one. -/
theorem own_last {w : World} {B g n cap : Nat} {zs : List Int} {c : Int} (h : OwnB w B (.slice (some ⟨g, 0, none⟩) n cap) (zs ++ [c])) (d : Int) :
    n = zs.length + 1 ∧ w.cell? ⟨g, zs.length, none⟩ = some (.int .u8 c) ∧ w.frozen? ⟨g, zs.length, none⟩ = false ∧ g < w.heap.size ∧
    OwnB (w.setCell ⟨g, zs.length, none⟩ (.int .u8 d)) B (.slice (some ⟨g, 0, none⟩) n cap) (zs ++ [d]) ∧ Below B w (w.setCell ⟨g, zs.length, none⟩ (.int .u8 d)) := by
  have hn : n = zs.length + 1 := by
    rcases (show w.ownsRow B 5 1 _ (zs ++ [c]).length (byts (zs ++ [c])) from h).2 with ⟨h', _⟩ | ⟨g', cap', cur, h', _⟩
    · simp at h'
    · simp at h'; omega
  subst hn
  have h' : w.ownsRow B 5 1 (.slice (some ⟨g, 0, none⟩) (zs.length + 1) cap) (zs.length + 1) (byts (zs ++ [c])) := by
    have := show w.ownsRow B 5 1 (.slice (some ⟨g, 0, none⟩) (zs.length + 1) cap) (zs ++ [c]).length (byts (zs ++ [c])) from h
    rw [show (zs ++ [c]).length = zs.length + 1 by simp] at this
    exact this
  have hlt := h'.lt g rfl
  have hst := h'.stored zs.length (.int .u8 d)
  refine ⟨rfl, ?_, h'.frozenAt _, hlt.2, ?_, ?_⟩
  · rw [h'.cellAt _ (by omega)]; simp [byts]
  · have := hst.1
    unfold OwnB
    rw [show (zs ++ [d]).length = zs.length + 1 by simp, show byts (zs ++ [d]) = (byts (zs ++ [c])).set zs.length (.int .u8 d) by simp [byts]]
    exact this
  · exact grown_below hst.2 (by have := hlt.1; omega) (fun k hk => by simp at hk; omega)
theorem sp_take (l : List Int) (k : Nat) (hk : k < l.length) (n : Int) (hn : l.getD k 0 = n) : sp (l.take (k + 1)) = sp (l.take k) ++ itoaI n ++ [32] := by
  have e : l.take (k + 1) = l.take k ++ [n] := by
    rw [List.take_add_one, List.getElem?_eq_getElem hk, ← hn, List.getD_eq_getElem?_getD, List.getElem?_eq_getElem hk]; rfl
  rw [e, sp_append]
  simp [sp]
theorem sp_len (l : List Int) : (sp l).length = (lineT l).length := by
  by_cases h : l = []
  · subst h; rfl
  · obtain ⟨z, h1, h2⟩ := sp_line l h
    rw [h1, h2]; simp
theorem sp_mono (l : List Int) (k : Nat) : (sp (l.take k)).length ≤ (lineT l).length := by
  rw [← sp_len l]
  have := congrArg (fun x => (sp x).length) (List.take_append_drop k l)
  simp only [sp_append, List.length_append] at this
  omega

theorem textOf_take (L : List (List Int)) (k : Nat) (hk : k < L.length) : textOf (L.take (k + 1)) = textOf (L.take k) ++ lineT (L.getD k []) := by
  have e : L.take (k + 1) = L.take k ++ [L.getD k []] := by
    rw [List.take_add_one, List.getElem?_eq_getElem hk, List.getD_eq_getElem?_getD, List.getElem?_eq_getElem hk]; rfl
  rw [e, textOf_append]
  simp [textOf]
theorem textOf_mono (L : List (List Int)) (k : Nat) : (textOf (L.take k)).length ≤ (textOf L).length := by
  have := congrArg (fun x => (textOf x).length) (List.take_append_drop k L)
  simp only [textOf_append, List.length_append] at this
  omega
theorem getD_mem {L : List (List Int)} {k : Nat} (hk : k < L.length) : L.getD k [] ∈ L := by
  rw [List.getD_eq_getElem?_getD, List.getElem?_eq_getElem hk]; simp

/-- At most 100 lines, of at most 100 numbers each. -/
def Few (L : List (List Int)) : Prop := L.length ≤ 100 ∧ ∀ l ∈ L, l.length ≤ 100
instance (L : List (List Int)) : Decidable (Few L) := by unfold Few; infer_instance
theorem few_step {L : List (List Int)} {k : Nat} (hk : k < L.length) (h : ∀ l ∈ L.take k, l.length ≤ 100) (hc : (L.getD k []).length ≤ 100) : ∀ l ∈ L.take (k + 1), l.length ≤ 100 := by
  intro l hl
  rw [List.take_add_one, List.getElem?_eq_getElem hk] at hl
  simp only [List.mem_append, Option.toList_some, List.mem_singleton] at hl
  rcases hl with hl | rfl
  · exact h l hl
  · rw [List.getD_eq_getElem?_getD, List.getElem?_eq_getElem hk] at hc; exact hc
end Go.Proofs.Ytofapalakpkkpaa
/- What the row's condition gives the walks: the library's table of powers of ten; and that the program's own start lays it so. Lines that a law is handed. -/
namespace Go.Proofs.Ytofapalakpkkpaa
open Go.ChangeShapes Go.WideShapes Go.ChangeAt Go.RowKit

theorem cU64 : Try.prog.cellsOf 22 = 1 := by kernel_rfl
/-- What is known of the world may grow while a region goes on. -/
theorem wpAnyH_strong {P : Program} {md : Region.Mode} {ops : Array Oper} {Q : Exit → Act → World → Prop} {S S' : World → Prop} (hSS : ∀ w, S' w → S w) : ∀ (fuel : Nat) (listed : Array Bool) (a : Act) (w : World), wpAnyH P md ops Q S' fuel listed a w → wpAnyH P md ops Q S fuel listed a w
  | 0, _, _, _, h => h
  | fuel + 1, _, _, _, h => ⟨h.1, fun i hi => wpOp_mono (fun a' w' h' => ⟨hSS w' h'.1, wpAnyH_strong hSS fuel _ a' w' h'.2⟩) (h.2 i hi)⟩
theorem list_of {α : Type} (d : α) (P : Nat → α → Prop) : ∀ n, (∀ i, i < n → ∃ e, P i e) → ∃ l : List α, l.length = n ∧ ∀ i, i < n → P i (l.getD i d)
  | 0, _ => ⟨[], rfl, fun i h => by omega⟩
  | n + 1, h => by
    obtain ⟨l, hl, hp⟩ := list_of d P n (fun i hi => h i (by omega))
    obtain ⟨e, he⟩ := h n (by omega)
    refine ⟨l ++ [e], by simp [hl], fun i hi => ?_⟩
    by_cases c : i < n
    · rw [List.getD_eq_getElem?_getD, List.getElem?_append_left (by omega), ← List.getD_eq_getElem?_getD]; exact hp i c
    · obtain rfl : i = n := by omega
      rw [List.getD_eq_getElem?_getD, List.getElem?_append_right (by omega), hl]
      simpa using he
theorem in_of {w : World} : ∀ (l : List (Value × List Int)), (∀ i, i < l.length → Row w (l.getD i (.slice none 0 0, [])).1 (ints (l.getD i (.slice none 0 0, [])).2)) → In w (l.map Prod.fst) (l.map Prod.snd)
  | [], _ => trivial
  | x :: r, h => ⟨h 0 (by simp), in_of r (fun i hi => by have := h (i + 1) (by simp; omega); simpa using this)⟩
section
variable {H : Type} {enc : TypeId × Value → H} {w : World} {base : Nat} {spare : Nat → Bool} {held : Bool}
theorem wf_fits {n : Int} (h : (Lit.int .i64 n).wf = true) : -9223372036854775808 ≤ n ∧ n ≤ 9223372036854775807 := by
  have := bounds_i64 h
  omega
theorem open_nums {fuel : Nat} {cs : List Value} {x : DataW H × List MemPlace} (h : DataW.trod enc Try.prog w base spare held fuel 25 cs = some x) :
    ∃ (v : Value) (l : List Int), cs = [v] ∧ Row w v (ints l) ∧ ∀ n ∈ l, -9223372036854775808 ≤ n ∧ n ≤ 9223372036854775807 := by
  rcases open_ints Try.underlying25 Try.underlying3 (by kernel_rfl) h with ⟨hcs, _⟩ | ⟨y, l, c, zs, hcs, _, hl, hm, hz, _, hcell, hwz⟩
  · exact ⟨_, [], hcs, ⟨by simp [ints], none, 0, rfl, by simp [ints], ⟨by simp, fun _ => rfl⟩, .inl rfl⟩, fun n hn => by simp at hn⟩
  · exact ⟨_, zs.take l, hcs, row_of_ints hl hm (by rw [hz]; split <;> omega) hcell, fun n hn => wf_fits (hwz n (List.mem_of_mem_take hn))⟩
end
end Go.Proofs.Ytofapalakpkkpaa
