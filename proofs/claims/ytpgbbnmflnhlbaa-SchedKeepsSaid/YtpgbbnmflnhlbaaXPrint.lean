/- What scan.Print answers. -/
import Derived.Test.YtpgbbnmflnhlbaaXSame
import Derived.Test.YtpgbbnmflnhlbaaXMath
import Derived.LaidMore
import Derived.Lib.LaidTab
import Derived.Stop.Joined
import Derived.MakeChecks
import Derived.Laws.BytesArg
import Derived.Deep.RegionHeld3
namespace Go.Proofs.Ytpgbbnmflnhlbaa
open Go.ChangeShapes Go.WideShapes Go.ChangeAt Go.RowKit

def Fits (L : List (List Int)) : Prop := ∀ l ∈ L, ∀ n ∈ l, -9223372036854775808 ≤ n ∧ n ≤ 9223372036854775807
theorem cells_itoa (i : Int) : Lib.byteCells (Lib.itoa i) = byts (itoaI i) := by
  unfold Lib.byteCells byts itoaI toI
  rw [List.map_map]
  rfl
theorem len_itoa (i : Int) : (Lib.itoa i).length = (itoaI i).length := by simp [itoaI, toI]
theorem own_some {w : World} {B : Nat} {v : Value} {ys : List Int} (h : OwnB w B v ys) (hn : ys ≠ []) : ∃ g cg, v = .slice (some ⟨g, 0, none⟩) ys.length cg := by
  unfold OwnB at h
  rcases h.2 with ⟨_, h0⟩ | ⟨g, cg, cur, h, _⟩
  · exact (hn (List.eq_nil_of_length_eq_zero h0)).elim
  · exact ⟨g, cg, h⟩
/-- Its last byte is another one. -/
theorem own_last {w : World} {B g n cap : Nat} {zs : List Int} {c : Int} (h : OwnB w B (.slice (some ⟨g, 0, none⟩) n cap) (zs ++ [c])) (d : Int) :
    n = zs.length + 1 ∧ w.cell? ⟨g, zs.length, none⟩ = some (.int .u8 c) ∧ w.frozen? ⟨g, zs.length, none⟩ = false ∧ g < w.heap.size ∧
    OwnB (w.setCell ⟨g, zs.length, none⟩ (.int .u8 d)) B (.slice (some ⟨g, 0, none⟩) n cap) (zs ++ [d]) ∧ Below B w (w.setCell ⟨g, zs.length, none⟩ (.int .u8 d)) := by
  have hn : n = zs.length + 1 := by
    rcases (show w.ownsRow B 5 1 _ (zs ++ [c]).length (byts (zs ++ [c])) from h).2 with ⟨h', _⟩ | ⟨g', cap', cur, h', _⟩
    · simp at h'
    · simp at h'; omega
  subst hn
  have h' : w.ownsRow B 5 1 (.slice (some ⟨g, 0, none⟩) (zs.length + 1) cap) (zs.length + 1) (byts (zs ++ [c])) := by
    have := show w.ownsRow B 5 1 (.slice (some ⟨g, 0, none⟩) (zs.length + 1) cap) (zs ++ [c]).length (byts (zs ++ [c])) from h
    rw [show (zs ++ [c]).length = zs.length + 1 by simp] at this
    exact this
  have hlt := h'.lt g rfl
  have hst := h'.stored zs.length (.int .u8 d)
  refine ⟨rfl, ?_, h'.frozenAt _, hlt.2, ?_, ?_⟩
  · rw [h'.cellAt _ (by omega)]; simp [byts]
  · have := hst.1
    unfold OwnB
    rw [show (zs ++ [d]).length = zs.length + 1 by simp, show byts (zs ++ [d]) = (byts (zs ++ [c])).set zs.length (.int .u8 d) by simp [byts]]
    exact this
  · exact grown_below hst.2 (by have := hlt.1; omega) (fun k hk => by simp at hk; omega)
theorem sp_take (l : List Int) (k : Nat) (hk : k < l.length) (n : Int) (hn : l.getD k 0 = n) : sp (l.take (k + 1)) = sp (l.take k) ++ itoaI n ++ [32] := by
  have e : l.take (k + 1) = l.take k ++ [n] := by
    rw [List.take_add_one, List.getElem?_eq_getElem hk, ← hn, List.getD_eq_getElem?_getD, List.getElem?_eq_getElem hk]; rfl
  rw [e, sp_append]
  simp [sp]
theorem sp_len (l : List Int) : (sp l).length = (lineT l).length := by
  by_cases h : l = []
  · subst h; rfl
  · obtain ⟨z, h1, h2⟩ := sp_line l h
    rw [h1, h2]; simp
theorem sp_mono (l : List Int) (k : Nat) : (sp (l.take k)).length ≤ (lineT l).length := by
  rw [← sp_len l]
  have := congrArg (fun x => (sp x).length) (List.take_append_drop k l)
  simp only [sp_append, List.length_append] at this
  omega

theorem textOf_take (L : List (List Int)) (k : Nat) (hk : k < L.length) : textOf (L.take (k + 1)) = textOf (L.take k) ++ lineT (L.getD k []) := by
  have e : L.take (k + 1) = L.take k ++ [L.getD k []] := by
    rw [List.take_add_one, List.getElem?_eq_getElem hk, List.getD_eq_getElem?_getD, List.getElem?_eq_getElem hk]; rfl
  rw [e, textOf_append]
  simp [textOf]
theorem textOf_mono (L : List (List Int)) (k : Nat) : (textOf (L.take k)).length ≤ (textOf L).length := by
  have := congrArg (fun x => (textOf x).length) (List.take_append_drop k L)
  simp only [textOf_append, List.length_append] at this
  omega
theorem getD_mem {L : List (List Int)} {k : Nat} (hk : k < L.length) : L.getD k [] ∈ L := by
  rw [List.getD_eq_getElem?_getD, List.getElem?_eq_getElem hk]; simp

/-- At most 100 lines, of at most 100 numbers each. -/
def Few (L : List (List Int)) : Prop := L.length ≤ 100 ∧ ∀ l ∈ L, l.length ≤ 100
instance (L : List (List Int)) : Decidable (Few L) := by unfold Few; infer_instance
theorem few_step {L : List (List Int)} {k : Nat} (hk : k < L.length) (h : ∀ l ∈ L.take k, l.length ≤ 100) (hc : (L.getD k []).length ≤ 100) : ∀ l ∈ L.take (k + 1), l.length ≤ 100 := by
  intro l hl
  rw [List.take_add_one, List.getElem?_eq_getElem hk] at hl
  simp only [List.mem_append, Option.toList_some, List.mem_singleton] at hl
  rcases hl with hl | rfl
  · exact h l hl
  · rw [List.getD_eq_getElem?_getD, List.getElem?_eq_getElem hk] at hc; exact hc
end Go.Proofs.Ytpgbbnmflnhlbaa
/- What the row's condition gives the walks: the library's table of powers of ten; and that the program's own start lays it so. Lines that a law is handed. -/
namespace Go.Proofs.Ytpgbbnmflnhlbaa
open Go.ChangeShapes Go.WideShapes Go.ChangeAt Go.RowKit

theorem cU64 : Try.prog.cellsOf 53 = 1 := by kernel_rfl
/-- A text as a string. -/
theorem conv_row {w : World} {v : Value} {xs : List Int} (h : Row w v (byts xs)) : (convert 104 9 v).run Try.prog w = .ok (.string (strOfNums xs)) w := by
  obtain ⟨hm, a, cap, rfl, hc, ⟨hc2, hn⟩, hcell⟩ := h
  rw [byts_len] at *
  cases a with
  | none =>
    have hc0 : cap = 0 := hn rfl
    subst hc0
    have hxs : xs = [] := List.eq_nil_of_length_eq_zero (by omega)
    subst hxs
    exact run_convert_bytes_nil w 104 5 Try.underlying104 Try.underlying5 _ _ 9 Try.underlying9
  | some ad =>
    rcases hcell with h0 | ⟨b, off, he, hcc⟩
    · have hxs : xs = [] := by simpa [byts] using h0
      subst hxs
      have hl : (loadCells ad 0).run Try.prog w = .ok #[] w := by
        have := run_loadCells_list (P := Try.prog) w ad [] (by simp)
        simpa using this
      show (convert 104 9 (.slice (some ad) 0 cap)).run Try.prog w = _
      rw [run_convert_bytes_string w 104 9 5 _ 0 cap Try.underlying104 Try.underlying5 Try.underlying9, run_bytesToString w ad 0 cap [] (by simpa using hl)]
      rfl
    · simp at he
      subst he
      exact run_convert_bytes_arg w 104 5 Try.underlying104 Try.underlying5 b off xs.length cap xs rfl (fun i hi => by rw [hcc i hi, byts_at _ _ hi]) 9 Try.underlying9
/-- What is known of the world may grow while a region goes on. -/
theorem wpAnyH_strong {P : Program} {md : Region.Mode} {ops : Array Oper} {Q : Exit → Act → World → Prop} {S S' : World → Prop} (hSS : ∀ w, S' w → S w) : ∀ (fuel : Nat) (listed : Array Bool) (a : Act) (w : World), wpAnyH P md ops Q S' fuel listed a w → wpAnyH P md ops Q S fuel listed a w
  | 0, _, _, _, h => h
  | fuel + 1, _, _, _, h => ⟨h.1, fun i hi => wpOp_mono (fun a' w' h' => ⟨hSS w' h'.1, wpAnyH_strong hSS fuel _ a' w' h'.2⟩) (h.2 i hi)⟩
theorem list_of {α : Type} (d : α) (P : Nat → α → Prop) : ∀ n, (∀ i, i < n → ∃ e, P i e) → ∃ l : List α, l.length = n ∧ ∀ i, i < n → P i (l.getD i d)
  | 0, _ => ⟨[], rfl, fun i h => by omega⟩
  | n + 1, h => by
    obtain ⟨l, hl, hp⟩ := list_of d P n (fun i hi => h i (by omega))
    obtain ⟨e, he⟩ := h n (by omega)
    refine ⟨l ++ [e], by simp [hl], fun i hi => ?_⟩
    by_cases c : i < n
    · rw [List.getD_eq_getElem?_getD, List.getElem?_append_left (by omega), ← List.getD_eq_getElem?_getD]; exact hp i c
    · obtain rfl : i = n := by omega
      rw [List.getD_eq_getElem?_getD, List.getElem?_append_right (by omega), hl]
      simpa using he
theorem in_of {w : World} : ∀ (l : List (Value × List Int)), (∀ i, i < l.length → Row w (l.getD i (.slice none 0 0, [])).1 (ints (l.getD i (.slice none 0 0, [])).2)) → In w (l.map Prod.fst) (l.map Prod.snd)
  | [], _ => trivial
  | x :: r, h => ⟨h 0 (by simp), in_of r (fun i hi => by have := h (i + 1) (by simp; omega); simpa using this)⟩
section
variable {H : Type} {enc : TypeId × Value → H} {w : World} {base : Nat} {spare : Nat → Bool} {held : Bool}
theorem wf_fits {n : Int} (h : (Lit.int .i64 n).wf = true) : -9223372036854775808 ≤ n ∧ n ≤ 9223372036854775807 := by
  have := bounds_i64 h
  omega
theorem open_nums {fuel : Nat} {cs : List Value} {x : DataW H × List MemPlace} (h : DataW.trod enc Try.prog w base spare held fuel 32 cs = some x) :
    ∃ (v : Value) (l : List Int), cs = [v] ∧ Row w v (ints l) ∧ ∀ n ∈ l, -9223372036854775808 ≤ n ∧ n ≤ 9223372036854775807 := by
  rcases open_ints Try.underlying32 Try.underlying3 (by kernel_rfl) h with ⟨hcs, _⟩ | ⟨y, l, c, zs, hcs, _, hl, hm, hz, _, hcell, hwz⟩
  · exact ⟨_, [], hcs, ⟨by simp [ints], none, 0, rfl, by simp [ints], ⟨by simp, fun _ => rfl⟩, .inl rfl⟩, fun n hn => by simp at hn⟩
  · exact ⟨_, zs.take l, hcs, row_of_ints hl hm (by rw [hz]; split <;> omega) hcell, fun n hn => wf_fits (hwz n (List.mem_of_mem_take hn))⟩
theorem open_lines {a : Option Addr} {len cap : Nat} {d : DataW H} {p : List MemPlace} (h : DataW.Trod enc Try.prog w base spare held 29 (.slice a len cap) d p) : ∃ L : List (List Int), IsLL w (.slice a len cap) L ∧ Fits L := by
  obtain ⟨fuel, hf⟩ := h
  rcases Go.Deep.open_slice Try.underlying29 hf with ⟨h0, _⟩ | ⟨ad, ln, cp, m, n, D, Pl, hcs, hb, hl, hm, hmm, hx, hi⟩
  · simp [Value.cells] at h0
    obtain ⟨rfl, rfl, rfl⟩ := h0
    exact ⟨[], ⟨[], ⟨by simp, none, 0, rfl, by simp, ⟨by simp, fun _ => rfl⟩, .inl rfl⟩, trivial⟩, fun l hl => by simp at hl⟩
  · simp [Value.cells] at hcs
    obtain ⟨rfl, rfl, rfl⟩ := hcs
    have hlm : len ≤ m := by rw [hmm]; split <;> omega
    have hc1 : Try.prog.cellsOf 32 = 1 := by kernel_rfl
    obtain ⟨l, hll, hp⟩ := list_of ((.slice none 0 0, []) : Value × List Int) (fun i e => w.cell? (ad.add i) = some e.1 ∧ Row w e.1 (ints e.2) ∧ ∀ n ∈ e.2, -9223372036854775808 ≤ n ∧ n ≤ 9223372036854775807) len (fun i hil => by
      obtain ⟨cs', hc, ht⟩ := hi i (by omega)
      obtain ⟨v, l, rfl, hr, hfit⟩ := open_nums ht
      rw [hc1] at hc
      obtain ⟨_, _, hat⟩ := World.cells?_some hc
      have h0 := hat 0 (by omega)
      have ez : (ad.add (i * 1)).add 0 = ad.add i := by rw [Nat.mul_one]; unfold Addr.add; split <;> simp_all
      rw [ez] at h0
      exact ⟨(v, l), by simpa using h0, hr, hfit⟩)
    subst hll
    refine ⟨l.map Prod.snd, ⟨l.map Prod.fst, ?_, in_of l (fun i hi => (hp i hi).2.1)⟩, ?_⟩
    · refine ⟨by simp; omega, some ad, cap, by simp, by simpa using hl, ⟨hm, fun h => by simp at h⟩, ?_⟩
      by_cases h0 : l.length = 0
      · left; rw [List.eq_nil_of_length_eq_zero h0]; rfl
      · right
        obtain ⟨b, off, spot⟩ := ad
        have hspot : spot = none := by
          have := World.cell?_spot (hp 0 (by omega)).1
          simpa [Addr.add] using this
        subst hspot
        refine ⟨b, off, rfl, fun i hi => ?_⟩
        have hil : i < l.length := by simpa using hi
        have := (hp i hil).1
        rw [add_off] at this
        rw [this]
        simp [List.getD_eq_getElem?_getD, hil]
    · intro x hx2
      simp only [List.mem_map] at hx2
      obtain ⟨y, hy, rfl⟩ := hx2
      obtain ⟨i, hi, rfl⟩ := List.getElem_of_mem hy
      have := (hp i hi).2.2
      simpa [List.getD_eq_getElem?_getD, hi] using this
end
end Go.Proofs.Ytpgbbnmflnhlbaa
