/- What the row's condition gives the walks: the library's table of powers of ten; and that the program's own start lays it so. Lines that a law is handed. -/
import Derived.Test.YtolaiccgbngomaaPrint
import Derived.LaidMore
import Derived.Lib.LaidTab
import Derived.Stop.Joined
import Derived.MakeChecks
import Derived.Laws.BytesArg
import Derived.Deep.RegionHeld3
namespace Go.Proofs.Ytolaiccgbngomaa
open Go.ChangeShapes Go.WideShapes Go.ChangeAt Go.RowKit

/-- A text as a string. -/
theorem conv_row {w : World} {v : Value} {xs : List Int} (h : Row w v (byts xs)) : (convert 49 9 v).run Try.prog w = .ok (.string (strOfNums xs)) w := by
  obtain ⟨hm, a, cap, rfl, hc, ⟨hc2, hn⟩, hcell⟩ := h
  rw [byts_len] at *
  cases a with
  | none =>
    have hc0 : cap = 0 := hn rfl
    subst hc0
    have hxs : xs = [] := List.eq_nil_of_length_eq_zero (by omega)
    subst hxs
    exact run_convert_bytes_nil w 49 5 Try.underlying49 Try.underlying5 _ _ 9 Try.underlying9
  | some ad =>
    rcases hcell with h0 | ⟨b, off, he, hcc⟩
    · have hxs : xs = [] := by simpa [byts] using h0
      subst hxs
      have hl : (loadCells ad 0).run Try.prog w = .ok #[] w := by
        have := run_loadCells_list (P := Try.prog) w ad [] (by simp)
        simpa using this
      show (convert 49 9 (.slice (some ad) 0 cap)).run Try.prog w = _
      rw [run_convert_bytes_string w 49 9 5 _ 0 cap Try.underlying49 Try.underlying5 Try.underlying9, run_bytesToString w ad 0 cap [] (by simpa using hl)]
      rfl
    · simp at he
      subst he
      exact run_convert_bytes_arg w 49 5 Try.underlying49 Try.underlying5 b off xs.length cap xs rfl (fun i hi => by rw [hcc i hi, byts_at _ _ hi]) 9 Try.underlying9
/-- What is known of the world may grow while a region goes on. -/
theorem wpAnyH_strong {P : Program} {md : Region.Mode} {ops : Array Oper} {Q : Exit → Act → World → Prop} {S S' : World → Prop} (hSS : ∀ w, S' w → S w) : ∀ (fuel : Nat) (listed : Array Bool) (a : Act) (w : World), wpAnyH P md ops Q S' fuel listed a w → wpAnyH P md ops Q S fuel listed a w
  | 0, _, _, _, h => h
  | fuel + 1, _, _, _, h => ⟨h.1, fun i hi => wpOp_mono (fun a' w' h' => ⟨hSS w' h'.1, wpAnyH_strong hSS fuel _ a' w' h'.2⟩) (h.2 i hi)⟩
theorem list_of {α : Type} (d : α) (P : Nat → α → Prop) : ∀ n, (∀ i, i < n → ∃ e, P i e) → ∃ l : List α, l.length = n ∧ ∀ i, i < n → P i (l.getD i d)
  | 0, _ => ⟨[], rfl, fun i h => by omega⟩
  | n + 1, h => by
    obtain ⟨l, hl, hp⟩ := list_of d P n (fun i hi => h i (by omega))
    obtain ⟨e, he⟩ := h n (by omega)
    refine ⟨l ++ [e], by simp [hl], fun i hi => ?_⟩
    by_cases c : i < n
    · rw [List.getD_eq_getElem?_getD, List.getElem?_append_left (by omega), ← List.getD_eq_getElem?_getD]; exact hp i c
    · obtain rfl : i = n := by omega
      rw [List.getD_eq_getElem?_getD, List.getElem?_append_right (by omega), hl]
      simpa using he
theorem in_of {w : World} : ∀ (l : List (Value × List Int)), (∀ i, i < l.length → Row w (l.getD i (.slice none 0 0, [])).1 (ints (l.getD i (.slice none 0 0, [])).2)) → In w (l.map Prod.fst) (l.map Prod.snd)
  | [], _ => trivial
  | x :: r, h => ⟨h 0 (by simp), in_of r (fun i hi => by have := h (i + 1) (by simp; omega); simpa using this)⟩
section
variable {H : Type} {enc : TypeId × Value → H} {w : World} {base : Nat} {spare : Nat → Bool} {held : Bool}
theorem wf_fits {n : Int} (h : (Lit.int .i64 n).wf = true) : -9223372036854775808 ≤ n ∧ n ≤ 9223372036854775807 := by
  have := bounds_i64 h
  omega
theorem open_nums {fuel : Nat} {cs : List Value} {x : DataW H × List MemPlace} (h : DataW.trod enc Try.prog w base spare held fuel 25 cs = some x) :
    ∃ (v : Value) (l : List Int), cs = [v] ∧ Row w v (ints l) ∧ ∀ n ∈ l, -9223372036854775808 ≤ n ∧ n ≤ 9223372036854775807 := by
  rcases open_ints Try.underlying25 Try.underlying3 (by kernel_rfl) h with ⟨hcs, _⟩ | ⟨y, l, c, zs, hcs, _, hl, hm, hz, _, hcell, hwz⟩
  · exact ⟨_, [], hcs, ⟨by simp [ints], none, 0, rfl, by simp [ints], ⟨by simp, fun _ => rfl⟩, .inl rfl⟩, fun n hn => by simp at hn⟩
  · exact ⟨_, zs.take l, hcs, row_of_ints hl hm (by rw [hz]; split <;> omega) hcell, fun n hn => wf_fits (hwz n (List.mem_of_mem_take hn))⟩
theorem open_lines {a : Option Addr} {len cap : Nat} {d : DataW H} {p : List MemPlace} (h : DataW.Trod enc Try.prog w base spare held 35 (.slice a len cap) d p) : ∃ L : List (List Int), IsLL w (.slice a len cap) L ∧ Fits L := by
  obtain ⟨fuel, hf⟩ := h
  rcases Go.Deep.open_slice Try.underlying35 hf with ⟨h0, _⟩ | ⟨ad, ln, cp, m, n, D, Pl, hcs, hb, hl, hm, hmm, hx, hi⟩
  · simp [Value.cells] at h0
    obtain ⟨rfl, rfl, rfl⟩ := h0
    exact ⟨[], ⟨[], ⟨by simp, none, 0, rfl, by simp, ⟨by simp, fun _ => rfl⟩, .inl rfl⟩, trivial⟩, fun l hl => by simp at hl⟩
  · simp [Value.cells] at hcs
    obtain ⟨rfl, rfl, rfl⟩ := hcs
    have hlm : len ≤ m := by rw [hmm]; split <;> omega
    have hc1 : Try.prog.cellsOf 25 = 1 := by kernel_rfl
    obtain ⟨l, hll, hp⟩ := list_of ((.slice none 0 0, []) : Value × List Int) (fun i e => w.cell? (ad.add i) = some e.1 ∧ Row w e.1 (ints e.2) ∧ ∀ n ∈ e.2, -9223372036854775808 ≤ n ∧ n ≤ 9223372036854775807) len (fun i hil => by
      obtain ⟨cs', hc, ht⟩ := hi i (by omega)
      obtain ⟨v, l, rfl, hr, hfit⟩ := open_nums ht
      rw [hc1] at hc
      obtain ⟨_, _, hat⟩ := World.cells?_some hc
      have h0 := hat 0 (by omega)
      have ez : (ad.add (i * 1)).add 0 = ad.add i := by rw [Nat.mul_one]; unfold Addr.add; split <;> simp_all
      rw [ez] at h0
      exact ⟨(v, l), by simpa using h0, hr, hfit⟩)
    subst hll
    refine ⟨l.map Prod.snd, ⟨l.map Prod.fst, ?_, in_of l (fun i hi => (hp i hi).2.1)⟩, ?_⟩
    · refine ⟨by simp; omega, some ad, cap, by simp, by simpa using hl, ⟨hm, fun h => by simp at h⟩, ?_⟩
      by_cases h0 : l.length = 0
      · left; rw [List.eq_nil_of_length_eq_zero h0]; rfl
      · right
        obtain ⟨b, off, spot⟩ := ad
        have hspot : spot = none := by
          have := World.cell?_spot (hp 0 (by omega)).1
          simpa [Addr.add] using this
        subst hspot
        refine ⟨b, off, rfl, fun i hi => ?_⟩
        have hil : i < l.length := by simpa using hi
        have := (hp i hil).1
        rw [add_off] at this
        rw [this]
        simp [List.getD_eq_getElem?_getD, hil]
    · intro x hx2
      simp only [List.mem_map] at hx2
      obtain ⟨y, hy, rfl⟩ := hx2
      obtain ⟨i, hi, rfl⟩ := List.getElem_of_mem hy
      have := (hp i hi).2.2
      simpa [List.getD_eq_getElem?_getD, hi] using this
end
end Go.Proofs.Ytolaiccgbngomaa
