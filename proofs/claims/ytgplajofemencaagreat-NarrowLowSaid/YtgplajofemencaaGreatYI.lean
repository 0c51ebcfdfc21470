/- What num.Sum and the document's Sum answer. -/
import Derived.Test.YtgplajofemencaaGreatXB
import Derived.Test.YtgplajofemencaaGreatXRead
import Derived.WalkLawsBesides
import Derived.Test.YtgplajofemencaaGreatXN
import Derived.Test.YtgplajofemencaaGreatYH
import Derived.Test.YtgplajofemencaaGreatYG
import Derived.Test.YtgplajofemencaaGreatYF
namespace Go.Proofs.YtgplajofemencaaGreat
open Go.ChangeShapes Go.WideShapes Go.ChangeAt Go.RowKit

theorem sum_none (w : World) (a : Option Addr) (cap : Nat) :
    Calls Tryz.prog 63 #[.slice a 0 cap] w fun e w' => e = .returned (.int .i64 0) ∧ w = w' := by
  go_enter Tryz.func63, Tryz.ntmps63
  go_wp2
  go_loop [3, 8] (fun s i => i = .int .i64 0 ∧ s = .int .i64 0) (fun _ _ => 0)
  case atStart => exact ⟨rfl, rfl⟩
  case round =>
    obtain ⟨rfl, rfl⟩ := hrel
    go_wp2
    go_ret
    exact ⟨rfl, rfl⟩
theorem sum_some (w : World) (b off len cap : Nat) (zs : List Int) (hl : len ≤ 9223372036854775807) (hz : zs.length = len) (hc : ∀ k, k < len → w.cell? ⟨b, off + k, none⟩ = some (.int .i64 (zs.getD k 0))) :
    Calls Tryz.prog 63 #[.slice (some ⟨b, off, none⟩) len cap] w fun e w' => e = .returned (.int .i64 (sumOf zs)) ∧ w = w' := by
  have HC := Lib.hid hc
  have HZ := Lib.hid hz
  clear hc hz
  go_enter Tryz.func63, Tryz.ntmps63
  go_wp2
  go_loop [3, 8] (fun s i => ∃ k : Nat, k ≤ len ∧ i = .int .i64 k ∧ s = .int .i64 (sumOf (zs.take k))) (fun _ i => len - (intOf i).toNat)
  case atStart => exact ⟨0, Nat.zero_le _, rfl, rfl⟩
  case round =>
    obtain ⟨k, hk, rfl, rfl⟩ := hrel
    have hb := sumOf_bd (zs.take k)
    obtain ⟨s1, s2⟩ := hb
    by_cases hlt : k < len
    · have hcell := HC.out k hlt
      have hs : sumOf (zs.take (k + 1)) = min (sumOf (zs.take k) + clamp (zs.getD k 0)) 1152921504606846976 := by
        have hz := HZ.out
        rw [List.take_succ_eq_append_getElem (by omega), sumOf_snoc]
        simp [List.getD, hz, hlt]
      have HS := Lib.hid hs
      clear hs
      generalize zs.getD k 0 = x at *
      go_wp2
      go_round
      case rel =>
        refine ⟨k + 1, by omega, by go_num, ?_⟩
        rw [HS.out]
        unfold clamp
        congr 1
        omega
      case measure => simp [intOf]; omega
    · go_wp2
      go_ret
      obtain rfl : k = len := by omega
      have hz := HZ.out
      rw [List.take_of_length_le (by omega)]
      exact ⟨rfl, rfl⟩
/-- A slice that reads as a list of costs: none, or so many cells behind each other. -/
def Reads (w : World) (a : Option Addr) (zs : List Int) : Prop :=
  zs.length ≤ 9223372036854775807 ∧ (zs = [] ∨ ∃ b off, a = some ⟨b, off, none⟩ ∧ ∀ k, k < zs.length → w.cell? ⟨b, off + k, none⟩ = some (.int .i64 (zs.getD k 0)))
theorem sum_reads (w : World) (a : Option Addr) (len cap : Nat) (zs : List Int) (hz : zs.length = len) (h : Reads w a zs) :
    Calls Tryz.prog 63 #[.slice a len cap] w fun e w' => e = .returned (.int .i64 (sumOf zs)) ∧ w = w' := by
  obtain ⟨h1, h2⟩ := h
  subst hz
  rcases h2 with rfl | ⟨b, off, rfl, h3⟩
  · exact sum_none w a cap
  · exact sum_some w b off zs.length cap zs h1 rfl h3
theorem rsum_none (w : World) (a : Option Addr) (cap : Nat) :
    Calls Tryz.prog 48 #[.slice a 0 cap] w fun e w' => e = .returned (.int .i64 0) ∧ w = w' := by
  go_enter Tryz.func48, Tryz.ntmps48
  go_wp2
  go_loop [3, 4] (fun s i => i = .int .i64 0 ∧ s = .int .i64 0) (fun _ _ => 0)
  case atStart => exact ⟨rfl, rfl⟩
  case round =>
    obtain ⟨rfl, rfl⟩ := hrel
    go_wp2
    go_ret
    exact ⟨rfl, rfl⟩
theorem rsum_some (w : World) (b off len cap : Nat) (zs : List Int) (hl : len ≤ 9223372036854775807) (hz : zs.length = len) (hc : ∀ k, k < len → w.cell? ⟨b, off + k, none⟩ = some (.int .i64 (zs.getD k 0))) :
    Calls Tryz.prog 48 #[.slice (some ⟨b, off, none⟩) len cap] w fun e w' => e = .returned (.int .i64 (sumOf zs)) ∧ w = w' := by
  have HC := Lib.hid hc
  have HZ := Lib.hid hz
  clear hc hz
  go_enter Tryz.func48, Tryz.ntmps48
  go_wp2
  go_loop [3, 4] (fun s i => ∃ k : Nat, k ≤ len ∧ i = .int .i64 k ∧ s = .int .i64 (sumOf (zs.take k))) (fun _ i => len - (intOf i).toNat)
  case atStart => exact ⟨0, Nat.zero_le _, rfl, rfl⟩
  case round =>
    obtain ⟨k, hk, rfl, rfl⟩ := hrel
    have hb := sumOf_bd (zs.take k)
    obtain ⟨s1, s2⟩ := hb
    by_cases hlt : k < len
    · have hcell := HC.out k hlt
      have hs : sumOf (zs.take (k + 1)) = min (sumOf (zs.take k) + clamp (zs.getD k 0)) 1152921504606846976 := by
        have hz := HZ.out
        rw [List.take_succ_eq_append_getElem (by omega), sumOf_snoc]
        simp [List.getD, hz, hlt]
      have HS := Lib.hid hs
      clear hs
      generalize zs.getD k 0 = x at *
      go_wp2
      all_goals
        go_round
        case rel =>
          refine ⟨k + 1, by omega, by go_num, ?_⟩
          rw [HS.out]
          unfold clamp
          congr 1
          omega
        case measure => simp [intOf]; omega
    · go_wp2
      go_ret
      obtain rfl : k = len := by omega
      have hz := HZ.out
      rw [List.take_of_length_le (by omega)]
      exact ⟨rfl, rfl⟩
theorem rsum_reads (w : World) (a : Option Addr) (len cap : Nat) (zs : List Int) (hz : zs.length = len) (h : Reads w a zs) :
    Calls Tryz.prog 48 #[.slice a len cap] w fun e w' => e = .returned (.int .i64 (sumOf zs)) ∧ w = w' := by
  obtain ⟨h1, h2⟩ := h
  subst hz
  rcases h2 with rfl | ⟨b, off, rfl, h3⟩
  · exact rsum_none w a cap
  · exact rsum_some w b off zs.length cap zs h1 rfl h3
theorem reads_row {w : World} {a : Option Addr} {n cap : Nat} {l : List Int} (h : Row w (.slice a n cap) (ints l)) : n = l.length ∧ Reads w a l := by
  obtain ⟨hm, a', cap', hv, _, _, hc⟩ := h
  simp only [Value.slice.injEq, ints_len] at hv
  obtain ⟨rfl, rfl, rfl⟩ := hv
  rw [ints_len] at hm hc
  refine ⟨rfl, by unfold maxLen at hm; omega, ?_⟩
  rcases hc with hc | ⟨b, off, rfl, hc⟩
  · left
    have := congrArg List.length hc
    rw [ints_len] at this
    exact List.eq_nil_of_length_eq_zero this
  · exact .inr ⟨b, off, rfl, fun k hk => by rw [hc k hk, ints_at l k hk]⟩
theorem sum_any {w : World} {v : Value} {l : List Int} (h : Row w v (ints l)) : Calls Tryz.prog 63 #[v] w fun e w' => e = .returned (.int .i64 (sumOf l)) ∧ w = w' := by
  obtain ⟨_, a, cap, rfl, _⟩ := id h
  obtain ⟨h1, h2⟩ := reads_row h
  exact sum_reads w a _ cap l h1.symm h2
theorem rsum_any {w : World} {v : Value} {l : List Int} (h : Row w v (ints l)) : Calls Tryz.prog 48 #[v] w fun e w' => e = .returned (.int .i64 (sumOf l)) ∧ w = w' := by
  obtain ⟨_, a, cap, rfl, _⟩ := id h
  obtain ⟨h1, h2⟩ := reads_row h
  exact rsum_reads w a _ cap l h1.symm h2
end Go.Proofs.YtgplajofemencaaGreat
/- What is near has a bound; an instance and a state in two boxes. -/
namespace Go.Proofs.YtgplajofemencaaGreat
open Go.ChangeShapes Go.WideShapes Go.ChangeAt Go.RowKit

theorem bound_no {I : Ins} {s : Sta} (h : mayB I = false ∨ I.p = 0) : boundS I s = 0 := by
  unfold boundS
  rw [if_pos]
  rw [near_len]
  by_cases hm : mayB I = true
  · have hl := (fine_of hm).len
    rw [if_pos hm]
    rcases h with h | h
    · rw [h] at hm; cases hm
    · omega
  · rw [if_neg hm]; omega
theorem boxes_is (w : World) (I : Ins) (v : Value) (s : Sta) : YBox ((w.alloc (boxI I v)).alloc (boxSt s)) w.heap.size I v ∧ StB ((w.alloc (boxI I v)).alloc (boxSt s)) (w.heap.size + 1) s ∧ Below w.heap.size w ((w.alloc (boxI I v)).alloc (boxSt s)) := by
  have h1 : (w.alloc (boxI I v)).heap.size = w.heap.size + 1 := by simp
  have a1 := st_new (w.alloc (boxI I v)) s
  rw [h1] at a1
  exact ⟨(ybox_new w I v).later ((Below.refl _ _).alloc (Nat.le_refl _) _), a1, ((Below.refl w.heap.size w).alloc (Nat.le_refl _) _).alloc (by rw [h1]; omega) _⟩
theorem boxes_in (w : World) (I : Ins) (v : Value) (s : Sta) (c : Int) (u : Value) : YBox ((w.alloc (boxI I v)).alloc (boxN s c u)) w.heap.size I v ∧ NodB ((w.alloc (boxI I v)).alloc (boxN s c u)) (w.heap.size + 1) s c u ∧ Below w.heap.size w ((w.alloc (boxI I v)).alloc (boxN s c u)) := by
  have h1 : (w.alloc (boxI I v)).heap.size = w.heap.size + 1 := by simp
  have a1 := nod_new (w.alloc (boxI I v)) s c u
  rw [h1] at a1
  exact ⟨(ybox_new w I v).later ((Below.refl _ _).alloc (Nat.le_refl _) _), a1, ((Below.refl w.heap.size w).alloc (Nat.le_refl _) _).alloc (by rw [h1]; omega) _⟩
/-- The cells of numbers that a call has made, wherever something is told of them. -/
theorem own_cells {w : World} {B : Nat} {v : Value} {l : List Int} (h : OwnI w B v l) (h0 : 0 < l.length) : ∃ g cap, v = .slice (some ⟨g, 0, none⟩) l.length cap ∧ l.length ≤ cap ∧ g < w.heap.size ∧ ∀ i, i < l.length → w.cell? ⟨g, i, none⟩ = some (.int .i64 (l.getD i 0)) := by
  obtain ⟨a, cap, rfl⟩ := h.shape
  have hr := h.row
  obtain ⟨_, a', cap', hv, hc, _, _⟩ := id hr
  simp only [Value.slice.injEq] at hv
  obtain ⟨rfl, hl, rfl⟩ := hv
  rw [ints_len] at hc
  rcases h.2 with ⟨he, hz⟩ | ⟨g, cap2, cur, he, _, hg, _⟩
  · omega
  · simp only [Value.slice.injEq] at he
    obtain ⟨rfl, -, rfl⟩ := he
    exact ⟨g, _, rfl, hc, (Array.getElem?_eq_some_iff.1 hg).1, fun i hi => h.cell i hi⟩
end Go.Proofs.YtgplajofemencaaGreat
/- What the document's At answers. -/
namespace Go.Proofs.YtgplajofemencaaGreat
open Go.ChangeShapes Go.WideShapes Go.ChangeAt Go.RowKit

set_option maxRecDepth 1000000 in
set_option maxHeartbeats 4000000 in
theorem dbat_any {w : World} {v : Value} {I : Ins} {s : Sta} (h : SRow w v I.l) (hs : SetsOk s) :
    Calls Tryz.prog 81 #[insV I v, staV s] w fun e w' => e = .returned (.int .i64 (boundS I s)) ∧ Below w.heap.size w w' := by
  have HR := Lib.hid h
  have HS := Lib.hid hs
  obtain ⟨ad, cap, rfl, _⟩ := h.form
  clear h hs
  unfold insV staV
  go_enter Tryz.func81, Tryz.ntmps81
  go_upto_region 1 with fail
  obtain ⟨k1, k2, k3⟩ := boxes_is w I (.slice ad I.l.length cap) s
  have HY := Lib.hid k1
  have HA := Lib.hid k2
  have HB := Lib.hid k3
  clear k1 k2 k3
  change Code.wp _ _ _ _ ((w.alloc (boxI I (.slice ad I.l.length cap))).alloc (boxSt s))
  generalize (w.alloc (boxI I (.slice ad I.l.length cap))).alloc (boxSt s) = W at *
  obtain ⟨y0, y1, y2, y3⟩ := HY.out.cells
  go_wp2_with fail
  clear y0 y1 y2 y3
  change Calls _ _ #[insV I (.slice ad I.l.length cap)] _ _
  refine (rnear_any (I := I) (HR.out.below HB.out)).mono ?_
  rintro e w1 ⟨u, rfl, hu, hb⟩
  have HA1 := Lib.hid (HA.out.later hb)
  have HB1 := Lib.hid (HB.out.trans (hb.mono HB.out.size))
  have HBW := Lib.hid HB.out.size
  clear hb HY HA HB
  have HN := Lib.hid (fun j => (⟨near_pos I j, near_hi I j⟩ : 0 ≤ (nearI I).getD j 0 ∧ (nearI I).getD j 0 ≤ 14143))
  have HE := Lib.hid (show boundS I s = if (nearI I).length < 2 then 0 else (nearI I).getD 0 0 + sumN (fun i => if has s.may ((i : Int) + 1) then 0 else (nearI I).getD (i + 1) 0) ((nearI I).length - 1) from rfl)
  have HL := Lib.hid (show (nearI I).length ≤ 33 by
    rw [near_len]
    split
    · next hm => exact (pmay_len hm).2
    · omega)
  change OwnI w1 W.heap.size u (nearI I) at hu
  generalize nearI I = N at *
  by_cases h0 : N.length < 2
  · obtain ⟨ua, uc, rfl⟩ := hu.shape
    have d1 : decide ((N.length : Int) < 2) = true := decide_eq_true (by omega)
    have d2 := decide_eq_true h0
    have HE2 := Lib.hid (show boundS I s = 0 by rw [HE.out, if_pos h0])
    clear h0 hu HE
    go_wp2
    go_ret
    exact ⟨by rw [HE2.out]; rfl, HB1.out⟩
  · have d1 : decide ((N.length : Int) < 2) = false := decide_eq_false (by omega)
    have d2 := decide_eq_false h0
    have HE2 := Lib.hid (show boundS I s = N.getD 0 0 + sumN (fun i => if has s.may ((i : Int) + 1) then 0 else N.getD (i + 1) 0) (N.length - 1) by rw [HE.out, if_neg h0])
    have H0 := Lib.hid h0
    obtain ⟨g, uc, rfl, hcap, hg, hcl⟩ := own_cells hu (by omega)
    have HC := Lib.hid hcl
    have HG := Lib.hid hg
    have c0 := hcl 0 (by omega)
    have i1 : (0 : Int) < (N.length : Int) := by omega
    have i2 : 0 < N.length := by omega
    have hl9 : N.length ≤ 9223372036854775807 := by have := HL.out; omega
    clear h0 hu HE hcl hg
    obtain ⟨f, hf⟩ : ∃ f : Nat → Int, (fun i : Nat => if has s.may ((i : Int) + 1) then 0 else N.getD (i + 1) 0) = f := ⟨_, rfl⟩
    have HF := Lib.hid (fun i : Nat => show f i = if has s.may ((i : Int) + 1) then 0 else N.getD (i + 1) 0 by rw [← hf])
    rw [hf] at HE2
    clear hf
    obtain ⟨n0, hn0⟩ : ∃ n0, N.getD 0 0 = n0 := ⟨_, rfl⟩
    have HN0 := Lib.hid (HN.out 0)
    rw [hn0] at c0 HE2 HN0
    clear hn0
    go_wp2_with fail
    clear c0
    go_loop [6, 7] (fun nn jj => ∃ (k : Nat) (x : Int), k + 1 ≤ N.length ∧ jj = .int .i64 ((k : Int) + 1) ∧ nn = .int .i64 x ∧ x = n0 + sumN f k ∧ 0 ≤ x ∧ x ≤ 14143 * ((k : Int) + 1)) (fun _ jj => N.length - (intOf jj).toNat)
    case atStart => exact ⟨0, n0, by have := H0.out; omega, rfl, rfl, by rw [sumN]; omega, HN0.out.1, by have := HN0.out.2; omega⟩
    case round =>
      obtain ⟨k, x, hk, rfl, rfl, hx, hx0, hx1⟩ := hrel
      by_cases hlt : k + 1 < N.length
      · have HX := Lib.hid hx
        have HXB := Lib.hid (And.intro hx0 hx1)
        have HK := Lib.hid hlt
        have b1 : (k : Int) + 1 < (N.length : Int) := by omega
        have b2 := decide_eq_true b1
        have b3 : (0 : Int) ≤ (k : Int) + 1 := by omega
        have b4 : ((k : Int) + 1).toNat = k + 1 := by omega
        have ck := HC.out (k + 1) hlt
        have hy := HN.out (k + 1)
        have hfk := HF.out k
        have b5 : IntKind.i64.wrap ((k : Int) + 1 + 1) = (k : Int) + 1 + 1 := IntWalk.i64_in _ (by have := HL.out; omega)
        have a6 := HA1.out.c6
        clear hx hx0 hx1 hk hlt
        generalize N.getD (k + 1) 0 = y at *
        have HY := Lib.hid hy
        clear hy
        go_wp2_with fail
        refine (erhas_any s.may _ _ HS.out.2.1).mono ?_
        rintro e w' ⟨rfl, rfl⟩
        have hl := HL.out
        have hkk := HK.out
        by_cases hh : has s.may ((k : Int) + 1) = true
        · rw [if_pos hh] at hfk
          rw [hh]
          have HFK := Lib.hid hfk
          clear hfk hh hl hkk
          go_wp2_with fail
          go_round
          case rel => exact ⟨k + 1, x, by have := HK.out; omega, by go_num, rfl, by rw [sumN, HFK.out]; have := HX.out; omega, HXB.out.1, by have := HXB.out.2; omega⟩
          case measure => have := HK.out; simp [intOf]; omega
        · have hh2 : has s.may ((k : Int) + 1) = false := by simpa using hh
          rw [if_neg hh] at hfk
          rw [hh2]
          have HFK := Lib.hid hfk
          have hy0 := HY.out
          have hxb := HXB.out
          have b6 : IntKind.i64.wrap (x + y) = x + y := IntWalk.i64_in _ (by omega)
          clear hfk hh hh2 hl hkk hy0 hxb
          go_wp2_with fail
          go_round
          case rel => exact ⟨k + 1, x + y, by have := HK.out; omega, by go_num, rfl, by rw [sumN, HFK.out]; have := HX.out; omega, by have := HXB.out.1; have := HY.out; omega, by have := HXB.out.2; have := HY.out; omega⟩
          case measure => have := HK.out; simp [intOf]; omega
      · have HX := Lib.hid hx
        have HK := Lib.hid (show N.length - 1 = k by omega)
        have b2 : decide ((k : Int) + 1 < (N.length : Int)) = false := decide_eq_false (by omega)
        clear hx hx0 hx1 hk hlt
        go_wp2
        go_ret
        exact ⟨by rw [HE2.out, HK.out, ← HX.out]; rfl, HB1.out⟩
end Go.Proofs.YtgplajofemencaaGreat
/- What a node costs at least in the end: the document's own Of. -/
namespace Go.Proofs.YtgplajofemencaaGreat
open Go.ChangeShapes Go.WideShapes Go.ChangeAt Go.RowKit

set_option maxRecDepth 1000000 in
set_option maxHeartbeats 4000000 in
theorem dbof_any {w : World} {v u : Value} {I : Ins} {s : Sta} {c : Int} {l : List Int} (h : SRow w v I.l) (hs : SetsOk s) (hu : Row w u (ints l)) :
    Calls Tryz.prog 51 #[insV I v, nodeV s c u] w fun e w' => e = .returned (.int .i64 (sumOf [c, boundS I s])) ∧ Below w.heap.size w w' := by
  have HR := Lib.hid h
  have HS := Lib.hid hs
  obtain ⟨ad, cap, rfl, _⟩ := h.form
  obtain ⟨au, cu, rfl, _⟩ := hu.form
  rw [ints_len] at *
  clear h hs hu
  unfold insV nodeV
  go_enter Tryz.func51, Tryz.ntmps51
  go_upto_region 1 with fail
  obtain ⟨k1, k2, k3⟩ := boxes_in w I (.slice ad I.l.length cap) s c (.slice au l.length cu)
  have HY := Lib.hid k1
  have HA := Lib.hid k2
  have HB := Lib.hid k3
  clear k1 k2 k3
  change Code.wp _ _ _ _ ((w.alloc (boxI I (.slice ad I.l.length cap))).alloc (boxN s c (.slice au l.length cu)))
  generalize (w.alloc (boxI I (.slice ad I.l.length cap))).alloc (boxN s c (.slice au l.length cu)) = W at *
  have HYn := Lib.hid (HY.out.later (Below.refl _ W).drew)
  have HAn := Lib.hid (HA.out.later (Below.refl _ W).drew)
  have HBn := Lib.hid HB.out.drew
  clear HY HA HB
  have HY := HYn
  have HA := HAn
  have HB := HBn
  clear HYn HAn HBn
  have HS0 := Lib.hid (show Holds (cellsI w.heap.size I (.slice ad I.l.length cap) ++ cellsN (w.heap.size + 1) s c (.slice au l.length cu)) W.drew from (Holds.app.2 ⟨⟨HY.out.cells.1, HY.out.cells.2.1, HY.out.cells.2.2.1, HY.out.cells.2.2.2, trivial⟩, HA.out.holds⟩))
  refine wp_region_held_drew (S := Holds (cellsI w.heap.size I (.slice ad I.l.length cap) ++ cellsN (w.heap.size + 1) s c (.slice au l.length cu))) (by kernel_rfl) HS0.out (fun hSn => ?_)
  generalize W.drew = V at *
  have hlt := Lib.hid (show Lows V.heap.size (cellsI w.heap.size I (.slice ad I.l.length cap) ++ cellsN (w.heap.size + 1) s c (.slice au l.length cu)) from (Lows.app (show Lows _ (cellsI w.heap.size I (.slice ad I.l.length cap)) from ⟨HY.out.lt, HY.out.lt, HY.out.lt, HY.out.lt, trivial⟩) (lows_N HA.out.lt)))
  have Bc := Lib.hid (Below.refl V.heap.size V)
  simp only [cellsI, cellsN, List.cons_append, List.nil_append] at HS0 hlt hSn ⊢
  have HRV := Lib.hid (HR.out.below HB.out)
  refine tks [0, 1, 2, 3, 4] 5 rfl (by kernel_rfl) (fun _ _ _ _ h => h) (by assumption) (fun KT hKT => ?_)
  iterate 5 (refine tkT (by (simp only [gA, gB, gC]; rfl)) (by rfl) (by (intro w hSw; (simp only [Holds] at hSw); go_simp <;> with_reducible rfl)) ?_; simp only [Act.put, pA, pB, pC])
  refine hKT _ ?_
  clear KT hKT
  refine wpAnyH_ready (rs := [5]) (by kernel_rfl) (by simp) ?_
  refine AllReadyH.cons (o := ?oz209) ?iz209 (fun K hK => ?kz209) AllReadyH.nil
  case iz209 => (simp only [List.getElem?_toArray, List.getElem?_cons_zero, List.getElem?_cons_succ]; rfl)
  go_simp
  change Calls _ _ #[insV I (.slice ad I.l.length cap), staV s] _ _
  refine (dbat_any (HRV.out.below Bc.out) HS.out).mono ?_
  rintro e w1 ⟨rfl, hb⟩
  refine held_more hK HS0.out hlt (Bc.out.trans (hb.mono Bc.out.size)) (fun Bc hSn => ?_)
  clear hb hK
  obtain ⟨n, hn⟩ : ∃ n, boundS I s = n := ⟨_, rfl⟩
  rw [hn]
  have HN := Lib.hid hn
  clear hn
  refine wpAnyH_ready (rs := [6]) (by kernel_rfl) (by simp) ?_
  refine AllReadyH.cons (o := ?oz210) ?iz210 (fun K hK => ?kz210) AllReadyH.nil
  case iz210 => (simp only [List.getElem?_toArray, List.getElem?_cons_zero, List.getElem?_cons_succ]; rfl)
  go_simp
  refine held_more hK HS0.out hlt (Bc.out.alloc Bc.out.size _) (fun Bc hSn => ?_)
  refine wpAnyH_ready (rs := [7]) (by kernel_rfl) (by simp) ?_
  refine AllReadyH.cons (o := ?oz211) ?iz211 (fun K hK => ?kz211) AllReadyH.nil
  case iz211 => (simp only [List.getElem?_toArray, List.getElem?_cons_zero, List.getElem?_cons_succ]; rfl)
  go_simp
  refine (rsum_any (row_two w1 c n)).mono ?_
  rintro e w' ⟨rfl, rfl⟩
  refine held_more hK HS0.out hlt Bc.out (fun Bc hSn => ?_)
  clear hK
  refine tks [8] 1 rfl (by kernel_rfl) (fun _ _ _ _ h => h) (by assumption) (fun KT hKT => ?_)
  refine tkT (by (simp only [gA, gB, gC]; rfl)) (by rfl) (by (intro w hSw; (simp only [Holds] at hSw); go_simp <;> with_reducible rfl)) ?_
  simp only [Act.put, pA, pB, pC]
  refine hKT _ ?_
  clear KT hKT
  refine wpAnyH_done (by kernel_rfl) ?_ _
  go_wp2
  go_ret
  exact ⟨by rw [HN.out]; rfl, HB.out.trans (Bc.out.mono HB.out.size)⟩
end Go.Proofs.YtgplajofemencaaGreat
