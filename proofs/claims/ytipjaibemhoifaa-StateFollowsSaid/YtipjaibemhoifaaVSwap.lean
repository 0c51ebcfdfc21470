/- Rows that are exchanged, and turned. -/
import Derived.Test.YtipjaibemhoifaaVSort
namespace Go.Proofs.Ytipjaibemhoifaa
open Go.ChangeShapes Go.WideShapes Go.ChangeAt Go.RowKit

/-- Two rows exchanged. -/
def swapL (L : List (List Int)) (i j : Nat) : List (List Int) := (L.set i (L.getD j [])).set j (L.getD i [])
theorem swapL_len (L : List (List Int)) (i j : Nat) : (swapL L i j).length = L.length := by simp [swapL]
theorem swap_split (A C D : List (List Int)) (x y : List Int) (i j : Nat) (hi : i = A.length) (hj : j = A.length + 1 + C.length) : swapL (A ++ x :: (C ++ y :: D)) i j = A ++ y :: (C ++ x :: D) := by
  subst hi hj
  have e1 : (A ++ x :: (C ++ y :: D)).getD A.length [] = x := by simp [List.getD_eq_getElem?_getD]
  have e2 : (A ++ x :: (C ++ y :: D)).getD (A.length + 1 + C.length) [] = y := by
    rw [List.getD_eq_getElem?_getD, List.getElem?_append_right (by omega), show A.length + 1 + C.length - A.length = C.length + 1 by omega]
    simp
  unfold swapL
  rw [e1, e2, List.set_append, if_neg (by omega), Nat.sub_self, List.set_cons_zero, List.set_append, if_neg (by omega), show A.length + 1 + C.length - A.length = C.length + 1 by omega, List.set_cons_succ, List.set_append, if_neg (by omega), Nat.sub_self, List.set_cons_zero]
theorem swapL_comm (L : List (List Int)) (i j : Nat) (h : i ≠ j) : swapL L i j = swapL L j i := by
  unfold swapL
  rw [List.set_comm _ _ h]
theorem OwnIn.at {w : World} {B : Nat} : ∀ {vs : List Value} {L : List (List Int)}, OwnIn w B vs L → ∀ i, i < L.length → ∃ v, vs[i]? = some v ∧ w.ownsRow B 3 1 v (L.getD i []).length (ints (L.getD i []))
  | [], [], _, i, h => by simp at h
  | v :: _, l :: _, h, 0, _ => ⟨v, rfl, h.1⟩
  | _ :: vs, _ :: L, h, i + 1, hi => by
    obtain ⟨v, h1, h2⟩ := OwnIn.at h.2 i (by simpa using hi)
    exact ⟨v, by simpa using h1, by simpa using h2⟩
  | [], _ :: _, h, _, _ => h.elim
  | _ :: _, [], h, _, _ => h.elim
theorem ownIn_set {w : World} {B : Nat} {u : Value} {l : List Int} (hu : w.ownsRow B 3 1 u l.length (ints l)) : ∀ {vs : List Value} {L : List (List Int)} (k : Nat), OwnIn w B vs L → OwnIn w B (vs.set k u) (L.set k l)
  | [], [], _, _ => trivial
  | _ :: _, _ :: _, 0, h => ⟨hu, h.2⟩
  | _ :: _, _ :: _, k + 1, h => ⟨h.1, ownIn_set hu k h.2⟩
  | [], _ :: _, _, h => h.elim
  | _ :: _, [], _, h => h.elim
section
variable {w : World} {B g n cap : Nat} {L : List (List Int)}
theorem OwnLL.num (h : OwnLL w B (.slice (some ⟨g, 0, none⟩) n cap) L) : n = L.length := by
  obtain ⟨vs, h1, h2⟩ := h
  obtain ⟨a, c, he⟩ := own_shape h1
  simp at he
  rw [he.2.1, h2.in.len]
theorem OwnLL.free (h : OwnLL w B (.slice (some ⟨g, 0, none⟩) n cap) L) (i : Nat) : w.frozen? ⟨g, i, none⟩ = false := by
  have hn := h.num
  obtain ⟨vs, h1, h2⟩ := h
  have : n = vs.length := by rw [hn, h2.in.len]
  subst this
  exact h1.frozenAt i
theorem OwnLL.gge (h : OwnLL w B (.slice (some ⟨g, 0, none⟩) n cap) L) : B ≤ g ∧ g < w.heap.size := by
  obtain ⟨vs, h1, h2⟩ := h
  exact World.ownsRow.lt h1 g rfl
/-- The row that lies at a place. -/
theorem OwnLL.has (h : OwnLL w B (.slice (some ⟨g, 0, none⟩) n cap) L) (i : Nat) (hi : i < L.length) : ∃ u, w.cell? ⟨g, i, none⟩ = some u ∧ Row w u (ints (L.getD i [])) := by
  have hn := h.num
  obtain ⟨vs, h1, h2⟩ := h
  have : n = vs.length := by rw [hn, h2.in.len]
  subst this
  obtain ⟨u, hu, ho⟩ := h2.at i hi
  exact ⟨u, (h1.cellAt i (by rw [hn]; omega)).trans hu, own_row ho⟩
theorem OwnLL.sl (h : OwnLL w B (.slice (some ⟨g, 0, none⟩) n cap) L) (i : Nat) (hi : i < L.length) : ∃ a m c, w.cell? ⟨g, i, none⟩ = some (.slice a m c) := by
  obtain ⟨u, hu, _, a, c, rfl, _⟩ := h.has i hi
  exact ⟨_, _, _, hu⟩
theorem OwnLL.swapped (h : OwnLL w B (.slice (some ⟨g, 0, none⟩) n cap) L) (i j : Nat) (hi : i < L.length) (hj : j < L.length) (x y : Value) (hx : w.cell? ⟨g, i, none⟩ = some x) (hy : w.cell? ⟨g, j, none⟩ = some y) :
    OwnLL ((w.setCell ⟨g, i, none⟩ y).setCell ⟨g, j, none⟩ x) B (.slice (some ⟨g, 0, none⟩) n cap) (swapL L i j) ∧ Below B w ((w.setCell ⟨g, i, none⟩ y).setCell ⟨g, j, none⟩ x) := by
  have hn := h.num
  have hg := h.gge
  obtain ⟨vs, h1, h2⟩ := h
  have hv : n = vs.length := by rw [hn, h2.in.len]
  subst hv
  obtain ⟨u, hu, ho⟩ := h2.at i hi
  obtain ⟨v, hv, hp⟩ := h2.at j hj
  have e1 : u = x := by
    have := (h1.cellAt i (by rw [hn]; omega)).symm.trans hx
    rw [hu] at this; simpa using this
  have e2 : v = y := by
    have := (h1.cellAt j (by rw [hn]; omega)).symm.trans hy
    rw [hv] at this; simpa using this
  subst e1 e2
  have hb : Below B w ((w.setCell ⟨g, i, none⟩ v).setCell ⟨g, j, none⟩ u) := by
    have b1 : Below B w (w.setCell ⟨g, i, none⟩ v) := (Below.refl _ w).setCell (p := ⟨g, i, none⟩) hg.1 _
    exact b1.setCell (p := ⟨g, j, none⟩) hg.1 _
  refine ⟨?_, hb⟩
  have s1 := h1.stored i v
  have s2 := s1.1.stored j u
  have o2 := ownIn_set (l := L.getD i []) ho j (ownIn_set (l := L.getD j []) hp i h2)
  have hgr := s1.2.trans s2.2
  refine ⟨(vs.set i v).set j u, ?_, o2.kept hgr ?_⟩
  · have := s2.1
    rw [List.length_set, List.length_set]
    exact this
  · intro z hz
    rcases h1.2 with ⟨e, _⟩ | ⟨g', cap', cur, e, _, hgg, _⟩
    · simp at e
    · simp at e
      obtain ⟨rfl, rfl⟩ := e
      exact .inr (o2.ne hgg (by decide) z hz)
end
theorem OwnLL.drew {w : World} {B : Nat} {v : Value} {L : List (List Int)} (h : OwnLL w B v L) (n : Nat) : OwnLL (w.drewN n) B v L := h.below (below_drewN (Below.refl _ w) n)
set_option maxRecDepth 1000000 in
set_option maxHeartbeats 4000000 in
/-- Two ranges of equal length are exchanged. -/
theorem swapRange_any {w : World} {B g n cap : Nat} {fv : Value} (P X M Y S : List (List Int)) (a b m : Nat) (ha : a = P.length) (hb : b = P.length + X.length + M.length) (hm : m = X.length) (hXY : Y.length = X.length)
    (h : OwnLL w B (.slice (some ⟨g, 0, none⟩) n cap) (P ++ (X ++ (M ++ (Y ++ S))))) (hn : n ≤ 1000000) :
    Calls Try.prog 114 #[.slice (some ⟨g, 0, none⟩) n cap, .int .i64 a, .int .i64 b, .int .i64 m, fv] w fun e w' => e = .returned (.tuple #[]) ∧ OwnLL w' B (.slice (some ⟨g, 0, none⟩) n cap) (P ++ (Y ++ (M ++ (X ++ S)))) ∧ Below B w w' := by
  have hlen := h.num
  simp only [List.length_append] at hlen
  have H := Lib.hid h
  have HA := Lib.hid ha
  have HB := Lib.hid hb
  have HM := Lib.hid hm
  have HXY := Lib.hid hXY
  have HL := Lib.hid hlen
  clear h ha hb hm hlen hXY
  go_enter Try.func114, Try.ntmps114
  go_wp2_with fail
  go_loopw [10] (fun i wr => ∃ (k : Nat) (Xt Xr Yt Yr : List (List Int)), k = Xt.length ∧ i = .int .i64 k ∧ X = Xt ++ Xr ∧ Y = Yt ++ Yr ∧ Yt.length = Xt.length ∧ OwnLL wr B (.slice (some ⟨g, 0, none⟩) n cap) (P ++ (Yt ++ (Xr ++ (M ++ (Xt ++ (Yr ++ S)))))) ∧ Below B w wr) (fun i _ => m - (intOf i).toNat)
  case atStart => exact ⟨0, [], X, [], Y, rfl, rfl, rfl, rfl, rfl, H.out, Below.refl _ _⟩
  case round =>
    obtain ⟨k, Xt, Xr, Yt, Yr, hk, rfl, hX, hY, hl, ho, hbw⟩ := hrel
    have HO := Lib.hid ho
    have HBW := Lib.hid hbw
    by_cases hlt : k < m
    · have hlt2 : (k : Int) < (m : Int) := by omega
      have hm2 := HM.out
      have hxy := HXY.out
      have hl2 := HL.out
      have ha2 := HA.out
      have hb2 := HB.out
      obtain ⟨x, Xr, rfl⟩ : ∃ x Z, Xr = x :: Z := by
        cases Xr with
        | nil => rw [hX] at hm2; simp at hm2; omega
        | cons x Z => exact ⟨x, Z, rfl⟩
      obtain ⟨y, Yr, rfl⟩ : ∃ y Z, Yr = y :: Z := by
        cases Yr with
        | nil => rw [hX, hY] at hxy; simp at hxy; omega
        | cons y Z => exact ⟨y, Z, rfl⟩
      obtain ⟨p, hp⟩ : ∃ p, p = a + k := ⟨_, rfl⟩
      obtain ⟨q, hq⟩ : ∃ q, q = b + k := ⟨_, rfl⟩
      have hlx : X.length = Xt.length + 1 + Xr.length := by rw [hX]; simp; omega
      have hly : Y.length = Yt.length + 1 + Yr.length := by rw [hY]; simp; omega
      have hall : (P ++ (Yt ++ (x :: Xr ++ (M ++ (Xt ++ (y :: Yr ++ S)))))).length = n := by simp; omega
      have hkb : k < 1000000 := by omega
      have hpn : p < n := by omega
      have hqn : q < n := by omega
      obtain ⟨ua, ul, uc, hu⟩ := ho.sl p (by omega)
      obtain ⟨va, vl, vc, hv⟩ := ho.sl q (by omega)
      obtain ⟨z, hz⟩ := cell?_setCell_some (w := wr) (p := ⟨g, p, none⟩) (x := .slice va vl vc) (q := ⟨g, q, none⟩) hv
      have f1 := ho.free p
      have f2 := ho.free q
      have HS := Lib.hid (ho.swapped p q (by omega) (by omega) _ _ hu hv)
      have HE := Lib.hid (show swapL (P ++ (Yt ++ (x :: Xr ++ (M ++ (Xt ++ (y :: Yr ++ S)))))) p q = P ++ ((Yt ++ [y]) ++ (Xr ++ (M ++ ((Xt ++ [x]) ++ (Yr ++ S))))) by
        have := swap_split (P ++ Yt) (Xr ++ (M ++ Xt)) (Yr ++ S) x y p q (by simp; omega) (by simp; omega)
        simp only [List.append_assoc, List.cons_append, List.nil_append] at this ⊢
        exact this)
      have e1 : IntKind.i64.wrap ((a : Int) + (k : Int)) = (p : Int) := by rw [IntWalk.i64_in _ (by omega), hp]; simp
      have e2 : IntKind.i64.wrap ((b : Int) + (k : Int)) = (q : Int) := by rw [IntWalk.i64_in _ (by omega), hq]; simp
      have HK := Lib.hid hk
      have HXX := Lib.hid hX
      have HYY := Lib.hid hY
      have HLL := Lib.hid hl
      clear ho hbw hall hlx hly hm2 hxy hl2 ha2 hb2 hp hq hk hX hY hl
      go_wp2_with fail
      go_region
      go_wp2_with fail
      go_roundw
      case rel => exact ⟨k + 1, Xt ++ [x], Xr, Yt ++ [y], Yr, by simp [HK.out], by go_num, by rw [HXX.out]; simp, by rw [HYY.out]; simp, by simp [HLL.out], by
        have := HS.out.1
        rw [HE.out] at this
        exact this.drew 1, (HBW.out.trans HS.out.2).drew⟩
      case measure => simp [intOf]; omega
    · have hlt2 : ¬ (k : Int) < (m : Int) := by omega
      have e1 : Xr = [] := by
        have := HM.out
        rw [hX] at this; simp at this
        exact List.eq_nil_of_length_eq_zero (by omega)
      have e2 : Yr = [] := by
        have := HM.out
        have h2 := HXY.out
        rw [hX, hY] at h2; rw [hX] at this; simp at h2 this
        exact List.eq_nil_of_length_eq_zero (by omega)
      subst e1 e2
      simp only [List.append_nil] at hX hY
      subst hX hY
      clear ho hbw
      go_wp2
      go_end0
      refine ⟨rfl, ?_, HBW.out⟩
      have := HO.out
      simp only [List.nil_append] at this
      exact this
end Go.Proofs.Ytipjaibemhoifaa
