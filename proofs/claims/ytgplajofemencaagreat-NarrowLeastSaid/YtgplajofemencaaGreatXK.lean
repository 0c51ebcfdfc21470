/- What stands behind a move (behind), and the nodes behind all moves of some (children). -/
import Derived.Test.YtgplajofemencaaGreatXL
import Derived.Test.YtgplajofemencaaGreatYF
import Derived.Test.YtgplajofemencaaGreatYI
import Derived.Sort.CutIn
import Derived.Test.YtgplajofemencaaGreatBOf
import Derived.Test.YtgplajofemencaaGreatYK
import Derived.Test.YtgplajofemencaaGreatXN
import Derived.Test.YtgplajofemencaaGreatYJ
namespace Go.Proofs.YtgplajofemencaaGreat
open Go.ChangeShapes Go.WideShapes Go.ChangeAt Go.RowKit Go.Shelf

theorem boxes_ino (w : World) (I : Ins) (v : Value) (s : Sta) (c : Int) (u : Value) : YBox (((w.alloc (boxI I v)).alloc (boxN s c u)).alloc (boxN noughtS 0 (.slice none 0 0))) w.heap.size I v ∧ NodB (((w.alloc (boxI I v)).alloc (boxN s c u)).alloc (boxN noughtS 0 (.slice none 0 0))) (w.heap.size + 1) s c u ∧
    NodB (((w.alloc (boxI I v)).alloc (boxN s c u)).alloc (boxN noughtS 0 (.slice none 0 0))) (w.heap.size + 2) noughtS 0 (.slice none 0 0) ∧ Below w.heap.size w (((w.alloc (boxI I v)).alloc (boxN s c u)).alloc (boxN noughtS 0 (.slice none 0 0))) := by
  obtain ⟨h1, h2, h3⟩ := boxes_in w I v s c u
  have e1 : ((w.alloc (boxI I v)).alloc (boxN s c u)).heap.size = w.heap.size + 2 := by simp
  have a3 := nod_new ((w.alloc (boxI I v)).alloc (boxN s c u)) noughtS 0 (.slice none 0 0)
  rw [e1] at a3
  exact ⟨h1.later ((Below.refl _ _).alloc (Nat.le_refl _) _), h2.later ((Below.refl _ _).alloc (Nat.le_refl _) _), a3, h3.alloc (by rw [e1]; omega) _⟩
set_option maxRecDepth 1000000 in
set_option maxHeartbeats 4000000 in
theorem lbehind_any {w : World} {v : Value} {I : Ins} {n : Nod} {xa : Option Addr} {xc : Nat} {j : Int} (hi : SRow w v I.l) (hs : SetsOk n.s) (hu : Row w (.slice xa n.path.length xc) (ints n.path)) (hj : Can I n.s j) (hp1 : n.path.length + 1 ≤ 1000000) :
    Calls Tryz.prog 67 #[insV I v, nodeV n.s n.cost (.slice xa n.path.length xc), .int .i64 j] w fun e w' => ∃ pa pn pc, e = .returned (nodeV (childN I n j).s (childN I n j).cost (.slice pa pn pc)) ∧ OwnI w' w.heap.size (.slice pa pn pc) (n.path ++ [j]) ∧ Below w.heap.size w w' := by
  have HR := Lib.hid hi
  have HS := Lib.hid hs
  have HRP0 := Lib.hid hu
  have HCAN := Lib.hid hj
  have HPL := Lib.hid hp1
  have HFL := Lib.hid (show [n.path, [j]].flatten = n.path ++ [j] by simp)
  obtain ⟨ad, cap, rfl, _⟩ := hi.form
  clear hi hs hu hj hp1
  unfold insV nodeV
  go_enter Tryz.func67, Tryz.ntmps67
  go_upto_region 1 with fail
  obtain ⟨k1, k2, k3, k4⟩ := boxes_ino w I (.slice ad I.l.length cap) n.s n.cost (.slice xa n.path.length xc)
  have HY := Lib.hid k1
  have HC := Lib.hid k2
  have HA := Lib.hid k3
  have HBW := Lib.hid k4
  clear k1 k2 k3 k4
  change Code.wp _ _ _ _ (((w.alloc (boxI I (.slice ad I.l.length cap))).alloc (boxN n.s n.cost (.slice xa n.path.length xc))).alloc (boxN noughtS 0 (.slice none 0 0)))
  generalize ((w.alloc (boxI I (.slice ad I.l.length cap))).alloc (boxN n.s n.cost (.slice xa n.path.length xc))).alloc (boxN noughtS 0 (.slice none 0 0)) = W at *
  obtain ⟨y0, y1, y2, y3⟩ := HY.out.cells
  have x0 := HC.out.c0
  have x1 := HC.out.c1
  have x2 := HC.out.c2
  have x3 := HC.out.c3
  have x4 := HC.out.c4
  have x5 := HC.out.c5
  have x6 := HC.out.c6
  have x7 := HC.out.c7
  have x8 := HC.out.c8
  have x9 := HC.out.c9
  go_wp2_with fail
  clear y0 y1 y2 y3
  clear x0 x1 x2 x3 x4 x5 x6 x7 x8 x9
  change Calls _ _ #[insV I (.slice ad I.l.length cap), staV n.s, .int .i64 j] _ _
  refine (smove_any (I := I) (s := n.s) (j := j) (HR.out.below HBW.out) HS.out).mono ?_
  rw [(move_yes HCAN.out).1, (move_yes HCAN.out).2.1, (move_yes HCAN.out).2.2]
  rintro e w3 ⟨rfl, hb⟩
  have HYn := Lib.hid (HY.out.later hb)
  clear HY
  have HY := HYn
  clear HYn
  have HCn := Lib.hid (HC.out.later hb)
  clear HC
  have HC := HCn
  clear HCn
  have HAn := Lib.hid (HA.out.later hb)
  clear HA
  have HA := HAn
  clear HAn
  have HBWn := Lib.hid (HBW.out.trans (hb.mono HBW.out.size))
  clear HBW hb
  have HBW := HBWn
  clear HBWn
  obtain ⟨fr, hfr⟩ : ∃ fr, farS1 I n.s j = fr := ⟨_, rfl⟩
  rw [hfr]
  obtain ⟨es, hes⟩ : ∃ es, sumOf [n.cost, fr] = es := ⟨_, rfl⟩
  have HSUM := Lib.hid hes
  have hch : childN I n j = ⟨nextS I n.s j, es, n.path ++ [j]⟩ := by unfold childN; rw [hfr, hes]
  have HCH := Lib.hid hch
  clear hch hes hfr
  have HX := Lib.hid (show ∃ t, nextS I n.s j = t from ⟨_, rfl⟩)
  unfold staV
  go_upto_region 2 with fail
  have HT := Lib.hid (st_new w3 (nextS I n.s j))
  have HBT := Lib.hid (show w.heap.size + 2 < w3.heap.size from HA.out.lt)
  have hal : Below w3.heap.size w3 (w3.alloc (boxSt (nextS I n.s j))) := (Below.refl _ w3).alloc (Nat.le_refl _) _
  have HCn := Lib.hid (HC.out.later hal)
  clear HC
  have HC := HCn
  clear HCn
  have HAn := Lib.hid (HA.out.later hal)
  clear HA
  have HA := HAn
  clear HAn
  have HBWn := Lib.hid (HBW.out.trans (hal.mono HBW.out.size))
  clear HBW hal HY
  have HBW := HBWn
  clear HBWn HX
  change Code.wp _ _ _ _ (w3.alloc (boxSt (nextS I n.s j)))
  generalize w3.alloc (boxSt (nextS I n.s j)) = W4 at *
  generalize w3.heap.size = bt at *
  have HCn := Lib.hid (HC.out.later (Below.refl _ W4).drew)
  have HAn := Lib.hid (HA.out.later (Below.refl _ W4).drew)
  have HTn := Lib.hid (HT.out.later (Below.refl _ W4).drew)
  have HBWn := Lib.hid HBW.out.drew
  clear HC HA HT HBW
  have HC := HCn
  have HA := HAn
  have HT := HTn
  have HBW := HBWn
  clear HCn HAn HTn HBWn
  have HS0 := Lib.hid (show Holds ((cellsN (w.heap.size + 1) n.s n.cost (.slice xa n.path.length xc)) ++ (cellsSt bt (nextS I n.s j))) W4.drew from (Holds.app.2 ⟨HC.out.holds, HT.out.holds⟩))
  refine wp_region_held_drew (S := Holds ((cellsN (w.heap.size + 1) n.s n.cost (.slice xa n.path.length xc)) ++ (cellsSt bt (nextS I n.s j)))) (by kernel_rfl) HS0.out (fun hSn => ?_)
  generalize W4.drew = V at *
  have hlt := Lib.hid (show Lows V.heap.size ((cellsN (w.heap.size + 1) n.s n.cost (.slice xa n.path.length xc)) ++ (cellsSt bt (nextS I n.s j))) from (Lows.app (lows_N HC.out.lt) (lows_St HT.out.lt)))
  have Bc := Lib.hid (Below.refl V.heap.size V)
  simp only [cellsN, cellsSt, List.cons_append, List.nil_append] at HS0 hlt hSn ⊢
  have HRP := Lib.hid (HRP0.out.below HBW.out)
  refine tks [0, 1, 2, 3, 6, 7, 8] 7 rfl (by kernel_rfl) (fun _ _ _ _ h => h) (by assumption) (fun KT hKT => ?_)
  iterate 7 (refine tkT (by (simp only [gA, gB, gC]; rfl)) (by rfl) (by (intro w hSw; (simp only [Holds] at hSw); go_simp <;> with_reducible rfl)) ?_; simp only [Act.put, pA, pB, pC])
  refine hKT _ ?_
  clear KT hKT
  refine wpAnyH_ready (rs := [4, 9]) (by kernel_rfl) (by simp) ?_
  refine (AllReadyH.cons (o := ?oz237) ?iz237 (fun K hK => ?kz237) (AllReadyH.cons (o := ?oz238) ?iz238 (fun K hK => ?kz238) AllReadyH.nil))
  case iz237 => (simp only [List.getElem?_toArray, List.getElem?_cons_zero, List.getElem?_cons_succ]; rfl)
  case iz238 => (simp only [List.getElem?_toArray, List.getElem?_cons_zero, List.getElem?_cons_succ]; rfl)
  · skip
    go_simp
    refine held_more hK HS0.out hlt (Bc.out.alloc Bc.out.size _) (fun Bc hSn => ?_)
    clear hK
    have HS4 := Lib.hid (row_two V n.cost fr)
    change wpAnyH _ _ _ _ _ _ _ _ (V.alloc (.cells #[.int .i64 n.cost, .int .i64 fr] 3))
    have Bc2 := Lib.hid (show Below V.heap.size V (V.alloc (.cells #[.int .i64 n.cost, .int .i64 fr] 3)) from Bc.out)
    clear Bc
    have Bc := Bc2
    clear Bc2
    change Holds _ (V.alloc (.cells #[.int .i64 n.cost, .int .i64 fr] 3)) at hSn
    generalize V.alloc (.cells #[.int .i64 n.cost, .int .i64 fr] 3) = Y1 at *
    obtain ⟨b4, hb4⟩ : ∃ b, b = V.heap.size := ⟨_, rfl⟩
    rw [← hb4] at HS4 ⊢
    clear hb4
    refine wpAnyH_ready (rs := [5, 9]) (by kernel_rfl) (by simp) ?_
    refine (AllReadyH.cons (o := ?oz239) ?iz239 (fun K hK => ?kz239) (AllReadyH.cons (o := ?oz240) ?iz240 (fun K hK => ?kz240) AllReadyH.nil))
    case iz239 => (simp only [List.getElem?_toArray, List.getElem?_cons_zero, List.getElem?_cons_succ]; rfl)
    case iz240 => (simp only [List.getElem?_toArray, List.getElem?_cons_zero, List.getElem?_cons_succ]; rfl)
    · skip
      go_simp
      refine (sum_any HS4.out).mono ?_
      rw [HSUM.out]
      rintro e w' ⟨rfl, rfl⟩
      refine held_more hK HS0.out hlt Bc.out (fun Bc hSn => ?_)
      clear hK HS4
      refine wpAnyH_ready (rs := [9]) (by kernel_rfl) (by simp) ?_
      refine AllReadyH.cons (o := ?oz241) ?iz241 (fun K hK => ?kz241) AllReadyH.nil
      case iz241 => (simp only [List.getElem?_toArray, List.getElem?_cons_zero, List.getElem?_cons_succ]; rfl)
      go_simp
      refine held_more hK HS0.out hlt (Bc.out.alloc Bc.out.size _) (fun Bc hSn => ?_)
      have HJ9 := Lib.hid (row_oneI Y1 j)
      change wpAnyH _ _ _ _ _ _ _ _ (Y1.alloc (.cells #[.int .i64 j] 3))
      have Bc2 := Lib.hid (show Below V.heap.size V (Y1.alloc (.cells #[.int .i64 j] 3)) from Bc.out)
      clear Bc
      have Bc := Bc2
      clear Bc2
      change Holds _ (Y1.alloc (.cells #[.int .i64 j] 3)) at hSn
      generalize Y1.alloc (.cells #[.int .i64 j] 3) = Y2 at *
      obtain ⟨b9, hb9⟩ : ∃ b, b = Y1.heap.size := ⟨_, rfl⟩
      rw [← hb9] at HJ9 ⊢
      clear hb9
      have HRPc := Lib.hid (HRP.out.below Bc.out)
      refine wpAnyH_ready (rs := [10]) (by kernel_rfl) (by simp) ?_
      refine AllReadyH.cons (o := ?oz242) ?iz242 (fun K hK => ?kz242) AllReadyH.nil
      case iz242 => (simp only [List.getElem?_toArray, List.getElem?_cons_zero, List.getElem?_cons_succ]; rfl)
      go_simp
      refine held_more hK HS0.out hlt (Bc.out.alloc Bc.out.size _) (fun Bc hSn => ?_)
      have HL10 := Lib.hid (isLL_two Y2 _ _ n.path [j] HRPc.out HJ9.out)
      change wpAnyH _ _ _ _ _ _ _ _ (Y2.alloc (.cells #[(.slice xa n.path.length xc), .slice (some ⟨b9, 0, none⟩) 1 1] 28))
      have Bc2 := Lib.hid (show Below V.heap.size V (Y2.alloc (.cells #[(.slice xa n.path.length xc), .slice (some ⟨b9, 0, none⟩) 1 1] 28)) from Bc.out)
      clear Bc
      have Bc := Bc2
      clear Bc2
      change Holds _ (Y2.alloc (.cells #[(.slice xa n.path.length xc), .slice (some ⟨b9, 0, none⟩) 1 1] 28)) at hSn
      clear HRPc HJ9
      generalize Y2.alloc (.cells #[(.slice xa n.path.length xc), .slice (some ⟨b9, 0, none⟩) 1 1] 28) = Y3 at *
      obtain ⟨b10, hb10⟩ : ∃ b, b = Y2.heap.size := ⟨_, rfl⟩
      rw [← hb10] at HL10 ⊢
      clear hb10
      refine wpAnyH_ready (rs := [11]) (by kernel_rfl) (by simp) ?_
      refine AllReadyH.cons (o := ?oz243) ?iz243 (fun K hK => ?kz243) AllReadyH.nil
      case iz243 => (simp only [List.getElem?_toArray, List.getElem?_cons_zero, List.getElem?_cons_succ]; rfl)
      go_simp
      refine (concat_any HL10.out (by simp; have := HPL.out; omega)).mono ?_
      rw [HFL.out]
      rintro e w104 ⟨z, rfl, hz, hb⟩
      obtain ⟨za, zc, hz'⟩ := hz.shape
      obtain ⟨zl, hzl⟩ : ∃ zl, (n.path ++ [j]).length = zl := ⟨_, rfl⟩
      rw [hzl] at hz'
      subst hz'
      have HZ := Lib.hid (hz.less Bc.out.size)
      clear hzl
      refine held_more hK HS0.out hlt (Bc.out.trans (hb.mono Bc.out.size)) (fun Bc hSn => ?_)
      clear hK hb hz HL10
      refine tks [12] 1 rfl (by kernel_rfl) (fun _ _ _ _ h => h) (by assumption) (fun KT hKT => ?_)
      refine tkT (by (simp only [gA, gB, gC]; rfl)) (by rfl) (by (intro w hSw; (simp only [Holds] at hSw); go_simp <;> with_reducible rfl)) ?_
      simp only [Act.put, pA, pB, pC]
      refine hKT _ ?_
      clear KT hKT
      refine wpAnyH_ready (rs := [13]) (by kernel_rfl) (by simp) ?_
      refine (AllReadyH.cons (o := ?oz244) ?iz244 (fun K hK => ?kz244) AllReadyH.nil)
      case iz244 => (simp only [List.getElem?_toArray, List.getElem?_cons_zero, List.getElem?_cons_succ]; rfl)
      simp only [Act.put]
      rw [if_pos (by rfl)]
      have HA9 := Lib.hid (HA.out.later Bc.out)
      have HBX := Lib.hid (HBW.out.trans (Bc.out.mono HBW.out.size))
      refine wp_store_node (.tmp 6) (.tmp 31) (by rfl) (w.heap.size + 2) _ _ _ ⟨nextS I n.s j, es, za, zl, zc⟩ (by rfl) (by rfl) HA9.out ?_
      intro wE hE hbE hoE hgE
      have HE := Lib.hid hE
      have HZE := Lib.hid (HZ.out.keptB hgE HA9.out)
      have HBE := Lib.hid (HBX.out.trans (hbE _ (by omega)))
      have HCE := Lib.hid ((HC.out.later Bc.out).same (hoE _ (by omega)))
      have HTE := Lib.hid (show StB wE bt (nextS I n.s j) from (hoE bt (by have := HBT.out; omega)).trans (HT.out.later Bc.out))
      refine hK.out _ _ (Holds.app.2 ⟨HCE.out.holds, HTE.out.holds⟩) (fun hSn => ?_)
      clear hK hE hbE hoE hgE
      refine wpAnyH_done (by kernel_rfl) ?_ _
      have z0 := HE.out.c0
      have z1 := HE.out.c1
      have z2 := HE.out.c2
      have z3 := HE.out.c3
      have z4 := HE.out.c4
      have z5 := HE.out.c5
      have z6 := HE.out.c6
      have z7 := HE.out.c7
      have z8 := HE.out.c8
      have z9 := HE.out.c9
      go_wp2
      exact bodyPost_ret (v := nodeV (nextS I n.s j) es (.slice za zl zc)) (by simp [results, Tryz.results67, go_sem, z0, z1, z2, z3, z4, z5, z6, z7, z8, z9, nodeV, RawN.u]) rfl ⟨za, _, zc, by rw [HCH.out]; rfl, HZE.out.less HBW.out.size, HBE.out⟩
    · skip
      go_simp
      refine held_more hK HS0.out hlt (Bc.out.alloc Bc.out.size _) (fun Bc hSn => ?_)
      clear hK
      have HJ9 := Lib.hid (row_oneI Y1 j)
      have HS4n := Lib.hid (HS4.out.below ((Below.refl _ Y1).alloc (Nat.le_refl _) (.cells #[.int .i64 j] 3)))
      clear HS4
      have HS4 := HS4n
      clear HS4n
      change wpAnyH _ _ _ _ _ _ _ _ (Y1.alloc (.cells #[.int .i64 j] 3))
      have Bc2 := Lib.hid (show Below V.heap.size V (Y1.alloc (.cells #[.int .i64 j] 3)) from Bc.out)
      clear Bc
      have Bc := Bc2
      clear Bc2
      change Holds _ (Y1.alloc (.cells #[.int .i64 j] 3)) at hSn
      generalize Y1.alloc (.cells #[.int .i64 j] 3) = Y5 at *
      obtain ⟨b9, hb9⟩ : ∃ b, b = Y1.heap.size := ⟨_, rfl⟩
      rw [← hb9] at HJ9 ⊢
      clear hb9
      refine wpAnyH_ready (rs := [5, 10]) (by kernel_rfl) (by simp) ?_
      refine (AllReadyH.cons (o := ?oz245) ?iz245 (fun K hK => ?kz245) (AllReadyH.cons (o := ?oz246) ?iz246 (fun K hK => ?kz246) AllReadyH.nil))
      case iz245 => (simp only [List.getElem?_toArray, List.getElem?_cons_zero, List.getElem?_cons_succ]; rfl)
      case iz246 => (simp only [List.getElem?_toArray, List.getElem?_cons_zero, List.getElem?_cons_succ]; rfl)
      · skip
        go_simp
        refine (sum_any HS4.out).mono ?_
        rw [HSUM.out]
        rintro e w' ⟨rfl, rfl⟩
        refine held_more hK HS0.out hlt Bc.out (fun Bc hSn => ?_)
        clear hK HS4
        have HRPc := Lib.hid (HRP.out.below Bc.out)
        refine wpAnyH_ready (rs := [10]) (by kernel_rfl) (by simp) ?_
        refine AllReadyH.cons (o := ?oz247) ?iz247 (fun K hK => ?kz247) AllReadyH.nil
        case iz247 => (simp only [List.getElem?_toArray, List.getElem?_cons_zero, List.getElem?_cons_succ]; rfl)
        go_simp
        refine held_more hK HS0.out hlt (Bc.out.alloc Bc.out.size _) (fun Bc hSn => ?_)
        have HL10 := Lib.hid (isLL_two Y5 _ _ n.path [j] HRPc.out HJ9.out)
        change wpAnyH _ _ _ _ _ _ _ _ (Y5.alloc (.cells #[(.slice xa n.path.length xc), .slice (some ⟨b9, 0, none⟩) 1 1] 28))
        have Bc2 := Lib.hid (show Below V.heap.size V (Y5.alloc (.cells #[(.slice xa n.path.length xc), .slice (some ⟨b9, 0, none⟩) 1 1] 28)) from Bc.out)
        clear Bc
        have Bc := Bc2
        clear Bc2
        change Holds _ (Y5.alloc (.cells #[(.slice xa n.path.length xc), .slice (some ⟨b9, 0, none⟩) 1 1] 28)) at hSn
        clear HRPc HJ9
        generalize Y5.alloc (.cells #[(.slice xa n.path.length xc), .slice (some ⟨b9, 0, none⟩) 1 1] 28) = Y6 at *
        obtain ⟨b10, hb10⟩ : ∃ b, b = Y5.heap.size := ⟨_, rfl⟩
        rw [← hb10] at HL10 ⊢
        clear hb10
        refine wpAnyH_ready (rs := [11]) (by kernel_rfl) (by simp) ?_
        refine AllReadyH.cons (o := ?oz248) ?iz248 (fun K hK => ?kz248) AllReadyH.nil
        case iz248 => (simp only [List.getElem?_toArray, List.getElem?_cons_zero, List.getElem?_cons_succ]; rfl)
        go_simp
        refine (concat_any HL10.out (by simp; have := HPL.out; omega)).mono ?_
        rw [HFL.out]
        rintro e w107 ⟨z, rfl, hz, hb⟩
        obtain ⟨za, zc, hz'⟩ := hz.shape
        obtain ⟨zl, hzl⟩ : ∃ zl, (n.path ++ [j]).length = zl := ⟨_, rfl⟩
        rw [hzl] at hz'
        subst hz'
        have HZ := Lib.hid (hz.less Bc.out.size)
        clear hzl
        refine held_more hK HS0.out hlt (Bc.out.trans (hb.mono Bc.out.size)) (fun Bc hSn => ?_)
        clear hK hb hz HL10
        refine tks [12] 1 rfl (by kernel_rfl) (fun _ _ _ _ h => h) (by assumption) (fun KT hKT => ?_)
        refine tkT (by (simp only [gA, gB, gC]; rfl)) (by rfl) (by (intro w hSw; (simp only [Holds] at hSw); go_simp <;> with_reducible rfl)) ?_
        simp only [Act.put, pA, pB, pC]
        refine hKT _ ?_
        clear KT hKT
        refine wpAnyH_ready (rs := [13]) (by kernel_rfl) (by simp) ?_
        refine (AllReadyH.cons (o := ?oz249) ?iz249 (fun K hK => ?kz249) AllReadyH.nil)
        case iz249 => (simp only [List.getElem?_toArray, List.getElem?_cons_zero, List.getElem?_cons_succ]; rfl)
        simp only [Act.put]
        rw [if_pos (by rfl)]
        have HA9 := Lib.hid (HA.out.later Bc.out)
        have HBX := Lib.hid (HBW.out.trans (Bc.out.mono HBW.out.size))
        refine wp_store_node (.tmp 6) (.tmp 31) (by rfl) (w.heap.size + 2) _ _ _ ⟨nextS I n.s j, es, za, zl, zc⟩ (by rfl) (by rfl) HA9.out ?_
        intro wE hE hbE hoE hgE
        have HE := Lib.hid hE
        have HZE := Lib.hid (HZ.out.keptB hgE HA9.out)
        have HBE := Lib.hid (HBX.out.trans (hbE _ (by omega)))
        have HCE := Lib.hid ((HC.out.later Bc.out).same (hoE _ (by omega)))
        have HTE := Lib.hid (show StB wE bt (nextS I n.s j) from (hoE bt (by have := HBT.out; omega)).trans (HT.out.later Bc.out))
        refine hK.out _ _ (Holds.app.2 ⟨HCE.out.holds, HTE.out.holds⟩) (fun hSn => ?_)
        clear hK hE hbE hoE hgE
        refine wpAnyH_done (by kernel_rfl) ?_ _
        have z0 := HE.out.c0
        have z1 := HE.out.c1
        have z2 := HE.out.c2
        have z3 := HE.out.c3
        have z4 := HE.out.c4
        have z5 := HE.out.c5
        have z6 := HE.out.c6
        have z7 := HE.out.c7
        have z8 := HE.out.c8
        have z9 := HE.out.c9
        go_wp2
        exact bodyPost_ret (v := nodeV (nextS I n.s j) es (.slice za zl zc)) (by simp [results, Tryz.results67, go_sem, z0, z1, z2, z3, z4, z5, z6, z7, z8, z9, nodeV, RawN.u]) rfl ⟨za, _, zc, by rw [HCH.out]; rfl, HZE.out.less HBW.out.size, HBE.out⟩
      · skip
        have HRPc := Lib.hid (HRP.out.below Bc.out)
        go_simp
        refine held_more hK HS0.out hlt (Bc.out.alloc Bc.out.size _) (fun Bc hSn => ?_)
        clear hK
        have HL10 := Lib.hid (isLL_two Y5 _ _ n.path [j] HRPc.out HJ9.out)
        have HS4n := Lib.hid (HS4.out.below ((Below.refl _ Y5).alloc (Nat.le_refl _) (.cells #[(.slice xa n.path.length xc), .slice (some ⟨b9, 0, none⟩) 1 1] 28)))
        clear HS4
        have HS4 := HS4n
        clear HS4n
        change wpAnyH _ _ _ _ _ _ _ _ (Y5.alloc (.cells #[(.slice xa n.path.length xc), .slice (some ⟨b9, 0, none⟩) 1 1] 28))
        have Bc2 := Lib.hid (show Below V.heap.size V (Y5.alloc (.cells #[(.slice xa n.path.length xc), .slice (some ⟨b9, 0, none⟩) 1 1] 28)) from Bc.out)
        clear Bc
        have Bc := Bc2
        clear Bc2
        change Holds _ (Y5.alloc (.cells #[(.slice xa n.path.length xc), .slice (some ⟨b9, 0, none⟩) 1 1] 28)) at hSn
        clear HRPc HJ9
        generalize Y5.alloc (.cells #[(.slice xa n.path.length xc), .slice (some ⟨b9, 0, none⟩) 1 1] 28) = Y8 at *
        obtain ⟨b10, hb10⟩ : ∃ b, b = Y5.heap.size := ⟨_, rfl⟩
        rw [← hb10] at HL10 ⊢
        clear hb10
        refine wpAnyH_ready (rs := [5]) (by kernel_rfl) (by simp) ?_
        refine AllReadyH.cons (o := ?oz250) ?iz250 (fun K hK => ?kz250) AllReadyH.nil
        case iz250 => (simp only [List.getElem?_toArray, List.getElem?_cons_zero, List.getElem?_cons_succ]; rfl)
        go_simp
        refine (sum_any HS4.out).mono ?_
        rw [HSUM.out]
        rintro e w' ⟨rfl, rfl⟩
        refine held_more hK HS0.out hlt Bc.out (fun Bc hSn => ?_)
        clear hK HS4
        refine wpAnyH_ready (rs := [11]) (by kernel_rfl) (by simp) ?_
        refine AllReadyH.cons (o := ?oz251) ?iz251 (fun K hK => ?kz251) AllReadyH.nil
        case iz251 => (simp only [List.getElem?_toArray, List.getElem?_cons_zero, List.getElem?_cons_succ]; rfl)
        go_simp
        refine (concat_any HL10.out (by simp; have := HPL.out; omega)).mono ?_
        rw [HFL.out]
        rintro e w109 ⟨z, rfl, hz, hb⟩
        obtain ⟨za, zc, hz'⟩ := hz.shape
        obtain ⟨zl, hzl⟩ : ∃ zl, (n.path ++ [j]).length = zl := ⟨_, rfl⟩
        rw [hzl] at hz'
        subst hz'
        have HZ := Lib.hid (hz.less Bc.out.size)
        clear hzl
        refine held_more hK HS0.out hlt (Bc.out.trans (hb.mono Bc.out.size)) (fun Bc hSn => ?_)
        clear hK hb hz HL10
        refine tks [12] 1 rfl (by kernel_rfl) (fun _ _ _ _ h => h) (by assumption) (fun KT hKT => ?_)
        refine tkT (by (simp only [gA, gB, gC]; rfl)) (by rfl) (by (intro w hSw; (simp only [Holds] at hSw); go_simp <;> with_reducible rfl)) ?_
        simp only [Act.put, pA, pB, pC]
        refine hKT _ ?_
        clear KT hKT
        refine wpAnyH_ready (rs := [13]) (by kernel_rfl) (by simp) ?_
        refine (AllReadyH.cons (o := ?oz252) ?iz252 (fun K hK => ?kz252) AllReadyH.nil)
        case iz252 => (simp only [List.getElem?_toArray, List.getElem?_cons_zero, List.getElem?_cons_succ]; rfl)
        simp only [Act.put]
        rw [if_pos (by rfl)]
        have HA9 := Lib.hid (HA.out.later Bc.out)
        have HBX := Lib.hid (HBW.out.trans (Bc.out.mono HBW.out.size))
        refine wp_store_node (.tmp 6) (.tmp 31) (by rfl) (w.heap.size + 2) _ _ _ ⟨nextS I n.s j, es, za, zl, zc⟩ (by rfl) (by rfl) HA9.out ?_
        intro wE hE hbE hoE hgE
        have HE := Lib.hid hE
        have HZE := Lib.hid (HZ.out.keptB hgE HA9.out)
        have HBE := Lib.hid (HBX.out.trans (hbE _ (by omega)))
        have HCE := Lib.hid ((HC.out.later Bc.out).same (hoE _ (by omega)))
        have HTE := Lib.hid (show StB wE bt (nextS I n.s j) from (hoE bt (by have := HBT.out; omega)).trans (HT.out.later Bc.out))
        refine hK.out _ _ (Holds.app.2 ⟨HCE.out.holds, HTE.out.holds⟩) (fun hSn => ?_)
        clear hK hE hbE hoE hgE
        refine wpAnyH_done (by kernel_rfl) ?_ _
        have z0 := HE.out.c0
        have z1 := HE.out.c1
        have z2 := HE.out.c2
        have z3 := HE.out.c3
        have z4 := HE.out.c4
        have z5 := HE.out.c5
        have z6 := HE.out.c6
        have z7 := HE.out.c7
        have z8 := HE.out.c8
        have z9 := HE.out.c9
        go_wp2
        exact bodyPost_ret (v := nodeV (nextS I n.s j) es (.slice za zl zc)) (by simp [results, Tryz.results67, go_sem, z0, z1, z2, z3, z4, z5, z6, z7, z8, z9, nodeV, RawN.u]) rfl ⟨za, _, zc, by rw [HCH.out]; rfl, HZE.out.less HBW.out.size, HBE.out⟩
  · skip
    go_simp
    refine held_more hK HS0.out hlt (Bc.out.alloc Bc.out.size _) (fun Bc hSn => ?_)
    clear hK
    have HJ9 := Lib.hid (row_oneI V j)
    change wpAnyH _ _ _ _ _ _ _ _ (V.alloc (.cells #[.int .i64 j] 3))
    have Bc2 := Lib.hid (show Below V.heap.size V (V.alloc (.cells #[.int .i64 j] 3)) from Bc.out)
    clear Bc
    have Bc := Bc2
    clear Bc2
    change Holds _ (V.alloc (.cells #[.int .i64 j] 3)) at hSn
    generalize V.alloc (.cells #[.int .i64 j] 3) = Y10 at *
    obtain ⟨b9, hb9⟩ : ∃ b, b = V.heap.size := ⟨_, rfl⟩
    rw [← hb9] at HJ9 ⊢
    clear hb9
    refine wpAnyH_ready (rs := [4, 10]) (by kernel_rfl) (by simp) ?_
    refine (AllReadyH.cons (o := ?oz253) ?iz253 (fun K hK => ?kz253) (AllReadyH.cons (o := ?oz254) ?iz254 (fun K hK => ?kz254) AllReadyH.nil))
    case iz253 => (simp only [List.getElem?_toArray, List.getElem?_cons_zero, List.getElem?_cons_succ]; rfl)
    case iz254 => (simp only [List.getElem?_toArray, List.getElem?_cons_zero, List.getElem?_cons_succ]; rfl)
    · skip
      go_simp
      refine held_more hK HS0.out hlt (Bc.out.alloc Bc.out.size _) (fun Bc hSn => ?_)
      clear hK
      have HS4 := Lib.hid (row_two Y10 n.cost fr)
      have HJ9n := Lib.hid (HJ9.out.below ((Below.refl _ Y10).alloc (Nat.le_refl _) (.cells #[.int .i64 n.cost, .int .i64 fr] 3)))
      clear HJ9
      have HJ9 := HJ9n
      clear HJ9n
      change wpAnyH _ _ _ _ _ _ _ _ (Y10.alloc (.cells #[.int .i64 n.cost, .int .i64 fr] 3))
      have Bc2 := Lib.hid (show Below V.heap.size V (Y10.alloc (.cells #[.int .i64 n.cost, .int .i64 fr] 3)) from Bc.out)
      clear Bc
      have Bc := Bc2
      clear Bc2
      change Holds _ (Y10.alloc (.cells #[.int .i64 n.cost, .int .i64 fr] 3)) at hSn
      generalize Y10.alloc (.cells #[.int .i64 n.cost, .int .i64 fr] 3) = Y11 at *
      obtain ⟨b4, hb4⟩ : ∃ b, b = Y10.heap.size := ⟨_, rfl⟩
      rw [← hb4] at HS4 ⊢
      clear hb4
      refine wpAnyH_ready (rs := [5, 10]) (by kernel_rfl) (by simp) ?_
      refine (AllReadyH.cons (o := ?oz255) ?iz255 (fun K hK => ?kz255) (AllReadyH.cons (o := ?oz256) ?iz256 (fun K hK => ?kz256) AllReadyH.nil))
      case iz255 => (simp only [List.getElem?_toArray, List.getElem?_cons_zero, List.getElem?_cons_succ]; rfl)
      case iz256 => (simp only [List.getElem?_toArray, List.getElem?_cons_zero, List.getElem?_cons_succ]; rfl)
      · skip
        go_simp
        refine (sum_any HS4.out).mono ?_
        rw [HSUM.out]
        rintro e w' ⟨rfl, rfl⟩
        refine held_more hK HS0.out hlt Bc.out (fun Bc hSn => ?_)
        clear hK HS4
        have HRPc := Lib.hid (HRP.out.below Bc.out)
        refine wpAnyH_ready (rs := [10]) (by kernel_rfl) (by simp) ?_
        refine AllReadyH.cons (o := ?oz257) ?iz257 (fun K hK => ?kz257) AllReadyH.nil
        case iz257 => (simp only [List.getElem?_toArray, List.getElem?_cons_zero, List.getElem?_cons_succ]; rfl)
        go_simp
        refine held_more hK HS0.out hlt (Bc.out.alloc Bc.out.size _) (fun Bc hSn => ?_)
        have HL10 := Lib.hid (isLL_two Y11 _ _ n.path [j] HRPc.out HJ9.out)
        change wpAnyH _ _ _ _ _ _ _ _ (Y11.alloc (.cells #[(.slice xa n.path.length xc), .slice (some ⟨b9, 0, none⟩) 1 1] 28))
        have Bc2 := Lib.hid (show Below V.heap.size V (Y11.alloc (.cells #[(.slice xa n.path.length xc), .slice (some ⟨b9, 0, none⟩) 1 1] 28)) from Bc.out)
        clear Bc
        have Bc := Bc2
        clear Bc2
        change Holds _ (Y11.alloc (.cells #[(.slice xa n.path.length xc), .slice (some ⟨b9, 0, none⟩) 1 1] 28)) at hSn
        clear HRPc HJ9
        generalize Y11.alloc (.cells #[(.slice xa n.path.length xc), .slice (some ⟨b9, 0, none⟩) 1 1] 28) = Y12 at *
        obtain ⟨b10, hb10⟩ : ∃ b, b = Y11.heap.size := ⟨_, rfl⟩
        rw [← hb10] at HL10 ⊢
        clear hb10
        refine wpAnyH_ready (rs := [11]) (by kernel_rfl) (by simp) ?_
        refine AllReadyH.cons (o := ?oz258) ?iz258 (fun K hK => ?kz258) AllReadyH.nil
        case iz258 => (simp only [List.getElem?_toArray, List.getElem?_cons_zero, List.getElem?_cons_succ]; rfl)
        go_simp
        refine (concat_any HL10.out (by simp; have := HPL.out; omega)).mono ?_
        rw [HFL.out]
        rintro e w113 ⟨z, rfl, hz, hb⟩
        obtain ⟨za, zc, hz'⟩ := hz.shape
        obtain ⟨zl, hzl⟩ : ∃ zl, (n.path ++ [j]).length = zl := ⟨_, rfl⟩
        rw [hzl] at hz'
        subst hz'
        have HZ := Lib.hid (hz.less Bc.out.size)
        clear hzl
        refine held_more hK HS0.out hlt (Bc.out.trans (hb.mono Bc.out.size)) (fun Bc hSn => ?_)
        clear hK hb hz HL10
        refine tks [12] 1 rfl (by kernel_rfl) (fun _ _ _ _ h => h) (by assumption) (fun KT hKT => ?_)
        refine tkT (by (simp only [gA, gB, gC]; rfl)) (by rfl) (by (intro w hSw; (simp only [Holds] at hSw); go_simp <;> with_reducible rfl)) ?_
        simp only [Act.put, pA, pB, pC]
        refine hKT _ ?_
        clear KT hKT
        refine wpAnyH_ready (rs := [13]) (by kernel_rfl) (by simp) ?_
        refine (AllReadyH.cons (o := ?oz259) ?iz259 (fun K hK => ?kz259) AllReadyH.nil)
        case iz259 => (simp only [List.getElem?_toArray, List.getElem?_cons_zero, List.getElem?_cons_succ]; rfl)
        simp only [Act.put]
        rw [if_pos (by rfl)]
        have HA9 := Lib.hid (HA.out.later Bc.out)
        have HBX := Lib.hid (HBW.out.trans (Bc.out.mono HBW.out.size))
        refine wp_store_node (.tmp 6) (.tmp 31) (by rfl) (w.heap.size + 2) _ _ _ ⟨nextS I n.s j, es, za, zl, zc⟩ (by rfl) (by rfl) HA9.out ?_
        intro wE hE hbE hoE hgE
        have HE := Lib.hid hE
        have HZE := Lib.hid (HZ.out.keptB hgE HA9.out)
        have HBE := Lib.hid (HBX.out.trans (hbE _ (by omega)))
        have HCE := Lib.hid ((HC.out.later Bc.out).same (hoE _ (by omega)))
        have HTE := Lib.hid (show StB wE bt (nextS I n.s j) from (hoE bt (by have := HBT.out; omega)).trans (HT.out.later Bc.out))
        refine hK.out _ _ (Holds.app.2 ⟨HCE.out.holds, HTE.out.holds⟩) (fun hSn => ?_)
        clear hK hE hbE hoE hgE
        refine wpAnyH_done (by kernel_rfl) ?_ _
        have z0 := HE.out.c0
        have z1 := HE.out.c1
        have z2 := HE.out.c2
        have z3 := HE.out.c3
        have z4 := HE.out.c4
        have z5 := HE.out.c5
        have z6 := HE.out.c6
        have z7 := HE.out.c7
        have z8 := HE.out.c8
        have z9 := HE.out.c9
        go_wp2
        exact bodyPost_ret (v := nodeV (nextS I n.s j) es (.slice za zl zc)) (by simp [results, Tryz.results67, go_sem, z0, z1, z2, z3, z4, z5, z6, z7, z8, z9, nodeV, RawN.u]) rfl ⟨za, _, zc, by rw [HCH.out]; rfl, HZE.out.less HBW.out.size, HBE.out⟩
      · skip
        have HRPc := Lib.hid (HRP.out.below Bc.out)
        go_simp
        refine held_more hK HS0.out hlt (Bc.out.alloc Bc.out.size _) (fun Bc hSn => ?_)
        clear hK
        have HL10 := Lib.hid (isLL_two Y11 _ _ n.path [j] HRPc.out HJ9.out)
        have HS4n := Lib.hid (HS4.out.below ((Below.refl _ Y11).alloc (Nat.le_refl _) (.cells #[(.slice xa n.path.length xc), .slice (some ⟨b9, 0, none⟩) 1 1] 28)))
        clear HS4
        have HS4 := HS4n
        clear HS4n
        change wpAnyH _ _ _ _ _ _ _ _ (Y11.alloc (.cells #[(.slice xa n.path.length xc), .slice (some ⟨b9, 0, none⟩) 1 1] 28))
        have Bc2 := Lib.hid (show Below V.heap.size V (Y11.alloc (.cells #[(.slice xa n.path.length xc), .slice (some ⟨b9, 0, none⟩) 1 1] 28)) from Bc.out)
        clear Bc
        have Bc := Bc2
        clear Bc2
        change Holds _ (Y11.alloc (.cells #[(.slice xa n.path.length xc), .slice (some ⟨b9, 0, none⟩) 1 1] 28)) at hSn
        clear HRPc HJ9
        generalize Y11.alloc (.cells #[(.slice xa n.path.length xc), .slice (some ⟨b9, 0, none⟩) 1 1] 28) = Y14 at *
        obtain ⟨b10, hb10⟩ : ∃ b, b = Y11.heap.size := ⟨_, rfl⟩
        rw [← hb10] at HL10 ⊢
        clear hb10
        refine wpAnyH_ready (rs := [5]) (by kernel_rfl) (by simp) ?_
        refine AllReadyH.cons (o := ?oz260) ?iz260 (fun K hK => ?kz260) AllReadyH.nil
        case iz260 => (simp only [List.getElem?_toArray, List.getElem?_cons_zero, List.getElem?_cons_succ]; rfl)
        go_simp
        refine (sum_any HS4.out).mono ?_
        rw [HSUM.out]
        rintro e w' ⟨rfl, rfl⟩
        refine held_more hK HS0.out hlt Bc.out (fun Bc hSn => ?_)
        clear hK HS4
        refine wpAnyH_ready (rs := [11]) (by kernel_rfl) (by simp) ?_
        refine AllReadyH.cons (o := ?oz261) ?iz261 (fun K hK => ?kz261) AllReadyH.nil
        case iz261 => (simp only [List.getElem?_toArray, List.getElem?_cons_zero, List.getElem?_cons_succ]; rfl)
        go_simp
        refine (concat_any HL10.out (by simp; have := HPL.out; omega)).mono ?_
        rw [HFL.out]
        rintro e w115 ⟨z, rfl, hz, hb⟩
        obtain ⟨za, zc, hz'⟩ := hz.shape
        obtain ⟨zl, hzl⟩ : ∃ zl, (n.path ++ [j]).length = zl := ⟨_, rfl⟩
        rw [hzl] at hz'
        subst hz'
        have HZ := Lib.hid (hz.less Bc.out.size)
        clear hzl
        refine held_more hK HS0.out hlt (Bc.out.trans (hb.mono Bc.out.size)) (fun Bc hSn => ?_)
        clear hK hb hz HL10
        refine tks [12] 1 rfl (by kernel_rfl) (fun _ _ _ _ h => h) (by assumption) (fun KT hKT => ?_)
        refine tkT (by (simp only [gA, gB, gC]; rfl)) (by rfl) (by (intro w hSw; (simp only [Holds] at hSw); go_simp <;> with_reducible rfl)) ?_
        simp only [Act.put, pA, pB, pC]
        refine hKT _ ?_
        clear KT hKT
        refine wpAnyH_ready (rs := [13]) (by kernel_rfl) (by simp) ?_
        refine (AllReadyH.cons (o := ?oz262) ?iz262 (fun K hK => ?kz262) AllReadyH.nil)
        case iz262 => (simp only [List.getElem?_toArray, List.getElem?_cons_zero, List.getElem?_cons_succ]; rfl)
        simp only [Act.put]
        rw [if_pos (by rfl)]
        have HA9 := Lib.hid (HA.out.later Bc.out)
        have HBX := Lib.hid (HBW.out.trans (Bc.out.mono HBW.out.size))
        refine wp_store_node (.tmp 6) (.tmp 31) (by rfl) (w.heap.size + 2) _ _ _ ⟨nextS I n.s j, es, za, zl, zc⟩ (by rfl) (by rfl) HA9.out ?_
        intro wE hE hbE hoE hgE
        have HE := Lib.hid hE
        have HZE := Lib.hid (HZ.out.keptB hgE HA9.out)
        have HBE := Lib.hid (HBX.out.trans (hbE _ (by omega)))
        have HCE := Lib.hid ((HC.out.later Bc.out).same (hoE _ (by omega)))
        have HTE := Lib.hid (show StB wE bt (nextS I n.s j) from (hoE bt (by have := HBT.out; omega)).trans (HT.out.later Bc.out))
        refine hK.out _ _ (Holds.app.2 ⟨HCE.out.holds, HTE.out.holds⟩) (fun hSn => ?_)
        clear hK hE hbE hoE hgE
        refine wpAnyH_done (by kernel_rfl) ?_ _
        have z0 := HE.out.c0
        have z1 := HE.out.c1
        have z2 := HE.out.c2
        have z3 := HE.out.c3
        have z4 := HE.out.c4
        have z5 := HE.out.c5
        have z6 := HE.out.c6
        have z7 := HE.out.c7
        have z8 := HE.out.c8
        have z9 := HE.out.c9
        go_wp2
        exact bodyPost_ret (v := nodeV (nextS I n.s j) es (.slice za zl zc)) (by simp [results, Tryz.results67, go_sem, z0, z1, z2, z3, z4, z5, z6, z7, z8, z9, nodeV, RawN.u]) rfl ⟨za, _, zc, by rw [HCH.out]; rfl, HZE.out.less HBW.out.size, HBE.out⟩
    · skip
      have HRPc := Lib.hid (HRP.out.below Bc.out)
      go_simp
      refine held_more hK HS0.out hlt (Bc.out.alloc Bc.out.size _) (fun Bc hSn => ?_)
      clear hK
      have HL10 := Lib.hid (isLL_two Y10 _ _ n.path [j] HRPc.out HJ9.out)
      change wpAnyH _ _ _ _ _ _ _ _ (Y10.alloc (.cells #[(.slice xa n.path.length xc), .slice (some ⟨b9, 0, none⟩) 1 1] 28))
      have Bc2 := Lib.hid (show Below V.heap.size V (Y10.alloc (.cells #[(.slice xa n.path.length xc), .slice (some ⟨b9, 0, none⟩) 1 1] 28)) from Bc.out)
      clear Bc
      have Bc := Bc2
      clear Bc2
      change Holds _ (Y10.alloc (.cells #[(.slice xa n.path.length xc), .slice (some ⟨b9, 0, none⟩) 1 1] 28)) at hSn
      clear HRPc HJ9
      generalize Y10.alloc (.cells #[(.slice xa n.path.length xc), .slice (some ⟨b9, 0, none⟩) 1 1] 28) = Y16 at *
      obtain ⟨b10, hb10⟩ : ∃ b, b = Y10.heap.size := ⟨_, rfl⟩
      rw [← hb10] at HL10 ⊢
      clear hb10
      refine wpAnyH_ready (rs := [4]) (by kernel_rfl) (by simp) ?_
      refine AllReadyH.cons (o := ?oz263) ?iz263 (fun K hK => ?kz263) AllReadyH.nil
      case iz263 => (simp only [List.getElem?_toArray, List.getElem?_cons_zero, List.getElem?_cons_succ]; rfl)
      go_simp
      refine held_more hK HS0.out hlt (Bc.out.alloc Bc.out.size _) (fun Bc hSn => ?_)
      have HS4 := Lib.hid (row_two Y16 n.cost fr)
      have HL10n := Lib.hid (HL10.out.below ((Below.refl _ Y16).alloc (Nat.le_refl _) (.cells #[.int .i64 n.cost, .int .i64 fr] 3)))
      clear HL10
      have HL10 := HL10n
      clear HL10n
      change wpAnyH _ _ _ _ _ _ _ _ (Y16.alloc (.cells #[.int .i64 n.cost, .int .i64 fr] 3))
      have Bc2 := Lib.hid (show Below V.heap.size V (Y16.alloc (.cells #[.int .i64 n.cost, .int .i64 fr] 3)) from Bc.out)
      clear Bc
      have Bc := Bc2
      clear Bc2
      change Holds _ (Y16.alloc (.cells #[.int .i64 n.cost, .int .i64 fr] 3)) at hSn
      generalize Y16.alloc (.cells #[.int .i64 n.cost, .int .i64 fr] 3) = Y17 at *
      obtain ⟨b4, hb4⟩ : ∃ b, b = Y16.heap.size := ⟨_, rfl⟩
      rw [← hb4] at HS4 ⊢
      clear hb4
      refine wpAnyH_ready (rs := [5]) (by kernel_rfl) (by simp) ?_
      refine AllReadyH.cons (o := ?oz264) ?iz264 (fun K hK => ?kz264) AllReadyH.nil
      case iz264 => (simp only [List.getElem?_toArray, List.getElem?_cons_zero, List.getElem?_cons_succ]; rfl)
      go_simp
      refine (sum_any HS4.out).mono ?_
      rw [HSUM.out]
      rintro e w' ⟨rfl, rfl⟩
      refine held_more hK HS0.out hlt Bc.out (fun Bc hSn => ?_)
      clear hK HS4
      refine wpAnyH_ready (rs := [11]) (by kernel_rfl) (by simp) ?_
      refine AllReadyH.cons (o := ?oz265) ?iz265 (fun K hK => ?kz265) AllReadyH.nil
      case iz265 => (simp only [List.getElem?_toArray, List.getElem?_cons_zero, List.getElem?_cons_succ]; rfl)
      go_simp
      refine (concat_any HL10.out (by simp; have := HPL.out; omega)).mono ?_
      rw [HFL.out]
      rintro e w118 ⟨z, rfl, hz, hb⟩
      obtain ⟨za, zc, hz'⟩ := hz.shape
      obtain ⟨zl, hzl⟩ : ∃ zl, (n.path ++ [j]).length = zl := ⟨_, rfl⟩
      rw [hzl] at hz'
      subst hz'
      have HZ := Lib.hid (hz.less Bc.out.size)
      clear hzl
      refine held_more hK HS0.out hlt (Bc.out.trans (hb.mono Bc.out.size)) (fun Bc hSn => ?_)
      clear hK hb hz HL10
      refine tks [12] 1 rfl (by kernel_rfl) (fun _ _ _ _ h => h) (by assumption) (fun KT hKT => ?_)
      refine tkT (by (simp only [gA, gB, gC]; rfl)) (by rfl) (by (intro w hSw; (simp only [Holds] at hSw); go_simp <;> with_reducible rfl)) ?_
      simp only [Act.put, pA, pB, pC]
      refine hKT _ ?_
      clear KT hKT
      refine wpAnyH_ready (rs := [13]) (by kernel_rfl) (by simp) ?_
      refine (AllReadyH.cons (o := ?oz266) ?iz266 (fun K hK => ?kz266) AllReadyH.nil)
      case iz266 => (simp only [List.getElem?_toArray, List.getElem?_cons_zero, List.getElem?_cons_succ]; rfl)
      simp only [Act.put]
      rw [if_pos (by rfl)]
      have HA9 := Lib.hid (HA.out.later Bc.out)
      have HBX := Lib.hid (HBW.out.trans (Bc.out.mono HBW.out.size))
      refine wp_store_node (.tmp 6) (.tmp 31) (by rfl) (w.heap.size + 2) _ _ _ ⟨nextS I n.s j, es, za, zl, zc⟩ (by rfl) (by rfl) HA9.out ?_
      intro wE hE hbE hoE hgE
      have HE := Lib.hid hE
      have HZE := Lib.hid (HZ.out.keptB hgE HA9.out)
      have HBE := Lib.hid (HBX.out.trans (hbE _ (by omega)))
      have HCE := Lib.hid ((HC.out.later Bc.out).same (hoE _ (by omega)))
      have HTE := Lib.hid (show StB wE bt (nextS I n.s j) from (hoE bt (by have := HBT.out; omega)).trans (HT.out.later Bc.out))
      refine hK.out _ _ (Holds.app.2 ⟨HCE.out.holds, HTE.out.holds⟩) (fun hSn => ?_)
      clear hK hE hbE hoE hgE
      refine wpAnyH_done (by kernel_rfl) ?_ _
      have z0 := HE.out.c0
      have z1 := HE.out.c1
      have z2 := HE.out.c2
      have z3 := HE.out.c3
      have z4 := HE.out.c4
      have z5 := HE.out.c5
      have z6 := HE.out.c6
      have z7 := HE.out.c7
      have z8 := HE.out.c8
      have z9 := HE.out.c9
      go_wp2
      exact bodyPost_ret (v := nodeV (nextS I n.s j) es (.slice za zl zc)) (by simp [results, Tryz.results67, go_sem, z0, z1, z2, z3, z4, z5, z6, z7, z8, z9, nodeV, RawN.u]) rfl ⟨za, _, zc, by rw [HCH.out]; rfl, HZE.out.less HBW.out.size, HBE.out⟩
attribute [local go_sem] Oper.semAt_some

theorem next_fit {I : Ins} {s : Sta} {j : Int} (h : Can I s j) (hf : FitSt s) : FitSt (nextS I s j) := by
  have hF := fine_of h.1.1
  have hp1 := hF.p1
  have hp0 := hF.p0
  obtain ⟨g1, g2, g3, g4⟩ := goOn_bd h.1
  have hr := can_rng h
  have hok := hF.ok j hr.1 hr.2
  have hok0 := hF.ok 0 (by omega) (by omega)
  have hfar : 0 ≤ farF (stp I s.pos) (stp I j) := (farF_bd _ _).1
  unfold stopOk at hok hok0
  simp only [Bool.and_eq_true, inb_iff] at hok hok0
  obtain ⟨f1, f2, f3, f4, f5⟩ := hf
  by_cases hj : j = 0
  · subst hj
    rw [next_home]
    have h0 : (nth I.l 0).r = (stp I 0).r := rfl
    refine ⟨?_, ?_, ?_, ?_, f5⟩ <;> unfold Fit <;> simp only [homeS] <;> omega
  · rw [next_visit hj]
    have hd : -1000 ≤ (stp I j).d ∧ (stp I j).d ≤ 1000 := by
      by_cases hc : j ≤ I.p
      · have := hF.take j (by omega) hc
        omega
      · have h1 := hF.bring j (by omega) hr.2
        have h2 := hF.take (j - I.p) (by omega) (by omega)
        omega
    have hu : begS I s j ≤ (stp I j).u := by
      rcases h.2 with h | h | h
      · exact h.2.2.2.1
      · exact h.2.2.2.2
      · exact absurd h.1 hj
    have hb : 0 ≤ begS I s j := by unfold begS comeS; omega
    have hfi : Fit (if s.pos = 0 then j else s.first) := by
      split
      · unfold Fit; omega
      · exact f5
    refine ⟨?_, ?_, ?_, ?_, hfi⟩ <;> unfold Fit <;> simp only [visitS] <;> omega
theorem OwnI.turn {w w' : World} {B : Nat} {v : Value} {l : List Int} {A A' : Nat → Prop} (h : OwnI w B v l) (hT : Turn A A' w w') (hn : ∀ g, v.ownBlock = some g → ¬ A g) : OwnI w' B v l := by
  refine ⟨h.1, h.2.imp id ?_⟩
  rintro ⟨g, cap, cur, rfl, hB, hg, rest⟩
  exact ⟨g, cap, cur, rfl, hB, (hT.same g (Array.getElem?_eq_some_iff.1 hg).1 (hn g rfl)).trans hg, rest⟩
theorem NodB.turn {w w' : World} {b : Nat} {s : Sta} {c : Int} {v : Value} {A A' : Nat → Prop} (h : NodB w b s c v) (hT : Turn A A' w w') (hn : ¬ A b) : NodB w' b s c v := (hT.same b h.lt hn).trans h
theorem Turn.not {A A' : Nat → Prop} {w w' : World} (hT : Turn A A' w w') {b : Nat} (hb : b < w.heap.size) (hn : ¬ A b) : ¬ A' b := fun h => (hT.names b h).elim hn (fun h => by omega)
theorem children_any (I : Ins) (v : Value) (a : Option Addr) (k c : Nat) (w : World) :
    Calls Tryz.prog 42 #[insV I v, .slice a k c] w fun e w' => e = .returned (.func (.func 65) #[] #[.pointer (some ⟨w.heap.size + 1, 0, none⟩), .pointer (some ⟨w.heap.size, 0, none⟩)]) ∧ (w.alloc (boxI I v)).alloc (.cells #[.slice a k c] 35) = w' := by
  unfold insV
  go_enter Tryz.func42, Tryz.ntmps42
  go_wp2
  go_ret
  exact ⟨by simp, rfl⟩
theorem kids_all (I : Ins) (l : List Nod) : ∀ k, k ≤ l.length → ((l.take k).flatMap (kidsN I)).length ≤ 33 * k
  | 0, _ => by simp
  | k + 1, h => by
    rw [take_at (by omega), List.flatMap_append, List.length_append]
    have h1 := kids_all I l k (by omega)
    have h2 := moves_len I (nodAt l k).s
    have h3 : ([nodAt l k].flatMap (kidsN I)).length = (movesS I (nodAt l k).s).length := by simp [kidsN]
    omega
set_option maxRecDepth 1000000 in
set_option maxHeartbeats 4000000 in
theorem children_seq {w0 w : World} {v u : Value} {I : Ins} {l : List Nod} {BI BL : Nat} (hi : SRow w v I.l) (hy : YBox w BI I v) (hbl : Boxed w BL 35 u) (h : NRowB w0 w u l) (hb0 : Below w0.heap.size w0 w) (hok : NodesOk l) (hlen : l.length ≤ 30000) :
    SeqA Tryz.prog 65 #[.pointer (some ⟨BL, 0, none⟩), .pointer (some ⟨BI, 0, none⟩)] encEl (ElOk w0) (fun xs => xs.map elN = l.flatMap (kidsN I)) (33 * l.length) w := by
  intro n l' J A0 W hn hW hJ hA hY h0
  have HYD := Lib.hid hY
  have HA := Lib.hid hA
  have HJ := Lib.hid hJ
  have HOK := Lib.hid hok
  have HR := Lib.hid h
  have HI := Lib.hid hi
  have HBY := Lib.hid hy
  have HW := Lib.hid hW
  have HW0 := Lib.hid hb0
  have H0 := Lib.hid h0
  have HLE := Lib.hid hlen
  obtain ⟨ad, cap, rfl, _⟩ := hi.form
  obtain ⟨va, vc, rfl, _⟩ := h.form
  have hl63 : l.length ≤ 9223372036854775807 := by omega
  have b0 := (show Boxed W BL 35 _ from (hW.block BL hbl.lt).trans hbl).cell
  clear hY hA hJ hok h hbl hy hi hW h0 hb0 hlen
  refine callsIn_of_wp Tryz.func65 rfl trivial ?_ rfl
  simp only [Tryz.ntmps65, List.size_toArray, List.length_cons, List.length_nil, Nat.reduceAdd, Nat.reduceSub, Array.replicate_succ, Array.replicate_zero, List.push_toArray, List.append_toArray, List.nil_append, List.cons_append]
  gi_wp2_with fail
  gi_loopw [10] (fun i wr => ∃ (k : Nat) (pre : List El) (A : Nat → Prop), k ≤ l.length ∧ i = .int .i64 (k : Int) ∧ pre.map elN = (l.take k).flatMap (kidsN I) ∧ J (pre, A) wr ∧ Below w.heap.size w wr) (fun i _ => l.length - (intOf i).toNat)
  case atStart => exact ⟨0, [], A0, Nat.zero_le _, rfl, rfl, H0.out, HW.out⟩
  case round =>
    obtain ⟨k, pre, A, hk, rfl, hpre, hJr, hbr⟩ := hrel
    have HPR := Lib.hid hpre
    have HJR := Lib.hid hJr
    have HBR := Lib.hid hbr
    clear hpre hJr hbr b0
    by_cases hlt : k < l.length
    rotate_left
    · have HKE := Lib.hid (show k = l.length by omega)
      clear hk
      gi_wp2
      go_end0
      refine ⟨⟨_, rfl⟩, pre, A, ?_, HJR.out⟩
      rw [HPR.out, HKE.out, List.take_length]
    obtain ⟨b1, o1, pa, pc, ha, hn1, hl1, hr1⟩ := nrowB_at HR.out k _ (nodAt_is hlt)
    subst ha
    obtain ⟨c0, c1, c2, c3, c4, c5, c6, c7, c8, c9⟩ := hn1.below hl1 HBR.out
    have HK := Lib.hid hlt
    have hki : (k : Int) < (l.length : Int) := by omega
    have hk2 : IntKind.i64.wrap ((k : Int) + 1) = (k : Int) + 1 := IntWalk.i64_in _ (by omega)
    have HT := Lib.hid (take_at hlt)
    have HNO := Lib.hid (HOK.out _ (nodAt_mem hlt))
    have HKA := Lib.hid (kids_all I l k (by omega))
    have HX := Lib.hid hr1
    obtain ⟨x, hx⟩ : ∃ x, nodAt l k = x := ⟨_, rfl⟩
    rw [hx] at c0 c1 c2 c3 c4 c5 c6 c7 c8 c9 HX HT HNO
    clear hk hlt hn1 hl1 hr1 hx
    gi_upto_region 3 with fail
    clear c0 c1 c2 c3 c4 c5 c6 c7 c8 c9
    have HND := Lib.hid (nod_new wr x.s x.cost (.slice pa x.path.length pc))
    have hal : Below wr.heap.size wr (wr.alloc (boxN x.s x.cost (.slice pa x.path.length pc))) := (Below.refl _ wr).alloc (Nat.le_refl _) _
    have HJ2 := Lib.hid (OwnFrom.below HJ.out HJR.out hal)
    have HNA := Lib.hid (show ¬ A wr.heap.size from fun h => by have := (HA.out _ _ HJR.out _ h).2; omega)
    have HB2 := Lib.hid (HBR.out.trans (hal.mono HBR.out.size))
    clear hal HJR HBR
    change Code.wpIn _ _ _ _ _ _ (wr.alloc (boxN x.s x.cost (.slice pa x.path.length pc)))
    generalize wr.alloc (boxN x.s x.cost (.slice pa x.path.length pc)) = W2 at *
    generalize wr.heap.size = bn at *
    have HYB := Lib.hid (HBY.out.below HBY.out.lt HB2.out)
    obtain ⟨y0, y1, y2, y3⟩ := HYB.out.cells
    have x0 := HND.out.c0
    have x1 := HND.out.c1
    have x2 := HND.out.c2
    have x3 := HND.out.c3
    have x4 := HND.out.c4
    have x5 := HND.out.c5
    have x6 := HND.out.c6
    have x7 := HND.out.c7
    have x8 := HND.out.c8
    have x9 := HND.out.c9
    gi_wp2_with fail
    clear y0 y1 y2 y3
    clear x0 x1 x2 x3 x4 x5 x6 x7 x8 x9
    refine ⟨trivial, ?_⟩
    change CallsIn _ _ _ _ #[insV I (.slice ad I.l.length cap), staV x.s] _ _
    refine (callsIn_wide.2 (smoves_any (I := I) (s := x.s) (HI.out.below HB2.out) HNO.out.1)).mono ?_
    rintro e w3 ⟨mu, rfl, hmu, hb⟩
    obtain ⟨ma, mc, rfl⟩ := hmu.shape
    have HMA := Lib.hid (show ∀ g, (Value.slice ma (movesS I x.s).length mc).ownBlock = some g → ¬ A g from fun g hg h => by
      have h1 := (hmu.lt g hg).1
      have h2 := (HA.out _ _ HJ2.out g h).2
      omega)
    have HMV := Lib.hid hmu
    have HJ3 := Lib.hid (OwnFrom.below HJ.out HJ2.out hb)
    have HND3 := Lib.hid (HND.out.later hb)
    have HB3 := Lib.hid (HB2.out.trans (hb.mono HB2.out.size))
    have HCJ := Lib.hid (fun j (hj : j ∈ movesS I x.s) => mem_moves.1 hj)
    have HML := Lib.hid (moves_len I x.s)
    have HKN := Lib.hid (show kidsN I x = (movesS I x.s).map (childN I x) from rfl)
    obtain ⟨BM, hBM⟩ : ∃ B, W2.heap.size = B := ⟨_, rfl⟩
    rw [hBM] at HMV
    clear hb hmu HYB HND HJ2 HB2 hBM
    obtain ⟨MS, hMS⟩ : ∃ MS, movesS I x.s = MS := ⟨_, rfl⟩
    rw [hMS] at HMA HMV HCJ HML HKN ⊢
    clear hMS
    have hml : MS.length ≤ 9223372036854775807 := by have := HML.out; omega
    gi_wp2_with fail
    gi_loopw [19] (fun i wq => ∃ (m : Nat) (pre' : List El) (A' : Nat → Prop), m ≤ MS.length ∧ i = .int .i64 (m : Int) ∧ pre'.map elN = (l.take k).flatMap (kidsN I) ++ (MS.take m).map (childN I x) ∧ J (pre', A') wq ∧ Below w.heap.size w wq ∧ NodB wq bn x.s x.cost (.slice pa x.path.length pc) ∧ ¬ A' bn ∧ OwnI wq BM (.slice ma MS.length mc) MS ∧ (∀ g, (Value.slice ma MS.length mc).ownBlock = some g → ¬ A' g)) (fun i _ => MS.length - (intOf i).toNat)
    case atStart => exact ⟨0, pre, A, Nat.zero_le _, rfl, by rw [HPR.out]; simp, HJ3.out, HB3.out, HND3.out, HNA.out, HMV.out, HMA.out⟩
    case round =>
      obtain ⟨m, pre2, A2, hm, rfl, hp2, hj2, hb2, hn2, hna2, hm2, hma2⟩ := hrel
      clear HJ3 HB3 HND3 HNA HMV HMA HPR
      have HPR := Lib.hid hp2
      have HJ3 := Lib.hid hj2
      have HB3 := Lib.hid hb2
      have HND3 := Lib.hid hn2
      have HNA := Lib.hid hna2
      have HMV := Lib.hid hm2
      have HMA := Lib.hid hma2
      clear hp2 hj2 hb2 hn2 hna2 hm2 hma2
      obtain ⟨WQ, hWQ⟩ : ∃ W, wr = W := ⟨_, rfl⟩
      rw [hWQ] at HJ3 HB3 HND3 HMV ⊢
      clear hWQ
      by_cases hlt : m < MS.length
      rotate_left
      · have HME := Lib.hid (show m = MS.length by omega)
        clear hm
        gi_wp2_with fail
        go_roundw
        case rel => exact ⟨k + 1, pre2, A2, by have := HK.out; omega, by go_num, by rw [HPR.out, HT.out, HME.out, List.take_length, List.flatMap_append, List.flatMap_cons, List.flatMap_nil, List.append_nil, HKN.out], HJ3.out, HB3.out⟩
        case measure => have := HK.out; simp [intOf]; omega
      have HM := Lib.hid hlt
      obtain ⟨tb, tq, hta, htc, htl⟩ := row_cell HMV.out.row m (by rw [ints_len]; exact hlt)
      subst hta
      rw [ints_at _ _ hlt] at htc
      have HCN := Lib.hid (HCJ.out (MS.getD m 0) (by
        rw [List.getD_eq_getElem?_getD, List.getElem?_eq_getElem hlt]
        exact List.getElem_mem hlt))
      have HTM := Lib.hid (show MS.take (m + 1) = MS.take m ++ [MS.getD m 0] by
        rw [List.take_succ_eq_append_getElem hlt, List.getD_eq_getElem?_getD, List.getElem?_eq_getElem hlt]; rfl)
      have hmi : (m : Int) < (MS.length : Int) := by omega
      have hm2 : IntKind.i64.wrap ((m : Int) + 1) = (m : Int) + 1 := IntWalk.i64_in _ (by omega)
      have HP2 := Lib.hid (show pre2.length < 33 * l.length by
        have h1 := congrArg List.length HPR.out
        rw [List.length_map, List.length_append, List.length_map, List.length_take] at h1
        have h2 := HKA.out
        have h3 := HML.out
        have h4 := HK.out
        omega)
      obtain ⟨j, hj⟩ : ∃ j, MS.getD m 0 = j := ⟨_, rfl⟩
      rw [hj] at htc HCN HTM
      have HYB := Lib.hid (HBY.out.below HBY.out.lt HB3.out)
      obtain ⟨y0, y1, y2, y3⟩ := HYB.out.cells
      have x0 := HND3.out.c0
      have x1 := HND3.out.c1
      have x2 := HND3.out.c2
      have x3 := HND3.out.c3
      have x4 := HND3.out.c4
      have x5 := HND3.out.c5
      have x6 := HND3.out.c6
      have x7 := HND3.out.c7
      have x8 := HND3.out.c8
      have x9 := HND3.out.c9
      clear hm hlt hj htl
      gi_wp2_with fail
      clear y0 y1 y2 y3 htc
      clear x0 x1 x2 x3 x4 x5 x6 x7 x8 x9
      refine ⟨trivial, ?_⟩
      change CallsIn _ _ _ _ #[insV I (.slice ad I.l.length cap), nodeV x.s x.cost (.slice pa x.path.length pc), .int .i64 j] _ _
      refine (callsIn_wide.2 (lbehind_any (I := I) (n := x) (j := j) (HI.out.below HB3.out) HNO.out.1 ((HX.out.below HB3.out).row (HW0.out.trans (HB3.out.mono HW0.out.size))) HCN.out (by have := HNO.out.2.2.2; omega))).mono ?_
      rintro e w5 ⟨qa, qn, qc, rfl, hq, hb⟩
      have HJ5 := Lib.hid (OwnFrom.below HJ.out HJ3.out hb)
      have HB5 := Lib.hid (HB3.out.trans (hb.mono HB3.out.size))
      have HND5 := Lib.hid (HND3.out.later hb)
      have HMV5 := Lib.hid (HMV.out.below hb)
      have HL5 := Lib.hid HND5.out.lt
      have hkf : KeyFit (childN I x j).s := ⟨next_fit HCN.out HNO.out.2.1, of_fits (fits_next (fits_of HNO.out.1) j)⟩
      obtain ⟨fn, tmps, assign, body, hyd, hR⟩ := HYD.out pre2 A2 (⟨(childN I x j).s, (childN I x j).cost, qa, qn, qc⟩, x.path ++ [j]) w5 HJ5.out ⟨.inr (hq.less (Nat.le_trans HW0.out.size HB3.out.size)), hkf⟩ HP2.out
      have HCH := Lib.hid (show elN (⟨(childN I x j).s, (childN I x j).cost, qa, qn, qc⟩, x.path ++ [j]) = childN I x j from rfl)
      obtain ⟨c, hc⟩ : ∃ c, childN I x j = c := ⟨_, rfl⟩
      have HC := Lib.hid hc
      rw [hc] at hyd HCH ⊢
      obtain ⟨z, hz⟩ : ∃ z : El, (⟨c.s, c.cost, qa, qn, qc⟩, x.path ++ [j]) = z := ⟨_, rfl⟩
      rw [hc, hz] at hR
      rw [hz] at HCH
      dsimp only [encEl, nodeV, RawN.u] at hyd
      clear hb hq hkf hc hz HJ3 HB3 HND3 HMV HYB
      unfold nodeV
      gi_wp2_with fail
      refine (round_wide hR).mono ?_
      clear hyd hR
      rintro e w6 ⟨rfl, A3, hJ6, hT⟩
      have HJ6 := Lib.hid hJ6
      have HB6 := Lib.hid (turn_low HB5.out hT (fun q hq => (HA.out _ _ HJ5.out q hq).1))
      have HND6 := Lib.hid (HND5.out.turn hT HNA.out)
      have HNA6 := Lib.hid (hT.not HL5.out HNA.out)
      have HMV6 := Lib.hid (HMV5.out.turn hT HMA.out)
      have HMA6 := Lib.hid (show ∀ g, (Value.slice (some ⟨tb, tq, none⟩) MS.length mc).ownBlock = some g → ¬ A3 g from fun g hg => hT.not (HMV5.out.lt g hg).2 (HMA.out g hg))
      clear hJ6 hT
      gi_wp2_with fail
      go_roundw
      case rel => exact ⟨m + 1, _, A3, by have := HM.out; omega, by go_num, by rw [List.map_append, HPR.out, HTM.out, List.map_append, List.map_singleton, List.map_singleton, HCH.out, HC.out, List.append_assoc], HJ6.out, HB6.out, HND6.out, HNA6.out, HMV6.out, HMA6.out⟩
      case measure => have := HM.out; simp [intOf]; omega
end Go.Proofs.YtgplajofemencaaGreat
/- Those nodes of an iterator's that may still cost less than a bound (below). -/
namespace Go.Proofs.YtgplajofemencaaGreat
open Go.ChangeShapes Go.WideShapes Go.ChangeAt Go.RowKit Go.Shelf

attribute [local go_sem] Oper.semAt_some

theorem below_any (I : Ins) (v f : Value) (up : Int) (w : World) (hf : ∃ g lb, f = .func (.func g) #[] lb) :
    Calls Tryz.prog 41 #[insV I v, .int .i64 up, f] w fun e w' => e = .returned (.func (.func 64) #[] #[.pointer (some ⟨w.heap.size + 1 + 1, 0, none⟩), .pointer (some ⟨w.heap.size, 0, none⟩), .pointer (some ⟨w.heap.size + 1, 0, none⟩)]) ∧ ((w.alloc (boxI I v)).alloc (.cells #[.int .i64 up] 3)).alloc (.cells #[f] 80) = w' := by
  obtain ⟨g, lb, rfl⟩ := hf
  unfold insV
  go_enter Tryz.func41, Tryz.ntmps41
  go_wp2
  go_ret
  exact ⟨by simp, rfl⟩
theorem boxed_below {w w' : World} {B : Nat} {t : TypeId} {v : Value} (h : Boxed w B t v) (hb : Below w.heap.size w w') : Boxed w' B t v := (hb.block B h.lt).trans h
/-- Less than this a node may still cost. -/
def lessP (I : Ins) (up : Int) (x : El) : Bool := decide (ofB I (elN x) < up)
/-- What is kept between two rounds: what the one who asks keeps, of those that may cost less; the variable that holds its round. -/
def BelowI (J : Come El → World → Prop) (I : Ins) (up : Int) (w : World) (BY l' : Nat) (s : Come El) (X : World) : Prop :=
  J (s.1.filter (lessP I up), s.2) X ∧ Boxed X BY 110 (.func (.yield l') #[] #[]) ∧ ¬ s.2 BY ∧ Below w.heap.size w X
set_option maxRecDepth 1000000 in
set_option maxHeartbeats 4000000 in
theorem below_seq {w0 w : World} {v : Value} {I : Ins} {up : Int} {BI BU BN gf : Nat} {lb : Array Value} {S : List El → Prop} {N : Nat} (hi : SRow w v I.l) (hy : YBox w BI I v) (hu : Boxed w BU 3 (.int .i64 up)) (hn : Boxed w BN 80 (.func (.func gf) #[] lb))
    (eg : ∀ args w, (callFunc gf args).run Tryz.prog w = .ok (.enter gf args) w) (hseq : SeqA Tryz.prog gf lb encEl (ElOk w0) S N w) (hb0 : Below w0.heap.size w0 w) :
    SeqA Tryz.prog 64 #[.pointer (some ⟨BN, 0, none⟩), .pointer (some ⟨BI, 0, none⟩), .pointer (some ⟨BU, 0, none⟩)] encEl (ElOk w0) (fun xs => ∃ ys, S ys ∧ xs = ys.filter (lessP I up)) N w := by
  intro n0 l' J A0 W _ hW hJ hA hY h0
  refine callsIn_wide.2 ((callsIn_wide (n := 3)).1 ?_)
  have HYD := Lib.hid hY
  have HA := Lib.hid hA
  have HJ := Lib.hid hJ
  have HSQ := Lib.hid hseq
  have HI := Lib.hid hi
  have HBY := Lib.hid hy
  have HBU := Lib.hid hu
  have HW := Lib.hid hW
  have HW0 := Lib.hid hb0
  have H0 := Lib.hid h0
  obtain ⟨ad, cap, rfl, _⟩ := hi.form
  have b0 : ∀ O : Obj, (W.alloc O).cell? ⟨BN, 0, none⟩ = some (.func (.func gf) #[] lb) := fun O => ((show Boxed W BN 80 _ from (hW.block BN hn.lt).trans hn).alloc O).cell
  clear hY hA hJ hseq hy hu hn hi hW h0 hb0
  refine callsIn_of_wp_marks Tryz.func64 rfl trivial ?_ rfl
  simp only [Tryz.ntmps64, List.size_toArray, List.length_cons, List.length_nil, Nat.reduceAdd, Nat.reduceSub, Array.replicate_succ, Array.replicate_zero, List.push_toArray, List.append_toArray, List.nil_append, List.cons_append]
  gi_wp2_with fail
  have hZs : (W.alloc (Obj.cells #[Value.func (Fn.yield l') #[] #[]] 110)).heap.size = W.heap.size + 1 := by simp
  have hBZ : Below W.heap.size W (W.alloc (Obj.cells #[Value.func (Fn.yield l') #[] #[]] 110)) := (Below.refl _ W).alloc (Nat.le_refl _) _
  have hbY := Boxed.new W 110 (Value.func (Fn.yield l') #[] #[])
  have hJZ := OwnFrom.below HJ.out H0.out hBZ
  have hA0 : ¬ A0 W.heap.size := fun h => by have := (HA.out _ _ H0.out _ h).2; omega
  have HWY := Lib.hid (show w.heap.size ≤ W.heap.size from HW.out.size)
  have hBW := HW.out.trans (hBZ.mono HW.out.size)
  generalize W.alloc (Obj.cells #[Value.func (Fn.yield l') #[] #[]] 110) = Z at *
  obtain ⟨BY, hBY⟩ : ∃ B, W.heap.size = B := ⟨_, rfl⟩
  rw [hBY] at hZs hbY hA0 HWY ⊢
  have HJ2 := Lib.hid (show OwnFrom BY J by rw [← hBY]; exact HJ.out)
  clear hBZ hBY H0 HJ b0
  have hOwn : OwnFrom Z.heap.size (BelowI J I up w BY l') := by
    rintro s X X' row ⟨k1, k2, k3, k4⟩ hg hr
    refine ⟨HJ2.out _ _ _ _ k1 hg (fun r e => ⟨by have := (hr r e).1; omega, (hr r e).2⟩), k2.kept hg (fun e => ?_), k3, k4.grown hg k4.size (fun r e => by have := (hr r e).1; have := HWY.out; omega)⟩
    have := (hr BY e.symm).1
    omega
  refine wpIn_seqA (n := 3) (by decide) (gf := gf) (lb := lb) rfl eg HSQ.out hBW (fun _ => rfl) (BelowI J I up w BY l') hOwn (fun s X h => HA.out (s.1.filter (lessP I up), s.2) X h.1) A0 ⟨hJZ, hbY, hA0, hBW⟩ (elOk_own w0 _)
    (fun s x a' X => ∃ Bx, NodB X Bx x.1.s x.1.c x.1.u ∧ ¬ s.2 Bx ∧ a' = { tmps := #[.func (.yield l') #[] #[], .pointer (some ⟨BN, 0, none⟩), .pointer (some ⟨BI, 0, none⟩), .pointer (some ⟨BU, 0, none⟩), .pointer (some ⟨BY, 0, none⟩), .pointer (some ⟨Bx, 0, none⟩), .func (.func gf) #[] lb, .agg #[.int .i64 x.1.s.pos, .int .i64 x.1.s.car, .int .i64 x.1.s.time, .int .i64 x.1.s.load, .int .i64 x.1.s.first, .int .u64 x.1.s.must, .int .u64 x.1.s.may, .int .u64 x.1.s.on, .int .i64 x.1.c, .slice x.1.ad x.1.len x.1.cap], undef, undef, undef, undef, undef, undef, undef, undef, undef, undef, undef], defers := [] }) ?ax ?assign ?body ?done
  case ax =>
    rintro ⟨⟨s, x⟩, a'⟩ X X' row ⟨Bx, k1, k2, k3⟩ hg hr
    refine ⟨Bx, (hg.block Bx k1.lt (fun e => ?_)).trans k1, k2, k3⟩
    obtain ⟨_, o, ho, hc⟩ := hr Bx e.symm
    rw [show X.heap[Bx]? = _ from k1] at ho
    cases ho; cases hc
  case assign =>
    rintro l m pre A ⟨⟨xs, xc, xa, xn, xk⟩, xp⟩ X K hi hK
    dsimp only [encEl, nodeV, RawN.u]
    gi_wp2
    exact hK _ _ ((Below.refl _ X).alloc (Nat.le_refl _) _) ⟨X.heap.size, nod_new X _ _ _, fun h => by have := (HA.out _ _ hi.1 _ h).2; omega, rfl⟩
  case body =>
    rintro l m pre A x a' X ⟨hj, hyb, hnA, hbw⟩ hx ⟨Bx, hb, hnB, rfl⟩ hlen
    have HJX := Lib.hid hj
    have HYB := Lib.hid hyb
    have HNA := Lib.hid hnA
    have HBX := Lib.hid hbw
    have HX := Lib.hid hx
    have HB := Lib.hid hb
    have HPL := Lib.hid (show (pre.filter (lessP I up)).length < N from Nat.lt_of_le_of_lt (List.length_filter_le _ _) hlen)
    clear hj hyb hnA hbw hx hb hnB hlen
    have u1 := (boxed_below HBU.out HBX.out).cell
    obtain ⟨y0, y1, y2, y3⟩ := (HBY.out.below HBY.out.lt HBX.out).cells
    have v1 := HYB.out.cell
    have c0 := HB.out.c0
    have c1 := HB.out.c1
    have c2 := HB.out.c2
    have c3 := HB.out.c3
    have c4 := HB.out.c4
    have c5 := HB.out.c5
    have c6 := HB.out.c6
    have c7 := HB.out.c7
    have c8 := HB.out.c8
    have c9 := HB.out.c9
    have hmix : Tryz.prog.follows .mixedOrders = true := by kernel_rfl
    have HOF := Lib.hid (fun (Y : World) (hb : Below w.heap.size w Y) (hr : Row Y x.1.u (ints x.2)) => bof_any (I := I) (s := x.1.s) (c := x.1.c) (HI.out.below hb) HX.out.2.2 hr)
    have HE := Lib.hid (show sumOf [x.1.c, boundS I x.1.s] = ofB I (elN x) from rfl)
    have HRD := Lib.hid (show Row X.drew x.1.u (ints x.2) from (HX.out.1.below (Below.refl _ X).drew).row (HW0.out.trans (HBX.out.drew.mono HW0.out.size)))
    by_cases hp : ofB I (elN x) < up
    · have hd : decide (ofB I (elN x) < up) = true := decide_eq_true hp
      have HF := Lib.hid (show (pre ++ [x]).filter (lessP I up) = pre.filter (lessP I up) ++ [x] by
        rw [List.filter_append, List.filter_cons, if_pos (by exact decide_eq_true hp)]; rfl)
      clear hp
      obtain ⟨es, hes⟩ : ∃ e, ofB I (elN x) = e := ⟨_, rfl⟩
      rw [hes] at HE hd
      clear hes
      gi_wp2_with fail
      gi_region_with_o (first
        | (refine ⟨trivial, (fun h => by cases h), ?_⟩
           gi_at_call 46
           change CallsIn _ _ _ _ #[insV I (.slice ad I.l.length cap), nodeV x.1.s x.1.c x.1.u] _ _
           refine (CallsIn.inRound l (callsIn_wide.2 (HOF.out _ HBX.out.drew HRD.out))).mono ?_
           rw [HE.out]
           rintro e w' ⟨rfl, hb⟩
           have HBw := Lib.hid (HBX.out.drew.trans (hb.mono HBX.out.size))
           have HYw := Lib.hid (boxed_below (show Boxed X.drew BY 110 _ from HYB.out) hb)
           have u2 := (boxed_below HBU.out HBw.out).cell
           have v2 := HYw.out.cell
           have HNw := Lib.hid ((show NodB X.drew Bx x.1.s x.1.c x.1.u from HB.out).later hb)
           have d0 := HNw.out.c0
           have d1 := HNw.out.c1
           have d2 := HNw.out.c2
           have d3 := HNw.out.c3
           have d4 := HNw.out.c4
           have d5 := HNw.out.c5
           have d6 := HNw.out.c6
           have d7 := HNw.out.c7
           have d8 := HNw.out.c8
           have d9 := HNw.out.c9
           have HXX := Lib.hid (((Below.refl X.heap.size X).drew).trans hb)
           obtain ⟨fn, tmps, assign, body, hyd, hR⟩ := HYD.out _ A x w' (OwnFrom.below HJ2.out HJX.out HXX.out) ⟨HX.out.1.below HXX.out, HX.out.2⟩ HPL.out
           have HR := Lib.hid hR
           dsimp only [encEl, nodeV] at hyd
           clear hb hR)
        | (refine ⟨(fun h => by cases h), ?_⟩
           refine (round_any HR.out).mono ?_
           rintro e w'' ⟨rfl, A', hJ', hT⟩
           have HFIN := Lib.hid (show ∃ A', BelowI J I up w BY l' (pre ++ [x], A') w'' ∧ Turn A A' X w'' from ⟨A', ⟨by rw [HF.out]; exact hJ', (hT.same _ HYw.out.lt HNA.out).trans HYw.out, hT.not HYw.out.lt HNA.out, turn_low HBw.out hT (fun q hq => (HA.out _ _ HJX.out q hq).1)⟩, (Turn.of_below HXX.out).trans hT⟩)
           clear hJ' hT))
      all_goals
        gi_wp2
        exact HFIN.out
    · have hd : decide (ofB I (elN x) < up) = false := decide_eq_false hp
      have HF := Lib.hid (show (pre ++ [x]).filter (lessP I up) = pre.filter (lessP I up) by
        rw [List.filter_append, List.filter_cons, if_neg (by intro h; exact hp (decide_eq_true_iff.1 h))]; simp)
      clear hp
      obtain ⟨es, hes⟩ : ∃ e, ofB I (elN x) = e := ⟨_, rfl⟩
      rw [hes] at HE hd
      clear hes
      gi_wp2_with fail
      gi_region_with_o (first
        | (refine ⟨trivial, (fun h => by cases h), ?_⟩
           gi_at_call 46
           change CallsIn _ _ _ _ #[insV I (.slice ad I.l.length cap), nodeV x.1.s x.1.c x.1.u] _ _
           refine (CallsIn.inRound l (callsIn_wide.2 (HOF.out _ HBX.out.drew HRD.out))).mono ?_
           rw [HE.out]
           rintro e w' ⟨rfl, hb⟩
           have HBw := Lib.hid (HBX.out.drew.trans (hb.mono HBX.out.size))
           have HYw := Lib.hid (boxed_below (show Boxed X.drew BY 110 _ from HYB.out) hb)
           have u2 := (boxed_below HBU.out HBw.out).cell
           have HXX := Lib.hid (((Below.refl X.heap.size X).drew).trans hb)
           have HFIN := Lib.hid (show ∃ A', BelowI J I up w BY l' (pre ++ [x], A') w' ∧ Turn A A' X w' from ⟨A, ⟨by rw [HF.out]; exact OwnFrom.below HJ2.out HJX.out HXX.out, HYw.out, HNA.out, HBw.out⟩, Turn.of_below HXX.out⟩)
           clear hb)
        | (refine ⟨fun _ h => (by cases h), ?_⟩))
      all_goals
        gi_wp2
        exact HFIN.out
  case done =>
    rintro D xs A W' hD hS ⟨hj, hyb, hnA, hbw⟩ hK
    have HFIN := Lib.hid (show ∃ ys A, (∃ zs, S zs ∧ ys = zs.filter (lessP I up)) ∧ J (ys, A) (W'.putObj D (.deferred none)) from ⟨_, A, ⟨xs, hS, rfl⟩, HJ2.out _ _ _ _ hj (grownBy_putObj' W' D _) (fun r e => by cases e; exact ⟨by omega, _, hK, rfl⟩)⟩)
    clear hj hyb hnA hbw
    gi_wp2
    refine ⟨by simp, .inl ⟨_, _, rfl, run_takeDeferred hK, ?_⟩⟩
    exact ⟨_, results_none rfl _ _ _, ⟨_, rfl⟩, HFIN.out⟩
end Go.Proofs.YtgplajofemencaaGreat
/- Of some nodes the one that costs least when it is ended (bestEnded). -/
namespace Go.Proofs.YtgplajofemencaaGreat
open Go.ChangeShapes Go.WideShapes Go.ChangeAt Go.RowKit Go.Shelf

set_option maxRecDepth 1000000 in
set_option maxHeartbeats 4000000 in
theorem lbest_any {w0 w : World} {v u : Value} {I : Ins} {l : List Nod} (hi : SRow w v I.l) (h : NRowB w0 w u l) (hb0 : Below w0.heap.size w0 w) (hok : NodesOk l) (hlen : l.length ≤ 1000000) :
    Calls Tryz.prog 39 #[insV I v, u] w fun e w' => ∃ pb pn pc, e = .returned (.tuple #[nodeV (bestV (bestL I l)).s (bestV (bestL I l)).cost (.slice pb pn pc), .bool (bestL I l).isSome]) ∧ OwnI w' w.heap.size (.slice pb pn pc) (bestV (bestL I l)).path ∧ Below w.heap.size w w' := by
  have HR := Lib.hid hi
  have H := Lib.hid h
  have HW0 := Lib.hid hb0
  have HS := Lib.hid hok.sets
  have HP := Lib.hid hok.paths
  obtain ⟨ad, cap, rfl, _⟩ := hi.form
  obtain ⟨la, lc, rfl, hm, _⟩ := h.form
  have hlm : l.length ≤ 9223372036854775807 := by omega
  clear hi h hm hlen hb0 hok
  unfold insV
  go_enter Tryz.func39, Tryz.ntmps39
  go_upto_region 3 with fail
  obtain ⟨k1, k2, k3, k4⟩ := boxes_inn w I (.slice ad I.l.length cap)
  have HY := Lib.hid k1
  have HA := Lib.hid k2
  have HC := Lib.hid k3
  have HBW := Lib.hid k4
  clear k1 k2 k3 k4
  change Code.wp _ _ _ _ (((w.alloc (boxI I (.slice ad I.l.length cap))).alloc (boxN noughtS 0 (.slice none 0 0))).alloc (boxN noughtS 0 (.slice none 0 0)))
  generalize ((w.alloc (boxI I (.slice ad I.l.length cap))).alloc (boxN noughtS 0 (.slice none 0 0))).alloc (boxN noughtS 0 (.slice none 0 0)) = W at *
  go_wp2_with fail
  go_loopw [7, 14] (fun f i wr => ∃ (k : Nat) (pb : Option Addr) (pn pc : Nat), k ≤ l.length ∧ i = .int .i64 (k : Int) ∧ f = .bool (bestL I (l.take k)).isSome ∧ YBox wr w.heap.size I (.slice ad I.l.length cap) ∧ NodB wr (w.heap.size + 1) noughtS 0 (.slice none 0 0) ∧
    NodB wr (w.heap.size + 2) (bestV (bestL I (l.take k))).s (bestV (bestL I (l.take k))).cost (.slice pb pn pc) ∧ PathB w0 wr (.slice pb pn pc) (bestV (bestL I (l.take k))).path ∧ Below w.heap.size w wr) (fun _ i _ => l.length - (intOf i).toNat)
  case atStart => exact ⟨0, none, 0, 0, Nat.zero_le _, rfl, rfl, HY.out, HA.out, HC.out, .inl (row_nil _), HBW.out⟩
  case round =>
    obtain ⟨k, pb, pn, pc, hk, rfl, rfl, hy, ha, hc, hpb, hbw⟩ := hrel
    clear HY HA HC HBW
    have HY := Lib.hid hy
    have HA := Lib.hid ha
    have HC := Lib.hid hc
    have HPB := Lib.hid hpb
    have HBW := Lib.hid hbw
    clear hy ha hc hpb hbw
    generalize wr = W1 at *
    by_cases hlt : k < l.length
    rotate_left
    · obtain rfl : k = l.length := by omega
      rw [List.take_length] at *
      obtain ⟨bo, hbo⟩ : ∃ bo, bestL I l = bo := ⟨_, rfl⟩
      have HBO := Lib.hid hbo
      rw [hbo] at HC HPB ⊢
      clear hlt hk hbo
      have HPL := Lib.hid (show (bestV bo).path.length ≤ 1000000 by
        rw [← HBO.out]
        rcases hb : bestL I l with _ | b
        · exact Nat.zero_le _
        · obtain ⟨n, hn, _, e⟩ := ((best_is (I := I) l).2 b hb).1
          show b.path.length ≤ 1000000
          rw [e]
          exact HP.out n hn)
      obtain ⟨bs, hbs⟩ : ∃ b, bestV bo = b := ⟨_, rfl⟩
      have HBS := Lib.hid hbs
      rw [hbs] at HC HPB HPL
      clear hbs
      have q0 := HC.out.c0
      have q1 := HC.out.c1
      have q2 := HC.out.c2
      have q3 := HC.out.c3
      have q4 := HC.out.c4
      have q5 := HC.out.c5
      have q6 := HC.out.c6
      have q7 := HC.out.c7
      have q8 := HC.out.c8
      have q9 := HC.out.c9
      go_wp2_with fail
      clear q0 q1 q2 q3 q4 q5 q6 q7 q8 q9
      refine (gclone_any (HPB.out.row (HW0.out.trans (HBW.out.mono HW0.out.size))) HPL.out).mono ?_
      rintro e w2 ⟨z, rfl, hz, hb⟩
      obtain ⟨za, zc, rfl⟩ := hz.shape
      have HC2 := Lib.hid (HC.out.later hb)
      have HA2 := Lib.hid (HA.out.later hb)
      have HZ := Lib.hid (hz.less HBW.out.size)
      have HB2 := Lib.hid (HBW.out.trans (hb.mono HBW.out.size))
      clear hb hz HC HA HPB HBW
      have q9 := HC2.out.c9
      have q9f := HC2.out.free 9
      go_upto_region 13 with fail
      have HC3 := Lib.hid (HC2.out.setPath (.slice za bs.path.length zc))
      have HA3 := Lib.hid (HA2.out.other ⟨w.heap.size + 2, 9, none⟩ (.slice za bs.path.length zc) (by show w.heap.size + 2 ≠ w.heap.size + 1; omega))
      have HZ3 := Lib.hid (HZ.out.keptB (grown_set w2 (w.heap.size + 2) 9 (.slice za bs.path.length zc)) HC2.out)
      have HB3 := Lib.hid (HB2.out.setCell (p := ⟨w.heap.size + 2, 9, none⟩) (by show w.heap.size ≤ w.heap.size + 2; omega) (.slice za bs.path.length zc))
      clear q9 q9f HC2 HA2 HZ HB2
      generalize w2.setCell ⟨w.heap.size + 2, 9, none⟩ (.slice za bs.path.length zc) = W5 at *
      have q0 := HC3.out.c0
      have q1 := HC3.out.c1
      have q2 := HC3.out.c2
      have q3 := HC3.out.c3
      have q4 := HC3.out.c4
      have q5 := HC3.out.c5
      have q6 := HC3.out.c6
      have q7 := HC3.out.c7
      have q8 := HC3.out.c8
      have q9 := HC3.out.c9
      go_wp2_with (refine wpList_store_node (by rfl) (.tmp 4) (.tmp 48) (by rfl) (w.heap.size + 1) _ _ _ ⟨bs.s, bs.cost, za, bs.path.length, zc⟩ (by rfl) (by rfl) HA3.out ?_; intro wE hE hbE hoE hgE)
      have HE := Lib.hid hE
      have HZE := Lib.hid (HZ3.out.keptB hgE HA3.out)
      have HBE := Lib.hid (HB3.out.trans (hbE _ (by omega)))
      clear hE hbE hoE hgE
      clear q0 q1 q2 q3 q4 q5 q6 q7 q8 q9
      have z0 := HE.out.c0
      have z1 := HE.out.c1
      have z2 := HE.out.c2
      have z3 := HE.out.c3
      have z4 := HE.out.c4
      have z5 := HE.out.c5
      have z6 := HE.out.c6
      have z7 := HE.out.c7
      have z8 := HE.out.c8
      have z9 := HE.out.c9
      go_wp2
      exact bodyPost_ret (v := .tuple #[nodeV bs.s bs.cost (.slice za bs.path.length zc), .bool bo.isSome]) (by simp [results, Tryz.results39, go_sem, z0, z1, z2, z3, z4, z5, z6, z7, z8, z9, nodeV, RawN.u]) rfl ⟨za, _, zc, by rw [HBO.out, HBS.out], by rw [HBO.out, HBS.out]; exact HZE.out, HBE.out⟩
    have HK := Lib.hid hlt
    obtain ⟨b1, o1, xa, xc, hla, hn1, hl1, hr1⟩ := nrowB_at H.out k _ (nodAt_is hlt)
    subst hla
    have HN1 := Lib.hid (hn1.below hl1 HBW.out)
    have HX := Lib.hid (hr1.below HBW.out)
    have HS1 := Lib.hid (HS.out _ (nodAt_mem hlt))
    have HBX := Lib.hid (best_next (I := I) hlt)
    have hki : (k : Int) < (l.length : Int) := by omega
    have hk2 : IntKind.i64.wrap ((k : Int) + 1) = (k : Int) + 1 := IntWalk.i64_in _ (by omega)
    obtain ⟨n, hn⟩ : ∃ n, nodAt l k = n := ⟨_, rfl⟩
    rw [hn] at HN1 HX HS1 HBX
    obtain ⟨o, ho⟩ : ∃ o, bestL I (l.take k) = o := ⟨_, rfl⟩
    rw [ho] at HC HPB HBX ⊢
    have HBT := Lib.hid (HBX.out.trans (best_step (I := I) o n))
    clear hn1 hl1 hr1 hk hlt hn ho HBX
    obtain ⟨sm, hsm⟩ : ∃ sm, o.isSome = sm := ⟨_, rfl⟩
    rw [hsm] at HBT ⊢
    have HSM := Lib.hid hsm
    clear hsm
    obtain ⟨c0, c1, c2, c3, c4, c5, c6, c7, c8, c9⟩ := HN1.out
    go_upto_region 6 with fail
    clear c0 c1 c2 c3 c4 c5 c6 c7 c8 c9 HN1
    have HD := Lib.hid (nod_new W1 n.s n.cost (.slice xa n.path.length xc))
    have HCD := Lib.hid (show w.heap.size + 2 < W1.heap.size from HC.out.lt)
    have hal : Below W1.heap.size W1 (W1.alloc (boxN n.s n.cost (.slice xa n.path.length xc))) := (Below.refl _ W1).alloc (Nat.le_refl _) _
    have HYn := Lib.hid (HY.out.later hal)
    clear HY
    have HY := HYn
    clear HYn
    have HAn := Lib.hid (HA.out.later hal)
    clear HA
    have HA := HAn
    clear HAn
    have HCn := Lib.hid (HC.out.later hal)
    clear HC
    have HC := HCn
    clear HCn
    have HPBn := Lib.hid (HPB.out.below hal)
    clear HPB
    have HPB := HPBn
    clear HPBn
    have HXn := Lib.hid (HX.out.below hal)
    clear HX
    have HX := HXn
    clear HXn
    have HBWn := Lib.hid (HBW.out.trans (hal.mono HBW.out.size))
    clear HBW hal
    have HBW := HBWn
    clear HBWn
    change Code.wp _ _ _ _ (W1.alloc (boxN n.s n.cost (.slice xa n.path.length xc)))
    generalize W1.alloc (boxN n.s n.cost (.slice xa n.path.length xc)) = W2 at *
    generalize W1.heap.size = bd at *
    obtain ⟨y0, y1, y2, y3⟩ := HY.out.cells
    have x0 := HD.out.c0
    have x1 := HD.out.c1
    have x2 := HD.out.c2
    have x3 := HD.out.c3
    have x4 := HD.out.c4
    have x5 := HD.out.c5
    have x6 := HD.out.c6
    have x7 := HD.out.c7
    have x8 := HD.out.c8
    have x9 := HD.out.c9
    go_wp2_with fail
    clear y0 y1 y2 y3
    clear x0 x1 x2 x3 x4 x5 x6 x7 x8 x9
    change Calls _ _ #[insV I (.slice ad I.l.length cap), staV n.s] _ _
    refine (send_any (I := I) (s := n.s) (HR.out.below HBW.out) HS1.out).mono ?_
    rintro e w3 ⟨rfl, hb⟩
    have HYn := Lib.hid (HY.out.later hb)
    clear HY
    have HY := HYn
    clear HYn
    have HAn := Lib.hid (HA.out.later hb)
    clear HA
    have HA := HAn
    clear HAn
    have HCn := Lib.hid (HC.out.later hb)
    clear HC
    have HC := HCn
    clear HCn
    have HPBn := Lib.hid (HPB.out.below hb)
    clear HPB
    have HPB := HPBn
    clear HPBn
    have HXn := Lib.hid (HX.out.below hb)
    clear HX
    have HX := HXn
    clear HXn
    have HDn := Lib.hid (HD.out.later hb)
    clear HD
    have HD := HDn
    clear HDn
    have HBWn := Lib.hid (HBW.out.trans (hb.mono HBW.out.size))
    clear HBW hb
    have HBW := HBWn
    clear HBWn
    obtain ⟨ec, hec⟩ : ∃ ec, endC I n.s = ec := ⟨_, rfl⟩
    obtain ⟨ee, hee⟩ : ∃ ee, decide (EndS I n.s) = ee := ⟨_, rfl⟩
    rw [hec, hee]
    have HEN := Lib.hid (show sumOf [n.cost, ec] = (endN I n).cost by rw [← hec]; rfl)
    have HEI := Lib.hid (show endN I n = ⟨n.s, (endN I n).cost, n.path⟩ from rfl)
    rw [hee] at HBT
    clear hec hee
    obtain ⟨es, hes⟩ : ∃ es, (endN I n).cost = es := ⟨_, rfl⟩
    rw [hes] at HBT HEI HEN
    clear hes
    obtain ⟨bo, hbo⟩ : ∃ b, bestV o = b := ⟨_, rfl⟩
    rw [hbo] at HC HPB HBT
    have HBO := Lib.hid hbo
    clear hbo
    cases ee with
    | false =>
      have HO2 := Lib.hid (HBT.out.trans (if_neg (by simp)))
      go_wp2_with fail
      go_roundw
      case rel => exact ⟨k + 1, pb, pn, pc, by have := HK.out; omega, by go_num, by rw [HO2.out, HSM.out], HY.out, HA.out, by rw [HO2.out, HBO.out]; exact HC.out, by rw [HO2.out, HBO.out]; exact HPB.out, HBW.out⟩
      case measure => have := HK.out; simp [intOf]; omega
    | true =>
      have x8 := HD.out.c8
      go_wp2_with fail
      clear x8
      refine (sum_any (row_two _ n.cost ec)).mono ?_
      rw [HEN.out]
      rintro e w' ⟨rfl, rfl⟩
      have hal : Below w3.heap.size w3 (w3.alloc (.cells #[.int .i64 n.cost, .int .i64 ec] 3)) := (Below.refl _ w3).alloc (Nat.le_refl _) _
      have HYn := Lib.hid (HY.out.later hal)
      clear HY
      have HY := HYn
      clear HYn
      have HAn := Lib.hid (HA.out.later hal)
      clear HA
      have HA := HAn
      clear HAn
      have HCn := Lib.hid (HC.out.later hal)
      clear HC
      have HC := HCn
      clear HCn
      have HPBn := Lib.hid (HPB.out.below hal)
      clear HPB
      have HPB := HPBn
      clear HPBn
      have HXn := Lib.hid (HX.out.below hal)
      clear HX
      have HX := HXn
      clear HXn
      have HDn := Lib.hid (HD.out.later hal)
      clear HD
      have HD := HDn
      clear HDn
      have HBWn := Lib.hid (HBW.out.trans (hal.mono HBW.out.size))
      clear HBW hal
      have HBW := HBWn
      clear HBWn
      generalize w3.alloc (.cells #[.int .i64 n.cost, .int .i64 ec] 3) = W4 at *
      have x8 := HD.out.c8
      have x8f := HD.out.free 8
      go_upto_region 9 with fail
      clear x8 x8f
      have hst : Below (w.heap.size + 3) W4 (W4.setCell ⟨bd, 8, none⟩ (.int .i64 es)) := (Below.refl _ W4).setCell (p := ⟨bd, 8, none⟩) (by have := HCD.out; show w.heap.size + 3 ≤ bd; omega) _
      have HYn := Lib.hid (HY.out.other ⟨bd, 8, none⟩ (.int .i64 es) (by have := HCD.out; show bd ≠ _; omega))
      clear HY
      have HY := HYn
      clear HYn
      have HAn := Lib.hid (HA.out.other ⟨bd, 8, none⟩ (.int .i64 es) (by have := HCD.out; show bd ≠ _; omega))
      clear HA
      have HA := HAn
      clear HAn
      have HCn := Lib.hid (HC.out.other ⟨bd, 8, none⟩ (.int .i64 es) (by have := HCD.out; show bd ≠ _; omega))
      clear HC
      have HC := HCn
      clear HCn
      have HPBn := Lib.hid (HPB.out.kept (grown_set W4 bd 8 (.int .i64 es)) HD.out)
      clear HPB
      have HPB := HPBn
      clear HPBn
      have HXn := Lib.hid (HX.out.kept (grown_set W4 bd 8 (.int .i64 es)) HD.out)
      clear HX
      have HX := HXn
      clear HXn
      have HDn := Lib.hid (HD.out.set8 es)
      clear HD
      have HD := HDn
      clear HDn
      have HBWn := Lib.hid (HBW.out.trans (hst.mono (by omega)))
      clear HBW
      have HBW := HBWn
      clear HBWn
      clear hst
      generalize W4.setCell ⟨bd, 8, none⟩ (.int .i64 es) = W6 at *
      cases sm with
      | false =>
        have HO2 := Lib.hid (HBT.out.trans (if_pos (by simp)))
        have x0 := HD.out.c0
        have x1 := HD.out.c1
        have x2 := HD.out.c2
        have x3 := HD.out.c3
        have x4 := HD.out.c4
        have x5 := HD.out.c5
        have x6 := HD.out.c6
        have x7 := HD.out.c7
        have x8 := HD.out.c8
        have x9 := HD.out.c9
        have q0 := HC.out.c0
        have q1 := HC.out.c1
        have q2 := HC.out.c2
        have q3 := HC.out.c3
        have q4 := HC.out.c4
        have q5 := HC.out.c5
        have q6 := HC.out.c6
        have q7 := HC.out.c7
        have q8 := HC.out.c8
        have q9 := HC.out.c9
        go_wp2_with (refine wpList_store_node (by rfl) (.tmp 6) (.tmp 42) (by rfl) (w.heap.size + 2) _ _ _ ⟨n.s, es, xa, n.path.length, xc⟩ (by rfl) (by rfl) HC.out ?_; intro wE hE hbE hoE hgE)
        go_roundw
        case rel => exact ⟨k + 1, xa, n.path.length, xc, by have := HK.out; omega, by go_num, by rw [HO2.out]; rfl, HY.out.same (hoE _ (by omega)), HA.out.same (hoE _ (by omega)), by rw [HO2.out, HEI.out]; exact hE, by rw [HO2.out, HEI.out]; exact HX.out.kept hgE HC.out, HBW.out.trans (hbE _ (by omega))⟩
        case measure => have := HK.out; simp [intOf]; omega
      | true =>
        by_cases hc : es < bo.cost
        · have HO2 := Lib.hid (HBT.out.trans (if_pos (by simp [hc])))
          have x0 := HD.out.c0
          have x1 := HD.out.c1
          have x2 := HD.out.c2
          have x3 := HD.out.c3
          have x4 := HD.out.c4
          have x5 := HD.out.c5
          have x6 := HD.out.c6
          have x7 := HD.out.c7
          have x8 := HD.out.c8
          have x9 := HD.out.c9
          have q0 := HC.out.c0
          have q1 := HC.out.c1
          have q2 := HC.out.c2
          have q3 := HC.out.c3
          have q4 := HC.out.c4
          have q5 := HC.out.c5
          have q6 := HC.out.c6
          have q7 := HC.out.c7
          have q8 := HC.out.c8
          have q9 := HC.out.c9
          go_wp2_with (refine wpList_store_node (by rfl) (.tmp 6) (.tmp 42) (by rfl) (w.heap.size + 2) _ _ _ ⟨n.s, es, xa, n.path.length, xc⟩ (by rfl) (by rfl) HC.out ?_; intro wE hE hbE hoE hgE)
          go_roundw
          case rel => exact ⟨k + 1, xa, n.path.length, xc, by have := HK.out; omega, by go_num, by rw [HO2.out]; rfl, HY.out.same (hoE _ (by omega)), HA.out.same (hoE _ (by omega)), by rw [HO2.out, HEI.out]; exact hE, by rw [HO2.out, HEI.out]; exact HX.out.kept hgE HC.out, HBW.out.trans (hbE _ (by omega))⟩
          case measure => have := HK.out; simp [intOf]; omega
        · have HO2 := Lib.hid (HBT.out.trans (if_neg (by simp [hc])))
          have x8 := HD.out.c8
          have q8 := HC.out.c8
          go_wp2_with fail
          go_roundw
          case rel => exact ⟨k + 1, pb, pn, pc, by have := HK.out; omega, by go_num, by rw [HO2.out, HSM.out], HY.out, HA.out, by rw [HO2.out, HBO.out]; exact HC.out, by rw [HO2.out, HBO.out]; exact HPB.out, HBW.out⟩
          case measure => have := HK.out; simp [intOf]; omega
end Go.Proofs.YtgplajofemencaaGreat
/- All moves of some nodes: what Expand answers. -/
namespace Go.Proofs.YtgplajofemencaaGreat
open Go.ChangeShapes Go.WideShapes Go.ChangeAt Go.RowKit Go.Shelf

theorem kids_boxes (w : World) (I : Ins) (v u : Value) : YBox ((w.alloc (boxI I v)).alloc (.cells #[u] 35)) w.heap.size I v ∧ Boxed ((w.alloc (boxI I v)).alloc (.cells #[u] 35)) (w.heap.size + 1) 35 u ∧ Below w.heap.size w ((w.alloc (boxI I v)).alloc (.cells #[u] 35)) := by
  have e1 : (w.alloc (boxI I v)).heap.size = w.heap.size + 1 := by simp
  have b := Boxed.new (w.alloc (boxI I v)) 35 u
  rw [e1] at b
  exact ⟨(ybox_new w I v).later ((Below.refl _ _).alloc (Nat.le_refl _) _), b, ((Below.refl _ w).alloc (Nat.le_refl _) _).alloc (by rw [e1]; omega) _⟩
theorem below_boxes (w : World) (I : Ins) (v f : Value) (up : Int) : YBox (((w.alloc (boxI I v)).alloc (.cells #[.int .i64 up] 3)).alloc (.cells #[f] 80)) w.heap.size I v ∧ Boxed (((w.alloc (boxI I v)).alloc (.cells #[.int .i64 up] 3)).alloc (.cells #[f] 80)) (w.heap.size + 1) 3 (.int .i64 up) ∧
    Boxed (((w.alloc (boxI I v)).alloc (.cells #[.int .i64 up] 3)).alloc (.cells #[f] 80)) (w.heap.size + 1 + 1) 80 f ∧ Below w.heap.size w (((w.alloc (boxI I v)).alloc (.cells #[.int .i64 up] 3)).alloc (.cells #[f] 80)) := by
  have e1 : (w.alloc (boxI I v)).heap.size = w.heap.size + 1 := by simp
  have e2 : ((w.alloc (boxI I v)).alloc (.cells #[.int .i64 up] 3)).heap.size = w.heap.size + 1 + 1 := by simp
  have b1 := Boxed.new (w.alloc (boxI I v)) 3 (.int .i64 up)
  have b2 := Boxed.new ((w.alloc (boxI I v)).alloc (.cells #[.int .i64 up] 3)) 80 f
  rw [e1] at b1
  rw [e2] at b2
  exact ⟨((ybox_new w I v).later ((Below.refl _ _).alloc (Nat.le_refl _) _)).later ((Below.refl _ _).alloc (Nat.le_refl _) _), b1.alloc _, b2, (((Below.refl _ w).alloc (Nat.le_refl _) _).alloc (by rw [e1]; omega) _).alloc (by rw [e2]; omega) _⟩
theorem filter_els (I : Ins) (up : Int) : ∀ ys : List El, (ys.filter (lessP I up)).map elN = (ys.map elN).filter (fun c => decide (ofB I c < up))
  | [] => rfl
  | y :: ys => by
    rw [List.filter_cons, List.map_cons, List.filter_cons]
    by_cases h : lessP I up y = true
    · rw [if_pos h, if_pos (by exact h), List.map_cons, filter_els I up ys]
    · rw [if_neg h, if_neg (by exact h), filter_els I up ys]
set_option maxRecDepth 1000000 in
set_option maxHeartbeats 4000000 in
theorem lexpand_any {w0 w : World} {v u : Value} {I : Ins} {l : List Nod} {up : Int} (hi : SRow w v I.l) (h : NRowB w0 w u l) (hb0 : Below w0.heap.size w0 w) (hok : NodesOk l) (hlen : l.length ≤ 30000) :
    Calls Tryz.prog 20 #[insV I v, u, .int .i64 up] w fun e w' => ∃ z pb pn pc, e = .returned (.tuple #[z, nodeV (bestV (bestL I l)).s (bestV (bestL I l)).cost (.slice pb pn pc), .bool (bestL I l).isSome]) ∧
      OwnN w0 w.heap.size w' z (expandL I up l) ∧ PathB w0 w' (.slice pb pn pc) (bestV (bestL I l)).path ∧ Below w.heap.size w w' := by
  have HR := Lib.hid hi
  have H := Lib.hid h
  have HW0 := Lib.hid hb0
  have HOK := Lib.hid hok
  have HLE := Lib.hid hlen
  obtain ⟨ad, cap, rfl, _⟩ := hi.form
  obtain ⟨la, lc, rfl, hm, _⟩ := h.form
  clear hi h hm hlen hb0 hok
  unfold insV
  go_enter Tryz.func20, Tryz.ntmps20
  go_upto_region 1 with fail
  obtain ⟨k1, k2, k3⟩ := boxes_in w I (.slice ad I.l.length cap) noughtS 0 (.slice none 0 0)
  have HY := Lib.hid k1
  have HA := Lib.hid k2
  have HBW := Lib.hid k3
  clear k1 k2 k3
  change Code.wp _ _ _ _ ((w.alloc (boxI I (.slice ad I.l.length cap))).alloc (boxN noughtS 0 (.slice none 0 0)))
  generalize (w.alloc (boxI I (.slice ad I.l.length cap))).alloc (boxN noughtS 0 (.slice none 0 0)) = W at *
  obtain ⟨y0, y1, y2, y3⟩ := HY.out.cells
  go_wp2_with fail
  clear y0 y1 y2 y3
  change Calls _ _ #[insV I (.slice ad I.l.length cap), .slice la l.length lc] _ _
  refine (lbest_any (w0 := w0) (I := I) (l := l) (HR.out.below HBW.out) (H.out.below HBW.out) (HW0.out.trans (HBW.out.mono HW0.out.size)) HOK.out (by have := HLE.out; omega)).mono ?_
  rintro e w3 ⟨pb, pn, pc, rfl, hpb, hb⟩
  have HYn := Lib.hid (HY.out.later hb)
  clear HY
  have HY := HYn
  clear HYn
  have HAn := Lib.hid (HA.out.later hb)
  clear HA
  have HA := HAn
  clear HAn
  have HPB := Lib.hid (PathB.own hpb (Nat.le_trans HW0.out.size HBW.out.size))
  have HBWn := Lib.hid (HBW.out.trans (hb.mono HBW.out.size))
  clear HBW hb hpb
  have HBW := HBWn
  clear HBWn
  obtain ⟨bo, hbo⟩ : ∃ bo, bestL I l = bo := ⟨_, rfl⟩
  have HBO := Lib.hid hbo
  rw [hbo] at HPB ⊢
  obtain ⟨bs, hbs⟩ : ∃ b, bestV bo = b := ⟨_, rfl⟩
  have HBS := Lib.hid hbs
  rw [hbs] at HPB ⊢
  clear hbo hbs
  obtain ⟨fo, hfo⟩ : ∃ f, bo.isSome = f := ⟨_, rfl⟩
  rw [hfo]
  have HFO := Lib.hid hfo
  clear hfo
  unfold nodeV
  go_upto_region 2 with fail
  have HD := Lib.hid (nod_new w3 bs.s bs.cost (.slice pb pn pc))
  have HBT := Lib.hid (show w.heap.size + 1 < w3.heap.size from HA.out.lt)
  have hal : Below w3.heap.size w3 (w3.alloc (boxN bs.s bs.cost (.slice pb pn pc))) := (Below.refl _ w3).alloc (Nat.le_refl _) _
  have HYn := Lib.hid (HY.out.later hal)
  clear HY
  have HY := HYn
  clear HYn
  have HAn := Lib.hid (HA.out.later hal)
  clear HA
  have HA := HAn
  clear HAn
  have HPBn := Lib.hid (HPB.out.below hal)
  clear HPB
  have HPB := HPBn
  clear HPBn
  have HBWn := Lib.hid (HBW.out.trans (hal.mono HBW.out.size))
  clear HBW hal
  have HBW := HBWn
  clear HBWn
  change Code.wp _ _ _ _ (w3.alloc (boxN bs.s bs.cost (.slice pb pn pc)))
  generalize w3.alloc (boxN bs.s bs.cost (.slice pb pn pc)) = W4 at *
  generalize w3.heap.size = bt at *
  have HYn := Lib.hid (HY.out.later (Below.refl _ W4).drew)
  have HAn := Lib.hid (HA.out.later (Below.refl _ W4).drew)
  have HDn := Lib.hid (HD.out.later (Below.refl _ W4).drew)
  have HPBn := Lib.hid (HPB.out.below (Below.refl _ W4).drew)
  have HBWn := Lib.hid HBW.out.drew
  clear HY HA HD HPB HBW
  have HY := HYn
  have HA := HAn
  have HD := HDn
  have HPB := HPBn
  have HBW := HBWn
  clear HYn HAn HDn HPBn HBWn
  have HS0 := Lib.hid (show Holds ((cellsI w.heap.size I (.slice ad I.l.length cap)) ++ (cellsN bt bs.s bs.cost (.slice pb pn pc))) W4.drew from (Holds.app.2 ⟨(show Holds (cellsI w.heap.size I (.slice ad I.l.length cap)) _ from ⟨HY.out.cells.1, HY.out.cells.2.1, HY.out.cells.2.2.1, HY.out.cells.2.2.2, trivial⟩), HD.out.holds⟩))
  refine wp_region_held_drew (S := Holds ((cellsI w.heap.size I (.slice ad I.l.length cap)) ++ (cellsN bt bs.s bs.cost (.slice pb pn pc)))) (by kernel_rfl) HS0.out (fun hSn => ?_)
  generalize W4.drew = V at *
  have hlt := Lib.hid (show Lows V.heap.size ((cellsI w.heap.size I (.slice ad I.l.length cap)) ++ (cellsN bt bs.s bs.cost (.slice pb pn pc))) from (Lows.app (show Lows _ (cellsI w.heap.size I (.slice ad I.l.length cap)) from ⟨HY.out.lt, HY.out.lt, HY.out.lt, HY.out.lt, trivial⟩) (lows_N HD.out.lt)))
  have Bc := Lib.hid (Below.refl V.heap.size V)
  simp only [cellsI, cellsN, List.cons_append, List.nil_append] at HS0 hlt hSn ⊢
  refine tks [0, 1, 2, 3, 7, 8] 6 rfl (by kernel_rfl) (fun _ _ _ _ h => h) (by assumption) (fun KT hKT => ?_)
  iterate 6 (refine tkT (by (simp only [gA, gB, gC]; rfl)) (by rfl) (by (intro w hSw; (simp only [Holds] at hSw); go_simp <;> with_reducible rfl)) ?_; simp only [Act.put, pA, pB, pC])
  refine hKT _ ?_
  clear KT hKT
  refine wpAnyH_ready (rs := [4]) (by kernel_rfl) (by simp) ?_
  refine AllReadyH.cons (o := ?oz267) ?iz267 (fun K hK => ?kz267) AllReadyH.nil
  case iz267 => (simp only [List.getElem?_toArray, List.getElem?_cons_zero, List.getElem?_cons_succ]; rfl)
  go_simp
  change Calls _ _ #[insV I (.slice ad I.l.length cap), .slice la l.length lc] _ _
  refine (children_any I _ la l.length lc _).mono ?_
  rintro e wk ⟨rfl, rfl⟩
  obtain ⟨k1, k2, k3⟩ := kids_boxes V I (.slice ad I.l.length cap) (.slice la l.length lc)
  refine held_more hK HS0.out hlt k3 (fun Bc hSn => ?_)
  clear hK
  obtain ⟨V2, hV2⟩ : ∃ X, (V.alloc (boxI I (.slice ad I.l.length cap))).alloc (.cells #[.slice la l.length lc] 35) = X := ⟨_, rfl⟩
  rw [hV2] at k1 k2 k3 Bc hSn ⊢
  obtain ⟨bk, hbk⟩ : ∃ b, V.heap.size = b := ⟨_, rfl⟩
  rw [hbk] at k1 k2 ⊢
  have HK1 := Lib.hid k1
  have HK2 := Lib.hid k2
  clear k1 k2 k3 hV2 hbk
  refine wpAnyH_ready (rs := [5]) (by kernel_rfl) (by simp) ?_
  refine AllReadyH.cons (o := ?oz268) ?iz268 (fun K hK => ?kz268) AllReadyH.nil
  case iz268 => (simp only [List.getElem?_toArray, List.getElem?_cons_zero, List.getElem?_cons_succ]; rfl)
  go_simp
  change Calls _ _ #[insV I (.slice ad I.l.length cap), .int .i64 up, .func (.func 65) #[] #[.pointer (some ⟨bk + 1, 0, none⟩), .pointer (some ⟨bk, 0, none⟩)]] _ _
  refine (below_any I _ _ up _ ⟨_, _, rfl⟩).mono ?_
  rintro e wk ⟨rfl, rfl⟩
  obtain ⟨k1, k2, k3, k4⟩ := below_boxes V2 I (.slice ad I.l.length cap) (.func (.func 65) #[] #[.pointer (some ⟨bk + 1, 0, none⟩), .pointer (some ⟨bk, 0, none⟩)]) up
  refine held_more hK HS0.out hlt (Bc.out.trans (k4.mono Bc.out.size)) (fun Bc hSn => ?_)
  clear hK
  have HK1n := Lib.hid (HK1.out.later k4)
  have HK2n := Lib.hid (boxed_below HK2.out k4)
  obtain ⟨V3, hV3⟩ : ∃ X, ((V2.alloc (boxI I (.slice ad I.l.length cap))).alloc (.cells #[.int .i64 up] 3)).alloc (.cells #[.func (.func 65) #[] #[.pointer (some ⟨bk + 1, 0, none⟩), .pointer (some ⟨bk, 0, none⟩)]] 80) = X := ⟨_, rfl⟩
  rw [hV3] at k1 k2 k3 Bc HK1n HK2n hSn ⊢
  obtain ⟨bq, hbq⟩ : ∃ b, V2.heap.size = b := ⟨_, rfl⟩
  rw [hbq] at k1 k2 k3 ⊢
  have HQ1 := Lib.hid k1
  have HQ2 := Lib.hid k2
  have HQ3 := Lib.hid k3
  clear k1 k2 k3 k4 hV3 hbq HK1 HK2
  have HBX := Lib.hid (HBW.out.trans (Bc.out.mono HBW.out.size))
  have HW0X := Lib.hid (HW0.out.trans (HBX.out.mono HW0.out.size))
  have HSQ := Lib.hid (below_seq (up := up) (HR.out.below HBX.out) HQ1.out HQ2.out HQ3.out (enters_of Tryz.func65 (by kernel_rfl) rfl) (children_seq (w0 := w0) (HR.out.below HBX.out) HK1n.out HK2n.out (H.out.below HBX.out) HW0X.out HOK.out HLE.out) HW0X.out)
  refine wpAnyH_ready (rs := [6]) (by kernel_rfl) (by simp) ?_
  refine AllReadyH.cons (o := ?oz269) ?iz269 (fun K hK => ?kz269) AllReadyH.nil
  case iz269 => (simp only [List.getElem?_toArray, List.getElem?_cons_zero, List.getElem?_cons_succ]; rfl)
  go_simp
  refine (callsIn_wide.1 (lonce_in 3 (by decide) (enters_of Tryz.func64 (by kernel_rfl) rfl) HSQ.out HW0X.out (by have := HLE.out; omega))).mono ?_
  rintro e w7 ⟨z, xs, rfl, ⟨ys, hys, rfl⟩, hz, hb⟩
  rw [filter_els, hys] at hz
  obtain ⟨za, zc, hz'⟩ := hz.shape
  obtain ⟨zl, hzl⟩ : ∃ zl, (onceL ((l.flatMap (kidsN I)).filter (fun c => decide (ofB I c < up)))).length = zl := ⟨_, rfl⟩
  rw [hzl] at hz'
  subst hz'
  have HZ := Lib.hid (show OwnN w0 V3.heap.size w7 (.slice za zl zc) (expandL I up l) from hz)
  have HV3 := Lib.hid (show V.heap.size ≤ V3.heap.size from Bc.out.size)
  refine held_more hK HS0.out hlt (Bc.out.trans (hb.mono Bc.out.size)) (fun Bc hSn => ?_)
  clear hK hb hz hzl hys HSQ HQ1 HQ2 HQ3 HK1n HK2n
  refine tks [9] 1 rfl (by kernel_rfl) (fun _ _ _ _ h => h) (by assumption) (fun KT hKT => ?_)
  refine tkT (by (simp only [gA, gB, gC]; rfl)) (by rfl) (by (intro w hSw; (simp only [Holds] at hSw); go_simp <;> with_reducible rfl)) ?_
  simp only [Act.put, pA, pB, pC]
  refine hKT _ ?_
  clear KT hKT
  refine wpAnyH_ready (rs := [10]) (by kernel_rfl) (by simp) ?_
  refine (AllReadyH.cons (o := ?oz270) ?iz270 (fun K hK => ?kz270) AllReadyH.nil)
  case iz270 => (simp only [List.getElem?_toArray, List.getElem?_cons_zero, List.getElem?_cons_succ]; rfl)
  simp only [Act.put]
  rw [if_pos (by rfl)]
  have HA9 := Lib.hid (HA.out.later Bc.out)
  have HBE0 := Lib.hid (HBW.out.trans (Bc.out.mono HBW.out.size))
  refine wp_store_node (.tmp 7) (.tmp 24) (by rfl) (w.heap.size + 1) _ _ _ ⟨bs.s, bs.cost, pb, pn, pc⟩ (by rfl) (by rfl) HA9.out ?_
  intro wE hE hbE hoE hgE
  have HE := Lib.hid hE
  have HZE := Lib.hid ((HZ.out.less (show w.heap.size + 2 ≤ V3.heap.size by have := HD.out.lt; have := HBT.out; have := HV3.out; omega)).beside (by omega) hgE HA9.out)
  have HPE := Lib.hid ((HPB.out.below Bc.out).kept hgE HA9.out)
  have HBE := Lib.hid (HBE0.out.trans (hbE _ (by omega)))
  have HYE := Lib.hid ((HY.out.later Bc.out).same (hoE _ (by omega)))
  have HDE := Lib.hid ((HD.out.later Bc.out).same (hoE _ (by have := HBT.out; omega)))
  refine hK.out _ _ (Holds.app.2 ⟨show Holds (cellsI w.heap.size I (.slice ad I.l.length cap)) _ from ⟨HYE.out.cells.1, HYE.out.cells.2.1, HYE.out.cells.2.2.1, HYE.out.cells.2.2.2, trivial⟩, HDE.out.holds⟩) (fun hSn => ?_)
  clear hK hE hbE hoE hgE
  refine tks [11] 1 rfl (by kernel_rfl) (fun _ _ _ _ h => h) (by assumption) (fun KT hKT => ?_)
  refine tkT (by (simp only [gA, gB, gC]; rfl)) (by rfl) (by (intro w hSw; (simp only [Holds] at hSw); go_simp <;> with_reducible rfl)) ?_
  simp only [Act.put, pA, pB, pC]
  refine hKT _ ?_
  clear KT hKT
  refine wpAnyH_done (by kernel_rfl) ?_ _
  have z0 := HE.out.c0
  have z1 := HE.out.c1
  have z2 := HE.out.c2
  have z3 := HE.out.c3
  have z4 := HE.out.c4
  have z5 := HE.out.c5
  have z6 := HE.out.c6
  have z7 := HE.out.c7
  have z8 := HE.out.c8
  have z9 := HE.out.c9
  go_wp2
  exact bodyPost_ret (v := .tuple #[.slice za zl zc, nodeV bs.s bs.cost (.slice pb pn pc), .bool fo]) (by simp [results, Tryz.results20, go_sem, z0, z1, z2, z3, z4, z5, z6, z7, z8, z9, nodeV, RawN.u]) rfl ⟨_, pb, pn, pc, by rw [HBO.out, HBS.out, HFO.out], HZE.out.less (by omega), by rw [HBO.out, HBS.out]; exact HPE.out, HBE.out⟩
end Go.Proofs.YtgplajofemencaaGreat
/- The program's own Once and Expand: lonce_any (LVals), lexpand_any (LExp). Sorted stands in LSort. -/
