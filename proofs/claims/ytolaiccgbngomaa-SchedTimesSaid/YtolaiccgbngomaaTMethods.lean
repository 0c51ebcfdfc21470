/- What a car's farTo and timeAt answer. -/
import Derived.Test.YtolaiccgbngomaaTCar
namespace Go.Proofs.Ytolaiccgbngomaa
open Go.ChangeShapes Go.WideShapes Go.ChangeAt Go.RowKit

/-- The stop's cells, and the car's. -/
def cellsC (b : Nat) (I : Ins) (sv : Value) (a n g h : Int) : List (Addr × Value) := [(⟨b, 0, none⟩, .int .i64 I.p), (⟨b, 1, none⟩, .int .i64 I.c), (⟨b, 2, none⟩, .int .i64 I.r), (⟨b, 3, none⟩, sv), (⟨b, 4, none⟩, .int .i64 a), (⟨b, 5, none⟩, .int .i64 n), (⟨b, 6, none⟩, .int .i64 g), (⟨b, 7, none⟩, .int .i64 h)]
theorem CarB.holds {w : World} {b : Nat} {I : Ins} {sv : Value} {a n g h : Int} {S : List Bool} {tv lv : Value} (k : CarB w b I sv a n g h S tv lv) : Holds (cellsC b I sv a n g h) w := ⟨k.c0, k.c1, k.c2, k.c3, k.c4, k.c5, k.c6, k.c7, trivial⟩
theorem lows_C {M b : Nat} {I : Ins} {sv : Value} {a n g h : Int} (hb : b < M) : Lows M (cellsC b I sv a n g h) := ⟨hb, hb, hb, hb, hb, hb, hb, hb, trivial⟩
set_option maxRecDepth 1000000 in
set_option maxHeartbeats 1000000 in
theorem farTo_any {w : World} {b : Nat} {I : Ins} {sv : Value} {a k : Nat} {n g h : Int} {S : List Bool} {tv lv : Value} (hc : CarB w b I sv a n g h S tv lv) (hr : SRow w sv I.l) (ha : a < I.l.length) (hk : k < I.l.length) :
    Calls Try.prog 41 #[.pointer (some ⟨b, 0, none⟩), .int .i64 k] w fun e w' => e = .returned (.int .i64 (farF (stp I a) (stp I k))) ∧ Below w.heap.size w w' := by
  obtain ⟨ad, cap, rfl, hm, _⟩ := hr.form
  obtain ⟨tb, off, rfl, hat, hlt0⟩ := srow_at hr a ha
  have hkt := srow_here hr k hk
  have hF := Lib.hid (show farF (stp I a) (stp I k) = farF (nth I.l a) (nth I.l k) from rfl)
  have hai : (a : Int) < (I.l.length : Int) := by omega
  have hki : (k : Int) < (I.l.length : Int) := by omega
  go_enter Try.func41, Try.ntmps41
  go_wp2_with fail
  have HB1 := Lib.hid ((Below.refl w.heap.size w).drew)
  have HS0 := Lib.hid (show Holds (cellsC b I (.slice (some ⟨tb, off, none⟩) I.l.length cap) a n g h ++ (cellsF tb (off + a * 6) (nth I.l a) ++ cellsF tb (off + k * 6) (nth I.l k))) w.drew from
    Holds.app.2 ⟨(hc.later ((Below.refl _ w).drew)).holds, Holds.app.2 ⟨holds_at (hat.below hlt0 ((Below.refl _ w).drew)), holds_at (hkt.below hlt0 ((Below.refl _ w).drew))⟩⟩)
  have hlt := Lib.hid (show Lows w.drew.heap.size (cellsC b I (.slice (some ⟨tb, off, none⟩) I.l.length cap) a n g h ++ (cellsF tb (off + a * 6) (nth I.l a) ++ cellsF tb (off + k * 6) (nth I.l k))) from Lows.app (lows_C hc.lt) (Lows.app (lows_at hlt0) (lows_at hlt0)))
  generalize nth I.l a = s at *
  generalize nth I.l k = t at *
  clear hc hr hat hkt
  refine wp_region_held_drew (S := Holds (cellsC b I (.slice (some ⟨tb, off, none⟩) I.l.length cap) a n g h ++ (cellsF tb (off + a * 6) s ++ cellsF tb (off + k * 6) t))) (by kernel_rfl) HS0.out (fun hSn => ?_)
  have Bc := Lib.hid (Below.refl w.drew.heap.size w.drew)
  simp only [cellsC, cellsF, List.cons_append, List.nil_append] at *
  refine wpAnyH_take (i := 0) (oi := ?oz1) (v := ?vz1) ?iz1 (by kernel_rfl) (by kernel_rfl) (by kernel_rfl) ?qz1 (Or.inl ⟨?gz1, ?hz1⟩) (by assumption) ?rz1
  case iz1 => (simp only [List.getElem?_toArray, List.getElem?_cons_zero]; rfl)
  case qz1 => exact fun _ _ _ h => h
  case gz1 => rfl
  case hz1 => (intro w hSw; (simp only [Holds] at hSw); go_simp <;> with_reducible rfl)
  simp only [Act.put, List.setIfInBounds_toArray, List.set_cons_zero, List.set_cons_succ]
  refine wpAnyH_take (i := 1) (oi := ?oz2) (v := ?vz2) ?iz2 (by kernel_rfl) (by kernel_rfl) (by kernel_rfl) ?qz2 (Or.inl ⟨?gz2, ?hz2⟩) (by assumption) ?rz2
  case iz2 => (simp only [List.getElem?_toArray, List.getElem?_cons_zero, List.getElem?_cons_succ]; rfl)
  case qz2 => exact fun _ _ _ h => h
  case gz2 => rfl
  case hz2 => (intro w hSw; (simp only [Holds] at hSw); go_simp <;> with_reducible rfl)
  simp only [Act.put, List.setIfInBounds_toArray, List.set_cons_zero, List.set_cons_succ]
  refine wpAnyH_take (i := 2) (oi := ?oz3) (v := ?vz3) ?iz3 (by kernel_rfl) (by kernel_rfl) (by kernel_rfl) ?qz3 (Or.inl ⟨?gz3, ?hz3⟩) (by assumption) ?rz3
  case iz3 => (simp only [List.getElem?_toArray, List.getElem?_cons_zero, List.getElem?_cons_succ]; rfl)
  case qz3 => exact fun _ _ _ h => h
  case gz3 => rfl
  case hz3 => (intro w hSw; (simp only [Holds] at hSw); go_simp <;> with_reducible rfl)
  simp only [Act.put, List.setIfInBounds_toArray, List.set_cons_zero, List.set_cons_succ]
  refine wpAnyH_take (i := 3) (oi := ?oz4) (v := ?vz4) ?iz4 (by kernel_rfl) (by kernel_rfl) (by kernel_rfl) ?qz4 (Or.inl ⟨?gz4, ?hz4⟩) (by assumption) ?rz4
  case iz4 => (simp only [List.getElem?_toArray, List.getElem?_cons_zero, List.getElem?_cons_succ]; rfl)
  case qz4 => exact fun _ _ _ h => h
  case gz4 => rfl
  case hz4 => (intro w hSw; (simp only [Holds] at hSw); go_simp <;> with_reducible rfl)
  simp only [Act.put, List.setIfInBounds_toArray, List.set_cons_zero, List.set_cons_succ]
  refine wpAnyH_take (i := 4) (oi := ?oz5) (v := ?vz5) ?iz5 (by kernel_rfl) (by kernel_rfl) (by kernel_rfl) ?qz5 (Or.inl ⟨?gz5, ?hz5⟩) (by assumption) ?rz5
  case iz5 => (simp only [List.getElem?_toArray, List.getElem?_cons_zero, List.getElem?_cons_succ]; rfl)
  case qz5 => exact fun _ _ _ h => h
  case gz5 => rfl
  case hz5 => (intro w hSw; (simp only [Holds] at hSw); go_simp <;> with_reducible rfl)
  simp only [Act.put, List.setIfInBounds_toArray, List.set_cons_zero, List.set_cons_succ]
  refine wpAnyH_take (i := 5) (oi := ?oz6) (v := ?vz6) ?iz6 (by kernel_rfl) (by kernel_rfl) (by kernel_rfl) ?qz6 (Or.inl ⟨?gz6, ?hz6⟩) (by assumption) ?rz6
  case iz6 => (simp only [List.getElem?_toArray, List.getElem?_cons_zero, List.getElem?_cons_succ]; rfl)
  case qz6 => exact fun _ _ _ h => h
  case gz6 => rfl
  case hz6 => (intro w hSw; (simp only [Holds] at hSw); go_simp <;> with_reducible rfl)
  simp only [Act.put, List.setIfInBounds_toArray, List.set_cons_zero, List.set_cons_succ]
  refine wpAnyH_take (i := 6) (oi := ?oz7) (v := ?vz7) ?iz7 (by kernel_rfl) (by kernel_rfl) (by kernel_rfl) ?qz7 (Or.inl ⟨?gz7, ?hz7⟩) (by assumption) ?rz7
  case iz7 => (simp only [List.getElem?_toArray, List.getElem?_cons_zero, List.getElem?_cons_succ]; rfl)
  case qz7 => exact fun _ _ _ h => h
  case gz7 => rfl
  case hz7 => (intro w hSw; (simp only [Holds] at hSw); go_simp <;> with_reducible rfl)
  simp only [Act.put, List.setIfInBounds_toArray, List.set_cons_zero, List.set_cons_succ]
  refine wpAnyH_take (i := 7) (oi := ?oz8) (v := ?vz8) ?iz8 (by kernel_rfl) (by kernel_rfl) (by kernel_rfl) ?qz8 (Or.inl ⟨?gz8, ?hz8⟩) (by assumption) ?rz8
  case iz8 => (simp only [List.getElem?_toArray, List.getElem?_cons_zero, List.getElem?_cons_succ]; rfl)
  case qz8 => exact fun _ _ _ h => h
  case gz8 => rfl
  case hz8 => (intro w hSw; (simp only [Holds] at hSw); go_simp <;> with_reducible rfl)
  simp only [Act.put, List.setIfInBounds_toArray, List.set_cons_zero, List.set_cons_succ]
  refine wpAnyH_take (i := 8) (oi := ?oz9) (v := ?vz9) ?iz9 (by kernel_rfl) (by kernel_rfl) (by kernel_rfl) ?qz9 (Or.inl ⟨?gz9, ?hz9⟩) (by assumption) ?rz9
  case iz9 => (simp only [List.getElem?_toArray, List.getElem?_cons_zero, List.getElem?_cons_succ]; rfl)
  case qz9 => exact fun _ _ _ h => h
  case gz9 => rfl
  case hz9 => (intro w hSw; (simp only [Holds] at hSw); go_simp <;> with_reducible rfl)
  simp only [Act.put, List.setIfInBounds_toArray, List.set_cons_zero, List.set_cons_succ]
  refine wpAnyH_take (i := 9) (oi := ?oz10) (v := ?vz10) ?iz10 (by kernel_rfl) (by kernel_rfl) (by kernel_rfl) ?qz10 (Or.inl ⟨?gz10, ?hz10⟩) (by assumption) ?rz10
  case iz10 => (simp only [List.getElem?_toArray, List.getElem?_cons_zero, List.getElem?_cons_succ]; rfl)
  case qz10 => exact fun _ _ _ h => h
  case gz10 => rfl
  case hz10 => (intro w hSw; (simp only [Holds] at hSw); go_simp <;> with_reducible rfl)
  simp only [Act.put, List.setIfInBounds_toArray, List.set_cons_zero, List.set_cons_succ]
  refine wpAnyH_take (i := 10) (oi := ?oz11) (v := ?vz11) ?iz11 (by kernel_rfl) (by kernel_rfl) (by kernel_rfl) ?qz11 (Or.inl ⟨?gz11, ?hz11⟩) (by assumption) ?rz11
  case iz11 => (simp only [List.getElem?_toArray, List.getElem?_cons_zero, List.getElem?_cons_succ]; rfl)
  case qz11 => exact fun _ _ _ h => h
  case gz11 => rfl
  case hz11 => (intro w hSw; (simp only [Holds] at hSw); go_simp <;> with_reducible rfl)
  simp only [Act.put, List.setIfInBounds_toArray, List.set_cons_zero, List.set_cons_succ]
  refine wpAnyH_take (i := 11) (oi := ?oz12) (v := ?vz12) ?iz12 (by kernel_rfl) (by kernel_rfl) (by kernel_rfl) ?qz12 (Or.inl ⟨?gz12, ?hz12⟩) (by assumption) ?rz12
  case iz12 => (simp only [List.getElem?_toArray, List.getElem?_cons_zero, List.getElem?_cons_succ]; rfl)
  case qz12 => exact fun _ _ _ h => h
  case gz12 => rfl
  case hz12 => (intro w hSw; (simp only [Holds] at hSw); go_simp <;> with_reducible rfl)
  simp only [Act.put, List.setIfInBounds_toArray, List.set_cons_zero, List.set_cons_succ]
  refine wpAnyH_take (i := 12) (oi := ?oz13) (v := ?vz13) ?iz13 (by kernel_rfl) (by kernel_rfl) (by kernel_rfl) ?qz13 (Or.inl ⟨?gz13, ?hz13⟩) (by assumption) ?rz13
  case iz13 => (simp only [List.getElem?_toArray, List.getElem?_cons_zero, List.getElem?_cons_succ]; rfl)
  case qz13 => exact fun _ _ _ h => h
  case gz13 => rfl
  case hz13 => (intro w hSw; (simp only [Holds] at hSw); go_simp <;> with_reducible rfl)
  simp only [Act.put, List.setIfInBounds_toArray, List.set_cons_zero, List.set_cons_succ]
  refine wpAnyH_take (i := 13) (oi := ?oz14) (v := ?vz14) ?iz14 (by kernel_rfl) (by kernel_rfl) (by kernel_rfl) ?qz14 (Or.inl ⟨?gz14, ?hz14⟩) (by assumption) ?rz14
  case iz14 => (simp only [List.getElem?_toArray, List.getElem?_cons_zero, List.getElem?_cons_succ]; rfl)
  case qz14 => exact fun _ _ _ h => h
  case gz14 => rfl
  case hz14 => (intro w hSw; (simp only [Holds] at hSw); go_simp <;> with_reducible rfl)
  simp only [Act.put, List.setIfInBounds_toArray, List.set_cons_zero, List.set_cons_succ]
  refine wpAnyH_take (i := 14) (oi := ?oz15) (v := ?vz15) ?iz15 (by kernel_rfl) (by kernel_rfl) (by kernel_rfl) ?qz15 (Or.inl ⟨?gz15, ?hz15⟩) (by assumption) ?rz15
  case iz15 => (simp only [List.getElem?_toArray, List.getElem?_cons_zero, List.getElem?_cons_succ]; rfl)
  case qz15 => exact fun _ _ _ h => h
  case gz15 => rfl
  case hz15 => (intro w hSw; (simp only [Holds] at hSw); go_simp <;> with_reducible rfl)
  simp only [Act.put, List.setIfInBounds_toArray, List.set_cons_zero, List.set_cons_succ]
  refine wpAnyH_take (i := 15) (oi := ?oz16) (v := ?vz16) ?iz16 (by kernel_rfl) (by kernel_rfl) (by kernel_rfl) ?qz16 (Or.inl ⟨?gz16, ?hz16⟩) (by assumption) ?rz16
  case iz16 => (simp only [List.getElem?_toArray, List.getElem?_cons_zero, List.getElem?_cons_succ]; rfl)
  case qz16 => exact fun _ _ _ h => h
  case gz16 => rfl
  case hz16 => (intro w hSw; (simp only [Holds] at hSw); go_simp <;> with_reducible rfl)
  simp only [Act.put, List.setIfInBounds_toArray, List.set_cons_zero, List.set_cons_succ]
  refine wpAnyH_take (i := 16) (oi := ?oz17) (v := ?vz17) ?iz17 (by kernel_rfl) (by kernel_rfl) (by kernel_rfl) ?qz17 (Or.inl ⟨?gz17, ?hz17⟩) (by assumption) ?rz17
  case iz17 => (simp only [List.getElem?_toArray, List.getElem?_cons_zero, List.getElem?_cons_succ]; rfl)
  case qz17 => exact fun _ _ _ h => h
  case gz17 => rfl
  case hz17 => (intro w hSw; (simp only [Holds] at hSw); go_simp <;> with_reducible rfl)
  simp only [Act.put, List.setIfInBounds_toArray, List.set_cons_zero, List.set_cons_succ]
  refine wpAnyH_take (i := 17) (oi := ?oz18) (v := ?vz18) ?iz18 (by kernel_rfl) (by kernel_rfl) (by kernel_rfl) ?qz18 (Or.inl ⟨?gz18, ?hz18⟩) (by assumption) ?rz18
  case iz18 => (simp only [List.getElem?_toArray, List.getElem?_cons_zero, List.getElem?_cons_succ]; rfl)
  case qz18 => exact fun _ _ _ h => h
  case gz18 => rfl
  case hz18 => (intro w hSw; (simp only [Holds] at hSw); go_simp <;> with_reducible rfl)
  simp only [Act.put, List.setIfInBounds_toArray, List.set_cons_zero, List.set_cons_succ]
  refine wpAnyH_take (i := 18) (oi := ?oz19) (v := ?vz19) ?iz19 (by kernel_rfl) (by kernel_rfl) (by kernel_rfl) ?qz19 (Or.inl ⟨?gz19, ?hz19⟩) (by assumption) ?rz19
  case iz19 => (simp only [List.getElem?_toArray, List.getElem?_cons_zero, List.getElem?_cons_succ]; rfl)
  case qz19 => exact fun _ _ _ h => h
  case gz19 => rfl
  case hz19 => (intro w hSw; (simp only [Holds] at hSw); go_simp <;> with_reducible rfl)
  simp only [Act.put, List.setIfInBounds_toArray, List.set_cons_zero, List.set_cons_succ]
  refine wpAnyH_ready (rs := [19]) (by kernel_rfl) (by simp) ?_
  refine AllReadyH.cons (o := ?oz20) ?iz20 (fun K hK => ?kz20) AllReadyH.nil
  case iz20 => (simp only [List.getElem?_toArray, List.getElem?_cons_zero, List.getElem?_cons_succ]; rfl)
  go_simp
  change Calls _ _ #[stopV s, stopV t] _ _
  refine (far_any s t _).mono ?_
  rintro e w' ⟨rfl, hb⟩
  refine held_more hK HS0.out hlt (Bc.out.trans (hb.mono Bc.out.size)) (fun Bc hSn => ?_)
  clear hb hK
  refine wpAnyH_take (i := 20) (oi := ?oz21) (v := ?vz21) ?iz21 (by kernel_rfl) (by kernel_rfl) (by kernel_rfl) ?qz21 (Or.inl ⟨?gz21, ?hz21⟩) (by assumption) ?rz21
  case iz21 => (simp only [List.getElem?_toArray, List.getElem?_cons_zero, List.getElem?_cons_succ]; rfl)
  case qz21 => exact fun _ _ _ h => h
  case gz21 => rfl
  case hz21 => (intro w hSw; (simp only [Holds] at hSw); go_simp <;> with_reducible rfl)
  simp only [Act.put, List.setIfInBounds_toArray, List.set_cons_zero, List.set_cons_succ]
  refine wpAnyH_done (by kernel_rfl) ?_ _
  go_wp2
  go_ret
  exact ⟨ret_int hF.out.symm, HB1.out.trans (Bc.out.mono HB1.out.size)⟩
theorem wrap64_fits {n : Int} (h : -9223372036854775808 ≤ n ∧ n ≤ 9223372036854775807) : wrap64 n = n := IntWalk.wrap64_in n h
def tmN (n : Int) (s t : Stp) : Tm := ⟨n + farF s t, max (n + farF s t) t.r, max (n + farF s t) t.r + t.s⟩
theorem tmAt_eq (s : TS) (t : Stp) : tmAt s t = tmN s.now s.last t := rfl
set_option maxRecDepth 1000000 in
set_option maxHeartbeats 1000000 in
theorem timeAt_any {w : World} {b : Nat} {I : Ins} {sv : Value} {a k : Nat} {n g h : Int} {S : List Bool} {tv lv : Value} (hc : CarB w b I sv a n g h S tv lv) (hr : SRow w sv I.l) (ha : a < I.l.length) (hk : k < I.l.length)
    (hn : 0 ≤ n ∧ n ≤ 2000000) (hs : stopOk (stp I k) = true) :
    Calls Try.prog 53 #[.pointer (some ⟨b, 0, none⟩), .int .i64 k] w fun e w' => e = .returned (timeV (tmN n (stp I a) (stp I k))) ∧ Below w.heap.size w w' := by
  have HC := Lib.hid hc
  have HR := Lib.hid hr
  obtain ⟨ad, cap, rfl, hm, _⟩ := hr.form
  obtain ⟨tb, off, rfl, hkt, hlt0⟩ := srow_at hr k hk
  have HKT := Lib.hid (show At w tb (off + k * 6) (stp I k) from hkt)
  obtain ⟨_, _, hr0, hu0, hs0⟩ := stop_in hs
  have hfb := farF_bd (stp I a) (stp I k)
  have hki : (k : Int) < (I.l.length : Int) := by omega
  have HT := Lib.hid (show tmN n (stp I a) (stp I k) = ⟨n + farF (stp I a) (stp I k), max (n + farF (stp I a) (stp I k)) (stp I k).r, max (n + farF (stp I a) (stp I k)) (stp I k).r + (stp I k).s⟩ from rfl)
  have e1 : IntKind.i64.wrap (n + farF (stp I a) (stp I k)) = n + farF (stp I a) (stp I k) := IntWalk.i64_in _ (by omega)
  have e2 : IntKind.i64.wrap ((stp I k).r + (stp I k).s) = (stp I k).r + (stp I k).s := IntWalk.i64_in _ (by omega)
  have e3 : IntKind.i64.wrap (n + farF (stp I a) (stp I k) + (stp I k).s) = n + farF (stp I a) (stp I k) + (stp I k).s := IntWalk.i64_in _ (by omega)
  have e4 : wrap64 ((stp I k).r + (stp I k).s) = (stp I k).r + (stp I k).s := wrap64_fits (by omega)
  have e5 : wrap64 (n + farF (stp I a) (stp I k) + (stp I k).s) = n + farF (stp I a) (stp I k) + (stp I k).s := wrap64_fits (by omega)
  clear hc hr hkt hs hr0 hu0 hs0 hfb hm
  go_enter Try.func53, Try.ntmps53
  go_wp2_with fail
  have HB1 := Lib.hid ((Below.refl w.heap.size w).alloc (Nat.le_refl _) (.cells #[.int .i64 0, .int .i64 0, .int .i64 0] 40))
  have HZ := Lib.hid (heap_alloc_new w (.cells #[.int .i64 0, .int .i64 0, .int .i64 0] 40))
  have hWs : (w.alloc (.cells #[.int .i64 0, .int .i64 0, .int .i64 0] 40)).heap.size = w.heap.size + 1 := by simp
  have hkn : k < I.l.length := hk
  have han : a < I.l.length := ha
  generalize w.alloc (.cells #[.int .i64 0, .int .i64 0, .int .i64 0] 40) = W at *
  have HC1 := Lib.hid (HC.out.later (HB1.out.drew))
  have HR1 := Lib.hid (HR.out.below (HB1.out.drew))
  have HS0 := Lib.hid (show Holds [(⟨b, 5, none⟩, .int .i64 n)] W.drew from ⟨HC1.out.c5, trivial⟩)
  have hlt := Lib.hid (show Lows W.drew.heap.size [(⟨b, 5, none⟩, .int .i64 n)] from ⟨HC1.out.lt, trivial⟩)
  refine wp_region_held_drew (S := Holds [(⟨b, 5, none⟩, .int .i64 n)]) (by kernel_rfl) HS0.out (fun hSn => ?_)
  have Bc := Lib.hid (Below.refl W.drew.heap.size W.drew)
  refine wpAnyH_take (i := 0) (oi := ?oz22) (v := ?vz22) ?iz22 (by kernel_rfl) (by kernel_rfl) (by kernel_rfl) ?qz22 (Or.inl ⟨?gz22, ?hz22⟩) (by assumption) ?rz22
  case iz22 => (simp only [List.getElem?_toArray, List.getElem?_cons_zero]; rfl)
  case qz22 => exact fun _ _ _ h => h
  case gz22 => rfl
  case hz22 => (intro w hSw; (simp only [Holds] at hSw); go_simp <;> with_reducible rfl)
  simp only [Act.put, List.setIfInBounds_toArray, List.set_cons_zero, List.set_cons_succ]
  refine wpAnyH_take (i := 1) (oi := ?oz23) (v := ?vz23) ?iz23 (by kernel_rfl) (by kernel_rfl) (by kernel_rfl) ?qz23 (Or.inl ⟨?gz23, ?hz23⟩) (by assumption) ?rz23
  case iz23 => (simp only [List.getElem?_toArray, List.getElem?_cons_zero, List.getElem?_cons_succ]; rfl)
  case qz23 => exact fun _ _ _ h => h
  case gz23 => rfl
  case hz23 => (intro w hSw; (simp only [Holds] at hSw); go_simp <;> with_reducible rfl)
  simp only [Act.put, List.setIfInBounds_toArray, List.set_cons_zero, List.set_cons_succ]
  refine wpAnyH_take (i := 2) (oi := ?oz24) (v := ?vz24) ?iz24 (by kernel_rfl) (by kernel_rfl) (by kernel_rfl) ?qz24 (Or.inl ⟨?gz24, ?hz24⟩) (by assumption) ?rz24
  case iz24 => (simp only [List.getElem?_toArray, List.getElem?_cons_zero, List.getElem?_cons_succ]; rfl)
  case qz24 => exact fun _ _ _ h => h
  case gz24 => rfl
  case hz24 => (intro w hSw; (simp only [Holds] at hSw); go_simp <;> with_reducible rfl)
  simp only [Act.put, List.setIfInBounds_toArray, List.set_cons_zero, List.set_cons_succ]
  refine wpAnyH_take (i := 3) (oi := ?oz25) (v := ?vz25) ?iz25 (by kernel_rfl) (by kernel_rfl) (by kernel_rfl) ?qz25 (Or.inl ⟨?gz25, ?hz25⟩) (by assumption) ?rz25
  case iz25 => (simp only [List.getElem?_toArray, List.getElem?_cons_zero, List.getElem?_cons_succ]; rfl)
  case qz25 => exact fun _ _ _ h => h
  case gz25 => rfl
  case hz25 => (intro w hSw; (simp only [Holds] at hSw); go_simp <;> with_reducible rfl)
  simp only [Act.put, List.setIfInBounds_toArray, List.set_cons_zero, List.set_cons_succ]
  refine wpAnyH_take (i := 4) (oi := ?oz26) (v := ?vz26) ?iz26 (by kernel_rfl) (by kernel_rfl) (by kernel_rfl) ?qz26 (Or.inl ⟨?gz26, ?hz26⟩) (by assumption) ?rz26
  case iz26 => (simp only [List.getElem?_toArray, List.getElem?_cons_zero, List.getElem?_cons_succ]; rfl)
  case qz26 => exact fun _ _ _ h => h
  case gz26 => rfl
  case hz26 => (intro w hSw; (simp only [Holds] at hSw); go_simp <;> with_reducible rfl)
  simp only [Act.put, List.setIfInBounds_toArray, List.set_cons_zero, List.set_cons_succ]
  refine wpAnyH_take (i := 5) (oi := ?oz27) (v := ?vz27) ?iz27 (by kernel_rfl) (by kernel_rfl) (by kernel_rfl) ?qz27 (Or.inl ⟨?gz27, ?hz27⟩) (by assumption) ?rz27
  case iz27 => (simp only [List.getElem?_toArray, List.getElem?_cons_zero, List.getElem?_cons_succ]; rfl)
  case qz27 => exact fun _ _ _ h => h
  case gz27 => rfl
  case hz27 => (intro w hSw; (simp only [Holds] at hSw); go_simp <;> with_reducible rfl)
  simp only [Act.put, List.setIfInBounds_toArray, List.set_cons_zero, List.set_cons_succ]
  refine wpAnyH_ready (rs := [6]) (by kernel_rfl) (by simp) ?_
  refine AllReadyH.cons (o := ?oz28) ?iz28 (fun K hK => ?kz28) AllReadyH.nil
  case iz28 => (simp only [List.getElem?_toArray, List.getElem?_cons_zero, List.getElem?_cons_succ]; rfl)
  go_simp
  refine (farTo_any (HC1.out.later Bc.out) (HR1.out.below Bc.out) han hkn).mono ?_
  rintro e w' ⟨rfl, hb⟩
  refine held_more hK HS0.out hlt (Bc.out.trans (hb.mono Bc.out.size)) (fun Bc hSn => ?_)
  clear hb hK
  refine wpAnyH_take (i := 7) (oi := ?oz29) (v := ?vz29) ?iz29 (by kernel_rfl) (by kernel_rfl) (by kernel_rfl) ?qz29 (Or.inl ⟨?gz29, ?hz29⟩) (by assumption) ?rz29
  case iz29 => (simp only [List.getElem?_toArray, List.getElem?_cons_zero, List.getElem?_cons_succ]; rfl)
  case qz29 => exact fun _ _ _ h => h
  case gz29 => rfl
  case hz29 => (intro w hSw; (simp only [Holds] at hSw); go_simp <;> with_reducible rfl)
  simp only [Act.put, List.setIfInBounds_toArray, List.set_cons_zero, List.set_cons_succ]
  refine wpAnyH_take (i := 8) (oi := ?oz30) (v := ?vz30) ?iz30 (by kernel_rfl) (by kernel_rfl) (by kernel_rfl) ?qz30 (Or.inl ⟨?gz30, ?hz30⟩) (by assumption) ?rz30
  case iz30 => (simp only [List.getElem?_toArray, List.getElem?_cons_zero, List.getElem?_cons_succ]; rfl)
  case qz30 => exact fun _ _ _ h => h
  case gz30 => rfl
  case hz30 => (intro w hSw; (simp only [Holds] at hSw); go_simp <;> with_reducible rfl)
  simp only [Act.put, List.setIfInBounds_toArray, List.set_cons_zero, List.set_cons_succ]
  refine wpAnyH_done (by kernel_rfl) ?_ _
  have HB2 := Lib.hid (HB1.out.drew.trans (Bc.out.mono (by show w.heap.size ≤ W.heap.size; omega)))
  have HZ2 := Lib.hid (show w'.heap[w.heap.size]? = some (.cells #[.int .i64 0, .int .i64 0, .int .i64 0] 40 (0, 0)) by rw [Bc.out.block _ (by show w.heap.size < W.heap.size; omega)]; exact HZ.out)
  have b3 := (HC.out.later HB2.out).c3
  obtain ⟨t0, t1, t2, t3, t4, t5⟩ := HKT.out.below HKT.out.lt HB2.out
  have z0 : w'.cell? ⟨w.heap.size, 0, none⟩ = some (.int .i64 0) := by rw [cell_of_row w' _ 0 _ _ _ HZ2.out]; rfl
  have z1 : w'.cell? ⟨w.heap.size, 1, none⟩ = some (.int .i64 0) := by rw [cell_of_row w' _ 1 _ _ _ HZ2.out]; rfl
  have z2 : w'.cell? ⟨w.heap.size, 2, none⟩ = some (.int .i64 0) := by rw [cell_of_row w' _ 2 _ _ _ HZ2.out]; rfl
  have f0 := frozen_of_row w' w.heap.size 0 _ _ HZ2.out
  have f1 := frozen_of_row w' w.heap.size 1 _ _ HZ2.out
  have f2 := frozen_of_row w' w.heap.size 2 _ _ HZ2.out
  have HB3 := Lib.hid (((HB2.out.setCell (p := ⟨w.heap.size, 0, none⟩) (Nat.le_refl _) (.int .i64 (n + farF (stp I a) (stp I k)))).setCell (p := ⟨w.heap.size, 1, none⟩) (Nat.le_refl _) (.int .i64 (stp I k).r)).setCell (p := ⟨w.heap.size, 2, none⟩) (Nat.le_refl _) (.int .i64 ((stp I k).r + (stp I k).s)))
  have HB4 := Lib.hid (((HB2.out.setCell (p := ⟨w.heap.size, 0, none⟩) (Nat.le_refl _) (.int .i64 (n + farF (stp I a) (stp I k)))).setCell (p := ⟨w.heap.size, 1, none⟩) (Nat.le_refl _) (.int .i64 (n + farF (stp I a) (stp I k)))).setCell (p := ⟨w.heap.size, 2, none⟩) (Nat.le_refl _) (.int .i64 (n + farF (stp I a) (stp I k) + (stp I k).s)))
  go_wp2
  case inl h =>
    exact bodyPost_ret (v := .agg #[.int .i64 (n + farF (stp I a) (stp I k)), .int .i64 (stp I k).r, .int .i64 ((stp I k).r + (stp I k).s)]) (by simp [results, Try.results53, go_sem, z0, z1, z2]) rfl ⟨by rw [HT.out, Int.max_eq_right (Int.le_of_lt h)]; rfl, HB3.out⟩
  case inr h =>
    exact bodyPost_ret (v := .agg #[.int .i64 (n + farF (stp I a) (stp I k)), .int .i64 (n + farF (stp I a) (stp I k)), .int .i64 (n + farF (stp I a) (stp I k) + (stp I k).s)]) (by simp [results, Try.results53, go_sem, z0, z1, z2]) rfl ⟨by rw [HT.out, Int.max_eq_left h]; rfl, HB4.out⟩
end Go.Proofs.Ytolaiccgbngomaa
