/- HeapOrder holds for every order and any three entries; there is no further condition. -/
import Derived.Test.YtljgglmaglmceaaRows
import Derived.Test.YtljgglmaglmceaaEq
namespace Go.Proofs.Ytljgglmaglmceaa.heapOrder
open Go.ChangeShapes Go.WideShapes Go.ChangeAt Go.RowKit

/-- An entry in a box of its own, in a later world. -/
theorem boxed {w1 w2 : World} {N : Nat} {x : Ent} (hb : Below w1.heap.size w1 w2) (h : w1.heap[N]? = some (.cells #[.int .i64 x.b, .int .i64 x.d, .int .i64 x.n] 24 (0, 0))) :
    w2.cell? ⟨N, 0, none⟩ = some (.int .i64 x.b) ∧ w2.cell? ⟨N, 1, none⟩ = some (.int .i64 x.d) ∧ w2.cell? ⟨N, 2, none⟩ = some (.int .i64 x.n) := by
  have hlt : N < w1.heap.size := (Array.getElem?_eq_some_iff.1 h).1
  exact block_ent ((hb.block N hlt).trans h)
/-- The three boxes that the law begins with. -/
theorem three (w : World) (A B C : Obj) : Below w.heap.size w (((w.alloc A).alloc B).alloc C) ∧ (((w.alloc A).alloc B).alloc C).heap[w.heap.size]? = some A ∧ (((w.alloc A).alloc B).alloc C).heap[w.heap.size + 1]? = some B ∧ (((w.alloc A).alloc B).alloc C).heap[w.heap.size + 1 + 1]? = some C := by
  have e1 : (w.alloc A).heap.size = w.heap.size + 1 := by simp
  have e2 : ((w.alloc A).alloc B).heap.size = w.heap.size + 1 + 1 := by simp
  refine ⟨(((Below.refl _ _).alloc (Nat.le_refl _) A).alloc (by omega) B).alloc (by omega) C, ?_, ?_, ?_⟩
  · rw [Below.heap_alloc _ _ _ (by omega), Below.heap_alloc _ _ _ (by omega)]; exact heap_alloc_new w A
  · rw [Below.heap_alloc _ _ _ (by omega), ← e1]; exact heap_alloc_new (w.alloc A) B
  · rw [← e2]; exact heap_alloc_new ((w.alloc A).alloc B) C
/-- How three entries stand to each other. -/
theorem tri (o : Int) (x y : Ent) : (lt o x y = true ∧ lt o y x = false ∧ eq3 x.b x.d x.n y.b y.d y.n = false) ∨ (lt o x y = false ∧ lt o y x = true ∧ eq3 x.b x.d x.n y.b y.d y.n = false) ∨ (lt o x y = false ∧ lt o y x = false ∧ eq3 x.b x.d x.n y.b y.d y.n = true) := by
  rw [eq3_ent]
  cases h1 : lt o x y
  · cases h2 : lt o y x
    · exact .inr (.inr ⟨rfl, rfl, decide_eq_true (lt_tot o x y h1 h2)⟩)
    · exact .inr (.inl ⟨rfl, rfl, decide_eq_false (fun e => by rw [e, lt_irr] at h2; cases h2)⟩)
  · exact .inl ⟨rfl, lt_asym o x y h1, decide_eq_false (fun e => by rw [e, lt_irr] at h1; cases h1)⟩

set_option maxRecDepth 1000000 in
set_option maxHeartbeats 1000000 in
theorem walk (a0 : Int) (x1 : Ent) (x2 : Ent) (x3 : Ent) (w : World) :
    Calls Try.prog 5 #[.int .i64 a0, entV x1, entV x2, entV x3] w fun e w' => e = .returned (.bool true) ∧ Below w.heap.size w w' := by
  unfold entV
  go_enter Try.func5, Try.ntmps5
  go_wp2_with fail
  obtain ⟨hb0, b1, b2, b3⟩ := three w (.cells #[.int .i64 x1.b, .int .i64 x1.d, .int .i64 x1.n] 24) (.cells #[.int .i64 x2.b, .int .i64 x2.d, .int .i64 x2.n] 24) (.cells #[.int .i64 x3.b, .int .i64 x3.d, .int .i64 x3.n] 24)
  have HB0 := Lib.hid hb0
  have B1 := Lib.hid b1
  have B2 := Lib.hid b2
  have B3 := Lib.hid b3
  clear hb0 b1 b2 b3
  generalize ((w.alloc (.cells #[.int .i64 x1.b, .int .i64 x1.d, .int .i64 x1.n] 24)).alloc (.cells #[.int .i64 x2.b, .int .i64 x2.d, .int .i64 x2.n] 24)).alloc (.cells #[.int .i64 x3.b, .int .i64 x3.d, .int .i64 x3.n] 24) = w1 at *
  generalize w.heap.size + 1 + 1 = N3 at B3 ⊢
  generalize w.heap.size + 1 = N2 at B2 ⊢
  generalize hN1 : w.heap.size = N1 at B1 ⊢
  clear hN1
  refine (awake_any _).mono ?_
  rintro e w2 ⟨rfl, hb⟩
  have HB := Lib.hid hb
  clear hb
  obtain ⟨c0, c1, c2⟩ := boxed HB.out B1.out
  obtain ⟨d0, d1, d2⟩ := boxed HB.out B2.out
  go_wp2_with fail
  refine (less_any a0 x1 x2 _).mono ?_
  rintro e w3 ⟨rfl, hb⟩
  have HB3 := Lib.hid (HB.out.trans (hb.mono HB.out.size))
  clear hb c0 c1 c2 d0 d1 d2
  obtain ⟨c0, c1, c2⟩ := boxed HB3.out B1.out
  obtain ⟨d0, d1, d2⟩ := boxed HB3.out B2.out
  go_wp2_with fail
  refine (less_any a0 x2 x1 _).mono ?_
  rintro e w4 ⟨rfl, hb⟩
  have HB4 := Lib.hid (HB3.out.trans (hb.mono HB3.out.size))
  clear hb c0 c1 c2 d0 d1 d2
  obtain ⟨c0, c1, c2⟩ := boxed HB4.out B3.out
  obtain ⟨d0, d1, d2⟩ := boxed HB4.out B2.out
  go_wp2_with fail
  refine (less_any a0 x2 x3 _).mono ?_
  rintro e w5 ⟨rfl, hb⟩
  have HB5 := Lib.hid (HB4.out.trans (hb.mono HB4.out.size))
  clear hb c0 c1 c2 d0 d1 d2
  obtain ⟨c0, c1, c2⟩ := boxed HB5.out B1.out
  obtain ⟨d0, d1, d2⟩ := boxed HB5.out B2.out
  obtain ⟨f0, f1, f2⟩ := boxed HB5.out B3.out
  have hI := lt_irr a0 x1
  have hq := equal24
  have hgd := guard24
  have HAC := Lib.hid (fun (h1 : lt a0 x1 x2 = true) (h2 : lt a0 x2 x3 = true) => lt_trans a0 x1 x2 x3 h1 h2)
  rcases tri a0 x1 x2 with ⟨h1, h2, h3⟩ | ⟨h1, h2, h3⟩ | ⟨h1, h2, h3⟩
  · cases h4 : lt a0 x2 x3
    · go_wp2_with fail
      refine (less_any a0 x1 x1 _).mono ?_
      rintro e w6 ⟨rfl, hb⟩
      have HB6 := Lib.hid (HB5.out.trans (hb.mono HB5.out.size))
      clear hb
      go_wp2
      go_ret
      exact ⟨rfl, HB0.out.trans (HB6.out.mono HB0.out.size)⟩
    · have h5 := HAC.out h1 h4
      go_wp2_with fail
      refine (less_any a0 x1 x3 _).mono ?_
      rintro e w6 ⟨rfl, hb⟩
      have HB6 := Lib.hid (HB5.out.trans (hb.mono HB5.out.size))
      clear hb c0 c1 c2 d0 d1 d2 f0 f1 f2
      obtain ⟨c0, c1, c2⟩ := boxed HB6.out B1.out
      go_wp2_with fail
      refine (less_any a0 x1 x1 _).mono ?_
      rintro e w7 ⟨rfl, hb⟩
      have HB7 := Lib.hid (HB6.out.trans (hb.mono HB6.out.size))
      clear hb
      go_wp2
      go_ret
      exact ⟨rfl, HB0.out.trans (HB7.out.mono HB0.out.size)⟩
  all_goals
    go_wp2_with fail
    refine (less_any a0 x1 x1 _).mono ?_
    rintro e w6 ⟨rfl, hb⟩
    have HB6 := Lib.hid (HB5.out.trans (hb.mono HB5.out.size))
    clear hb
    go_wp2
    go_ret
    exact ⟨rfl, HB0.out.trans (HB6.out.mono HB0.out.size)⟩

set_option maxRecDepth 100000 in
theorem lifted (os : Os) (started : os.Started) (H : Type) (enc : TypeId × Value → H) :
    ReturnsInHanded {} Try.checked os 5 .any (Rows.heapOrderSpec.pre6 enc Try.prog Try.f5 Rows.heapOrderRow.domain false) (Rows.heapOrderSpec.post enc Try.prog Try.f5 false true false false) := by
  refine returnsInHanded_of_change (C := Try.checked) own started (by kernel_rfl) Try.func5
    (ChangeSpec.witness6 (enc := enc) (C := Try.checked) false ⟨#[], #[.int .i64 0, .agg #[.int .i64 0, .int .i64 0, .int .i64 0], .agg #[.int .i64 0, .int .i64 0, .int .i64 0], .agg #[.int .i64 0, .int .i64 0, .int .i64 0]], []⟩ 8 (by kernel_rfl) (by kernel_rfl) (by kernel_rfl) (by kernel_rfl)) ?_
  intro W base args ds gs before hval0 hW hcnd _
  have hval : ∀ (j : Nat) t v, Try.f5.params[j]? = some t → args[j]? = some v → Value.okWide Try.prog W .any base t v := hval0
  have hW' := hW
  obtain ⟨p, q, hA0, hV, rfl, hfz, hnd⟩ := hW
  have hA : DataW.TrodAll enc Try.prog W 0 (fun _ => true) true Try.f5.params.toList args.toList ds p := hA0
  rw [Try.params5] at hA hval
  obtain ⟨v0, vs0, d0, ds0, p0, q0, hargs, rfl, rfl, h0, r0⟩ := trodAll_cons hA
  obtain ⟨v1, vs1, d1, ds1, p1, q1, rfl, rfl, rfl, h1, r1⟩ := trodAll_cons r0
  obtain ⟨v2, vs2, d2, ds2, p2, q2, rfl, rfl, rfl, h2, r2⟩ := trodAll_cons r1
  obtain ⟨v3, vs3, d3, ds3, p3, q3, rfl, rfl, rfl, h3, r3⟩ := trodAll_cons r2
  obtain ⟨rfl, rfl, rfl⟩ := trodAll_nil r3
  obtain rfl : args = #[v0, v1, v2, v3] := by cases args; simp_all
  obtain ⟨rfl, rfl⟩ := trodVars_none hV
  have k0 := h0
  have lt0 : ∀ x ∈ p0, x.block < W.heap.size := by obtain ⟨m, hm⟩ := k0; exact DataW.trod_lt m _ _ _ hm
  have k1 := h1
  have lt1 : ∀ x ∈ p1, x.block < W.heap.size := by obtain ⟨m, hm⟩ := k1; exact DataW.trod_lt m _ _ _ hm
  have k2 := h2
  have lt2 : ∀ x ∈ p2, x.block < W.heap.size := by obtain ⟨m, hm⟩ := k2; exact DataW.trod_lt m _ _ _ hm
  have k3 := h3
  have lt3 : ∀ x ∈ p3, x.block < W.heap.size := by obtain ⟨m, hm⟩ := k3; exact DataW.trod_lt m _ _ _ hm
  obtain ⟨a0, rfl, rfl, rfl, _⟩ := open_int Try.underlying3 (hval 0 3 v0 rfl rfl) h0
  obtain ⟨x1, rfl⟩ := open_ent (hval 1 24 v1 rfl rfl) h1
  obtain ⟨x2, rfl⟩ := open_ent (hval 2 24 v2 rfl rfl) h2
  obtain ⟨x3, rfl⟩ := open_ent (hval 3 24 v3 rfl rfl) h3
  clear hA0 hval0
  refine (walk a0 x1 x2 x3 W ).mono fun e W' ⟨he, bel⟩ => ?_
  subst he
  exact ⟨_, rfl, _, _, _, [], _, [], hW', trodAll_mk1 (shut_bool Try.underlying4 _), (trodAll_cons_mk (Below.trod laidOut (by kernel_rfl) (of_decide_eq_true (by kernel_rfl)) k0 bel lt0) (trodAll_cons_mk (Below.trod laidOut (by kernel_rfl) (of_decide_eq_true (by kernel_rfl)) k1 bel lt1) (trodAll_cons_mk (Below.trod laidOut (by kernel_rfl) (of_decide_eq_true (by kernel_rfl)) k2 bel lt2) (trodAll_cons_mk (Below.trod laidOut (by kernel_rfl) (of_decide_eq_true (by kernel_rfl)) k3 bel lt3) trodAll_mk0)))), rfl, bel.frame _, fun h => by cases h⟩

theorem over : Rows.heapOrderRow.holds Try.pinned (OpenSpec.ofChange Rows.heapOrderSpec) :=
  OpenClaim.holds_of_wide 5 Try.f5 rfl rfl rfl rfl rfl rfl rfl ⟨rfl, rfl, rfl, rfl, rfl⟩ rfl rfl rfl rfl rfl (by kernel_rfl) Try.func5 (by kernel_rfl)
    (of_decide_eq_true (by kernel_rfl)) (by unfold Func.isWrapper; first | (rw [if_pos (by decide +kernel)]; kernel_rfl) | (rw [if_neg (by decide +kernel)]; exact ⟨rfl, rfl⟩))
    (fun os started H enc _ => lifted os started H enc)

theorem proved : Rows.HeapOrderSaid := over
#print axioms proved
end Go.Proofs.Ytljgglmaglmceaa.heapOrder
