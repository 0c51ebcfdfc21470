/- States thrown together, and states that cover others: plain mathematics. -/
import Derived.Test.YtpgbbnmflnhlbaaXSPlan
import Derived.Test.YtpgbbnmflnhlbaaXIMem
import Derived.Test.YtpgbbnmflnhlbaaXSNext
import Derived.Test.YtpgbbnmflnhlbaaSArgs
namespace Go.Proofs.Ytpgbbnmflnhlbaa

/-- Its sets are such. -/
structure Fits64 (s : Sta) : Prop where
  must : s.must < 18446744073709551616
  may : s.may < 18446744073709551616
  on : s.on < 18446744073709551616
def Covers (a b : Sta) : Prop := a.pos = b.pos ∧ a.car ≤ b.car ∧ a.time ≤ b.time ∧ a.load ≤ b.load ∧ a.first ≤ b.first ∧ within a.must b.must = true ∧ within a.on b.on = true ∧ within b.may a.may = true
instance (a b : Sta) : Decidable (Covers a b) := by unfold Covers; infer_instance
theorem covers_refl {a : Sta} (h : Fits64 a) : Covers a a := ⟨rfl, Int.le_refl _, Int.le_refl _, Int.le_refl _, Int.le_refl _, within_refl _ h.must, within_refl _ h.on, within_refl _ h.may⟩
theorem covers_trans {a b c : Sta} (ha : Fits64 a) (hb : Fits64 b) (hc : Fits64 c) (h : Covers a b) (k : Covers b c) : Covers a c := by
  obtain ⟨h1, h2, h3, h4, h5, h6, h7, h8⟩ := h
  obtain ⟨k1, k2, k3, k4, k5, k6, k7, k8⟩ := k
  exact ⟨h1.trans k1, by omega, by omega, by omega, by omega, within_trans _ _ _ ha.must hb.must h6 k6, within_trans _ _ _ ha.on hb.on h7 k7, within_trans _ _ _ hc.may hb.may k8 h8⟩
theorem covers_anti {a b : Sta} (ha : Fits64 a) (hb : Fits64 b) (h : Covers a b) (k : Covers b a) : a = b := by
  obtain ⟨h1, h2, h3, h4, h5, h6, h7, h8⟩ := h
  obtain ⟨_, k2, k3, k4, k5, k6, k7, k8⟩ := k
  have e1 := within_anti _ _ ha.must hb.must h6 k6
  have e2 := within_anti _ _ ha.on hb.on h7 k7
  have e3 := within_anti _ _ ha.may hb.may k8 h8
  obtain ⟨a1, a2, a3, a4, a5, a6, a7, a8⟩ := a
  obtain ⟨b1, b2, b3, b4, b5, b6, b7, b8⟩ := b
  simp only at *
  subst h1 e1 e2 e3
  obtain rfl : a2 = b2 := by omega
  obtain rfl : a3 = b3 := by omega
  obtain rfl : a4 = b4 := by omega
  obtain rfl : a5 = b5 := by omega
  rfl
/-- RelaxOrder. -/
theorem covers_both {a b : Sta} (ha : Fits64 a) (hb : Fits64 b) : (Covers a b ∧ Covers b a) ↔ a = b := ⟨fun h => covers_anti ha hb h.1 h.2, fun h => by subst h; exact ⟨covers_refl ha, covers_refl ha⟩⟩
theorem within_has {s t : Nat} (hs : s < 18446744073709551616) (h : within s t = true) {i : Int} (hi : has s i = true) : has t i = true := by
  have hr : 0 ≤ i ∧ i ≤ 63 := Decidable.byContradiction (fun hn => by rw [has_no s i hn] at hi; cases hi)
  obtain ⟨k, rfl⟩ : ∃ k : Nat, i = k := ⟨i.toNat, by omega⟩
  exact (within_iff s t hs).1 h k (by omega) hi
theorem within_or_both {s t u v : Nat} (hs : s < 18446744073709551616) (hu : u < 18446744073709551616) (h : within s t = true) (k : within u v = true) : within (s ||| u) (t ||| v) = true := by
  rw [within_iff _ _ (or_lt hs hu)]
  intro i hi h1
  rw [has_or, Bool.or_eq_true] at h1 ⊢
  exact h1.imp (within_has hs h) (within_has hu k)
theorem within_minus {s t u : Nat} (hs : s < 18446744073709551616) (ht : t < 18446744073709551616) (h : within s t = true) : within (minus s u) (minus t u) = true := by
  rw [within_iff _ _ (minus_lt hs)]
  intro i hi h1
  rw [has_minus _ _ _ hs, Bool.and_eq_true] at h1
  rw [has_minus _ _ _ ht, Bool.and_eq_true]
  exact ⟨within_has hs h h1.1, h1.2⟩
theorem fits_next {I : Ins} {s : Sta} (h : Fits64 s) (j : Int) : Fits64 (nextS I s j) := by
  unfold nextS
  by_cases hj : j = 0
  · rw [if_pos hj]; exact ⟨h.must, h.may, h.on⟩
  · rw [if_neg hj]
    refine ⟨or_lt h.must (bitN_lt j), or_lt h.may (bitN_lt j), ?_⟩
    show (if j ≤ I.p then s.on ||| bitN j else minus s.on (bitN (j - I.p))) < _
    split
    · exact or_lt h.on (bitN_lt j)
    · exact minus_lt h.on

/-! ### What covers can do as much -/
/-- Its numbers may be. -/
def NumOk (a : Sta) : Prop := 1 ≤ a.car ∧ 0 ≤ a.time ∧ 0 ≤ a.load
theorem covers_beg {I : Ins} {a b : Sta} (h : Covers a b) (j : Int) : begS I a j ≤ begS I b j ∧ comeS I a j ≤ comeS I b j ∧ farS1 I a j = farS1 I b j := by
  obtain ⟨h1, _, h3, _⟩ := h
  unfold begS comeS farS1
  rw [h1]
  omega
theorem covers_on {a b : Sta} (ha : Fits64 a) (h : Covers a b) (hb : b.on = 0) : a.on = 0 := by
  obtain ⟨_, _, _, _, _, _, h7, _⟩ := h
  refine ext_has ha.on (by decide) (fun k _ => ?_)
  rw [has_zero]
  cases hh : has a.on k with
  | false => rfl
  | true => have := within_has ha.on h7 hh; rw [hb, has_zero] at this; cases this
theorem covers_goOn {I : Ins} {a b : Sta} (h : Covers a b) (hn : NumOk a) (hg : GoOn I b) : GoOn I a := by
  obtain ⟨h1, h2, h3, h4, _⟩ := h
  obtain ⟨g1, g2, g3, g4, g5⟩ := hg
  obtain ⟨n1, n2, n3⟩ := hn
  exact ⟨g1, by rw [h1]; exact g2, by omega, by omega, by omega⟩
/-- Each move of what is covered can be made. -/
theorem covers_can {I : Ins} {a b : Sta} (ha : Fits64 a) (hb : Fits64 b) (h : Covers a b) (hn : NumOk a) {j : Int} (hc : Can I b j) : Can I a j := by
  have hgo := covers_goOn h hn hc.1
  obtain ⟨k1, k2, k3⟩ := covers_beg (I := I) h j
  have k4 := (covers_beg (I := I) h 0).2.1
  have hon := fun e => covers_on ha h e
  obtain ⟨h1, h2, h3, h4, h5, h6, h7, h8⟩ := h
  have hm : ∀ i : Int, has b.must i = false → has a.must i = false := fun i hi => by
    cases hh : has a.must i with
    | false => rfl
    | true => rw [within_has ha.must h6 hh] at hi; cases hi
  refine ⟨hgo, ?_⟩
  rcases hc.2 with ⟨c1, c2, c3, c4, c5⟩ | ⟨c1, c2, c3, c4, c5⟩ | ⟨c1, c2, c3, c4, c5, c6⟩
  · exact .inl ⟨c1, hm j c2, by omega, by omega, fun e => by have := c5 (by rw [← h1]; exact e); omega⟩
  · exact .inr (.inl ⟨c1, by rw [h1]; exact c2, hm j c3, within_has hb.may h8 c4, by omega⟩)
  · refine .inr (.inr ⟨c1, by rw [h1]; exact c2, hon c3, by omega, ?_, by omega⟩)
    cases hh : within (allS I) a.must with
    | false => rfl
    | true => rw [within_trans (allS I) _ _ (upto_lt _) ha.must hh h6] at c5; cases c5
/-- What is behind it covers what is behind the other one's. -/
theorem covers_next {I : Ins} {a b : Sta} (ha : Fits64 a) (hb : Fits64 b) (h : Covers a b) (j : Int) : Covers (nextS I a j) (nextS I b j) := by
  obtain ⟨k1, k2, k3⟩ := covers_beg (I := I) h j
  obtain ⟨h1, h2, h3, h4, h5, h6, h7, h8⟩ := h
  unfold nextS
  by_cases hj : j = 0
  · rw [if_pos hj, if_pos hj]
    exact ⟨rfl, by show a.car + 1 ≤ b.car + 1; omega, Int.le_refl _, Int.le_refl _, h5, h6, h7, h8⟩
  · rw [if_neg hj, if_neg hj]
    have hbl := bitN_lt j
    refine ⟨rfl, h2, ?_, ?_, ?_, within_or_both ha.must hbl h6 (within_refl _ hbl), ?_, within_or_both hb.may hbl h8 (within_refl _ hbl)⟩
    · show begS I a j + (stp I j).s ≤ begS I b j + (stp I j).s
      omega
    · show max (a.load + (stp I j).d) 0 ≤ max (b.load + (stp I j).d) 0
      omega
    · show (if a.pos = 0 then j else a.first) ≤ (if b.pos = 0 then j else b.first)
      rw [h1]
      split
      · exact Int.le_refl _
      · exact h5
    · show within (if j ≤ I.p then a.on ||| bitN j else minus a.on (bitN (j - I.p))) (if j ≤ I.p then b.on ||| bitN j else minus b.on (bitN (j - I.p))) = true
      split
      · exact within_or_both ha.on hbl h7 (within_refl _ hbl)
      · exact within_minus ha.on hb.on h7
theorem covers_num {I : Ins} {a : Sta} (hn : NumOk a) {j : Int} (hc : Can I a j) : NumOk (nextS I a j) := by
  obtain ⟨n1, n2, n3⟩ := hn
  have hf := fine_of hc.1.1
  unfold nextS
  by_cases hj : j = 0
  · rw [if_pos hj]
    have := stop_in (hf.ok 0 (Int.le_refl _) (by have := hf.p0; omega))
    exact ⟨by show 1 ≤ a.car + 1; omega, by show 0 ≤ (stp I 0).r; omega, Int.le_refl _⟩
  · rw [if_neg hj]
    have hr := can_rng hc
    have hs := stop_in (hf.ok j hr.1 hr.2)
    have hfar := (farF_bd (stp I a.pos) (stp I j)).1
    refine ⟨n1, ?_, ?_⟩
    · show 0 ≤ max (a.time + farF (stp I a.pos) (stp I j)) (stp I j).r + (stp I j).s
      omega
    · show 0 ≤ max (a.load + (stp I j).d) 0
      omega
/-- Where the other one can be ended it can, for as much, if there are pairs. -/
theorem covers_end {I : Ins} {a b : Sta} (ha : Fits64 a) (hb : Fits64 b) (h : Covers a b) (hn : NumOk a) (hp : I.p ≠ 0) (he : EndS I b) : EndS I a ∧ endC I a = endC I b := by
  have he' := he
  rcases he with ⟨_, h0, _⟩ | ⟨g, e1, e2, e3, e4⟩
  · exact absurd h0 hp
  · have hk := covers_beg (I := I) h 0
    have hE : EndS I a := .inr ⟨covers_goOn h hn g, by rw [h.1]; exact e1, covers_on ha h e2, within_trans (allS I) _ _ (upto_lt _) hb.may e3 h.2.2.2.2.2.2.2, by omega⟩
    refine ⟨hE, ?_⟩
    rw [endC_is hE, endC_is he', hk.2.2]

/-! ### Thrown together -/
def join2 (s t : Sta) : Sta := ⟨s.pos, min s.car t.car, min s.time t.time, min s.load t.load, min s.first t.first, s.must &&& t.must, s.may ||| t.may, s.on &&& t.on⟩
def joinF (s : Sta) : List Sta → Option Sta
  | [] => some s
  | t :: l => if t.pos = s.pos then joinF (join2 s t) l else none
def joinS : List Sta → Option Sta
  | [] => none
  | s :: l => joinF s l
theorem joinF_snoc (t : Sta) : ∀ (l : List Sta) (s : Sta), joinF s (l ++ [t]) = (joinF s l).bind (fun u => if t.pos = u.pos then some (join2 u t) else none)
  | [], s => by
    show (if t.pos = s.pos then some (join2 s t) else none) = _
    rfl
  | x :: l, s => by
    rw [List.cons_append, joinF, joinF]
    split
    · exact joinF_snoc t l _
    · rfl
theorem fits_join {s t : Sta} (hs : Fits64 s) (ht : Fits64 t) : Fits64 (join2 s t) := ⟨and_lt hs.must, or_lt hs.may ht.may, and_lt hs.on⟩
theorem join2_left {s t : Sta} (hs : Fits64 s) : Covers (join2 s t) s := by
  refine ⟨rfl, ?_, ?_, ?_, ?_, within_and _ _ hs.must, within_and _ _ hs.on, within_or _ _ hs.may⟩
  · show min s.car t.car ≤ s.car; omega
  · show min s.time t.time ≤ s.time; omega
  · show min s.load t.load ≤ s.load; omega
  · show min s.first t.first ≤ s.first; omega
theorem join2_right {s t : Sta} (ht : Fits64 t) (hp : t.pos = s.pos) : Covers (join2 s t) t := by
  refine ⟨hp.symm, ?_, ?_, ?_, ?_, ?_, ?_, ?_⟩
  · show min s.car t.car ≤ t.car; omega
  · show min s.time t.time ≤ t.time; omega
  · show min s.load t.load ≤ t.load; omega
  · show min s.first t.first ≤ t.first; omega
  · show within (s.must &&& t.must) t.must = true
    rw [Nat.and_comm]; exact within_and _ _ ht.must
  · show within (s.on &&& t.on) t.on = true
    rw [Nat.and_comm]; exact within_and _ _ ht.on
  · show within t.may (s.may ||| t.may) = true
    rw [Nat.or_comm]; exact within_or _ _ ht.may
theorem join2_least {a s t : Sta} (ha : Fits64 a) (hs : Fits64 s) (ht : Fits64 t) (h : Covers a s) (k : Covers a t) : Covers a (join2 s t) := by
  obtain ⟨h1, h2, h3, h4, h5, h6, h7, h8⟩ := h
  obtain ⟨_, k2, k3, k4, k5, k6, k7, k8⟩ := k
  refine ⟨h1, ?_, ?_, ?_, ?_, ?_, ?_, ?_⟩
  · show a.car ≤ min s.car t.car; omega
  · show a.time ≤ min s.time t.time; omega
  · show a.load ≤ min s.load t.load; omega
  · show a.first ≤ min s.first t.first; omega
  · show within a.must (s.must &&& t.must) = true
    rw [within_iff _ _ ha.must]
    intro i _ hi
    rw [has_and, Bool.and_eq_true]
    exact ⟨within_has ha.must h6 hi, within_has ha.must k6 hi⟩
  · show within a.on (s.on &&& t.on) = true
    rw [within_iff _ _ ha.on]
    intro i _ hi
    rw [has_and, Bool.and_eq_true]
    exact ⟨within_has ha.on h7 hi, within_has ha.on k7 hi⟩
  · show within (s.may ||| t.may) a.may = true
    rw [within_iff _ _ (or_lt hs.may ht.may)]
    intro i _ hi
    rw [has_or, Bool.or_eq_true] at hi
    rcases hi with hi | hi
    · exact within_has hs.may h8 hi
    · exact within_has ht.may k8 hi
theorem joinF_is : ∀ (l : List Sta) (s u : Sta), Fits64 s → (∀ x ∈ l, Fits64 x) → joinF s l = some u → Fits64 u ∧ Covers u s ∧ (∀ x ∈ l, Covers u x) ∧ ∀ a, Fits64 a → Covers a s → (∀ x ∈ l, Covers a x) → Covers a u
  | [], s, u, hs, _, h => by
    simp only [joinF, Option.some.injEq] at h
    subst h
    exact ⟨hs, covers_refl hs, fun x hx => (nomatch hx), fun a _ h _ => h⟩
  | t :: l, s, u, hs, hl, h => by
    have ht := hl t (by simp)
    rw [joinF] at h
    by_cases hp : t.pos = s.pos
    · rw [if_pos hp] at h
      have hj := fits_join hs ht
      obtain ⟨h1, h2, h3, h4⟩ := joinF_is l _ u hj (fun x hx => hl x (by simp [hx])) h
      refine ⟨h1, covers_trans h1 hj hs h2 (join2_left hs), fun x hx => ?_, fun a ha k1 k2 => h4 a ha (join2_least ha hs ht k1 (k2 t (by simp))) (fun x hx => k2 x (by simp [hx]))⟩
      rcases List.mem_cons.1 hx with rfl | hx
      · exact covers_trans h1 hj ht h2 (join2_right ht hp)
      · exact h3 x hx
    · rw [if_neg hp] at h; cases h
theorem joinF_none : ∀ (l : List Sta) (s : Sta), joinF s l = none ↔ ∃ x ∈ l, x.pos ≠ s.pos
  | [], s => by simp [joinF]
  | t :: l, s => by
    rw [joinF]
    by_cases hp : t.pos = s.pos
    · rw [if_pos hp, joinF_none l _]
      show (∃ x ∈ l, x.pos ≠ s.pos) ↔ _
      simp [hp]
    · rw [if_neg hp]; simp [hp]
/-- What is joined covers each, and is covered by all that cover each. -/
theorem join_is {l : List Sta} {u : Sta} (hl : ∀ x ∈ l, Fits64 x) (h : joinS l = some u) : Fits64 u ∧ (∀ x ∈ l, Covers u x) ∧ ∀ a, Fits64 a → (∀ x ∈ l, Covers a x) → Covers a u := by
  cases l with
  | nil => cases h
  | cons s l =>
    obtain ⟨h1, h2, h3, h4⟩ := joinF_is l s u (hl s (by simp)) (fun x hx => hl x (by simp [hx])) h
    refine ⟨h1, fun x hx => ?_, fun a ha k => h4 a ha (k s (by simp)) (fun x hx => k x (by simp [hx]))⟩
    rcases List.mem_cons.1 hx with rfl | hx
    · exact h2
    · exact h3 x hx
theorem join_none {l : List Sta} : joinS l = none ↔ l = [] ∨ ∃ x ∈ l, ∃ y ∈ l, x.pos ≠ y.pos := by
  cases l with
  | nil => simp [joinS]
  | cons s l =>
    rw [joinS, joinF_none]
    constructor
    · rintro ⟨x, hx, hn⟩; exact .inr ⟨x, by simp [hx], s, by simp, hn⟩
    · rintro (h | ⟨x, hx, y, hy, hn⟩)
      · cases h
      · refine Decidable.byContradiction (fun hc => hn ?_)
        have hall : ∀ z ∈ s :: l, z.pos = s.pos := fun z hz => by
          rcases List.mem_cons.1 hz with rfl | hz
          · rfl
          · exact Decidable.byContradiction (fun h => hc ⟨z, hz, h⟩)
        rw [hall x hx, hall y hy]
/-- It asks only for which states there are. -/
theorem join_same {l m : List Sta} (hl : ∀ x ∈ l, Fits64 x) (h : ∀ x, x ∈ l ↔ x ∈ m) : joinS l = joinS m := by
  have hm : ∀ x ∈ m, Fits64 x := fun x hx => hl x ((h x).2 hx)
  cases h1 : joinS l with
  | none =>
    symm
    rw [join_none] at h1 ⊢
    rcases h1 with h1 | ⟨x, hx, y, hy, hn⟩
    · subst h1
      left
      rw [List.eq_nil_iff_forall_not_mem]
      intro x hx
      exact nomatch (h x).2 hx
    · exact .inr ⟨x, (h x).1 hx, y, (h y).1 hy, hn⟩
  | some u =>
    cases h2 : joinS m with
    | none =>
      exfalso
      rw [join_none] at h2
      have : joinS l = none := by
        rw [join_none]
        rcases h2 with h2 | ⟨x, hx, y, hy, hn⟩
        · left
          rw [List.eq_nil_iff_forall_not_mem]
          intro x hx
          have := (h x).1 hx
          rw [h2] at this; cases this
        · exact .inr ⟨x, (h x).2 hx, y, (h y).2 hy, hn⟩
      rw [this] at h1; cases h1
    | some v =>
      obtain ⟨a1, a2, a3⟩ := join_is hl h1
      obtain ⟨b1, b2, b3⟩ := join_is hm h2
      rw [covers_anti a1 b1 (b3 u a1 (fun x hx => a2 x ((h x).2 hx))) (a3 v b1 (fun x hx => b2 x ((h x).1 hx)))]
/-- In two parts: what each comes to, together. -/
theorem join_parts {A B : List Sta} {a b : Sta} (hA : ∀ x ∈ A, Fits64 x) (hB : ∀ x ∈ B, Fits64 x) (ha : joinS A = some a) (hb : joinS B = some b) : joinS [a, b] = joinS (A ++ B) := by
  obtain ⟨a1, a2, a3⟩ := join_is hA ha
  obtain ⟨b1, b2, b3⟩ := join_is hB hb
  have hAB : ∀ x ∈ A ++ B, Fits64 x := fun x hx => (List.mem_append.1 hx).elim (hA x) (hB x)
  have hab : ∀ x ∈ [a, b], Fits64 x := fun x hx => by simp only [List.mem_cons, List.not_mem_nil, or_false] at hx; rcases hx with rfl | rfl; exact a1; exact b1
  have hAn : A ≠ [] := by rintro rfl; cases ha
  have hBn : B ≠ [] := by rintro rfl; cases hb
  cases h1 : joinS [a, b] with
  | none =>
    symm
    rw [join_none] at h1 ⊢
    rcases h1 with h1 | ⟨x, hx, y, hy, hn⟩
    · cases h1
    · have hpa := fun x hx => (a2 x hx).1
      have hpb := fun x hx => (b2 x hx).1
      obtain ⟨x0, hx0⟩ := List.exists_mem_of_ne_nil A hAn
      obtain ⟨y0, hy0⟩ := List.exists_mem_of_ne_nil B hBn
      have hne : a.pos ≠ b.pos := by
        simp only [List.mem_cons, List.not_mem_nil, or_false] at hx hy
        rcases hx with rfl | rfl <;> rcases hy with rfl | rfl
        · exact absurd rfl hn
        · exact hn
        · exact fun e => hn e.symm
        · exact absurd rfl hn
      exact .inr ⟨x0, List.mem_append.2 (.inl hx0), y0, List.mem_append.2 (.inr hy0), by rw [← hpa x0 hx0, ← hpb y0 hy0]; exact hne⟩
  | some u =>
    obtain ⟨u1, u2, u3⟩ := join_is hab h1
    have hua := u2 a (by simp)
    have hub := u2 b (by simp)
    cases h2 : joinS (A ++ B) with
    | none =>
      exfalso
      rw [join_none] at h2
      rcases h2 with h2 | ⟨x, hx, y, hy, hn⟩
      · rw [List.append_eq_nil_iff] at h2; exact hAn h2.1
      · have hp : ∀ z ∈ A ++ B, z.pos = u.pos := fun z hz => by
          rcases List.mem_append.1 hz with hz | hz
          · rw [← (a2 z hz).1, hua.1]
          · rw [← (b2 z hz).1, hub.1]
        exact hn (by rw [hp x hx, hp y hy])
    | some v =>
      obtain ⟨v1, v2, v3⟩ := join_is hAB h2
      congr 1
      refine covers_anti u1 v1 (v3 u u1 (fun x hx => ?_)) (u3 v v1 (fun x hx => ?_))
      · rcases List.mem_append.1 hx with hx | hx
        · exact covers_trans u1 a1 (hA x hx) hua (a2 x hx)
        · exact covers_trans u1 b1 (hB x hx) hub (b2 x hx)
      · simp only [List.mem_cons, List.not_mem_nil, or_false] at hx
        rcases hx with rfl | rfl
        · exact a3 v v1 (fun y hy => v2 y (List.mem_append.2 (.inl hy)))
        · exact b3 v v1 (fun y hy => v2 y (List.mem_append.2 (.inr hy)))
end Go.Proofs.Ytpgbbnmflnhlbaa
/- Rows of structs of several cells, of any kind. -/
namespace Go.Proofs.Ytpgbbnmflnhlbaa
open Go.ChangeShapes Go.WideShapes Go.ChangeAt Go.RowKit

/-- Each of these is so many cells. -/
structure Enc {α : Type} (f : α → List Value) (k : Nat) : Prop where
  len : ∀ x, (f x).length = k
  pos : 0 < k
  one : ∀ x, ∀ u ∈ f x, u.oneCell' = true
section
variable {α : Type} {f : α → List Value} {k : Nat}
def GAt (f : α → List Value) (k : Nat) (w : World) (b o : Nat) (x : α) : Prop := ∀ j, j < k → w.cell? ⟨b, o + j, none⟩ = (f x)[j]?
theorem GAt.lt {w : World} {b o : Nat} {x : α} (E : Enc f k) (h : GAt f k w b o x) : b < w.heap.size := by
  have h0 := h 0 E.pos
  rw [List.getElem?_eq_getElem (by rw [E.len]; exact E.pos)] at h0
  exact World.block_lt_of_cell? w _ h0
theorem GAt.below {w w' : World} {b o : Nat} {x : α} (h : GAt f k w b o x) {B : Nat} (hlt : b < B) (hb : Below B w w') : GAt f k w' b o x := fun j hj => (hb.cell (p := ⟨b, o + j, none⟩) hlt).trans (h j hj)
/-- Such ones that may be read. -/
def GRow (f : α → List Value) (k : Nat) (w : World) (v : Value) (l : List α) : Prop :=
  l.length ≤ maxLen ∧ ∃ a cap, v = .slice a l.length cap ∧ l.length ≤ cap ∧ (cap ≤ maxLen ∧ (a = none → cap = 0)) ∧ (l = [] ∨ ∃ b off, a = some ⟨b, off, none⟩ ∧ ∀ i x, l[i]? = some x → GAt f k w b (off + i * k) x)
theorem GRow.below {w w' : World} {v : Value} {l : List α} (E : Enc f k) (h : GRow f k w v l) (hb : Below w.heap.size w w') : GRow f k w' v l := by
  obtain ⟨hm, a, cap, hv, hc, hc2, h⟩ := h
  refine ⟨hm, a, cap, hv, hc, hc2, ?_⟩
  rcases h with h | ⟨b, off, ha, hc⟩
  · exact .inl h
  · exact .inr ⟨b, off, ha, fun i x hi => (hc i x hi).below ((hc i x hi).lt E) hb⟩
theorem grow_nil (w : World) : GRow f k w (.slice none 0 0) [] := ⟨by simp, none, 0, rfl, by simp, ⟨by simp, fun _ => rfl⟩, .inl rfl⟩
theorem GRow.form {w : World} {v : Value} {l : List α} (h : GRow f k w v l) : ∃ a cap, v = .slice a l.length cap ∧ l.length ≤ maxLen ∧ l.length ≤ cap ∧ cap ≤ maxLen := by
  obtain ⟨hm, a, cap, rfl, hc, hc2, _⟩ := h
  exact ⟨a, cap, rfl, hm, hc, hc2.1⟩
theorem grow_at {w : World} {a : Option Addr} {n cap : Nat} {l : List α} (E : Enc f k) (h : GRow f k w (.slice a n cap) l) (i : Nat) (x : α) (hi : l[i]? = some x) : ∃ b off, a = some ⟨b, off, none⟩ ∧ GAt f k w b (off + i * k) x ∧ b < w.heap.size := by
  obtain ⟨_, a', cap', hv, _, _, h⟩ := h
  simp at hv
  rcases h with h | ⟨b, off, ha, hc⟩
  · subst h; simp at hi
  · exact ⟨b, off, by rw [hv.1, ha], hc i x hi, (hc i x hi).lt E⟩
theorem grow_here {w : World} {b off n cap : Nat} {l : List α} (E : Enc f k) (h : GRow f k w (.slice (some ⟨b, off, none⟩) n cap) l) (i : Nat) (x : α) (hi : l[i]? = some x) : GAt f k w b (off + i * k) x := by
  obtain ⟨b', off', he, hc, _⟩ := grow_at E h i x hi
  simp only [Option.some.injEq, Addr.mk.injEq, and_true] at he
  obtain ⟨rfl, rfl⟩ := he
  exact hc
/-- The part from p on, up to h. -/
theorem GRow.part {w : World} {b off n cap : Nat} {l : List α} (hs : GRow f k w (.slice (some ⟨b, off, none⟩) n cap) l) (p h : Nat) (hp : p ≤ h) (hh : h ≤ l.length) (a : Option Addr) (ha : a = (if cap = p then some ⟨b, off, none⟩ else some ⟨b, off + p * k, none⟩)) :
    GRow f k w (.slice a (h - p) (cap - p)) ((l.drop p).take (h - p)) := by
  obtain ⟨hm, a', cap', hv, hc, ⟨hc2, _⟩, hcell⟩ := hs
  simp at hv
  obtain ⟨rfl, rfl, rfl⟩ := hv
  have hl : ((l.drop p).take (h - p)).length = h - p := by simp; omega
  refine ⟨by omega, a, cap - p, by rw [hl], by omega, ⟨by omega, fun h0 => by rw [h0] at ha; split at ha <;> simp at ha⟩, ?_⟩
  by_cases h0 : h = p
  · left
    subst h0
    simp
  · right
    rw [if_neg (by omega)] at ha
    refine ⟨b, off + p * k, ha, fun i x hi => ?_⟩
    have hil : i < h - p := by have := (List.getElem?_eq_some_iff.1 hi).1; omega
    rcases hcell with hn | ⟨b', off', he, hcc⟩
    · subst hn; simp at hh; omega
    · simp at he
      obtain ⟨rfl, rfl⟩ := he
      rw [List.getElem?_take_of_lt hil, List.getElem?_drop] at hi
      have := hcc (p + i) x hi
      rw [show off + (p + i) * k = off + p * k + i * k by rw [Nat.add_mul]; omega] at this
      exact this
/-- All their cells. -/
def gflat (f : α → List Value) : List α → List Value
  | [] => []
  | x :: l => f x ++ gflat f l
theorem gflat_append : ∀ (a b : List α), gflat f (a ++ b) = gflat f a ++ gflat f b
  | [], _ => rfl
  | x :: a, b => by rw [List.cons_append, gflat, gflat, gflat_append a b, List.append_assoc]
theorem gflat_len (E : Enc f k) : ∀ (l : List α), (gflat f l).length = l.length * k
  | [] => by simp [gflat]
  | x :: l => by rw [gflat, List.length_append, gflat_len E l, E.len, List.length_cons, Nat.add_mul, Nat.one_mul, Nat.add_comm]
theorem gflat_at (E : Enc f k) : ∀ (l : List α) (i j : Nat) (x : α), l[i]? = some x → j < k → (gflat f l)[i * k + j]? = (f x)[j]?
  | [], i, j, x, h, _ => by simp at h
  | y :: l, 0, j, x, h, hj => by
    simp at h
    subst h
    rw [gflat, Nat.zero_mul, Nat.zero_add, List.getElem?_append_left (by rw [E.len]; exact hj)]
  | y :: l, i + 1, j, x, h, hj => by
    rw [gflat, List.getElem?_append_right (by rw [E.len, Nat.add_mul]; omega), show (i + 1) * k + j - (f y).length = i * k + j by rw [E.len, Nat.add_mul]; omega]
    exact gflat_at E l i j x (by simpa using h) hj
theorem gflat_one (E : Enc f k) : ∀ (l : List α), ∀ u ∈ gflat f l, u.oneCell' = true
  | [], u, hu => by simp [gflat] at hu
  | x :: l, u, hu => by
    rw [gflat, List.mem_append] at hu
    exact hu.elim (E.one x u) (gflat_one E l u)
/-- Such ones that a call has made. -/
def OwnG (f : α → List Value) (k : Nat) (t : TypeId) (w : World) (B : Nat) (v : Value) (l : List α) : Prop := w.ownsRow B t k v l.length (gflat f l)
theorem OwnG.row {t : TypeId} {w : World} {B : Nat} {v : Value} {l : List α} (E : Enc f k) (h : OwnG f k t w B v l) : GRow f k w v l := by
  have h' : w.ownsRow B t k v l.length (gflat f l) := h
  rcases h'.2 with ⟨rfl, hn⟩ | ⟨g, cap, cur, rfl, hb, hg, hc, hm, hs, ht⟩
  · have : l = [] := List.eq_nil_of_length_eq_zero hn
    subst this
    exact grow_nil _
  · refine ⟨by omega, _, _, rfl, hc, ⟨hm, fun h => by simp at h⟩, .inr ⟨g, 0, rfl, fun i x hi j hj => ?_⟩⟩
    have hil := (List.getElem?_eq_some_iff.1 hi).1
    have hb : i * k + j < l.length * k := by
      have : (i + 1) * k ≤ l.length * k := Nat.mul_le_mul_right k (by omega)
      rw [Nat.add_mul] at this
      omega
    rw [Nat.zero_add, h'.cellAt _ hb, gflat_at E l i j x hi hj]
theorem OwnG.below {t : TypeId} {w w' : World} {B : Nat} {v : Value} {l : List α} (h : OwnG f k t w B v l) (hb : Below w.heap.size w w') : OwnG f k t w' B v l := own_below h hb
theorem OwnG.alloc {t : TypeId} {w : World} {B : Nat} {v : Value} {l : List α} (h : OwnG f k t w B v l) (O : Obj) : OwnG f k t (w.alloc O) B v l := World.ownsRow.alloc h O
theorem ownG_nil {t : TypeId} (w : World) (B : Nat) : OwnG f k t w B (.slice none 0 0) [] := by
  unfold OwnG gflat
  exact World.ownsRow_nil _ _ _ _
theorem OwnG.less {t : TypeId} {w : World} {B B' : Nat} {v : Value} {l : List α} (h : OwnG f k t w B v l) (hB : B' ≤ B) : OwnG f k t w B' v l := own_less (show w.ownsRow B t k v l.length (gflat f l) from h) hB
theorem OwnG.kept {t : TypeId} {w w' : World} {B : Nat} {v : Value} {l : List α} {row : Option Nat} (h : OwnG f k t w B v l) (hg : w.grownBy w' row) (hne : v.ownBlock = none ∨ v.ownBlock ≠ row) : OwnG f k t w' B v l := World.ownsRow.kept h hg hne
theorem OwnG.shape {t : TypeId} {w : World} {B : Nat} {v : Value} {l : List α} (h : OwnG f k t w B v l) : ∃ a cap, v = .slice a l.length cap := own_shape (show w.ownsRow B t k v l.length (gflat f l) from h)
theorem grow_cells {w : World} {b off n cap : Nat} {l : List α} (E : Enc f k) (h : GRow f k w (.slice (some ⟨b, off, none⟩) n cap) l) : ∀ j u, (gflat f l)[j]? = some u → w.cell? ((⟨b, off, none⟩ : Addr).add j) = some u := by
  intro j u hj
  have hjl : j < (gflat f l).length := (List.getElem?_eq_some_iff.1 hj).1
  rw [gflat_len E] at hjl
  have hk := E.pos
  have hd : j / k < l.length := Nat.div_lt_of_lt_mul (by rw [Nat.mul_comm]; exact hjl)
  have hm : j % k < k := Nat.mod_lt _ hk
  have hx : l[j / k]? = some l[j / k] := List.getElem?_eq_getElem hd
  have hc := grow_here E h (j / k) _ hx (j % k) hm
  have hjj : j / k * k + j % k = j := by rw [Nat.mul_comm]; exact Nat.div_add_mod j k
  rw [← gflat_at E l (j / k) (j % k) _ hx hm, hjj, hj] at hc
  rw [add_off, ← hc]
  congr 2
  omega
/-- Such ones put behind ones that the call has made. -/
theorem app_rows {tS t : TypeId} {z : Value} {bytes : Nat} (E : Enc f k) (hU : Try.prog.underlying tS = some (.slice t)) (hI : (Try.prog.info? t).map (fun i => (i.zero, i.size, i.bytes)) = some (some z, k, bytes)) (hz : z.cells.size = k) (hby : bytes ≤ 1024)
    {w : World} {ops : Array Oper} {rest : List Oper} {o : Oper} {a : Act} {Q : Exit → Act → World → Prop} (hgd : o.guard = none) (s x : Operand)
    (ho : o.op = .call { callee := .builtin .append, args := #[s, x], argTypes := #[tS, tS] }) (B : Nat) (v : Value) (l : List α) (hs : a.eval s = v) (hown : OwnG f k t w B v l)
    (u : Value) (m : List α) (hx : a.eval x = u) (hr : GRow f k w u m) (hlen : l.length + m.length ≤ 1000000) (hB : B ≤ w.heap.size)
    (h : ∀ v' w', OwnG f k t w' B v' (l ++ m) → w.grownBy w' v.ownBlock → (v'.ownBlock = v.ownBlock ∨ v'.ownBlock = some w.heap.size) → wpList Try.prog ops Q rest (a.put o.dst v') w') : wpList Try.prog ops Q (o :: rest) a w := by
  obtain ⟨i0, hi, hz0, hz1, hz2⟩ := info_parts hI
  have hr' := hr
  obtain ⟨hm, ad, cap, rfl, hc, ⟨hc2, hn⟩, hcell⟩ := hr
  cases ad with
  | none =>
    have hc0 : cap = 0 := hn rfl
    subst hc0
    have hms : m = [] := List.eq_nil_of_length_eq_zero (by omega)
    subst hms
    refine wpList_append_own_none hgd s x tS ho B t i0 k hU hi v l.length (gflat f l) hs hown hx (h v w ?_ ⟨rfl, rfl, rfl, Nat.le_refl _, fun _ _ _ => rfl⟩ (.inl rfl))
    rw [List.append_nil]; exact hown
  | some ad =>
    refine wpList_append_own_at w hgd s x tS ho B t i0 _ k bytes hU hi hz0 hz1 hz2 hz E.pos v l.length (gflat f l) hs hown ad m.length cap (gflat f m) hx (gflat_len E m) ?_ (gflat_one E m) (by unfold maxLen; omega) ?_ hB ?_
    · intro j u hj
      rcases hcell with h0 | ⟨b, off, he, hcc⟩
      · rw [h0] at hj; simp [gflat] at hj
      · simp at he
        subst he
        exact grow_cells E hr' j u hj
    · exact Nat.le_trans (Nat.mul_le_mul hlen hby) (by decide)
    · intro v' w' h1 h2 _ h4
      refine h v' w' ?_ h2 h4
      unfold OwnG
      rw [List.length_append, gflat_append]
      exact h1
/-- A list of such ones in a block of its own, new. -/
theorem grow_block {w : World} {b : Nat} {l : List α} {t : TypeId} {fr : Nat × Nat} (E : Enc f k) (h : w.heap[b]? = some (.cells (gflat f l).toArray t fr)) (hl : l.length ≤ maxLen) : GRow f k w (.slice (some ⟨b, 0, none⟩) l.length l.length) l := by
  refine ⟨hl, _, _, rfl, Nat.le_refl _, ⟨hl, by simp⟩, .inr ⟨b, 0, rfl, fun i x hi j hj => ?_⟩⟩
  rw [cell_of_row _ _ _ _ _ _ h, Nat.zero_add, List.getElem?_toArray]
  exact gflat_at E l i j x hi hj
/-- The elements of a slice that a law is handed. -/
theorem grow_of {w : World} {ad : Addr} {cp : Nat} {l : List α} (E : Enc f k) (hl : l.length ≤ cp) (hm : cp ≤ maxLen) (hp : ∀ i x, l[i]? = some x → ∀ j, j < k → w.cell? ((ad.add (i * k)).add j) = (f x)[j]?) : GRow f k w (.slice (some ad) l.length cp) l := by
  refine ⟨by omega, some ad, cp, rfl, hl, ⟨hm, fun h => by simp at h⟩, ?_⟩
  by_cases e : l = []
  · exact .inl e
  · right
    have hpos : 0 < l.length := List.length_pos_iff.2 e
    obtain ⟨b, off, spot⟩ := ad
    have hspot : spot = none := by
      have h0 := hp 0 l[0] (List.getElem?_eq_getElem hpos) 0 E.pos
      rw [List.getElem?_eq_getElem (by rw [E.len]; exact E.pos)] at h0
      have := World.cell?_spot h0
      simpa [Addr.add] using this
    subst hspot
    refine ⟨b, off, rfl, fun i x hi j hj => ?_⟩
    have := hp i x hi j hj
    simp only [add_off] at this
    exact this
end
end Go.Proofs.Ytpgbbnmflnhlbaa
/- Rows of states, and a state that is added to, in memory. -/
namespace Go.Proofs.Ytpgbbnmflnhlbaa
open Go.ChangeShapes Go.WideShapes Go.ChangeAt Go.RowKit

def boxJo (s : Sta) : Obj := .cells #[.int .i64 s.pos, .int .i64 s.car, .int .i64 s.time, .int .i64 s.load, .int .i64 s.first, .int .u64 s.must, .int .u64 s.may, .int .u64 s.on] 159
def JoB (w : World) (b : Nat) (s : Sta) : Prop := w.heap[b]? = some (.cells #[.int .i64 s.pos, .int .i64 s.car, .int .i64 s.time, .int .i64 s.load, .int .i64 s.first, .int .u64 s.must, .int .u64 s.may, .int .u64 s.on] 159 (0, 0))
section
variable {w w' : World} {b : Nat} {s : Sta}
theorem jo_new (w : World) (s : Sta) : JoB (w.alloc (boxJo s)) w.heap.size s := heap_alloc_new w _
theorem JoB.lt (k : JoB w b s) : b < w.heap.size := (Array.getElem?_eq_some_iff.1 k).1
theorem JoB.below {M : Nat} (k : JoB w b s) (hb : b < M) (hw : Below M w w') : JoB w' b s := by unfold JoB; rw [hw.block b hb]; exact k
theorem JoB.later (k : JoB w b s) (hw : Below w.heap.size w w') : JoB w' b s := k.below k.lt hw
theorem JoB.cell (k : JoB w b s) (i : Nat) : w.cell? ⟨b, i, none⟩ = (#[.int .i64 s.pos, .int .i64 s.car, .int .i64 s.time, .int .i64 s.load, .int .i64 s.first, .int .u64 s.must, .int .u64 s.may, .int .u64 s.on] : Array Value)[i]? := cell_of_row w b i _ _ _ k
theorem JoB.free (k : JoB w b s) (i : Nat) : w.frozen? ⟨b, i, none⟩ = false := frozen_of_row w b i _ _ k
theorem JoB.other (k : JoB w b s) (p : Addr) (x : Value) (hp : p.block ≠ b) : JoB (w.setCell p x) b s := by unfold JoB; rw [heap_setCell_other w p b x (fun e => hp e.symm)]; exact k
theorem JoB.c0 (k : JoB w b s) : w.cell? ⟨b, 0, none⟩ = some (.int .i64 s.pos) := k.cell 0
theorem JoB.c1 (k : JoB w b s) : w.cell? ⟨b, 1, none⟩ = some (.int .i64 s.car) := k.cell 1
theorem JoB.c2 (k : JoB w b s) : w.cell? ⟨b, 2, none⟩ = some (.int .i64 s.time) := k.cell 2
theorem JoB.c3 (k : JoB w b s) : w.cell? ⟨b, 3, none⟩ = some (.int .i64 s.load) := k.cell 3
theorem JoB.c4 (k : JoB w b s) : w.cell? ⟨b, 4, none⟩ = some (.int .i64 s.first) := k.cell 4
theorem JoB.c5 (k : JoB w b s) : w.cell? ⟨b, 5, none⟩ = some (.int .u64 s.must) := k.cell 5
theorem JoB.c6 (k : JoB w b s) : w.cell? ⟨b, 6, none⟩ = some (.int .u64 s.may) := k.cell 6
theorem JoB.c7 (k : JoB w b s) : w.cell? ⟨b, 7, none⟩ = some (.int .u64 s.on) := k.cell 7
theorem JoB.holds (k : JoB w b s) : Holds (cellsSt b s) w := ⟨k.c0, k.c1, k.c2, k.c3, k.c4, k.c5, k.c6, k.c7, trivial⟩
theorem JoB.set0 (k : JoB w b s) (x : Int) : JoB (w.setCell ⟨b, 0, none⟩ (.int .i64 x)) b ⟨x, s.car, s.time, s.load, s.first, s.must, s.may, s.on⟩ := by unfold JoB; rw [heap_setCell_same w b 0 _ _ _ k]; rfl
theorem JoB.set1 (k : JoB w b s) (x : Int) : JoB (w.setCell ⟨b, 1, none⟩ (.int .i64 x)) b ⟨s.pos, x, s.time, s.load, s.first, s.must, s.may, s.on⟩ := by unfold JoB; rw [heap_setCell_same w b 1 _ _ _ k]; rfl
theorem JoB.set2 (k : JoB w b s) (x : Int) : JoB (w.setCell ⟨b, 2, none⟩ (.int .i64 x)) b ⟨s.pos, s.car, x, s.load, s.first, s.must, s.may, s.on⟩ := by unfold JoB; rw [heap_setCell_same w b 2 _ _ _ k]; rfl
theorem JoB.set3 (k : JoB w b s) (x : Int) : JoB (w.setCell ⟨b, 3, none⟩ (.int .i64 x)) b ⟨s.pos, s.car, s.time, x, s.first, s.must, s.may, s.on⟩ := by unfold JoB; rw [heap_setCell_same w b 3 _ _ _ k]; rfl
theorem JoB.set4 (k : JoB w b s) (x : Int) : JoB (w.setCell ⟨b, 4, none⟩ (.int .i64 x)) b ⟨s.pos, s.car, s.time, s.load, x, s.must, s.may, s.on⟩ := by unfold JoB; rw [heap_setCell_same w b 4 _ _ _ k]; rfl
theorem JoB.set5 (k : JoB w b s) (x : Nat) : JoB (w.setCell ⟨b, 5, none⟩ (.int .u64 (x : Nat))) b ⟨s.pos, s.car, s.time, s.load, s.first, x, s.may, s.on⟩ := by unfold JoB; rw [heap_setCell_same w b 5 _ _ _ k]; rfl
theorem JoB.set6 (k : JoB w b s) (x : Nat) : JoB (w.setCell ⟨b, 6, none⟩ (.int .u64 (x : Nat))) b ⟨s.pos, s.car, s.time, s.load, s.first, s.must, x, s.on⟩ := by unfold JoB; rw [heap_setCell_same w b 6 _ _ _ k]; rfl
theorem JoB.set7 (k : JoB w b s) (x : Nat) : JoB (w.setCell ⟨b, 7, none⟩ (.int .u64 (x : Nat))) b ⟨s.pos, s.car, s.time, s.load, s.first, s.must, s.may, x⟩ := by unfold JoB; rw [heap_setCell_same w b 7 _ _ _ k]; rfl
end
theorem put_joined {w : World} {r : Nat} {s0 : Sta} (k : JoB w r s0) (s : Sta) : JoB (w.setCells r 0 (stL s)) r s :=
  (((((((k.set0 s.pos).set1 s.car).set2 s.time).set3 s.load).set4 s.first).set5 s.must).set6 s.may).set7 s.on
theorem fits_of {s : Sta} (h : SetsOk s) : Fits64 s := ⟨h.1, h.2.1, h.2.2⟩
theorem of_fits {s : Sta} (h : Fits64 s) : SetsOk s := ⟨h.must, h.may, h.on⟩
theorem encSta : Enc stL 8 := ⟨fun _ => rfl, by decide, fun s u hu => by
  simp only [stL, List.mem_cons, List.not_mem_nil, or_false] at hu
  rcases hu with rfl | rfl | rfl | rfl | rfl | rfl | rfl | rfl <;> rfl⟩
/-- A row of states. -/
def ARow (w : World) (v : Value) (l : List Sta) : Prop := GRow stL 8 w v l
theorem ARow.below {w w' : World} {v : Value} {l : List Sta} (h : ARow w v l) (hb : Below w.heap.size w w') : ARow w' v l := GRow.below encSta h hb
theorem ARow.form {w : World} {v : Value} {l : List Sta} (h : ARow w v l) : ∃ a cap, v = .slice a l.length cap ∧ l.length ≤ maxLen ∧ l.length ≤ cap ∧ cap ≤ maxLen := GRow.form h
/-- The cells of a state on a row. -/
def StAt (w : World) (b o : Nat) (s : Sta) : Prop :=
  w.cell? ⟨b, o, none⟩ = some (.int .i64 s.pos) ∧ w.cell? ⟨b, o + 1, none⟩ = some (.int .i64 s.car) ∧ w.cell? ⟨b, o + 2, none⟩ = some (.int .i64 s.time) ∧ w.cell? ⟨b, o + 3, none⟩ = some (.int .i64 s.load) ∧ w.cell? ⟨b, o + 4, none⟩ = some (.int .i64 s.first) ∧ w.cell? ⟨b, o + 5, none⟩ = some (.int .u64 s.must) ∧ w.cell? ⟨b, o + 6, none⟩ = some (.int .u64 s.may) ∧ w.cell? ⟨b, o + 7, none⟩ = some (.int .u64 s.on)
theorem stAt_of {w : World} {b o : Nat} {s : Sta} (h : GAt stL 8 w b o s) : StAt w b o s := ⟨h 0 (by omega), h 1 (by omega), h 2 (by omega), h 3 (by omega), h 4 (by omega), h 5 (by omega), h 6 (by omega), h 7 (by omega)⟩
theorem arow_at {w : World} {a : Option Addr} {n cap : Nat} {l : List Sta} (h : ARow w (.slice a n cap) l) (i : Nat) (s : Sta) (hi : l[i]? = some s) : ∃ b off, a = some ⟨b, off, none⟩ ∧ StAt w b (off + i * 8) s ∧ b < w.heap.size := by
  obtain ⟨b, off, ha, hc, hl⟩ := grow_at encSta h i s hi
  exact ⟨b, off, ha, stAt_of hc, hl⟩
theorem arow_here {w : World} {b off n cap : Nat} {l : List Sta} (h : ARow w (.slice (some ⟨b, off, none⟩) n cap) l) (i : Nat) (s : Sta) (hi : l[i]? = some s) : StAt w b (off + i * 8) s := stAt_of (grow_here encSta h i s hi)
theorem arow_nil (w : World) : ARow w (.slice none 0 0) [] := grow_nil w
/-- States that a call has made. -/
def OwnA (w : World) (B : Nat) (v : Value) (l : List Sta) : Prop := OwnG stL 8 55 w B v l
theorem OwnA.row {w : World} {B : Nat} {v : Value} {l : List Sta} (h : OwnA w B v l) : ARow w v l := OwnG.row encSta h
theorem cells_states : Try.prog.cellsOf 158 = 1 := by kernel_rfl
section
variable {H : Type} {enc : TypeId × Value → H} {w : World} {base : Nat} {spare : Nat → Bool} {held : Bool}
set_option maxRecDepth 1000000 in
theorem states_cells {fuel : Nat} {cs : List Value} {x : DataW H × List MemPlace} (h : DataW.trod enc Try.prog w base spare held fuel 158 cs = some x) : ∃ (v : Value) (l : List Sta), cs = [v] ∧ ARow w v l ∧ ∀ s ∈ l, SetsOk s := by
  rcases Go.Deep.open_slice Try.underlying158 h with ⟨h0, _⟩ | ⟨ad, ln, cp, m, n, D, Pl, hcs, hb, hl, hm, hmm, hx, hi⟩
  · exact ⟨_, [], h0, arow_nil w, fun s hs => nomatch hs⟩
  · have hlm : ln ≤ m := by rw [hmm]; split <;> omega
    obtain ⟨l, hll, hp⟩ := list_of (⟨0, 0, 0, 0, 0, 0, 0, 0⟩ : Sta) (fun i t => (∀ k, k < 8 → w.cell? ((ad.add (i * 8)).add k) = (stL t)[k]?) ∧ SetsOk t) ln (fun i hil => by
      obtain ⟨cs', hc, ht⟩ := hi i (by omega)
      rw [cells_state] at hc
      obtain ⟨t, rfl, _, hft⟩ := state_cells ht
      obtain ⟨_, _, hat⟩ := World.cells?_some hc
      exact ⟨t, fun k hk => hat k hk, hft⟩)
    subst hll
    have hg : ∀ i t, l[i]? = some t → (∀ k, k < 8 → w.cell? ((ad.add (i * 8)).add k) = (stL t)[k]?) ∧ SetsOk t := fun i t hit => by
      have hil := (List.getElem?_eq_some_iff.1 hit).1
      have := hp i hil
      simpa [List.getD_eq_getElem?_getD, nth, hit] using this
    refine ⟨_, l, hcs, grow_of encSta hl hm (fun i t hit => (hg i t hit).1), fun t ht => ?_⟩
    obtain ⟨i, hi2, rfl⟩ := List.mem_iff_getElem.1 ht
    exact (hg i _ (List.getElem?_eq_getElem hi2)).2
/-- States that a law is handed. -/
theorem open_states {a : Option Addr} {len cap : Nat} {d : DataW H} {p : List MemPlace} (h : DataW.Trod enc Try.prog w base spare held 158 (.slice a len cap) d p) :
    ∃ l : List Sta, ARow w (.slice a len cap) l ∧ ∀ s ∈ l, SetsOk s := by
  obtain ⟨fuel, hf⟩ := h
  obtain ⟨v, l, hcs, hr, hfit⟩ := states_cells hf
  simp [Value.cells] at hcs
  subst hcs
  exact ⟨l, hr, hfit⟩
end
/-- Boxes of two states. -/
theorem boxes_st (w : World) (s t : Sta) : StB ((w.alloc (boxSt s)).alloc (boxSt t)) w.heap.size s ∧ StB ((w.alloc (boxSt s)).alloc (boxSt t)) (w.heap.size + 1) t ∧ Below w.heap.size w ((w.alloc (boxSt s)).alloc (boxSt t)) := by
  have h1 : (w.alloc (boxSt s)).heap.size = w.heap.size + 1 := by simp
  have a1 := st_new (w.alloc (boxSt s)) t
  rw [h1] at a1
  exact ⟨(st_new w s).later ((Below.refl _ _).alloc (Nat.le_refl _) _), a1, ((Below.refl w.heap.size w).alloc (Nat.le_refl _) _).alloc (by rw [h1]; omega) _⟩
theorem boxes_st3 (w : World) (s t u : Sta) : StB (((w.alloc (boxSt s)).alloc (boxSt t)).alloc (boxSt u)) w.heap.size s ∧ StB (((w.alloc (boxSt s)).alloc (boxSt t)).alloc (boxSt u)) (w.heap.size + 1) t ∧ StB (((w.alloc (boxSt s)).alloc (boxSt t)).alloc (boxSt u)) (w.heap.size + 2) u ∧ Below w.heap.size w (((w.alloc (boxSt s)).alloc (boxSt t)).alloc (boxSt u)) := by
  obtain ⟨k1, k2, k3⟩ := boxes_st w s t
  have h1 : ((w.alloc (boxSt s)).alloc (boxSt t)).heap.size = w.heap.size + 2 := by simp
  have a1 := st_new ((w.alloc (boxSt s)).alloc (boxSt t)) u
  rw [h1] at a1
  exact ⟨k1.later ((Below.refl _ _).alloc (Nat.le_refl _) _), k2.later ((Below.refl _ _).alloc (Nat.le_refl _) _), a1, k3.alloc (by rw [h1]; omega) _⟩
end Go.Proofs.Ytpgbbnmflnhlbaa
