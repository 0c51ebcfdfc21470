/- A drawn region in which some cells are held until one of its operations (its first store) comes up: what waits not for it is taken while they are held. -/
import Derived.Test.YtipjaibemhoifaaXTCar
namespace Go.Proofs.Ytipjaibemhoifaa

section
variable {P : Program} {ops : Array Oper} {Q : Exit → Act → World → Prop} {md : Region.Mode} {S : World → Prop} {m : Nat}
/-- Whatever order is picked from here on; S holds behind each operation till number m comes up. -/
def AnyU (P : Program) (md : Region.Mode) (ops : Array Oper) (Q : Exit → Act → World → Prop) (S : World → Prop) (m : Nat) : Nat → Array Bool → Act → World → Prop
  | 0, l, a, w => Region.ready md ops l = [] ∧ Q .normal a w
  | n + 1, l, a, w => (Region.ready md ops l = [] → Q .normal a w) ∧
    ∀ i ∈ Region.ready md ops l, wpOp P ops Q i (fun a' w' => (i ≠ m → l.getD m true = false → S w') ∧ AnyU P md ops Q S m n (l.setIfInBounds i true) a' w') a w
theorem any_of_until : ∀ (n : Nat) (l : Array Bool) (a : Act) (w : World), AnyU P md ops Q S m n l a w → wpAny P md ops Q n l a w
  | 0, _, _, _, h => h
  | n + 1, _, _, _, h => ⟨h.1, fun i hi => wpOp_mono (fun _ _ k => any_of_until n _ _ _ k.2) (h.2 i hi)⟩
/-- Number m waits for number i. -/
def waitsFor (md : Region.Mode) (ops : Array Oper) (m i : Nat) : Bool := (ops[m]?).any (fun o => o.after.any (fun e => Region.binds md e && e.on == i))
theorem not_ready {i : Nat} {l : Array Bool} (hw : waitsFor md ops m i = true) (hi : l.getD i true = false) : m ∉ Region.ready md ops l := by
  intro hr
  obtain ⟨_, o, ho, hall⟩ := mem_ready.1 hr
  unfold waitsFor at hw
  rw [ho] at hw
  obtain ⟨e, he, hb⟩ := Array.any_eq_true'.1 (show o.after.any _ = true from hw)
  simp only [Bool.and_eq_true, beq_iff_eq] at hb
  have h1 := hall e he hb.1
  rw [hb.2] at h1
  rcases Nat.lt_or_ge i l.size with c | c
  · simp [c] at h1 hi; rw [hi] at h1; cases h1
  · simp [Array.getElem?_eq_none c] at h1
/-- What number m waits for may be taken first, if it yields its value in every world that meets S. -/
theorem until_first {i : Nat} {oi : Oper} {v : Value} (hi : ops[i]? = some oi) (hsel : Region.noSelect ops = true) (hQ : ∀ c a w, Q (.panic c) (a.put oi.dst v) w → Q (.panic c) a w) (hw : waitsFor md ops m i = true) :
    ∀ (n : Nat) (l : Array Bool) (a : Act) (w : World), (∀ j oj, ops[j]? = some oj → j ≠ i → l.getD j true = false → (∀ e ∈ oj.after, Region.binds md e = true → e.on ≠ i) → oi.apart ops oj = true) →
      i ∈ Region.ready md ops l → l.getD m true = false → YieldsIf P ops S oi v a → S w → AnyU P md ops Q S m n (l.setIfInBounds i true) (a.put oi.dst v) w → AnyU P md ops Q S m (n + 1) l a w := by
  intro n
  have hse := Region.noSelect_spec hsel
  induction n with
  | zero =>
    intro l a w _ hr hm hy hS k
    refine ⟨fun h0 => absurd hr (by rw [h0]; exact List.not_mem_nil), fun j hj => ?_⟩
    by_cases e : j = i
    · subst e; exact hy.wpOp hi hS ⟨fun _ _ => hS, k⟩
    · exact absurd (ready_mono hj e) (by rw [k.1]; exact List.not_mem_nil)
  | succ n ih =>
    intro l a w hf hr hm hy hS k
    have hil := (mem_ready.1 hr).1
    refine ⟨fun h0 => absurd hr (by rw [h0]; exact List.not_mem_nil), fun j hj => ?_⟩
    by_cases e : j = i
    · subst e; exact hy.wpOp hi hS ⟨fun _ _ => hS, k⟩
    · have ejm : j ≠ m := fun e2 => not_ready hw hil (e2 ▸ hj)
      have k1 := k.2 j (ready_mono hj e)
      obtain ⟨hju, oj, ho, hall⟩ := mem_ready.1 hj
      have hno : ∀ x ∈ oj.after, Region.binds md x = true → x.on ≠ i := fun x hx hb he => by
        have c1 := hall x hx hb
        rw [he] at c1
        rcases Nat.lt_or_ge i l.size with c | c
        · simp [c] at c1 hil; rw [hil] at c1; cases c1
        · simp [Array.getElem?_eq_none c] at c1
      have k2 := wpOp_putIf ho (hf j oj ho e hju hno) (fun cs b => hse i oi cs b hi) (fun cs b => hse j oj cs b ho) hQ hy k1
      have hmi : m ≠ i → (l.setIfInBounds i true).getD m true = false := fun h => by rw [getD_set_ne true (Ne.symm h)]; exact hm
      have hmj : (l.setIfInBounds j true).getD m true = false := by rw [getD_set_ne true ejm]; exact hm
      have hmne : m ≠ i := fun h => not_ready hw hil (by rw [h]; exact hr)
      refine wpOp_mono (fun a' w' k3 => ?_) k2
      have hS' := k3.2.1 ejm (hmi hmne)
      refine ⟨fun _ _ => hS', ih (l.setIfInBounds j true) a' w' (fun x ox hx hxi hxu hxo => hf x ox hx hxi ?_ hxo) (ready_mono hr (Ne.symm e)) hmj k3.1 hS' ?_⟩
      · by_cases c : j = x
        · subst c; exact hju
        · rw [getD_set_ne true c] at hxu; exact hxu
      · rw [Array.setIfInBounds_comm _ _ e]
        exact k3.2.2
theorem until_take {i : Nat} {oi : Oper} {v : Value} {n : Nat} {l : Array Bool} {a : Act} {w : World} (hi : ops[i]? = some oi) (hs : Region.noSelect ops = true) (hf : Region.free md ops l i = true)
    (hr : (Region.ready md ops l).contains i = true) (hw : waitsFor md ops m i = true) (hm : l.getD m true = false) (hQ : ∀ c a w, Q (.panic c) (a.put oi.dst v) w → Q (.panic c) a w) (hy : YieldsIf P ops S oi v a) (hS : S w)
    (h : AnyU P md ops Q S m n (l.setIfInBounds i true) (a.put oi.dst v) w) : AnyU P md ops Q S m (n + 1) l a w :=
  until_first hi hs hQ hw n l a w (Region.free_spec hi hf) (by simpa using hr) hm hy hS h
/-- What yields its value in whatever world may be taken first at any time. -/
theorem anyhow_first {i : Nat} {oi : Oper} {v : Value} (hi : ops[i]? = some oi) (hsel : Region.noSelect ops = true) (hQ : ∀ c a w, Q (.panic c) (a.put oi.dst v) w → Q (.panic c) a w) (him : i ≠ m) :
    ∀ (n : Nat) (l : Array Bool) (a : Act) (w : World), (∀ j oj, ops[j]? = some oj → j ≠ i → l.getD j true = false → (∀ e ∈ oj.after, Region.binds md e = true → e.on ≠ i) → oi.apart ops oj = true) →
      i ∈ Region.ready md ops l → YieldsIf P ops (fun _ => True) oi v a → (l.getD m true = false → S w) → AnyU P md ops Q S m n (l.setIfInBounds i true) (a.put oi.dst v) w → AnyU P md ops Q S m (n + 1) l a w := by
  intro n
  have hse := Region.noSelect_spec hsel
  induction n with
  | zero =>
    intro l a w _ hr hy hS k
    refine ⟨fun h0 => absurd hr (by rw [h0]; exact List.not_mem_nil), fun j hj => ?_⟩
    by_cases e : j = i
    · subst e; exact hy.wpOp hi trivial ⟨fun _ hm => hS hm, k⟩
    · exact absurd (ready_mono hj e) (by rw [k.1]; exact List.not_mem_nil)
  | succ n ih =>
    intro l a w hf hr hy hS k
    have hil := (mem_ready.1 hr).1
    refine ⟨fun h0 => absurd hr (by rw [h0]; exact List.not_mem_nil), fun j hj => ?_⟩
    by_cases e : j = i
    · subst e; exact hy.wpOp hi trivial ⟨fun _ hm => hS hm, k⟩
    · have k1 := k.2 j (ready_mono hj e)
      obtain ⟨hju, oj, ho, hall⟩ := mem_ready.1 hj
      have hno : ∀ x ∈ oj.after, Region.binds md x = true → x.on ≠ i := fun x hx hb he => by
        have c1 := hall x hx hb
        rw [he] at c1
        rcases Nat.lt_or_ge i l.size with c | c
        · simp [c] at c1 hil; rw [hil] at c1; cases c1
        · simp [Array.getElem?_eq_none c] at c1
      have k2 := wpOp_putIf ho (hf j oj ho e hju hno) (fun cs b => hse i oi cs b hi) (fun cs b => hse j oj cs b ho) hQ hy k1
      refine wpOp_mono (fun a' w' k3 => ?_) k2
      have hgi : (l.setIfInBounds i true).getD m true = l.getD m true := getD_set_ne true him
      have hS' : j ≠ m → l.getD m true = false → S w' := fun h1 h2 => k3.2.1 h1 (hgi.trans h2)
      refine ⟨hS', ih (l.setIfInBounds j true) a' w' (fun x ox hx hxi hxu hxo => hf x ox hx hxi ?_ hxo) (ready_mono hr (Ne.symm e)) k3.1 (fun h1 => ?_) ?_⟩
      · by_cases c : j = x
        · subst c; exact hju
        · rw [getD_set_ne true c] at hxu; exact hxu
      · by_cases c : j = m
        · subst c
          have : j < l.size := by
            rcases Nat.lt_or_ge j l.size with c2 | c2
            · exact c2
            · simp [Array.getElem?_eq_none c2] at hju
          simp [this] at h1
        · rw [getD_set_ne true c] at h1; exact hS' c h1
      · rw [Array.setIfInBounds_comm _ _ e]
        exact k3.2.2
theorem anyhow_take {i : Nat} {oi : Oper} {v : Value} {n : Nat} {l : Array Bool} {a : Act} {w : World} (hi : ops[i]? = some oi) (hs : Region.noSelect ops = true) (hf : Region.free md ops l i = true)
    (hr : (Region.ready md ops l).contains i = true) (him : i ≠ m) (hQ : ∀ c a w, Q (.panic c) (a.put oi.dst v) w → Q (.panic c) a w) (hy : YieldsIf P ops (fun _ => True) oi v a) (hS : l.getD m true = true ∨ S w)
    (h : AnyU P md ops Q S m n (l.setIfInBounds i true) (a.put oi.dst v) w) : AnyU P md ops Q S m (n + 1) l a w :=
  anyhow_first hi hs hQ him n l a w (Region.free_spec hi hf) (by simpa using hr) hy (fun hm => hS.elim (fun h1 => by rw [h1] at hm; cases hm) id) h
/-- Each of these comes up next. -/
def NextU (P : Program) (md : Region.Mode) (ops : Array Oper) (Q : Exit → Act → World → Prop) (S : World → Prop) (m n : Nat) (l : Array Bool) (a : Act) (w : World) (rs : List Nat) : Prop :=
  ∀ i ∈ rs, wpOp P ops Q i (fun a' w' => (i ≠ m → l.getD m true = false → S w') ∧ AnyU P md ops Q S m n (l.setIfInBounds i true) a' w') a w
theorem NextU.nil {n : Nat} {l : Array Bool} {a : Act} {w : World} : NextU P md ops Q S m n l a w [] := fun _ h => by cases h
/-- One more, ahead of number m: S is shown anew behind it. -/
theorem NextU.cons {n : Nat} {l : Array Bool} {a : Act} {w : World} {i : Nat} {o : Oper} {rs : List Nat} (ho : ops[i]? = some o)
    (h : ∀ K' : Act → World → Prop, Shut (∀ a w, S w → (S w → AnyU P md ops Q S m n (l.setIfInBounds i true) a w) → K' a w) → if Region.wanted o (yielded ops a.tmps) = true then Oper.wp P o a w K' Q else K' (a.put o.dst undef) w)
    (hs : NextU P md ops Q S m n l a w rs) : NextU P md ops Q S m n l a w (i :: rs) := fun j hj => by
  rcases List.mem_cons.1 hj with rfl | hj
  · exact wpOp_step ho (fun K' hK => h K' (fun a w hS hW => hK a w ⟨fun _ _ => hS, hW hS⟩))
  · exact hs j hj
/-- One more, number m itself or behind it: nothing is asked any more. -/
theorem NextU.late {n : Nat} {l : Array Bool} {a : Act} {w : World} {i : Nat} {o : Oper} {rs : List Nat} (ho : ops[i]? = some o) (hm : i = m ∨ l.getD m true = true)
    (h : ∀ K' : Act → World → Prop, Shut (∀ a w, AnyU P md ops Q S m n (l.setIfInBounds i true) a w → K' a w) → if Region.wanted o (yielded ops a.tmps) = true then Oper.wp P o a w K' Q else K' (a.put o.dst undef) w)
    (hs : NextU P md ops Q S m n l a w rs) : NextU P md ops Q S m n l a w (i :: rs) := fun j hj => by
  rcases List.mem_cons.1 hj with rfl | hj
  · exact wpOp_step ho (fun K' hK => h K' (fun a w hW => hK a w ⟨fun h1 h2 => hm.elim (fun e => absurd e h1) (fun e => by rw [e] at h2; cases h2), hW⟩))
  · exact hs j hj
theorem until_ready {rs : List Nat} {n : Nat} {l : Array Bool} {a : Act} {w : World} (hr : Region.ready md ops l = rs) (hne : rs ≠ []) (h : NextU P md ops Q S m n l a w rs) : AnyU P md ops Q S m (n + 1) l a w :=
  ⟨fun h0 => absurd (hr ▸ h0) hne, hr ▸ h⟩
theorem until_done {l : Array Bool} {a : Act} {w : World} (hr : Region.ready md ops l = []) (h : Q .normal a w) : ∀ n, AnyU P md ops Q S m n l a w
  | 0 => ⟨hr, h⟩
  | _ + 1 => ⟨fun _ => h, by rw [hr]; simp⟩
theorem wp_until {id : Nat} {a : Act} {w : World} (hm : P.follows .mixedOrders = true) (h : AnyU P .any ops Q S m ops.size (Array.replicate ops.size false) a w.drew) : (Code.region id ops true).wp P Q a w :=
  wp_region_any hm (any_of_until _ _ _ _ h)
end
end Go.Proofs.Ytipjaibemhoifaa
