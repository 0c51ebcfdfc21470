/- slices.SortFunc lies in this program as in the library's shelf. -/
import Derived.Shelf.SlSortCmp.NoneTotal
import Derived.Shelf.SlGeneric
import Derived.Test.YtgplajofemencaaGreatProg
import Derived.Test.YtgplajofemencaaGreatXL
import Derived.Test.YtgplajofemencaaGreatYK
import Derived.Test.YtgplajofemencaaGreatBOf
import Derived.Test.YtgplajofemencaaGreatYD
import Derived.Deep.Cut
namespace Go.Proofs.YtgplajofemencaaGreat
open Go.Shelf
def Tryz.laysSort_ren : Go.Shelf.Ren := ⟨fun | 6 => 68 | 15 => 99 | 14 => 98 | 28 => 143 | 29 => 144 | 20 => 135 | 21 => 136 | 22 => 137 | 23 => 138 | 24 => 139 | 25 => 140 | 26 => 141 | 27 => 142 | 46 => 160 | 47 => 161 | 48 => 162 | 49 => 163 | 50 => 164 | 57 => 168 | n => n, fun | 22 => 112 | 24 => 114 | 25 => 117 | 3 => 3 | 39 => 145 | 0 => 0 | 53 => 171 | 55 => 25 | 4 => 4 | 46 => 165 | 45 => 164 | 50 => 86 | 5 => 5 | 9 => 9 | 66 => 182 | 70 => 185 | 76 => 189 | 77 => 190 | n => n, fun | n => n⟩
theorem Tryz.laysSort : Go.Proofs.SlLaysF0.n6 Tryz.prog Tryz.laysSort_ren := {
  mixed := by kernel_rfl
  f6 := ⟨Tryz.f68.name, by decide, Tryz.func68.trans (congrArg some (by kernel_rfl))⟩
  f14 := ⟨Tryz.f98.name, by decide, Tryz.func98.trans (congrArg some (by kernel_rfl))⟩
  f15 := Tryz.func99.trans (congrArg some (by kernel_rfl))
  f20 := ⟨Tryz.f135.name, by decide, Tryz.func135.trans (congrArg some (by kernel_rfl))⟩
  f21 := ⟨Tryz.f136.name, by decide, Tryz.func136.trans (congrArg some (by kernel_rfl))⟩
  f22 := ⟨Tryz.f137.name, by decide, Tryz.func137.trans (congrArg some (by kernel_rfl))⟩
  f23 := ⟨Tryz.f138.name, by decide, Tryz.func138.trans (congrArg some (by kernel_rfl))⟩
  f24 := ⟨Tryz.f139.name, by decide, Tryz.func139.trans (congrArg some (by kernel_rfl))⟩
  f25 := ⟨Tryz.f140.name, by decide, Tryz.func140.trans (congrArg some (by kernel_rfl))⟩
  f26 := ⟨Tryz.f141.name, by decide, Tryz.func141.trans (congrArg some (by kernel_rfl))⟩
  f27 := ⟨Tryz.f142.name, by decide, Tryz.func142.trans (congrArg some (by kernel_rfl))⟩
  f28 := Tryz.func143.trans (congrArg some (by kernel_rfl))
  f29 := Tryz.func144.trans (congrArg some (by kernel_rfl))
  f46 := ⟨Tryz.f160.name, by decide, Tryz.func160.trans (congrArg some (by kernel_rfl))⟩
  f47 := Tryz.func161.trans (congrArg some (by kernel_rfl))
  f48 := Tryz.func162.trans (congrArg some (by kernel_rfl))
  f49 := ⟨Tryz.f163.name, by decide, Tryz.func163.trans (congrArg some (by kernel_rfl))⟩
  f50 := ⟨Tryz.f164.name, by decide, Tryz.func164.trans (congrArg some (by kernel_rfl))⟩
  f57 := ⟨Tryz.f168.name, by decide, Tryz.func168.trans (congrArg some (by kernel_rfl))⟩
  t0 := Tryz.underlying0
  a0 := Tryz.isAgg0
  z0 := Tryz.sizeOf0
  v0 := Tryz.zeroValue0
  t3 := Tryz.underlying3
  a3 := Tryz.isAgg3
  z3 := Tryz.sizeOf3
  v3 := Tryz.zeroValue3
  t4 := Tryz.underlying4
  a4 := Tryz.isAgg4
  z4 := Tryz.sizeOf4
  v4 := Tryz.zeroValue4
  t5 := Tryz.underlying5
  a5 := Tryz.isAgg5
  z5 := Tryz.sizeOf5
  v5 := Tryz.zeroValue5
  t9 := Tryz.underlying9
  a9 := Tryz.isAgg9
  z9 := Tryz.sizeOf9
  v9 := Tryz.zeroValue9
  t22 := Tryz.underlying112
  a22 := Tryz.isAgg112
  z22 := Tryz.sizeOf112
  v22 := Tryz.zeroValue112
  t25 := Tryz.underlying117
  a25 := Tryz.isAgg117
  z25 := Tryz.sizeOf117
  v25 := Tryz.zeroValue117
  t39 := Tryz.underlying145
  a39 := Tryz.isAgg145
  z39 := Tryz.sizeOf145
  v39 := Tryz.zeroValue145
  t45 := Tryz.underlying164
  a45 := Tryz.isAgg164
  z45 := Tryz.sizeOf164
  v45 := Tryz.zeroValue164
  t46 := Tryz.underlying165
  a46 := Tryz.isAgg165
  z46 := Tryz.sizeOf165
  v46 := Tryz.zeroValue165
  t50 := Tryz.underlying86
  a50 := Tryz.isAgg86
  z50 := Tryz.sizeOf86
  v50 := Tryz.zeroValue86
  t53 := Tryz.underlying171
  a53 := Tryz.isAgg171
  z53 := Tryz.sizeOf171
  v53 := Tryz.zeroValue171
  t55 := Tryz.underlying25
  a55 := Tryz.isAgg25
  z55 := Tryz.sizeOf25
  v55 := Tryz.zeroValue25
  t66 := Tryz.underlying182
  a66 := Tryz.isAgg182
  z66 := Tryz.sizeOf182
  v66 := Tryz.zeroValue182
  t70 := Tryz.underlying185
  a70 := Tryz.isAgg185
  z70 := Tryz.sizeOf185
  v70 := Tryz.zeroValue185
  t76 := Tryz.underlying189
  a76 := Tryz.isAgg189
  z76 := Tryz.sizeOf189
  v76 := Tryz.zeroValue189
  t77 := Tryz.underlying190
  a77 := Tryz.isAgg190
  z77 := Tryz.sizeOf190
  v77 := Tryz.zeroValue190 }
end Go.Proofs.YtgplajofemencaaGreat
/- Nodes by what they cost at least: what the program's own Sorted answers. slices.SortFunc stands by the library's shelf (SLay). -/
namespace Go.Proofs.YtgplajofemencaaGreat
open Go.ChangeShapes Go.WideShapes Go.ChangeAt Go.RowKit

/-! ### Plain mathematics -/
/-- How two places are held against each other: by what they weigh, then by where they stand. -/
def lexI (x y : Int × Int) : Int := if cmpI x.1 y.1 ≠ 0 then cmpI x.1 y.1 else cmpI x.2 y.2
theorem lex_neg (x y : Int × Int) : (lexI x y < 0) ↔ (x.1 < y.1 ∨ (x.1 = y.1 ∧ x.2 < y.2)) := by
  unfold lexI cmpI
  by_cases h1 : x.1 < y.1
  · simp [h1]
  · by_cases h2 : y.1 < x.1
    · simp [h1, h2]; omega
    · have h3 : x.1 = y.1 := by omega
      by_cases h4 : x.2 < y.2
      · simp [h3, h4]
      · by_cases h5 : y.2 < x.2
        · simp [h3, h4, h5]
        · simp [h3, h4, h5]
theorem lt_lex (x y : Int × Int) : ltOf lexI x y = decide (x.1 < y.1 ∨ (x.1 = y.1 ∧ x.2 < y.2)) := by
  unfold ltOf
  rw [decide_eq_decide]
  exact lex_neg x y
theorem lex_swo : Go.Sort.SWO (ltOf lexI) where
  irrefl x := by rw [lt_lex]; simp
  trans x y z h1 h2 := by rw [lt_lex] at *; simp only [decide_eq_true_eq] at *; omega
  ntrans x y z h1 h2 := by rw [lt_lex] at *; simp only [decide_eq_false_iff_not] at *; omega
theorem lex_one (x y : Int × Int) (h1 : ltOf lexI x y = false) (h2 : ltOf lexI y x = false) : x = y := by
  rw [lt_lex] at h1 h2
  simp only [decide_eq_false_iff_not] at h1 h2
  exact Prod.ext (by omega) (by omega)
/-- What the first k of some nodes weigh, and where they stand. -/
def pairsK (f : Nod → Int) (l : List Nod) (k : Nat) : List (Int × Int) := (List.range k).map (fun i => (f (nodAt l i), (i : Int)))
theorem pairsK_next (f : Nod → Int) (l : List Nod) (k : Nat) : pairsK f l (k + 1) = pairsK f l k ++ [(f (nodAt l k), (k : Int))] := by
  unfold pairsK
  rw [List.range_succ, List.map_append]; rfl
theorem pairsK_len (f : Nod → Int) (l : List Nod) (k : Nat) : (pairsK f l k).length = k := by simp [pairsK]
theorem pairsK_mem {f : Nod → Int} {l : List Nod} {k : Nat} {p : Int × Int} (h : p ∈ pairsK f l k) : ∃ i : Nat, i < k ∧ p = (f (nodAt l i), (i : Int)) := by
  unfold pairsK at h
  obtain ⟨i, hi, rfl⟩ := List.mem_map.1 h
  exact ⟨i, List.mem_range.1 hi, rfl⟩
def sortedP (f : Nod → Int) (l : List Nod) (k : Nat) : List (Int × Int) := sortG Prod.fst (pairsK f l k)
theorem sortedP_next (f : Nod → Int) (l : List Nod) (k : Nat) : sortedP f l (k + 1) = insG Prod.fst (f (nodAt l k), (k : Int)) (sortedP f l k) := by
  unfold sortedP
  rw [pairsK_next, sortG_snoc]
theorem sortedP_mem {f : Nod → Int} {l : List Nod} {k : Nat} {p : Int × Int} (h : p ∈ sortedP f l k) : ∃ i : Nat, i < k ∧ p = (f (nodAt l i), (i : Int)) := pairsK_mem ((sortG_perm _ _).mem_iff.1 h)
/-- No later one comes first. -/
theorem sortedP_lex (f : Nod → Int) (l : List Nod) : ∀ k, (sortedP f l k).Pairwise (fun x y => (!ltOf lexI y x) = true)
  | 0 => List.Pairwise.nil
  | k + 1 => by
    have ih := sortedP_lex f l k
    rw [sortedP_next]
    obtain ⟨a, b, e1, e2, h1, h2⟩ := insG_split Prod.fst (f (nodAt l k), (k : Int)) (sortG_ord Prod.fst (pairsK f l k))
    have e1' : sortedP f l k = a ++ b := e1
    have e2' : insG Prod.fst (f (nodAt l k), (k : Int)) (sortedP f l k) = a ++ (f (nodAt l k), (k : Int)) :: b := e2
    rw [e2']
    rw [e1'] at ih
    have hs := List.pairwise_append.1 ih
    have hlt : ∀ y, y ∈ a ++ b → y.2 < (k : Int) := fun y hy => by
      rw [← e1'] at hy
      obtain ⟨i, hi, rfl⟩ := sortedP_mem hy
      show (i : Int) < (k : Int)
      omega
    refine List.pairwise_append.2 ⟨hs.1, List.pairwise_cons.2 ⟨fun y hy => ?_, hs.2.1⟩, fun y hy z hz => ?_⟩
    · have := h2 y hy
      rw [lt_lex]
      simp only [Bool.not_eq_true', decide_eq_false_iff_not]
      omega
    · rcases List.mem_cons.1 hz with rfl | hz
      · have h3 := h1 y hy
        have h4 := hlt y (List.mem_append_left _ hy)
        rw [lt_lex]
        simp only [Bool.not_eq_true', decide_eq_false_iff_not]
        simp only at h3
        omega
      · exact hs.2.2 y hy z hz
theorem merge_is (f : Nod → Int) (l : List Nod) (k : Nat) : (pairsK f l k).mergeSort (fun x y => !ltOf lexI y x) = sortedP f l k := by
  refine List.Perm.eq_of_pairwise (le := fun x y => (!ltOf lexI y x) = true) (fun x y _ _ h1 h2 => ?_) ?_ (sortedP_lex f l k) ((List.mergeSort_perm _ _).trans (sortG_perm _ _).symm)
  · exact lex_one x y (by simpa using h2) (by simpa using h1)
  · refine List.pairwise_mergeSort (fun a b c h1 h2 => ?_) (fun a b => ?_) _
    · simp only [Bool.not_eq_true'] at *
      exact lex_swo.ntrans _ _ _ h2 h1
    · rw [lt_lex, lt_lex]
      simp only [Bool.or_eq_true, Bool.not_eq_true', decide_eq_false_iff_not]
      omega
theorem ins_map {f : Nod → Int} {g : Int × Int → Nod} {x : Int × Int} (hx : f (g x) = x.1) : ∀ {s : List (Int × Int)}, (∀ y ∈ s, f (g y) = y.1) → (insG Prod.fst x s).map g = insG f (g x) (s.map g)
  | [], _ => rfl
  | y :: s, h => by
    have hy := h y (by simp)
    have ih := ins_map (f := f) (g := g) hx (s := s) (fun z hz => h z (by simp [hz]))
    rw [insG, List.map_cons, insG, hx, hy]
    by_cases c : x.1 < y.1
    · rw [if_pos c, if_pos c]; rfl
    · rw [if_neg c, if_neg c, List.map_cons, ih]
theorem sortedP_map (f : Nod → Int) (l : List Nod) : ∀ k, k ≤ l.length → (sortedP f l k).map (fun p => nodAt l p.2.toNat) = sortG f (l.take k)
  | 0, _ => by simp [sortedP, pairsK, sortG]
  | k + 1, h => by
    rw [sortedP_next, sort_take (by omega), ← sortedP_map f l k (by omega)]
    refine (ins_map (f := f) (g := fun p => nodAt l p.2.toNat) (x := (f (nodAt l k), (k : Int))) ?_ (fun y hy => ?_)).trans ?_
    · simp
    · obtain ⟨i, _, rfl⟩ := sortedP_mem hy
      simp
    · simp
theorem sortedP_len (f : Nod → Int) (l : List Nod) (k : Nat) : (sortedP f l k).length = k := by
  unfold sortedP
  rw [(sortG_perm _ _).length_eq, pairsK_len]
/-- The node at place i of the sorted ones. -/
theorem sorted_by (f : Nod → Int) (l : List Nod) : (List.range l.length).map (fun i => nodAt l ((sortedP f l l.length).getD i (0, 0)).2.toNat) = sortG f l := by
  have h := sortedP_map f l l.length (Nat.le_refl _)
  rw [List.take_length] at h
  rw [← h]
  refine List.ext_getElem? (fun i => ?_)
  rw [List.getElem?_map, List.getElem?_map]
  by_cases hi : i < l.length
  · rw [List.getElem?_range hi, List.getElem?_eq_getElem (show i < (sortedP f l l.length).length by rw [sortedP_len]; exact hi), Option.map_some, Option.map_some, List.getD_eq_getElem?_getD, List.getElem?_eq_getElem (show i < (sortedP f l l.length).length by rw [sortedP_len]; exact hi)]
    rfl
  · rw [List.getElem?_eq_none (by simp; omega), List.getElem?_eq_none (by rw [sortedP_len]; omega)]
    rfl

/-! ### Rows of what is weighed -/
def wgL (x : Int × Int) : List Value := [.int .i64 x.1, .int .i64 x.2]
theorem encWg : Enc wgL 2 := ⟨fun _ => rfl, by decide, fun x u hu => by
  simp only [wgL, List.mem_cons, List.not_mem_nil, or_false] at hu
  rcases hu with rfl | rfl <;> rfl⟩
theorem made_gflat {α : Type} {f : α → List Value} {k : Nat} (E : Enc f k) (z : Value) (x0 : α) (hz : z.cells.toList = f x0) (n : Nat) : (madeCells z.cells (n * k)).toList = gflat f (List.replicate n x0) := by
  have hk := E.pos
  have hs : z.cells.size = k := by rw [← Array.length_toList, hz, E.len]
  refine List.ext_getElem? (fun j => ?_)
  by_cases hj : j < n * k
  · have hd : j / k < n := Nat.div_lt_of_lt_mul (by rw [Nat.mul_comm]; exact hj)
    have hm : j % k < k := Nat.mod_lt _ hk
    have hjj : j / k * k + j % k = j := by rw [Nat.mul_comm]; exact Nat.div_add_mod j k
    have h1 := gflat_at E (List.replicate n x0) (j / k) (j % k) x0 (by rw [List.getElem?_replicate, if_pos hd]) hm
    rw [hjj] at h1
    rw [h1, ← hz, Array.getElem?_toList]
    unfold madeCells
    rw [hs, Array.getElem?_map, Array.getElem?_range, if_pos hj, Option.map_some, getElem!_pos z.cells (j % k) (by omega), List.getElem?_eq_getElem (by rw [Array.length_toList]; omega), Array.getElem_toList]
  · rw [List.getElem?_eq_none (by rw [Array.length_toList, size_madeCells]; omega), List.getElem?_eq_none (by rw [gflat_len E, List.length_replicate]; omega)]
theorem infoWg : (Tryz.prog.info? 114).map (fun i => (i.zero, i.size, i.bytes)) = some (some (.agg #[.int .i64 0, .int .i64 0]), 2, 16) := by kernel_rfl
theorem make_weighed {w : World} {ops : Array Oper} {rest : List Oper} {o : Oper} {a : Act} {Q : Exit → Act → World → Prop} (hgd : o.guard = none) (l c : Operand) (ho : o.op = Op.makeSlice 112 l c)
    (B n : Nat) (hl : a.eval l = .int .i64 (n : Int)) (hc : a.eval c = .int .i64 (n : Int)) (hn : n ≤ 1000000) (hB : B ≤ w.heap.size)
    (h : ∀ w', OwnG wgL 2 114 w' B (.slice (some ⟨w.heap.size, 0, none⟩) n n) (List.replicate n (0, 0)) → w.grownBy w' none → wpList Tryz.prog ops Q rest (a.put o.dst (.slice (some ⟨w.heap.size, 0, none⟩) n n)) w') : wpList Tryz.prog ops Q (o :: rest) a w := by
  obtain ⟨i0, hi, hz0, hz1, hz2⟩ := info_parts infoWg
  refine wpList_make_full w hgd l c 112 ho B 114 i0 _ 2 Tryz.underlying112 hi hz0 hz1 .i64 .i64 _ _ n hl hc rfl rfl (by rw [hz2]; omega) (by unfold maxLen; omega) hB ?_
  intro w' h1 h2
  refine h w' ?_ h2
  unfold OwnG
  rw [List.length_replicate, ← made_gflat encWg (.agg #[.int .i64 0, .int .i64 0]) (0, 0) rfl]
  exact h1
theorem make_nodes {w0 w : World} {ops : Array Oper} {rest : List Oper} {o : Oper} {a : Act} {Q : Exit → Act → World → Prop} (hgd : o.guard = none) (l c : Operand) (ho : o.op = Op.makeSlice 35 l c)
    (B n : Nat) (hl : a.eval l = .int .i64 (n : Int)) (hc : a.eval c = .int .i64 (n : Int)) (hn : n ≤ 1000000) (hB : B ≤ w.heap.size)
    (h : ∀ w', OwnN w0 B w' (.slice (some ⟨w.heap.size, 0, none⟩) n n) (List.replicate n nod0) → w.grownBy w' none → wpList Tryz.prog ops Q rest (a.put o.dst (.slice (some ⟨w.heap.size, 0, none⟩) n n)) w') : wpList Tryz.prog ops Q (o :: rest) a w := by
  obtain ⟨i0, hi, hz0, hz1, hz2⟩ := info_parts infoNode
  refine wpList_make_full w hgd l c 35 ho B 30 i0 _ 10 Tryz.underlying35 hi hz0 hz1 .i64 .i64 _ _ n hl hc rfl rfl (by rw [hz2]; omega) (by unfold maxLen; omega) hB ?_
  intro w' h1 h2
  refine h w' ⟨List.replicate n ⟨noughtS, 0, none, 0, 0⟩, ?_, ?_⟩ h2
  · unfold OwnG
    rw [List.length_replicate, ← made_gflat encNod (.agg #[.int .i64 0, .int .i64 0, .int .i64 0, .int .i64 0, .int .i64 0, .int .u64 0, .int .u64 0, .int .u64 0, .int .i64 0, .slice none 0 0]) ⟨noughtS, 0, none, 0, 0⟩ rfl]
    exact h1
  · have key : ∀ m, NIn w0 w' (List.replicate m ⟨noughtS, 0, none, 0, 0⟩) (List.replicate m nod0) := by
      intro m
      induction m with
      | zero => trivial
      | succ m ih => exact ⟨⟨rfl, rfl, .inl (row_nil _)⟩, ih⟩
    exact key n
/-- What is weighed, as the sort has it. -/
theorem OwnG.holdsK {w : World} {B g n cap : Nat} {l : List (Int × Int)} (h : OwnG wgL 2 114 w B (.slice (some ⟨g, 0, none⟩) n cap) l) : Go.Sort.HoldsK wgL 2 w g 0 l.toArray := by
  have hn : n = l.length := by
    obtain ⟨a, c, he⟩ := h.shape
    simp at he; exact he.2.1
  subst hn
  have h' : w.ownsRow B 114 2 (.slice (some ⟨g, 0, none⟩) l.length cap) l.length (gflat wgL l) := h
  intro j hj
  rw [Go.Sort.size_flatK] at hj
  have hj' : j < l.length * 2 := by simpa using hj
  rw [Nat.zero_add]
  refine ⟨?_, h'.frozenAt j⟩
  rw [h'.cellAt j (by omega), Go.Sort.get_flatK _ _ _ _ hj]
  have hd : j / 2 < l.length := by omega
  have h1 := gflat_at encWg l (j / 2) (j % 2) _ (List.getElem?_eq_getElem hd) (by omega)
  rw [show j / 2 * 2 + j % 2 = j by omega] at h1
  rw [h1, getElem!_pos l.toArray (j / 2) (by simpa using hd)]
  simp only [List.getElem_toArray, id]
  rw [List.getElem?_eq_getElem (by rw [encWg.len]; omega), getElem!_pos _ _ (by rw [encWg.len]; omega)]
theorem below_sortK {w : World} {g n B : Nat} {d : Array (Int × Int)} {os : Array Obj} (hB : B ≤ g) (hBw : B ≤ w.heap.size) : Below B w (sortWorldK wgL 2 w g 0 n d os) := by
  refine ⟨rfl, rfl, rfl, ?_, fun k hk => ?_⟩
  · simp [sortWorldK, Go.Sort.grow, Go.Sort.putRowK, Go.Sort.putRow, Go.Sort.mapBlock, Go.Sort.ahead]
  · show ((w.heap.modify g _) ++ os)[k]? = w.heap[k]?
    rw [Array.getElem?_append_left (by rw [Array.size_modify]; omega), Array.getElem?_modify, if_neg (by omega)]
set_option maxRecDepth 1000000 in
set_option maxHeartbeats 4000000 in
theorem cmpor_any {w : World} {b a c : Int} {g : Nat} (hab : w.cell? ⟨g, 0, none⟩ = some (.int .i64 a)) (hc : w.cell? ⟨g, 1, none⟩ = some (.int .i64 c)) (hb : (if a ≠ 0 then a else c) = b) :
    Calls Tryz.prog 70 #[.slice (some ⟨g, 0, none⟩) 2 2] w fun e w' => e = .returned (.int .i64 b) ∧ w = w' := by
  have HA := Lib.hid hab
  have HC := Lib.hid hc
  have HB := Lib.hid hb
  clear hab hc hb
  go_enter Tryz.func70, Tryz.ntmps70
  go_wp2_with fail
  go_loop [8] (fun i => ∃ k : Nat, k ≤ 2 ∧ i = .int .i64 (k : Int) ∧ (0 < k → a = 0) ∧ (1 < k → c = 0)) (fun i => 2 - (intOf i).toNat)
  case atStart => exact ⟨0, by omega, rfl, fun h => absurd h (by omega), fun h => absurd h (by omega)⟩
  case round =>
    obtain ⟨k, hk, rfl, h0, h1⟩ := hrel
    match k, hk with
    | 0, _ =>
      clear h0 h1
      have c0 := HA.out
      by_cases ha : a = 0
      · have d : (a != 0) = false := by simp [ha]
        have HF := Lib.hid ha
        clear ha
        go_wp2
        go_round
        case rel => exact ⟨1, by omega, by go_num, fun _ => HF.out, fun h => absurd h (by omega)⟩
        case measure => simp [intOf]
      · have d : (a != 0) = true := by simp [ha]
        have HF := Lib.hid (show a = b by rw [← HB.out, if_pos ha])
        clear ha
        go_wp2
        go_ret
        exact ⟨ret_int HF.out, rfl⟩
    | 1, _ =>
      have HF0 := Lib.hid (h0 (by omega))
      clear h0 h1
      have c0 := HC.out
      by_cases ha : c = 0
      · have d : (c != 0) = false := by simp [ha]
        have HF := Lib.hid ha
        clear ha
        go_wp2
        go_round
        case rel => exact ⟨2, by omega, by go_num, fun _ => HF0.out, fun _ => HF.out⟩
        case measure => simp [intOf]
      · have d : (c != 0) = true := by simp [ha]
        have HF := Lib.hid (show c = b by rw [← HB.out, if_neg (by rw [HF0.out]; simp)])
        clear ha
        go_wp2
        go_ret
        exact ⟨ret_int HF.out, rfl⟩
    | 2, _ =>
      have HF0 := Lib.hid (h0 (by omega))
      have HF1 := Lib.hid (h1 (by omega))
      have HF := Lib.hid (show (0 : Int) = b by rw [← HB.out, HF0.out, HF1.out]; rfl)
      clear h0 h1
      go_wp2
      go_ret
      exact ⟨ret_int HF.out, rfl⟩
def wgB (x : Int × Int) : Obj := .cells #[.int .i64 x.1, .int .i64 x.2] 114
set_option maxRecDepth 1000000 in
set_option maxHeartbeats 4000000 in
theorem lcmp_any (x y : Int × Int) (W : World) : Calls Tryz.prog 69 #[.agg #[.int .i64 x.1, .int .i64 x.2], .agg #[.int .i64 y.1, .int .i64 y.2]] W fun e w' => e = .returned (.int .i64 (lexI x y)) ∧ ∃ q os', w' = Go.Sort.grow (W.drewN q) os' := by
  have HL := Lib.hid (show (if cmpI x.1 y.1 ≠ 0 then cmpI x.1 y.1 else cmpI x.2 y.2) = lexI x y from rfl)
  go_enter Tryz.func69, Tryz.ntmps69
  go_wp2_with fail
  change Code.wp _ _ _ _ ((W.alloc (wgB x)).alloc (wgB y))
  have e1 : (W.alloc (wgB x)).heap.size = W.heap.size + 1 := by simp
  have k1 : ∀ i, ((W.alloc (wgB x)).alloc (wgB y)).cell? ⟨W.heap.size, i, none⟩ = (#[Value.int .i64 x.1, Value.int .i64 x.2] : Array Value)[i]? := fun i => by
    refine (((Below.refl _ (W.alloc (wgB x))).alloc (Nat.le_refl _) (wgB y)).cell (p := ⟨W.heap.size, i, none⟩) (by simp)).trans ?_
    exact cell_of_row _ _ _ _ _ _ (heap_alloc_new W (wgB x))
  have k2 : ∀ i, ((W.alloc (wgB x)).alloc (wgB y)).cell? ⟨W.heap.size + 1, i, none⟩ = (#[Value.int .i64 y.1, Value.int .i64 y.2] : Array Value)[i]? := fun i => by
    rw [← e1]
    exact cell_of_row _ _ _ _ _ _ (heap_alloc_new (W.alloc (wgB x)) (wgB y))
  obtain ⟨V, hV⟩ : ∃ V, ((W.alloc (wgB x)).alloc (wgB y)).drew = V := ⟨_, rfl⟩
  have HV := Lib.hid (show ∀ O : Obj, V.alloc O = Go.Sort.grow (W.drewN 1) #[wgB x, wgB y, O] by
    intro O
    rw [← hV, Go.Sort.alloc_eq_grow W, Go.Sort.alloc_eq_grow (Go.Sort.grow W _), Go.Sort.grow_grow, Go.Sort.drew_grow, Go.Sort.alloc_eq_grow, Go.Sort.grow_grow]; rfl)
  have HS0 := Lib.hid (show Holds [(⟨W.heap.size, 0, none⟩, .int .i64 x.1), (⟨W.heap.size, 1, none⟩, .int .i64 x.2), (⟨W.heap.size + 1, 0, none⟩, .int .i64 y.1), (⟨W.heap.size + 1, 1, none⟩, .int .i64 y.2)] ((W.alloc (wgB x)).alloc (wgB y)).drew from ⟨k1 0, k1 1, k2 0, k2 1, trivial⟩)
  refine wp_region_held_drew (S := Holds [(⟨W.heap.size, 0, none⟩, .int .i64 x.1), (⟨W.heap.size, 1, none⟩, .int .i64 x.2), (⟨W.heap.size + 1, 0, none⟩, .int .i64 y.1), (⟨W.heap.size + 1, 1, none⟩, .int .i64 y.2)]) (by kernel_rfl) HS0.out (fun hSn => ?_)
  have hlt := Lib.hid (show Lows ((W.alloc (wgB x)).alloc (wgB y)).drew.heap.size [(⟨W.heap.size, 0, none⟩, .int .i64 x.1), (⟨W.heap.size, 1, none⟩, .int .i64 x.2), (⟨W.heap.size + 1, 0, none⟩, .int .i64 y.1), (⟨W.heap.size + 1, 1, none⟩, .int .i64 y.2)] from ⟨by show W.heap.size < _; simp [World.drew]; omega, by show W.heap.size < _; simp [World.drew]; omega, by show W.heap.size + 1 < _; simp [World.drew], by show W.heap.size + 1 < _; simp [World.drew], trivial⟩)
  rw [hV] at HS0 hlt hSn ⊢
  clear hV k1 k2 e1
  have Bc := Lib.hid (Below.refl V.heap.size V)
  refine tks [0, 1, 2, 3, 5, 6, 7, 8] 8 rfl (by kernel_rfl) (fun _ _ _ _ h => h) (by assumption) (fun KT hKT => ?_)
  iterate 8 (refine tkT (by (simp only [gA, gB, gC]; rfl)) (by rfl) (by (intro w hSw; (simp only [Holds] at hSw); go_simp <;> with_reducible rfl)) ?_; simp only [Act.put, pA, pB, pC])
  refine hKT _ ?_
  clear KT hKT
  refine wpAnyH_ready (rs := [4]) (by kernel_rfl) (by simp) ?_
  refine AllReadyH.cons (o := ?oz271) ?iz271 (fun K hK => ?kz271) AllReadyH.nil
  case iz271 => (simp only [List.getElem?_toArray, List.getElem?_cons_zero, List.getElem?_cons_succ]; rfl)
  go_simp
  refine (compare_any _ _ _).mono ?_
  rintro e w' ⟨rfl, hw⟩
  rw [hw]
  clear hw w'
  refine held_more hK HS0.out hlt Bc.out (fun Bc hSn => ?_)
  clear hK
  refine wpAnyH_ready (rs := [9]) (by kernel_rfl) (by simp) ?_
  refine AllReadyH.cons (o := ?oz272) ?iz272 (fun K hK => ?kz272) AllReadyH.nil
  case iz272 => (simp only [List.getElem?_toArray, List.getElem?_cons_zero, List.getElem?_cons_succ]; rfl)
  go_simp
  refine (compare_any _ _ _).mono ?_
  rintro e w' ⟨rfl, hw⟩
  rw [hw]
  clear hw w'
  refine held_more hK HS0.out hlt Bc.out (fun Bc hSn => ?_)
  clear hK
  refine wpAnyH_ready (rs := [10]) (by kernel_rfl) (by simp) ?_
  refine AllReadyH.cons (o := ?oz273) ?iz273 (fun K hK => ?kz273) AllReadyH.nil
  case iz273 => (simp only [List.getElem?_toArray, List.getElem?_cons_zero, List.getElem?_cons_succ]; rfl)
  go_simp
  refine held_more hK HS0.out hlt (Bc.out.alloc Bc.out.size _) (fun Bc hSn => ?_)
  obtain ⟨c1, hc1⟩ : ∃ c, cmpI x.1 y.1 = c := ⟨_, rfl⟩
  obtain ⟨c2, hc2⟩ : ∃ c, cmpI x.2 y.2 = c := ⟨_, rfl⟩
  rw [hc1, hc2] at HL
  rw [hc1, hc2] at Bc hSn ⊢
  have g0 : (V.alloc (.cells #[.int .i64 c1, .int .i64 c2] 3)).cell? ⟨V.heap.size, 0, none⟩ = some (.int .i64 c1) := by rw [cell_of_row _ _ _ _ _ _ (heap_alloc_new V _)]; rfl
  have g1 : (V.alloc (.cells #[.int .i64 c1, .int .i64 c2] 3)).cell? ⟨V.heap.size, 1, none⟩ = some (.int .i64 c2) := by rw [cell_of_row _ _ _ _ _ _ (heap_alloc_new V _)]; rfl
  refine wpAnyH_ready (rs := [11]) (by kernel_rfl) (by simp) ?_
  refine AllReadyH.cons (o := ?oz274) ?iz274 (fun K hK => ?kz274) AllReadyH.nil
  case iz274 => (simp only [List.getElem?_toArray, List.getElem?_cons_zero, List.getElem?_cons_succ]; rfl)
  go_simp
  refine (cmpor_any g0 g1 HL.out).mono ?_
  rintro e w' ⟨rfl, rfl⟩
  refine held_more hK HS0.out hlt Bc.out (fun Bc hSn => ?_)
  clear hK g0 g1
  refine tks [12] 1 rfl (by kernel_rfl) (fun _ _ _ _ h => h) (by assumption) (fun KT hKT => ?_)
  refine tkT (by (simp only [gA, gB, gC]; rfl)) (by rfl) (by (intro w hSw; (simp only [Holds] at hSw); go_simp <;> with_reducible rfl)) ?_
  simp only [Act.put, pA, pB, pC]
  refine hKT _ ?_
  clear KT hKT
  refine wpAnyH_done (by kernel_rfl) ?_ _
  go_wp2
  go_ret
  exact ⟨rfl, 1, _, HV.out _⟩
set_option maxRecDepth 1000000 in
set_option maxHeartbeats 4000000 in
/-- What a node is weighed by. -/
theorem lweigh_any {w : World} {v u : Value} {I : Ins} {n : Nod} {BX : Nat} (hi : SRow w v I.l) (hy : YBox w BX I v) (hs : SetsOk n.s) (hu : Row w u (ints n.path)) :
    Calls Tryz.prog 45 #[nodeV n.s n.cost u, .pointer (some ⟨BX, 0, none⟩)] w fun e w' => e = .returned (.int .i64 (ofB I n)) ∧ Below w.heap.size w w' := by
  have HR := Lib.hid hi
  have HS := Lib.hid hs
  have HU := Lib.hid hu
  have HE := Lib.hid (show sumOf [n.cost, boundS I n.s] = ofB I n from rfl)
  obtain ⟨ad, cap, rfl, _⟩ := hi.form
  have HB := Lib.hid ((Below.refl w.heap.size w).alloc (Nat.le_refl _) (boxN n.s n.cost u))
  have HD := Lib.hid (nod_new w n.s n.cost u)
  have HY := Lib.hid (hy.later HB.out)
  clear hi hy hs hu
  unfold nodeV
  go_enter Tryz.func45, Tryz.ntmps45
  go_upto_region 1 with fail
  change Code.wp _ _ _ _ (w.alloc (boxN n.s n.cost u))
  generalize w.alloc (boxN n.s n.cost u) = W at *
  obtain ⟨y0, y1, y2, y3⟩ := HY.out.cells
  have x0 := HD.out.c0
  have x1 := HD.out.c1
  have x2 := HD.out.c2
  have x3 := HD.out.c3
  have x4 := HD.out.c4
  have x5 := HD.out.c5
  have x6 := HD.out.c6
  have x7 := HD.out.c7
  have x8 := HD.out.c8
  have x9 := HD.out.c9
  go_wp2_with fail
  clear y0 y1 y2 y3
  clear x0 x1 x2 x3 x4 x5 x6 x7 x8 x9
  change Calls _ _ #[insV I (.slice ad I.l.length cap), nodeV n.s n.cost u] _ _
  refine (bof_any (I := I) (s := n.s) (c := n.cost) (HR.out.below HB.out) HS.out (HU.out.below HB.out)).mono ?_
  rw [HE.out]
  rintro e w3 ⟨rfl, hb⟩
  have HB3 := Lib.hid (HB.out.trans (hb.mono HB.out.size))
  clear hb
  go_wp2
  go_ret
  exact ⟨rfl, HB3.out⟩
end Go.Proofs.YtgplajofemencaaGreat
/- What the program's own sortedBy and Sorted answer. -/
namespace Go.Proofs.YtgplajofemencaaGreat
open Go.ChangeShapes Go.WideShapes Go.ChangeAt Go.RowKit

theorem sortfunc_any {w : World} {g n cap : Nat} {l : List (Int × Int)} (hH : Go.Sort.HoldsK wgL 2 w g 0 l.toArray) (hblk : g < w.heap.size) (hn : l.length = n) (hlen : n ≤ 1000000) :
    Calls Tryz.prog 68 #[.slice (some ⟨g, 0, none⟩) n cap, .func (.func 69) #[] #[]] w fun e w' => e = .returned (.tuple #[]) ∧ ∃ q os, w' = sortWorldK wgL 2 w g 0 q (l.mergeSort (fun x y => !ltOf lexI y x)).toArray os := by
  subst hn
  have h := AnyQ.slices_SortFunc_total Tryz.laysSort 2 Tryz.isAgg114 Tryz.sizeOf114 wgL (fun _ => rfl) encWg.one lexI lex_swo 69 #[] g 0 cap l.toArray w (enters_of Tryz.func69 (by kernel_rfl) rfl) (fun _ _ _ _ x y => lcmp_any x y _) hH hblk (by simp; omega) lex_one
  simp only [List.size_toArray] at h
  exact h
set_option maxRecDepth 1000000 in
set_option maxHeartbeats 4000000 in
theorem lsortedby_any {w0 w : World} {v u : Value} {I : Ins} {l : List Nod} {BX : Nat} (hi : SRow w v I.l) (hy : YBox w BX I v) (h : NRowB w0 w u l) (hb0 : Below w0.heap.size w0 w) (hok : NodesOk l) (hlen : l.length ≤ 1000000) :
    Calls Tryz.prog 44 #[u, .func (.func 45) #[] #[.pointer (some ⟨BX, 0, none⟩)]] w fun e w' => ∃ z, e = .returned z ∧ OwnN w0 w.heap.size w' z (sortedL I l) ∧ Below w.heap.size w w' := by
  have HR := Lib.hid hi
  have HY := Lib.hid hy
  have H := Lib.hid h
  have HW0 := Lib.hid hb0
  have HOK := Lib.hid hok
  obtain ⟨la, lc, rfl, hm, _⟩ := h.form
  have hl63 : l.length ≤ 9223372036854775807 := by omega
  clear hi hy h hb0 hok hm
  go_enter Tryz.func44, Tryz.ntmps44
  go_wp2_with (first | (at_make; refine make_weighed rfl _ _ rfl w.heap.size l.length rfl rfl hlen (Nat.le_refl _) ?_))
  intro w1 hown hgrow
  have HO := Lib.hid hown
  have HB1 := Lib.hid (grown_below hgrow (Nat.le_refl _) (fun q hq => by simp at hq))
  obtain ⟨g, hg⟩ : ∃ g, w.heap.size = g := ⟨_, rfl⟩
  have HG := Lib.hid hg
  rw [hg] at HO HB1 ⊢
  clear hown hgrow hg
  go_wp2_with fail
  go_loopw [16] (fun i wr => ∃ (k : Nat) (ys : List (Int × Int)), k ≤ l.length ∧ i = .int .i64 (k : Int) ∧ OwnG wgL 2 114 wr g (.slice (some ⟨g, 0, none⟩) l.length l.length) ys ∧ Fill (0, 0) k l.length (fun i => (ofB I (nodAt l i), (i : Int))) ys ∧ Below g w wr) (fun i _ => l.length - (intOf i).toNat)
  case atStart => exact ⟨0, _, Nat.zero_le _, rfl, HO.out, Fill.none _ _ _ _, HB1.out⟩
  case round =>
    obtain ⟨k, ys, hk, rfl, hon, hfl, hbw⟩ := hrel
    have HON := Lib.hid hon
    have HF := Lib.hid hfl
    have HBW := Lib.hid hbw
    have HBG := Lib.hid (show Below w.heap.size w wr by rw [HG.out]; exact hbw)
    clear hon hfl hbw
    by_cases hlt : k < l.length
    · obtain ⟨b1, o1, xa, xc, hla, hn1, hl1, hr1⟩ := nrowB_at H.out k _ (nodAt_is hlt)
      subst hla
      obtain ⟨c0, c1, c2, c3, c4, c5, c6, c7, c8, c9⟩ := hn1.below hl1 HBG.out
      have HK := Lib.hid hlt
      have HX := Lib.hid (hr1.below HBG.out)
      have HNO := Lib.hid (HOK.out _ (nodAt_mem hlt))
      have HFX := Lib.hid (show ∀ y : Int × Int, y = (ofB I (nodAt l k), (k : Int)) → Fill (0, 0) (k + 1) l.length (fun i => (ofB I (nodAt l i), (i : Int))) (ys.set k y) from fun y hy => HF.out.next hlt hy)
      have hki : (k : Int) < (l.length : Int) := by omega
      have hk0 : (0 : Int) ≤ (k : Int) := by omega
      have hk2 : IntKind.i64.wrap ((k : Int) + 1) = (k : Int) + 1 := IntWalk.i64_in _ (by omega)
      obtain ⟨n, hn⟩ : ∃ n, nodAt l k = n := ⟨_, rfl⟩
      rw [hn] at c0 c1 c2 c3 c4 c5 c6 c7 c8 c9 HX HNO HFX
      clear hn1 hl1 hr1 hlt hk hn
      have HAL := Lib.hid (show Below wr.heap.size wr (wr.alloc (boxN n.s n.cost (.slice xa n.path.length xc))) from (Below.refl _ wr).alloc (Nat.le_refl _) _)
      go_wp2_with fail
      clear c0 c1 c2 c3 c4 c5 c6 c7 c8 c9
      change Calls _ _ #[nodeV n.s n.cost (.slice xa n.path.length xc), .pointer (some ⟨BX, 0, none⟩)] (wr.alloc (boxN n.s n.cost (.slice xa n.path.length xc))) _
      have HBA := Lib.hid (HBG.out.trans (HAL.out.mono HBG.out.size))
      have HXA := Lib.hid (HX.out.below HAL.out)
      have HONA := Lib.hid (HON.out.below HAL.out)
      generalize wr.alloc (boxN n.s n.cost (.slice xa n.path.length xc)) = W2 at *
      refine (lweigh_any (I := I) (n := n) (HR.out.below HBA.out) (HY.out.below HY.out.lt HBA.out) HNO.out.1 (HXA.out.row (HW0.out.trans (HBA.out.mono HW0.out.size)))).mono ?_
      rintro e w3 ⟨rfl, hb⟩
      have HB3 := Lib.hid (HBA.out.trans (hb.mono HBA.out.size))
      obtain ⟨es, hes⟩ : ∃ es, ofB I n = es := ⟨_, rfl⟩
      rw [hes] at HFX ⊢
      have HST := Lib.hid ((HONA.out.below hb).stored encWg k (es, (k : Int)) (by rw [HF.out.1]; exact HK.out))
      clear hb hes HX HXA HONA
      go_wp2_with (refine wpList_store_mid (by rfl) 114 (.tmp 28) (.tmp 27) (by rfl) g (k * 2) (wgL (es, (k : Int))).toArray (by rfl) (by rfl) (by exact HST.out.2.2.1) (by kernel_rfl) (all_oneCell_toArray (encWg.one (es, (k : Int)))) ?_)
      have HB4 := Lib.hid (show Below g w (w3.setCells g (k * 2) (wgL (es, (k : Int)))) from (show Below g w w3 by rw [← HG.out]; exact HB3.out).grown HST.out.2.1 (by rw [← HG.out]; exact HB3.out.size) (fun b e => by cases e; exact Nat.le_refl _))
      go_roundw
      case rel => exact ⟨k + 1, _, by have := HK.out; omega, by go_num, by exact HST.out.1, HFX.out _ rfl, HB4.out⟩
      case measure => have := HK.out; simp [intOf]; omega
    · obtain rfl : k = l.length := by omega
      have HYS := Lib.hid (show ys = pairsK (ofB I) l l.length from HF.out.all)
      rw [HYS.out] at HON
      have HGL := Lib.hid (World.ownsRow.lt HON.out g rfl)
      have HHK := Lib.hid HON.out.holdsK
      have HMI := Lib.hid (merge_is (ofB I) l l.length)
      have HPM := Lib.hid (fun p (hp : p ∈ sortedP (ofB I) l l.length) => sortedP_mem hp)
      have HPL := Lib.hid (sortedP_len (ofB I) l l.length)
      have HPL0 := Lib.hid (pairsK_len (ofB I) l l.length)
      have HSB := Lib.hid (show (List.range l.length).map (fun i => nodAt l ((sortedP (ofB I) l l.length).getD i (0, 0)).2.toNat) = sortedL I l from sorted_by (ofB I) l)
      clear hlt hk HF HYS
      generalize wr = W4 at *
      go_wp2_with fail
      refine (sortfunc_any HHK.out HGL.out.2 HPL0.out hlen).mono ?_
      rw [HMI.out]
      rintro e w5 ⟨rfl, q, os, rfl⟩
      have HB5 := Lib.hid (HBG.out.trans (below_sortK (w := W4) (g := g) (n := q) (B := w.heap.size) (d := (sortedP (ofB I) l l.length).toArray) (os := os) (by rw [HG.out]; exact Nat.le_refl _) HBG.out.size))
      have HH5 := Lib.hid (holdsK_sortWorldK_c wgL 2 W4 g 0 (pairsK (ofB I) l l.length).toArray (sortedP (ofB I) l l.length).toArray q os HHK.out HGL.out.2 (by simp [HPL.out, HPL0.out]))
      have HG5 := Lib.hid (show g < (sortWorldK wgL 2 W4 g 0 q (sortedP (ofB I) l l.length).toArray os).heap.size from Nat.lt_of_lt_of_le HGL.out.2 (size_sortWorldK_c wgL 2 W4 g 0 q _ os))
      generalize sortWorldK wgL 2 W4 g 0 q (sortedP (ofB I) l l.length).toArray os = W5 at *
      clear HON HHK HMI HPL0
      generalize sortedP (ofB I) l l.length = ps at *
      go_wp2_with (first | (at_make; refine make_nodes (w0 := w0) rfl _ _ rfl w.heap.size l.length rfl rfl hlen HB5.out.size ?_))
      intro w6 hown hgrow
      have HO6 := Lib.hid hown
      have HB6 := Lib.hid (grown_below hgrow (Nat.le_refl _) (fun q hq => by simp at hq))
      obtain ⟨zb, hzb⟩ : ∃ z, W5.heap.size = z := ⟨_, rfl⟩
      have HZB := Lib.hid hzb
      rw [hzb] at HO6 ⊢
      clear hown hgrow hzb
      go_wp2_with fail
      go_loopw [37] (fun i wr => ∃ (k : Nat) (zs : List Nod), k ≤ l.length ∧ i = .int .i64 (k : Int) ∧ OwnN w0 w.heap.size wr (.slice (some ⟨zb, 0, none⟩) l.length l.length) zs ∧ Fill nod0 k l.length (fun i => nodAt l (ps.getD i (0, 0)).2.toNat) zs ∧ Below W5.heap.size W5 wr) (fun i _ => l.length - (intOf i).toNat)
      case atStart => exact ⟨0, _, Nat.zero_le _, rfl, HO6.out, Fill.none _ _ _ _, HB6.out⟩
      case round =>
        obtain ⟨k, zs, hk, rfl, hon, hfl, hbw⟩ := hrel
        have HON := Lib.hid hon
        have HF := Lib.hid hfl
        have HBV := Lib.hid hbw
        have HBZ := Lib.hid (HB5.out.trans (hbw.mono HB5.out.size))
        clear hon hfl hbw
        by_cases hlt : k < l.length
        · have hpk : k < ps.length := by rw [HPL.out]; exact hlt
          obtain ⟨p, hp⟩ : ∃ p, ps.getD k (0, 0) = p := ⟨_, rfl⟩
          have hpg : ps.toArray[k]! = p := by
            rw [getElem!_pos ps.toArray k (by simpa using hpk), List.getElem_toArray, ← hp, List.getD_eq_getElem?_getD, List.getElem?_eq_getElem hpk]; rfl
          have hc0 := (HH5.out.cell (i := k) (c := 0) (by simpa using hpk) (by decide)).1
          have hc1 := (HH5.out.cell (i := k) (c := 1) (by simpa using hpk) (by decide)).1
          rw [hpg, Nat.zero_add] at hc0 hc1
          have e0 : wr.cell? ⟨g, k * 2, none⟩ = some (.int .i64 p.1) := (HBV.out.cell (p := ⟨g, k * 2, none⟩) HG5.out).trans hc0
          have e1 : wr.cell? ⟨g, k * 2 + 1, none⟩ = some (.int .i64 p.2) := (HBV.out.cell (p := ⟨g, k * 2 + 1, none⟩) HG5.out).trans hc1
          obtain ⟨i, hil, hpi⟩ := HPM.out p (by rw [← hp, List.getD_eq_getElem?_getD, List.getElem?_eq_getElem hpk]; exact List.getElem_mem hpk)
          have HFX := Lib.hid (show ∀ y : Nod, y = nodAt l i → Fill nod0 (k + 1) l.length (fun i => nodAt l (ps.getD i (0, 0)).2.toNat) (zs.set k y) from fun y hy => HF.out.next hlt (by rw [hy, hp, hpi]; simp))
          rw [hpi] at e0 e1
          dsimp only at e0 e1
          obtain ⟨b1, o1, xa, xc, hla, hn1, hl1, hr1⟩ := nrowB_at H.out i _ (nodAt_is hil)
          subst hla
          have HN1 := Lib.hid (hn1.below hl1 HBZ.out)
          have HX := Lib.hid (hr1.below HBZ.out)
          have HK := Lib.hid hlt
          have hki : (k : Int) < (l.length : Int) := by omega
          have hk0 : (0 : Int) ≤ (k : Int) := by omega
          have hii : (i : Int) < (l.length : Int) := by omega
          have hi0 : (0 : Int) ≤ (i : Int) := by omega
          have hk2 : IntKind.i64.wrap ((k : Int) + 1) = (k : Int) + 1 := IntWalk.i64_in _ (by omega)
          obtain ⟨n, hn⟩ : ∃ n, nodAt l i = n := ⟨_, rfl⟩
          rw [hn] at HN1 HX HFX
          obtain ⟨ew, hew⟩ : ∃ ew, ofB I n = ew := ⟨_, rfl⟩
          rw [hn, hew] at e0
          have HL1 := Lib.hid (Nat.lt_of_lt_of_le hl1 HBZ.out.size)
          clear hn1 hl1 hr1 hlt hk hn hew hp hpg hc0 hc1 hpi hpk hil
          have HAL := Lib.hid (show Below wr.heap.size wr (wr.alloc (.cells #[.int .i64 ew, .int .i64 (i : Int)] 114)) from (Below.refl _ wr).alloc (Nat.le_refl _) _)
          obtain ⟨c0, c1, c2, c3, c4, c5, c6, c7, c8, c9⟩ := HN1.out.below HL1.out HAL.out
          have HST := Lib.hid ((HON.out.below HAL.out).stored k ⟨n.s, n.cost, xa, n.path.length, xc⟩ n ⟨rfl, rfl, HX.out.below HAL.out⟩ (by rw [HF.out.1]; exact HK.out))
          go_wp2_with (refine wpList_store_mid (by rfl) 30 (.tmp 49) (.tmp 48) (by rfl) zb (k * 10) (nvL ⟨n.s, n.cost, xa, n.path.length, xc⟩).toArray (by rfl) (by rfl) (by exact HST.out.2.2.1) (by kernel_rfl) (one_node _) ?_)
          have HB7 := Lib.hid ((HBV.out.trans (HAL.out.mono HBV.out.size)).grown HST.out.2.1 (Nat.le_trans HBV.out.size HAL.out.size) (fun b e => by cases e; exact Nat.le_of_eq HZB.out))
          go_roundw
          case rel => exact ⟨k + 1, _, by have := HK.out; omega, by go_num, by exact HST.out.1, HFX.out _ rfl, HB7.out⟩
          case measure => have := HK.out; simp [intOf]; omega
        · obtain rfl : k = l.length := by omega
          have HZS := Lib.hid (show zs = sortedL I l from HF.out.all.trans HSB.out)
          clear hlt hk
          go_wp2
          go_ret
          exact ⟨_, rfl, by rw [← HZS.out]; exact HON.out, HBZ.out⟩
set_option maxRecDepth 1000000 in
set_option maxHeartbeats 4000000 in
theorem lsorted_any {w0 w : World} {v u : Value} {I : Ins} {l : List Nod} (hi : SRow w v I.l) (h : NRowB w0 w u l) (hb0 : Below w0.heap.size w0 w) (hok : NodesOk l) (hlen : l.length ≤ 1000000) :
    Calls Tryz.prog 22 #[insV I v, u] w fun e w' => ∃ z, e = .returned z ∧ OwnN w0 w.heap.size w' z (sortedL I l) ∧ Below w.heap.size w w' := by
  have HR := Lib.hid hi
  have H := Lib.hid h
  have HW0 := Lib.hid hb0
  have HOK := Lib.hid hok
  obtain ⟨ad, cap, rfl, _⟩ := hi.form
  obtain ⟨la, lc, rfl, hm, _⟩ := h.form
  have HY := Lib.hid (ybox_new w I (.slice ad I.l.length cap))
  have HB := Lib.hid ((Below.refl w.heap.size w).alloc (Nat.le_refl _) (boxI I (.slice ad I.l.length cap)))
  clear hi h hb0 hok hm
  unfold insV
  go_enter Tryz.func22, Tryz.ntmps22
  go_wp2_with fail
  change Calls _ _ #[.slice la l.length lc, .func (.func 45) #[] #[.pointer (some ⟨w.heap.size, 0, none⟩)]] (w.alloc (boxI I (.slice ad I.l.length cap))) _
  generalize w.alloc (boxI I (.slice ad I.l.length cap)) = W at *
  refine (lsortedby_any (w0 := w0) (I := I) (l := l) (HR.out.below HB.out) HY.out (H.out.below HB.out) (HW0.out.trans (HB.out.mono HW0.out.size)) HOK.out hlen).mono ?_
  rintro e w2 ⟨z, rfl, hz, hb⟩
  obtain ⟨za, zc, rfl⟩ := hz.shape
  have HZ := Lib.hid (hz.less HB.out.size)
  have HB2 := Lib.hid (HB.out.trans (hb.mono HB.out.size))
  clear hz hb
  go_wp2_with fail
  refine (lowned_any HZ.out HW0.out.size HB2.out.size (HW0.out.trans (HB2.out.mono HW0.out.size)) (fun n hn => HOK.out.paths n ((sortG_perm _ _).mem_iff.1 hn)) (by rw [sorted_len]; exact hlen)).mono ?_
  rintro e w3 ⟨rfl, hz, hb⟩
  have HZ3 := Lib.hid hz
  have HB3 := Lib.hid (HB2.out.trans hb)
  clear hz hb
  go_wp2
  go_ret
  exact ⟨_, rfl, HZ3.out, HB3.out⟩
end Go.Proofs.YtgplajofemencaaGreat
