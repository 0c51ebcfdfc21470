/- One order for a region of many operations that draws its order and only reads, asked of its data: which slot each fills, which it looks at, which it waits for. (The kit's own test is asked of the kernel, and takes more memory than there is where a region has a hundred operations.) -/
import Derived.Test.YtpgbbnmflnhlbaaRows
import Derived.BigQuiet
import Derived.KernelRfl
namespace Go.Proofs.Ytpgbbnmflnhlbaa

/-- Which slot an operation fills, which it looks at, which operations it waits for. -/
def lexOne (ops : Array Oper) (o : Oper) : Option Nat × List Nat × List Nat := (o.dst, o.looksAt ops, (o.after.toList.filter (Region.binds .any)).map (·.on))
def apartD (x y : Option Nat × List Nat × List Nat) : Bool :=
  (match x.1 with
   | some d => !y.2.1.contains d && y.1 != some d
   | none => true) &&
  (match y.1 with
   | some d => !x.2.1.contains d
   | none => true)
/-- Each waits for elder ones alone; each younger one waits for it, or is apart from it. -/
def pairsD : Nat → List (Option Nat × List Nat × List Nat) → Bool
  | _, [] => true
  | k, x :: r => x.2.2.all (fun i => Nat.blt i k) && r.all (fun y => y.2.2.contains k || apartD x y) && pairsD (k + 1) r
theorem lex_inv {n k : Nat} {listed : Array Bool} (h : ∀ i, i < n → listed[i]? = some (decide (i < k))) : ∀ (i : Nat) (d : Bool), i < n → listed.getD i d = decide (i < k) := by
  intro i d hi
  have := h i hi
  rw [Array.getD_eq_getD_getElem?, this]; rfl
theorem lex_from (l : List Oper) : ∀ (rest pre : List Oper) (k : Nat) (listed : Array Bool), l = pre ++ rest → pre.length = k → pairsD k (rest.map (lexOne l.toArray)) = true →
    listed.size = l.length → (∀ i, i < l.length → listed[i]? = some (decide (i < k))) → Region.lexFrom .any l.toArray rest.length k listed = true
  | [], pre, k, listed, hl, hk, _, hs, hi => by
    have hn : l.length = k := by rw [hl, List.append_nil]; exact hk
    show (Region.ready .any l.toArray listed).isEmpty = true
    rw [List.isEmpty_iff, List.eq_nil_iff_forall_not_mem]
    intro j hj
    obtain ⟨h1, o, h2, _⟩ := mem_ready.1 hj
    have hlt : j < l.length := by
      have := (Array.getElem?_eq_some_iff.1 h2).1
      simpa using this
    rw [lex_inv hi j true hlt] at h1
    simp only [decide_eq_false_iff_not] at h1
    omega
  | o :: rest, pre, k, listed, hl, hk, hp, hs, hi => by
    have hlen : l.length = k + (rest.length + 1) := by rw [hl, List.length_append, hk]; rfl
    have hok : l.toArray[k]? = some o := by
      rw [List.getElem?_toArray, hl, List.getElem?_append_right (by omega), hk, Nat.sub_self]; rfl
    simp only [List.map_cons, pairsD, Bool.and_eq_true] at hp
    obtain ⟨⟨hp1, hp2⟩, hp3⟩ := hp
    have ih := lex_from l rest (pre ++ [o]) (k + 1) (listed.setIfInBounds k true) (by rw [hl, List.append_assoc]; rfl) (by rw [List.length_append, hk]; rfl) hp3 (by rw [Array.size_setIfInBounds]; exact hs) (by
      intro i hil
      by_cases he : k = i
      · subst he
        rw [Array.getElem?_setIfInBounds_self_of_lt (by omega)]
        rw [decide_eq_true (by omega)]
      · rw [Array.getElem?_setIfInBounds_ne he, hi i hil]
        congr 1
        rw [decide_eq_decide]; omega)
    show ((Region.ready .any l.toArray listed).contains k && Region.free .any l.toArray listed k && Region.lexFrom .any l.toArray rest.length (k + 1) (listed.setIfInBounds k true)) = true
    rw [ih, Bool.and_true, Bool.and_eq_true]
    constructor
    · have hm : k ∈ Region.ready .any l.toArray listed := by
        refine mem_ready.2 ⟨by rw [lex_inv hi k true (by omega)]; exact decide_eq_false (by omega), o, hok, fun e he hb => ?_⟩
        have h1 := List.all_eq_true.1 hp1 e.on (by
          unfold lexOne
          exact List.mem_map.2 ⟨e, List.mem_filter.2 ⟨Array.mem_toList_iff.2 he, hb⟩, rfl⟩)
        have h2 : e.on < k := by simpa using h1
        rw [lex_inv hi e.on false (by omega)]
        exact decide_eq_true h2
      simpa using hm
    · simp only [Region.free, hok, List.all_eq_true, List.mem_range]
      intro j hj
      have hj2 : j < l.length := by simpa using hj
      rw [Bool.or_eq_true, Bool.or_eq_true, beq_iff_eq]
      by_cases h1 : j = k
      · exact .inl (.inl h1)
      by_cases h2 : j < k
      · refine .inl (.inr ?_)
        rw [lex_inv hi j true hj2]; exact decide_eq_true h2
      · right
        obtain ⟨oj, hoj⟩ : ∃ oj, rest[j - k - 1]? = some oj := ⟨_, List.getElem?_eq_getElem (by omega)⟩
        have hoj2 : l.toArray[j]? = some oj := by
          rw [List.getElem?_toArray, hl, List.getElem?_append_right (by omega), hk, show j - k = (j - k - 1) + 1 by omega, List.getElem?_cons_succ]
          exact hoj
        rw [hoj2]
        have h3 := List.all_eq_true.1 hp2 (lexOne l.toArray oj) (List.mem_map.2 ⟨oj, List.mem_of_getElem? hoj, rfl⟩)
        rw [Bool.or_eq_true] at h3
        show (oj.after.any (fun e => Region.binds .any e && e.on == k) || o.apart l.toArray oj) = true
        rw [Bool.or_eq_true]
        rcases h3 with h3 | h3
        · left
          unfold lexOne at h3
          have h4 : k ∈ (oj.after.toList.filter (Region.binds .any)).map (·.on) := by simpa using h3
          obtain ⟨e, he, hk2⟩ := List.mem_map.1 h4
          obtain ⟨he1, he2⟩ := List.mem_filter.1 he
          rw [Array.any_eq_true']
          refine ⟨e, Array.mem_toList_iff.1 he1, ?_⟩
          rw [he2, Bool.true_and, beq_iff_eq]; exact hk2
        · exact .inr h3
/-- The order of the text is one for all, if the data say so. -/
theorem lexB_of_data {l : List Oper} (h0 : Region.noSelect l.toArray = true) (D : List (Option Nat × List Nat × List Nat)) (h1 : l.map (lexOne l.toArray) = D) (h2 : pairsD 0 D = true) : Region.lexB .any l.toArray = true := by
  unfold Region.lexB
  rw [h0, Bool.true_and, List.size_toArray]
  exact lex_from l l [] 0 _ rfl rfl (by rw [h1]; exact h2) (by simp) (fun i hi => by simp [hi])
/-- The data of SchedKeeps's region of 105 operations. -/
def lexKeeps : List (Option Nat × List Nat × List Nat) :=
  [(some 143, [6], []), (some 144, [15], []), (some 145, [143, 144], [0, 1]), (some 146, [145], [2]), (some 147, [146], [3]), (some 148, [12], []),
  (some 149, [10], []), (some 150, [11], []), (some 151, [149, 150], [6, 7]), (some 152, [151], [8]), (some 153, [16], []), (some 154, [152, 153], [9,
  10]), (some 155, [154], [11]), (some 156, [148, 155], [5, 12]), (some 157, [147, 156], [4, 13]), (some 158, [157], [14]), (some 159, [6, 158], [15]),
  (some 160, [15, 158], [15]), (some 161, [159, 160, 158], [16, 17, 15]), (some 162, [161, 158], [18, 15]), (some 163, [162, 158], [19, 15]), (some 164,
  [6, 158], [15]), (some 165, [15, 158], [15]), (some 166, [164, 165, 158], [21, 22, 15]), (some 167, [166, 158], [23, 15]), (some 168, [167, 158], [24,
  15]), (some 169, [163, 168, 158], [20, 25, 15]), (some 170, [158, 169], [15, 26]), (some 171, [170], [27, 15]), (some 172, [6, 171], [28]), (some 173,
  [15, 171], [28]), (some 174, [172, 173, 171], [29, 30, 28]), (some 175, [174, 171], [31, 28]), (some 176, [175, 171], [32, 28]), (some 177, [18, 171],
  [28]), (some 178, [177, 171], [34, 28]), (some 179, [176, 178, 171], [33, 35, 28]), (some 180, [171, 179], [28, 36]), (some 181, [180], [37, 28]),
  (some 182, [6, 181], [38]), (some 183, [15, 181], [38]), (some 184, [182, 183, 181], [39, 40, 38]), (some 185, [184, 181], [41, 38]), (some 186, [185,
  181], [42, 38]), (some 187, [18, 181], [38]), (some 188, [187, 181], [44, 38]), (some 189, [186, 188, 181], [43, 45, 38]), (some 190, [181, 189], [38,
  46]), (some 191, [190], [47, 38]), (some 192, [6, 191], [48]), (some 193, [15, 191], [48]), (some 194, [192, 193, 191], [49, 50, 48]), (some 195,
  [194, 191], [51, 48]), (some 196, [195, 191], [52, 48]), (some 197, [6, 191], [48]), (some 198, [15, 191], [48]), (some 199, [197, 198, 191], [54, 55,
  48]), (some 200, [199, 191], [56, 48]), (some 201, [200, 191], [57, 48]), (some 202, [196, 201, 191], [53, 58, 48]), (some 203, [202, 191], [59, 48,
  48]), (some 204, [6, 203], [60]), (some 205, [15, 203], [60]), (some 206, [204, 205, 203], [61, 62, 60]), (some 207, [206, 203], [63, 60]), (some 208,
  [207, 203], [64, 60]), (some 209, [18, 203], [60]), (some 210, [209, 203], [66, 60]), (some 211, [208, 210, 203], [65, 67, 60]), (some 212, [203, 211,
  191], [60, 68, 48]), (some 213, [191, 212], [48, 69]), (some 214, [213], [70, 60]), (some 215, [6, 214], [71]), (some 216, [15, 214], [71]), (some
  217, [215, 216, 214], [72, 73, 71]), (some 218, [217, 214], [74, 71]), (some 219, [218, 214], [75, 71]), (some 220, [6, 214], [71]), (some 221, [15,
  214], [71]), (some 222, [220, 221, 214], [77, 78, 71]), (some 223, [222, 214], [79, 71]), (some 224, [223, 214], [80, 71]), (some 225, [18, 214],
  [71]), (some 226, [225, 214], [82, 71]), (some 227, [224, 226, 214], [81, 83, 71]), (some 228, [219, 227, 214], [76, 84, 71]), (some 229, [214, 228],
  [71, 85]), (some 230, [229], [86, 71]), (some 231, [9, 230], [87]), (some 232, [15, 230], [87]), (some 233, [231, 232, 230], [88, 89, 87]), (some 234,
  [233, 230], [90, 87]), (some 235, [13, 230], [87]), (some 236, [234, 235, 230], [91, 92, 87]), (some 237, [230, 236], [87, 93]), (some 238, [237],
  [94, 87]), (some 239, [13, 238], [95]), (some 240, [239, 238], [96, 95]), (some 241, [238, 240], [95, 97]), (some 242, [241], [98, 95]), (some 243,
  [13, 242], [99]), (some 244, [2, 242], [99]), (some 245, [244, 242], [101, 99]), (some 246, [243, 245, 242], [100, 102, 99]), (some 247, [242, 246],
  [99, 103])]
theorem lexKeeps_ok : pairsD 0 lexKeeps = true := by kernel_rfl
end Go.Proofs.Ytpgbbnmflnhlbaa
