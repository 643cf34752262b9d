/- Graphs of and-gates as plain data: what And answers and leaves ('andG'), what a circuit comes to as a graph ('buildG'), and laws on both. Plain facts on ints and lists; no conditions beyond those typed. -/
import Derived.Laws.Entries
import Derived.Laws.Small
import Derived.IntWalk
namespace Go.Proofs.YtmgepagdkfghlaaDoor

structure Gr where
  n : Nat
  ands : List (Int × Int)
  bad : Int

def Gr.len (g : Gr) : Nat := g.n + g.ands.length
def Gr.isB (g : Gr) (l : Int) : Bool := decide (0 ≤ l) && decide (l / 2 ≤ (g.len : Int))
def Gr.fail (g : Gr) (c : Int) : Gr := ⟨g.n, g.ands, if g.bad = 0 then c else g.bad⟩
def notI (l : Int) : Int := if l % 2 = 0 then l + 1 else l - 1
def Gr.litOf (g : Gr) (x : Int × Int) : Int := 2 * ((g.n : Int) + (g.ands.idxOf x : Int) + 1)
/-- What And comes to for two literals of the graph, the greater first. -/
def andN (g : Gr) (x y : Int) : Gr × Int :=
  if y = 0 ∨ x = notI y then (g, 0)
  else if y = 1 ∨ x = y then (g, x)
  else if (x, y) ∈ g.ands then (g, g.litOf (x, y))
  else if 8000 ≤ g.len then (g.fail 102, 0)
  else (⟨g.n, g.ands ++ [(x, y)], g.bad⟩, 2 * ((g.len : Int) + 1))
def andG (g : Gr) (a b : Int) : Gr × Int :=
  if (g.isB a && g.isB b) = true then andN g (max a b) (min a b) else (g.fail 104, 0)
/-- What Input comes to. -/
def inG (g : Gr) (i : Int) : Gr × Int := if 0 ≤ i ∧ i < (g.n : Int) then (g, 2 * (i + 1)) else (g.fail 104, 0)
def newG (n : Int) : Gr := ⟨(min (max n 0) 8000).toNat, [], 0⟩

theorem notI_of (l : Int) (h : 0 ≤ l) : 0 ≤ notI l ∧ notI l ≤ l + 1 ∧ notI l / 2 = l / 2 ∧ notI (notI l) = l ∧ notI l ≠ l := by
  unfold notI
  by_cases h2 : l % 2 = 0
  · rw [if_pos h2]
    refine ⟨by omega, by omega, by omega, ?_, by omega⟩
    rw [if_neg (by omega)]; omega
  · rw [if_neg h2]
    refine ⟨by omega, by omega, by omega, ?_, by omega⟩
    rw [if_pos (by omega)]; omega
theorem isB_iff (g : Gr) (l : Int) : g.isB l = true ↔ 0 ≤ l ∧ l / 2 ≤ (g.len : Int) := by
  unfold Gr.isB; simp
theorem fail_len (g : Gr) (c : Int) : (g.fail c).len = g.len := rfl
theorem andN_n (g : Gr) (x y : Int) : (andN g x y).1.n = g.n := by
  unfold andN
  repeat' split
  all_goals rfl
theorem andG_n (g : Gr) (a b : Int) : (andG g a b).1.n = g.n := by
  unfold andG
  split
  · exact andN_n _ _ _
  · rfl
theorem idx_lt {l : List (Int × Int)} {x : Int × Int} (h : x ∈ l) : l.idxOf x < l.length := List.idxOf_lt_length_of_mem h
/-- The graph stays small, and its gates are only added to. -/
theorem andN_grow (g : Gr) (x y : Int) : (andN g x y).1.len ≤ g.len + 1 ∧ g.len ≤ (andN g x y).1.len ∧ (g.len ≤ 8000 → (andN g x y).1.len ≤ 8000) ∧ ∃ t, (andN g x y).1.ands = g.ands ++ t ∧ t.length ≤ 1 := by
  unfold andN
  by_cases h1 : y = 0 ∨ x = notI y
  · rw [if_pos h1]; exact ⟨by simp, by simp, by simp, [], by simp⟩
  · rw [if_neg h1]
    by_cases h2 : y = 1 ∨ x = y
    · rw [if_pos h2]; exact ⟨by simp, by simp, by simp, [], by simp⟩
    · rw [if_neg h2]
      by_cases h3 : (x, y) ∈ g.ands
      · rw [if_pos h3]; exact ⟨by simp, by simp, by simp, [], by simp⟩
      · rw [if_neg h3]
        by_cases h4 : 8000 ≤ g.len
        · rw [if_pos h4]; exact ⟨by simp [fail_len], by simp [fail_len], by simp [fail_len], [], by simp [Gr.fail]⟩
        · rw [if_neg h4]
          have e : (⟨g.n, g.ands ++ [(x, y)], g.bad⟩ : Gr).len = g.len + 1 := by simp [Gr.len]; omega
          refine ⟨by simp [e], by simp [e], fun _ => by simp only [e]; omega, [(x, y)], by simp⟩
theorem andG_grow (g : Gr) (a b : Int) : (andG g a b).1.len ≤ g.len + 1 ∧ g.len ≤ (andG g a b).1.len ∧ (g.len ≤ 8000 → (andG g a b).1.len ≤ 8000) ∧ ∃ t, (andG g a b).1.ands = g.ands ++ t ∧ t.length ≤ 1 := by
  unfold andG
  by_cases h : (g.isB a && g.isB b) = true
  · rw [if_pos h]; exact andN_grow _ _ _
  · rw [if_neg h]; exact ⟨by simp [fail_len], by simp [fail_len], by simp [fail_len], [], by simp [Gr.fail]⟩
/-- The literal that And answers is one of the graph that it leaves. -/
theorem andN_lit (g : Gr) (x y : Int) (hx : g.isB x = true) : (andN g x y).1.isB (andN g x y).2 = true := by
  rw [isB_iff] at hx ⊢
  unfold andN
  by_cases h1 : y = 0 ∨ x = notI y
  · rw [if_pos h1]; exact ⟨by simp, by simp⟩
  · rw [if_neg h1]
    by_cases h2 : y = 1 ∨ x = y
    · rw [if_pos h2]; exact hx
    · rw [if_neg h2]
      by_cases h3 : (x, y) ∈ g.ands
      · rw [if_pos h3]
        have := idx_lt h3
        simp only [Gr.litOf, Gr.len]
        omega
      · rw [if_neg h3]
        by_cases h4 : 8000 ≤ g.len
        · rw [if_pos h4]; exact ⟨by simp, by simp⟩
        · rw [if_neg h4]
          have e : (⟨g.n, g.ands ++ [(x, y)], g.bad⟩ : Gr).len = g.len + 1 := by simp [Gr.len]; omega
          simp only [e]; omega
theorem max_isB (g : Gr) (a b : Int) (ha : g.isB a = true) (hb : g.isB b = true) : g.isB (max a b) = true ∧ g.isB (min a b) = true := by
  rcases Int.le_total a b with h | h
  · rw [Int.max_eq_right h, Int.min_eq_left h]; exact ⟨hb, ha⟩
  · rw [Int.max_eq_left h, Int.min_eq_right h]; exact ⟨ha, hb⟩
theorem andG_lit (g : Gr) (a b : Int) : (andG g a b).1.isB (andG g a b).2 = true := by
  unfold andG
  by_cases h : (g.isB a && g.isB b) = true
  · rw [if_pos h]
    rw [Bool.and_eq_true] at h
    exact andN_lit _ _ _ (max_isB g a b h.1 h.2).1
  · rw [if_neg h]; rw [isB_iff]; simp
/-- Literals stay literals. -/
theorem isB_more {g g' : Gr} (h : g.len ≤ g'.len) {l : Int} (hl : g.isB l = true) : g'.isB l = true := by
  rw [isB_iff] at hl ⊢; omega
theorem andG_bad (g : Gr) (a b : Int) (ha : g.isB a = true) (hb : g.isB b = true) (hl : g.len < 8000) : (andG g a b).1.bad = g.bad := by
  unfold andG
  rw [if_pos (by rw [ha, hb]; rfl)]
  unfold andN
  split
  · rfl
  · split
    · rfl
    · split
      · rfl
      · rw [if_neg (by omega)]
theorem andG_comm (g : Gr) (a b : Int) : andG g b a = andG g a b := by
  unfold andG
  rw [Bool.and_comm, Int.max_comm, Int.min_comm]
/-- Asked again, in whatever order, it is the one that was there. -/
theorem andN_again (g : Gr) (x y : Int) (hl : g.len < 8000) : andN (andN g x y).1 x y = ((andN g x y).1, (andN g x y).2) := by
  by_cases h1 : y = 0 ∨ x = notI y
  · unfold andN; simp only [if_pos h1]
  · by_cases h2 : y = 1 ∨ x = y
    · unfold andN; simp only [if_neg h1, if_pos h2]
    · by_cases h3 : (x, y) ∈ g.ands
      · unfold andN; simp only [if_neg h1, if_neg h2, if_pos h3]
      · have e : andN g x y = (⟨g.n, g.ands ++ [(x, y)], g.bad⟩, 2 * ((g.len : Int) + 1)) := by
          unfold andN; rw [if_neg h1, if_neg h2, if_neg h3, if_neg (by omega)]
        rw [e]
        unfold andN
        rw [if_neg h1, if_neg h2, if_pos (by simp)]
        have hi : (g.ands ++ [(x, y)]).idxOf (x, y) = g.ands.length := by
          rw [List.idxOf_append, if_neg h3]; simp
        simp only [Gr.litOf, hi, Gr.len]
        rfl
theorem andG_again (g : Gr) (a b : Int) (hl : g.len < 8000) (ha : g.isB a = true) (hb : g.isB b = true) : andG (andG g a b).1 b a = ((andG g a b).1, (andG g a b).2) := by
  have hm := (andG_grow g a b).2.1
  rw [andG_comm]
  have e : andG g a b = andN g (max a b) (min a b) := by unfold andG; rw [if_pos (by rw [ha, hb]; rfl)]
  have e2 : andG (andG g a b).1 a b = andN (andG g a b).1 (max a b) (min a b) := by
    have h1 := isB_more hm ha
    have h2 := isB_more hm hb
    generalize (andG g a b).1 = g' at *
    unfold andG; rw [if_pos (by rw [h1, h2]; rfl)]
  rw [e2, e]
  exact andN_again g _ _ hl
theorem andG_yes (g : Gr) (a b : Int) (ha : g.isB a = true) (hb : g.isB b = true) : andG g a b = andN g (max a b) (min a b) := by unfold andG; rw [if_pos (by rw [ha, hb]; rfl)]
theorem isB_zero (g : Gr) : g.isB 0 = true := by rw [isB_iff]; omega
theorem isB_one (g : Gr) : g.isB 1 = true := by rw [isB_iff]; omega
theorem isB_not {g : Gr} {l : Int} (h : g.isB l = true) : g.isB (notI l) = true := by
  rw [isB_iff] at h ⊢
  have := notI_of l h.1
  omega
theorem and_zero (g : Gr) (a : Int) (ha : g.isB a = true) : andG g a 0 = (g, 0) := by
  rw [andG_yes g a 0 ha (isB_zero g)]
  have h := (isB_iff g a).1 ha
  rw [Int.min_eq_right h.1]
  unfold andN
  rw [if_pos (.inl rfl)]
theorem and_one (g : Gr) (a : Int) (ha : g.isB a = true) : andG g a 1 = (g, a) := by
  rw [andG_yes g a 1 ha (isB_one g)]
  have h := (isB_iff g a).1 ha
  by_cases h0 : a = 0
  · subst h0
    unfold andN
    rw [if_pos (.inl rfl)]
  · rw [Int.min_eq_right (by omega), Int.max_eq_left (by omega)]
    unfold andN
    rw [if_neg (by simp [notI]; omega), if_pos (.inl rfl)]
theorem and_self (g : Gr) (a : Int) (ha : g.isB a = true) : andG g a a = (g, a) := by
  rw [andG_yes g a a ha ha, Int.min_self, Int.max_self]
  unfold andN
  by_cases h0 : a = 0
  · rw [if_pos (.inl h0), h0]
  · have h := (isB_iff g a).1 ha
    have := (notI_of a h.1).2.2.2.2
    rw [if_neg (by omega), if_pos (.inr rfl)]
theorem and_not (g : Gr) (a : Int) (ha : g.isB a = true) : andG g a (notI a) = (g, 0) := by
  rw [andG_yes g a _ ha (isB_not ha)]
  have h := (isB_iff g a).1 ha
  have h1 := notI_of a h.1
  unfold andN
  rw [if_pos]
  rcases Int.le_total a (notI a) with k | k
  · rw [Int.max_eq_right k, Int.min_eq_left k]; exact .inr rfl
  · rw [Int.max_eq_left k, Int.min_eq_right k]; exact .inr h1.2.2.2.1.symm

/-! ### The walk's own words -/
theorem xor_one (l : Nat) (h : l < 4611686018427387904) : bits .xor .i64 (l : Int) 1 = notI l := by
  have hx : l ^^^ 1 < 2 ^ 63 := Nat.xor_lt_two_pow (by omega) (by omega)
  have e : bits .xor .i64 (l : Int) 1 = IntKind.i64.wrap (((BitVec.ofInt 64 (l : Int)) ^^^ (BitVec.ofInt 64 1)).toNat : Int) := rfl
  rw [e, BitVec.toNat_xor, BitVec.ofInt_natCast, BitVec.toNat_ofNat, Nat.mod_eq_of_lt (by omega), show (BitVec.ofInt 64 1).toNat = 1 from rfl, IntWalk.i64_in _ (by omega)]
  unfold notI
  have hd := Nat.div_add_mod l 2
  have h1 : (l ^^^ 1) / 2 = l / 2 := by rw [Nat.xor_div_two_pow (n := 1)]; simp
  have h2 : (l ^^^ 1) % 2 = (l + 1) % 2 := by rw [Nat.xor_mod_two_pow (n := 1)]; rcases Nat.mod_two_eq_zero_or_one l with h | h <;> simp [h, Nat.add_mod]
  split <;> omega
theorem xor_oneI (l : Int) (h0 : 0 ≤ l) (h : l < 4611686018427387904) : bits .xor .i64 l 1 = notI l := by
  obtain ⟨n, rfl⟩ := Int.eq_ofNat_of_zero_le h0
  exact xor_one n (by omega)
theorem and_oneI (l : Int) (h0 : 0 ≤ l) (h : l < 4611686018427387904) : bits .and .i64 l 1 = l % 2 := by
  obtain ⟨n, rfl⟩ := Int.eq_ofNat_of_zero_le h0
  have hx : n &&& 1 < 2 ^ 63 := Nat.and_lt_two_pow _ (by omega)
  have e : bits .and .i64 (n : Int) 1 = IntKind.i64.wrap (((BitVec.ofInt 64 (n : Int)) &&& (BitVec.ofInt 64 1)).toNat : Int) := rfl
  rw [e, BitVec.toNat_and, BitVec.ofInt_natCast, BitVec.toNat_ofNat, Nat.mod_eq_of_lt (by omega), show (BitVec.ofInt 64 1).toNat = 1 from rfl, IntWalk.i64_in _ (by omega), Nat.and_one_is_mod]
  omega
/-- A literal turned where the bit is one. -/
theorem xor_bit (x : Int) (l : Int) (h0 : 0 ≤ x) (h : x < 4611686018427387904) (hl : l % 2 = 0 ∨ l % 2 = 1) : bits .xor .i64 x (l % 2) = if l % 2 = 0 then x else notI x := by
  rcases hl with e | e
  · rw [e, if_pos rfl]
    obtain ⟨n, rfl⟩ := Int.eq_ofNat_of_zero_le h0
    have e : bits .xor .i64 (n : Int) 0 = IntKind.i64.wrap (((BitVec.ofInt 64 (n : Int)) ^^^ (BitVec.ofInt 64 0)).toNat : Int) := rfl
    rw [e, BitVec.toNat_xor, BitVec.ofInt_natCast, BitVec.toNat_ofNat, Nat.mod_eq_of_lt (by omega), show (BitVec.ofInt 64 0).toNat = 0 from rfl, IntWalk.i64_in _ (by simp; omega)]
    simp
  · rw [e, if_neg (by omega)]
    exact xor_oneI x h0 h
end Go.Proofs.YtmgepagdkfghlaaDoor
