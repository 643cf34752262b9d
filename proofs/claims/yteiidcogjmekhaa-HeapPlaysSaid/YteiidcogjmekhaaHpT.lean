/- The tree of chapter 14's program as a list of pairs (greatest score below a node, how many have it): when it is right, what 'tell' must bring about, and that the way down from its top finds those that going through one by one finds. Holds for all lists; no conditions beyond those typed. -/
import Derived.Test.YteiidcogjmekhaaHpP
namespace Go.Proofs.Yteiidcogjmekhaa
open Go.RowKit

abbrev Nd := Int × Int
def z2 : Nd := (0, 0)
def betterI (a b : Nd) : Nd := if b.1 < a.1 then a else if a.1 < b.1 then b else (a.1, a.2 + b.2)
def ofI (b : Nd) (s : Int) : Int := if b.1 = s then b.2 else 0
def leafI (ss : List Int) (ins : List Bool) (v : Nat) : Nd := if ins.getD v false = true then (ss.getD v 0, 1) else z2
def LeafsOk (W : Nat) (ss : List Int) (ins : List Bool) (T : List Nd) : Prop := ∀ v, v < W → T.getD (W + v) z2 = leafI ss ins v
def NodeAt (T : List Nd) (n : Nat) : Prop := T.getD n z2 = betterI (T.getD (2 * n) z2) (T.getD (2 * n + 1) z2)
/-- No count is greater than the leaves below allow. -/
def Bnd (T : List Nd) : Prop := ∀ n, 0 ≤ (T.getD n z2).2 ∧ (T.getD n z2).2 * (n : Int) ≤ (T.length : Int)
/-- The tree is right for these scores, and who is in. -/
structure TreeOk (D : Nat) (ss : List Int) (ins : List Bool) (T : List Nd) : Prop where
  len : T.length = 2 * 2 ^ D
  bnd : Bnd T
  leaf : LeafsOk (2 ^ D) ss ins T
  node : ∀ n, 1 ≤ n → n < 2 ^ D → NodeAt T n
theorem getD_z (T : List Nd) (m : Nat) (x : Nd) (i : Nat) : (T.set m x).getD i z2 = if m = i ∧ i < T.length then x else T.getD i z2 := getD_setI T m x i
theorem Bnd.put {T : List Nd} (h : Bnd T) (m : Nat) (x : Nd) (h0 : 0 ≤ x.2) (h1 : x.2 * (m : Int) ≤ (T.length : Int)) : Bnd (T.set m x) := fun n => by
  rw [getD_z, List.length_set]
  split
  · rename_i hc
    rw [← hc.1]
    exact ⟨h0, h1⟩
  · exact h n
theorem Bnd.leaf {T : List Nd} (h : Bnd T) (m v : Nat) (ss : List Int) (ins : List Bool) (hm : m ≤ T.length) : Bnd (T.set m (leafI ss ins v)) := by
  apply h.put
  · unfold leafI; split
    · show (0 : Int) ≤ 1; decide
    · show (0 : Int) ≤ 0; decide
  · unfold leafI; split
    · show (1 : Int) * (m : Int) ≤ _; omega
    · show (0 : Int) * (m : Int) ≤ _; omega
theorem Bnd.node {T : List Nd} (h : Bnd T) (k : Nat) : Bnd (T.set k (betterI (T.getD (2 * k) z2) (T.getD (2 * k + 1) z2))) := by
  have a := h (2 * k)
  have b := h (2 * k + 1)
  generalize T.getD (2 * k) z2 = x at *
  generalize T.getD (2 * k + 1) z2 = y at *
  obtain ⟨a1, a2⟩ := a
  obtain ⟨b1, b2⟩ := b
  have e1 : x.2 * ((2 * k : Nat) : Int) = 2 * (x.2 * (k : Int)) := by rw [Int.natCast_mul, ← Int.mul_assoc, Int.mul_comm x.2, Int.mul_assoc]; rfl
  have e2 : y.2 * ((2 * k + 1 : Nat) : Int) = 2 * (y.2 * (k : Int)) + y.2 := by rw [Int.natCast_add, Int.natCast_mul, Int.mul_add, ← Int.mul_assoc, Int.mul_comm y.2, Int.mul_assoc]; simp
  rw [e1] at a2
  rw [e2] at b2
  have ka : 0 ≤ x.2 * (k : Int) := Int.mul_nonneg a1 (Int.natCast_nonneg k)
  have kb : 0 ≤ y.2 * (k : Int) := Int.mul_nonneg b1 (Int.natCast_nonneg k)
  apply h.put
  · unfold betterI; split
    · exact a1
    · split
      · exact b1
      · simp only; omega
  · unfold betterI; split
    · omega
    · split
      · omega
      · simp only; rw [Int.add_mul]; omega
theorem Bnd.at {T : List Nd} (h : Bnd T) (n : Nat) (hn : 1 ≤ n) : 0 ≤ (T.getD n z2).2 ∧ (T.getD n z2).2 ≤ (T.length : Int) := by
  obtain ⟨a, b⟩ := h n
  refine ⟨a, ?_⟩
  have : (T.getD n z2).2 * 1 ≤ (T.getD n z2).2 * (n : Int) := Int.mul_le_mul_of_nonneg_left (by omega) a
  omega

/-! ### tell -/
/-- Leaves from 'first' to below k are told. -/
structure TellA (D : Nat) (ss : List Int) (ins : List Bool) (first last k : Nat) (T : List Nd) : Prop where
  len : T.length = 2 * 2 ^ D
  bnd : Bnd T
  leaf : ∀ v, v < 2 ^ D → (v < k ∨ last < v) → T.getD (2 ^ D + v) z2 = leafI ss ins v
  node : ∀ n, 1 ≤ n → n < 2 ^ D → (n < (2 ^ D + first) / 2 ∨ (2 ^ D + last) / 2 < n) → NodeAt T n
theorem TellA.start {D : Nat} {ss ss0 : List Int} {ins ins0 : List Bool} {first last : Nat} {T : List Nd} (h : TreeOk D ss0 ins0 T) (hl : ∀ v, v < first ∨ last < v → leafI ss ins v = leafI ss0 ins0 v) : TellA D ss ins first last first T where
  len := h.len
  bnd := h.bnd
  leaf := fun v hv ho => (h.leaf v hv).trans (hl v ho).symm
  node := fun n h1 h2 _ => h.node n h1 h2
theorem getD_rep (k i : Nat) : (List.replicate k z2).getD i z2 = z2 := by
  simp only [List.getD, List.getElem?_replicate]
  split <;> rfl
theorem TellA.zero {D : Nat} {ss : List Int} {ins : List Bool} {last : Nat} (h0 : ins.getD 0 false = false) (hl : ∀ v, last < v → ins.getD v false = false) : TellA D ss ins 1 last 1 (List.replicate (2 * 2 ^ D) z2) where
  len := by simp
  bnd := fun n => by rw [getD_rep]; exact ⟨Int.le_refl _, by show (0 : Int) * (n : Int) ≤ _; rw [Int.zero_mul]; exact Int.natCast_nonneg _⟩
  leaf := fun v hv ho => by
    rw [getD_rep]
    unfold leafI
    rw [if_neg]
    rcases ho with h | h
    · rw [show v = 0 by omega, h0]; simp
    · rw [hl v h]; simp
  node := fun n _ _ _ => by
    unfold NodeAt
    rw [getD_rep, getD_rep, getD_rep]; rfl
theorem TellA.step {D : Nat} {ss : List Int} {ins : List Bool} {first last k : Nat} {T : List Nd} (h : TellA D ss ins first last k T) (h1 : first ≤ k) (h2 : k ≤ last) (h3 : last < 2 ^ D) : TellA D ss ins first last (k + 1) (T.set (2 ^ D + k) (leafI ss ins k)) where
  len := by simpa using h.len
  bnd := h.bnd.leaf _ _ _ _ (by have := h.len; omega)
  leaf := fun v hv ho => by
    rw [getD_z]
    by_cases e : 2 ^ D + k = 2 ^ D + v
    · have : k = v := by omega
      subst this
      rw [if_pos ⟨rfl, by rw [h.len]; omega⟩]
    · rw [if_neg (fun hh => e hh.1)]
      exact h.leaf v hv (by omega)
  node := fun n k1 k2 ho => by
    have hn := h.node n k1 k2 ho
    unfold NodeAt at hn ⊢
    rw [getD_z, getD_z, getD_z, if_neg (by omega), if_neg (by omega), if_neg (by omega)]
    exact hn
/-- All leaves are told; nodes from lo to hi are not yet. -/
structure TellB (D : Nat) (ss : List Int) (ins : List Bool) (lo hi : Nat) (T : List Nd) : Prop where
  len : T.length = 2 * 2 ^ D
  bnd : Bnd T
  leaf : LeafsOk (2 ^ D) ss ins T
  node : ∀ n, 1 ≤ n → n < 2 ^ D → (n < lo ∨ hi < n) → NodeAt T n
  lvl : (lo = 0 ∧ hi = 0) ∨ ∃ j, 2 ^ j ≤ lo ∧ hi < 2 ^ (j + 1) ∧ hi < 2 ^ D
theorem TellA.done {D : Nat} {ss : List Int} {ins : List Bool} {first last k : Nat} {T : List Nd} (h : TellA D ss ins first last k T) (hk : last < k) (h1 : 1 ≤ first) (h3 : last < 2 ^ D) : TellB D ss ins ((2 ^ D + first) / 2) ((2 ^ D + last) / 2) T where
  len := h.len
  bnd := h.bnd
  leaf := fun v hv => h.leaf v hv (by omega)
  node := h.node
  lvl := by
    right
    cases D with
    | zero => exact ⟨0, by simp at h3 ⊢; omega, by simp at h3 ⊢; omega, by simp at h3 ⊢; omega⟩
    | succ d =>
      refine ⟨d, ?_, ?_, ?_⟩
      all_goals (have := Nat.pow_succ 2 d; omega)
theorem TellB.root {D : Nat} {ss : List Int} {ins : List Bool} {hi : Nat} {T : List Nd} (h : TellB D ss ins 0 hi T) : TreeOk D ss ins T where
  len := h.len
  bnd := h.bnd
  leaf := h.leaf
  node := fun n h1 h2 => by
    rcases h.lvl with ⟨_, e⟩ | ⟨j, hj, _⟩
    · exact h.node n h1 h2 (by omega)
    · have := Nat.pow_pos (n := j) (show 0 < 2 by decide); omega
/-- Nodes from k to hi, and those above lo to hi, are not told yet. -/
structure TellC (D : Nat) (ss : List Int) (ins : List Bool) (lo hi k : Nat) (T : List Nd) : Prop where
  len : T.length = 2 * 2 ^ D
  bnd : Bnd T
  leaf : LeafsOk (2 ^ D) ss ins T
  node : ∀ n, 1 ≤ n → n < 2 ^ D → (n < k ∨ hi < n) → (n < lo / 2 ∨ hi / 2 < n) → NodeAt T n
  lvl : ∃ j, 2 ^ j ≤ lo ∧ hi < 2 ^ (j + 1) ∧ hi < 2 ^ D
theorem TellB.row {D : Nat} {ss : List Int} {ins : List Bool} {lo hi : Nat} {T : List Nd} (h : TellB D ss ins lo hi T) (h0 : 0 < lo) : TellC D ss ins lo hi lo T where
  len := h.len
  bnd := h.bnd
  leaf := h.leaf
  node := fun n h1 h2 h3 _ => h.node n h1 h2 h3
  lvl := h.lvl.resolve_left (by omega)
theorem TellC.hi_lt {D : Nat} {ss : List Int} {ins : List Bool} {lo hi k : Nat} {T : List Nd} (h : TellC D ss ins lo hi k T) : hi < 2 ^ D := by
  obtain ⟨_, _, _, h3⟩ := h.lvl
  exact h3
theorem TellC.step {D : Nat} {ss : List Int} {ins : List Bool} {lo hi k : Nat} {T : List Nd} (h : TellC D ss ins lo hi k T) (_h0 : 0 < lo) (h1 : lo ≤ k) (h2 : k ≤ hi) : TellC D ss ins lo hi (k + 1) (T.set k (betterI (T.getD (2 * k) z2) (T.getD (2 * k + 1) z2))) where
  len := by simpa using h.len
  bnd := h.bnd.node k
  leaf := fun v hv => by
    have := h.hi_lt
    rw [getD_z, if_neg (by omega)]
    exact h.leaf v hv
  node := fun n k1 k2 k3 k4 => by
    have := h.hi_lt
    have hl := h.len
    unfold NodeAt
    rw [getD_z, getD_z, getD_z]
    by_cases e : k = n
    · subst e
      rw [if_pos ⟨rfl, by omega⟩, if_neg (by omega), if_neg (by omega)]
    · rw [if_neg (by omega), if_neg (by omega), if_neg (by omega)]
      exact h.node n k1 k2 (by omega) k4
  lvl := h.lvl
theorem TellC.up {D : Nat} {ss : List Int} {ins : List Bool} {lo hi k : Nat} {T : List Nd} (h : TellC D ss ins lo hi k T) (hk : hi < k) : TellB D ss ins (lo / 2) (hi / 2) T where
  len := h.len
  bnd := h.bnd
  leaf := h.leaf
  node := fun n h1 h2 h3 => h.node n h1 h2 (by omega) h3
  lvl := by
    obtain ⟨j, h1, h2, h3⟩ := h.lvl
    cases j with
    | zero =>
      simp at h1 h2
      by_cases e : lo = 1
      · left; omega
      · right; exact ⟨0, by simp; omega, by simp; omega, by omega⟩
    | succ j =>
      right
      refine ⟨j, ?_, ?_, ?_⟩
      all_goals (have := Nat.pow_succ 2 j; have := Nat.pow_succ 2 (j + 1); omega)

/-! ### The way down -/
/-- Whose leaves, below node n of height d, have this score. -/
def under (T : List Nd) (s : Int) : Nat → Nat → List Nat
  | 0, n => if ofI (T.getD n z2) s = 0 then [] else [n]
  | d + 1, n => under T s d (2 * n) ++ under T s d (2 * n + 1)
/-- What stands in a right tree at a node of height d. -/
structure NdOk (T : List Nd) (d n : Nat) : Prop where
  nn : 0 ≤ (T.getD n z2).1 ∧ 0 ≤ (T.getD n z2).2
  none : (T.getD n z2).2 = 0 → T.getD n z2 = z2
  max : ∀ i, i < 2 ^ d → (T.getD (n * 2 ^ d + i) z2).1 ≤ (T.getD n z2).1
  cnt : ∀ s, (T.getD n z2).1 ≤ s → ofI (T.getD n z2) s = ((under T s d n).length : Int)
theorem betterI_fst (a b : Nd) : (betterI a b).1 = max a.1 b.1 := by
  unfold betterI
  split
  · omega
  · split
    · omega
    · simp only; omega
theorem betterI_of {a b : Nd} {s : Int} (h1 : a.1 ≤ s) (h2 : b.1 ≤ s) : ofI (betterI a b) s = ofI a s + ofI b s := by
  unfold betterI ofI
  rcases Int.lt_trichotomy b.1 a.1 with h | h | h
  · rw [if_pos h, if_neg (show ¬ b.1 = s by omega)]; omega
  · rw [if_neg (show ¬ b.1 < a.1 by omega), if_neg (show ¬ a.1 < b.1 by omega)]
    simp only
    by_cases e : a.1 = s
    · rw [if_pos e, if_pos e, if_pos (by omega)]
    · rw [if_neg e, if_neg e, if_neg (by omega)]; rfl
  · rw [if_neg (show ¬ b.1 < a.1 by omega), if_pos h, if_neg (show ¬ a.1 = s by omega)]; omega
theorem leafI_cases (ss : List Int) (ins : List Bool) (v : Nat) (hs : 0 ≤ ss.getD v 0) : leafI ss ins v = z2 ∨ ∃ x, 0 ≤ x ∧ leafI ss ins v = (x, 1) := by
  unfold leafI
  split
  · exact .inr ⟨_, hs, rfl⟩
  · exact .inl rfl
theorem TreeOk.nd {D : Nat} {ss : List Int} {ins : List Bool} {T : List Nd} (h : TreeOk D ss ins T) (hs : ∀ v, 0 ≤ ss.getD v 0) : ∀ d n, d ≤ D → 2 ^ (D - d) ≤ n → n < 2 ^ (D - d + 1) → NdOk T d n
  | 0, n, _, h1, h2 => by
    obtain ⟨v, rfl⟩ : ∃ v, n = 2 ^ D + v := ⟨n - 2 ^ D, by simp at h1; omega⟩
    have hv : v < 2 ^ D := by have := Nat.pow_succ 2 D; simp at h2; omega
    have hl := h.leaf v hv
    have hc := leafI_cases ss ins v (hs v)
    rw [← hl] at hc
    refine ⟨?_, ?_, ?_, ?_⟩
    · rcases hc with e | ⟨x, hx, e⟩
      · rw [e]; exact ⟨Int.le_refl _, Int.le_refl _⟩
      · rw [e]; exact ⟨hx, by show (0 : Int) ≤ 1; decide⟩
    · rcases hc with e | ⟨x, hx, e⟩
      · exact fun _ => e
      · rw [e]; intro e'; cases e'
    · intro i hi
      have : i = 0 := by simp at hi; omega
      subst this
      simp
    · intro s _
      unfold under
      rcases hc with e | ⟨x, hx, e⟩
      · rw [e]
        have : ofI z2 s = 0 := by unfold ofI z2; split <;> rfl
        rw [this]; rfl
      · rw [e]
        by_cases ex : x = s
        · have : ofI (x, 1) s = 1 := by unfold ofI; rw [if_pos ex]
          rw [this]; rfl
        · have : ofI (x, 1) s = 0 := by unfold ofI; rw [if_neg ex]
          rw [this]; rfl
  | d + 1, n, hd, h1, h2 => by
    have hp : 2 ^ (D - d) = 2 * 2 ^ (D - (d + 1)) := by rw [show D - d = (D - (d + 1)) + 1 by omega, Nat.pow_succ]; omega
    have hp2 : 2 ^ (D - d + 1) = 2 * 2 ^ (D - (d + 1) + 1) := by rw [Nat.pow_succ, hp, Nat.pow_succ]; omega
    have h2' : n < 2 ^ (D - d) := by rw [hp]; rw [Nat.pow_succ] at h2; omega
    have hn1 : 1 ≤ n := Nat.le_trans (Nat.pow_pos (by decide)) h1
    have hnD : n < 2 ^ D := Nat.lt_of_lt_of_le h2' (Nat.pow_le_pow_right (by decide) (by omega))
    have a := h.nd hs d (2 * n) (by omega) (by omega) (by omega)
    have b := h.nd hs d (2 * n + 1) (by omega) (by omega) (by omega)
    have hN := h.node n hn1 hnD
    unfold NodeAt at hN
    have hf := betterI_fst (T.getD (2 * n) z2) (T.getD (2 * n + 1) z2)
    rw [← hN] at hf
    have hsnd : (T.getD n z2).2 = 0 → T.getD n z2 = z2 := by
      have a1 := a.nn; have b1 := b.nn; have a2 := a.none; have b2 := b.none
      rw [hN]
      generalize T.getD (2 * n) z2 = x at *
      generalize T.getD (2 * n + 1) z2 = y at *
      unfold betterI
      split
      · exact a2
      · split
        · exact b2
        · intro e
          simp only at e
          rw [a2 (by omega), b2 (by omega)]; rfl
    refine ⟨?_, hsnd, ?_, ?_⟩
    · have a1 := a.nn; have b1 := b.nn
      rw [hN]
      unfold betterI
      split
      · exact a1
      · split
        · exact b1
        · exact ⟨a1.1, by simp only; omega⟩
    · intro i hi
      rw [Nat.pow_succ] at hi ⊢
      by_cases hlt : i < 2 ^ d
      · have := a.max i hlt
        rw [show n * (2 ^ d * 2) + i = 2 * n * 2 ^ d + i by rw [Nat.mul_comm (2 ^ d) 2, ← Nat.mul_assoc, Nat.mul_comm n 2]]
        omega
      · have := b.max (i - 2 ^ d) (by omega)
        rw [show n * (2 ^ d * 2) + i = (2 * n + 1) * 2 ^ d + (i - 2 ^ d) by rw [Nat.mul_comm (2 ^ d) 2, ← Nat.mul_assoc, Nat.mul_comm n 2, Nat.add_mul]; omega]
        omega
    · intro s hs2
      rw [hN, betterI_of (by omega) (by omega), a.cnt s (by omega), b.cnt s (by omega)]
      simp [under]
theorem under_list (T : List Nd) (s : Int) : ∀ d n, under T s d n = ((List.range (2 ^ d)).filter (fun i => !decide (ofI (T.getD (n * 2 ^ d + i) z2) s = 0))).map (fun i => n * 2 ^ d + i)
  | 0, n => by
    unfold under
    have e : ∀ i, n * 2 ^ 0 + i = n + i := fun i => by simp
    simp only [e, Nat.pow_zero, show List.range 1 = [0] from rfl]
    by_cases h : ofI (T.getD n z2) s = 0
    · rw [if_pos h, List.filter_cons_of_neg (by simp only [Nat.add_zero]; simpa using h)]; rfl
    · rw [if_neg h, List.filter_cons_of_pos (by simp only [Nat.add_zero]; simpa using h)]; rfl
  | d + 1, n => by
    unfold under
    rw [under_list T s d (2 * n), under_list T s d (2 * n + 1)]
    have e1 : ∀ i, n * 2 ^ (d + 1) + i = 2 * n * 2 ^ d + i := fun i => by rw [Nat.pow_succ, Nat.mul_comm (2 ^ d) 2, ← Nat.mul_assoc, Nat.mul_comm n 2]
    have e2 : ∀ i, n * 2 ^ (d + 1) + (2 ^ d + i) = (2 * n + 1) * 2 ^ d + i := fun i => by rw [e1, Nat.add_mul]; omega
    rw [show 2 ^ (d + 1) = 2 ^ d + 2 ^ d by rw [Nat.pow_succ]; omega] at *
    rw [List.range_add, List.filter_append, List.map_append]
    congr 1
    · simp only [e1]
    · rw [List.filter_map, List.map_map]
      simp only [Function.comp_def, e2]
theorem filter_range_short {p : Nat → Bool} {n : Nat} : ∀ m, n ≤ m → (∀ i, n ≤ i → p i = false) → (List.range m).filter p = (List.range n).filter p
  | 0, h, _ => by rw [show n = 0 by omega]
  | m + 1, h, hp => by
    by_cases e : n = m + 1
    · rw [e]
    · rw [List.range_succ, List.filter_append, filter_range_short m (by omega) hp]
      simp [hp m (by omega)]
/-- From the top: the places of all that have the score, as going through one by one finds them. -/
theorem TreeOk.all {D : Nat} {ss : List Int} {ins : List Bool} {T : List Nd} (h : TreeOk D ss ins T) (hl : ins.length = ss.length) (hL : ss.length ≤ 2 ^ D) (s : Int) : (under T s D 1).map (fun n : Nat => (n : Int) - ((2 ^ D : Nat) : Int)) = candL ss ins s ss.length := by
  rw [under_list]
  unfold candL
  rw [List.map_map]
  have hp : ∀ i, i < 2 ^ D → (!decide (ofI (T.getD (1 * 2 ^ D + i) z2) s = 0)) = candP ss ins s i := fun i hi => by
    rw [Nat.one_mul, h.leaf i hi]
    unfold leafI candP ofI
    cases hi' : ins.getD i false
    · simp [z2]
    · simp
  rw [List.filter_congr (fun i hi => hp i (List.mem_range.1 hi)), filter_range_short (p := candP ss ins s) (2 ^ D) hL (fun i hi => by unfold candP; rw [show ins.getD i false = false by simp [List.getD, List.getElem?_eq_none (show ins.length ≤ i by omega)]]; rfl)]
  apply List.map_congr_left
  intro i _
  simp
  omega
theorem TreeOk.root {D : Nat} {ss : List Int} {ins : List Bool} {T : List Nd} (h : TreeOk D ss ins T) (hs : ∀ v, 0 ≤ ss.getD v 0) : NdOk T D 1 := h.nd hs D 1 (Nat.le_refl _) (by simp) (by simp)
/-- What stands at the top. -/
theorem TreeOk.top {D : Nat} {h : Hp} {T : List Nd} (ht : TreeOk D h.ss h.ins T) (hw : HpW h) (hL : h.ss.length ≤ 2 ^ D) : (T.getD 1 z2).2 = ((bestL h).length : Int) ∧ (bestL h ≠ [] → bestL h = (under T (T.getD 1 z2).1 D 1).map (fun n : Nat => (n : Int) - ((2 ^ D : Nat) : Int))) := by
  have hn := ht.root (fun v => (hw.bd v).1)
  have ha := ht.all hw.len hL (T.getD 1 z2).1
  have hc := hn.cnt _ (Int.le_refl _)
  rw [show ofI (T.getD 1 z2) (T.getD 1 z2).1 = (T.getD 1 z2).2 by unfold ofI; rw [if_pos rfl]] at hc
  have hmax : ∀ v, v < h.ss.length → h.ins.getD v false = true → h.ss.getD v 0 ≤ (T.getD 1 z2).1 := fun v hv hi => by
    have := hn.max v (by omega)
    rw [Nat.one_mul, ht.leaf v (by omega)] at this
    unfold leafI at this
    rwa [if_pos hi] at this
  by_cases he : candL h.ss h.ins (T.getD 1 z2).1 h.ss.length = []
  · rw [he] at ha
    have h0 : (under T (T.getD 1 z2).1 D 1).length = 0 := by simpa using congrArg List.length ha
    rw [h0] at hc
    have hz := hn.none (by simpa using hc)
    have hno : ∀ v, v < h.ss.length → h.ins.getD v false = false := fun v hv => by
      rcases Bool.eq_false_or_eq_true (h.ins.getD v false) with h' | h'
      · exfalso
        have h1 := hmax v hv h'
        have h2 := (hw.bd v).1
        rw [hz] at h1
        have h3 : h.ss.getD v 0 = 0 := by have h1' : h.ss.getD v 0 ≤ 0 := h1; omega
        have : (v : Int) ∈ candL h.ss h.ins (T.getD 1 z2).1 h.ss.length := mem_candL.2 ⟨v, rfl, hv, h', by rw [h3, hz]; rfl⟩
        rw [he] at this
        cases this
      · exact h'
    have hb : bestL h = [] := by unfold bestL; rw [best_none hno]
    exact ⟨by rw [hb, hc]; rfl, fun hne => absurd hb hne⟩
  · have hb : bestL h = candL h.ss h.ins (T.getD 1 z2).1 h.ss.length := by unfold bestL; rw [best_eq (fun v => (hw.bd v).1) hmax he]
    rw [hb, ← ha]
    exact ⟨by rw [List.length_map]; exact hc, fun _ => rfl⟩
/-- One step down. -/
theorem under_left {T : List Nd} {s : Int} {d n p : Nat} (h : p < (under T s d (2 * n)).length) : (under T s (d + 1) n)[p]? = (under T s d (2 * n))[p]? := by
  show (under T s d (2 * n) ++ under T s d (2 * n + 1))[p]? = _
  rw [List.getElem?_append_left h]
theorem under_right {T : List Nd} {s : Int} {d n p : Nat} (h : (under T s d (2 * n)).length ≤ p) : (under T s (d + 1) n)[p]? = (under T s d (2 * n + 1))[p - (under T s d (2 * n)).length]? := by
  show (under T s d (2 * n) ++ under T s d (2 * n + 1))[p]? = _
  rw [List.getElem?_append_right h]
/-- At node n, height d, place p is node m's. -/
structure Down (D : Nat) (T : List Nd) (s : Int) (m d n p : Nat) : Prop where
  dle : d ≤ D
  lo : 2 ^ (D - d) ≤ n
  hi : n < 2 ^ (D - d + 1)
  le : (T.getD n z2).1 ≤ s
  at' : (under T s d n)[p]? = some m
theorem Down.leafs {D : Nat} {T : List Nd} {s : Int} {m n p : Nat} (h : Down D T s m 0 n p) : n = m := by
  have := h.at'
  unfold under at this
  split at this
  · cases this
  · cases p with
    | zero => simpa using this
    | succ p => simp at this
theorem Down.inner {D : Nat} {T : List Nd} {s : Int} {m d n p : Nat} (h : Down D T s m (d + 1) n p) : n < 2 ^ D ∧ 1 ≤ n := by
  have h1 := h.hi
  have := h.dle
  have hp : 2 ^ (D - (d + 1) + 1) ≤ 2 ^ D := Nat.pow_le_pow_right (by decide) (by omega)
  exact ⟨by omega, Nat.le_trans (Nat.pow_pos (by decide)) h.lo⟩
theorem Down.outer {D : Nat} {T : List Nd} {s : Int} {m n p : Nat} (h : Down D T s m 0 n p) : 2 ^ D ≤ n ∧ n < 2 * 2 ^ D := by
  have h1 := h.lo
  have h2 := h.hi
  rw [Nat.pow_succ] at h2
  simp at h1 h2
  omega
theorem Down.child {D : Nat} {ss : List Int} {ins : List Bool} {T : List Nd} {s : Int} {m d n p : Nat} (ht : TreeOk D ss ins T) (h : Down D T s m (d + 1) n p) : (T.getD (2 * n) z2).1 ≤ s ∧ (T.getD (2 * n + 1) z2).1 ≤ s := by
  obtain ⟨h1, h2⟩ := h.inner
  have hN := ht.node n h2 h1
  unfold NodeAt at hN
  have hf := betterI_fst (T.getD (2 * n) z2) (T.getD (2 * n + 1) z2)
  rw [← hN] at hf
  have := h.le
  omega
theorem Down.left {D : Nat} {ss : List Int} {ins : List Bool} {T : List Nd} {s : Int} {m d n p : Nat} (ht : TreeOk D ss ins T) (hs : ∀ v, 0 ≤ ss.getD v 0) (h : Down D T s m (d + 1) n p) (hp : (p : Int) < ofI (T.getD (2 * n) z2) s) : Down D T s m d (2 * n) p := by
  have hd := h.dle
  have hlo := h.lo
  have hhi := h.hi
  have hp1 : 2 ^ (D - d) = 2 * 2 ^ (D - (d + 1)) := by rw [show D - d = (D - (d + 1)) + 1 by omega, Nat.pow_succ]; omega
  have hp2 : 2 ^ (D - d + 1) = 2 * 2 ^ (D - (d + 1) + 1) := by rw [Nat.pow_succ, hp1, Nat.pow_succ]; omega
  have hnd := ht.nd hs d (2 * n) (by omega) (by omega) (by omega)
  rw [hnd.cnt s (h.child ht).1] at hp
  exact ⟨by omega, by omega, by omega, (h.child ht).1, by rw [← under_left (by omega)]; exact h.at'⟩
theorem Down.right {D : Nat} {ss : List Int} {ins : List Bool} {T : List Nd} {s : Int} {m d n p : Nat} (ht : TreeOk D ss ins T) (hs : ∀ v, 0 ≤ ss.getD v 0) (h : Down D T s m (d + 1) n p) (hp : ofI (T.getD (2 * n) z2) s ≤ (p : Int)) : ∃ q : Nat, (q : Int) = (p : Int) - ofI (T.getD (2 * n) z2) s ∧ Down D T s m d (2 * n + 1) q := by
  have hd := h.dle
  have hlo := h.lo
  have hhi := h.hi
  have hp1 : 2 ^ (D - d) = 2 * 2 ^ (D - (d + 1)) := by rw [show D - d = (D - (d + 1)) + 1 by omega, Nat.pow_succ]; omega
  have hp2 : 2 ^ (D - d + 1) = 2 * 2 ^ (D - (d + 1) + 1) := by rw [Nat.pow_succ, hp1, Nat.pow_succ]; omega
  have hnd := ht.nd hs d (2 * n) (by omega) (by omega) (by omega)
  rw [hnd.cnt s (h.child ht).1] at hp ⊢
  refine ⟨p - (under T s d (2 * n)).length, by omega, by omega, by omega, by omega, (h.child ht).2, ?_⟩
  rw [← under_right (by omega)]; exact h.at'
theorem getD_mapN (U : List Nat) (k : Int) {p : Nat} (hp : p < U.length) : ((U[p] : Nat) : Int) - k = (U.map (fun n : Nat => (n : Int) - k)).getD p 0 := by
  rw [List.getD_eq_getElem?_getD, List.getElem?_map, List.getElem?_eq_getElem hp]; rfl
/-- The start: at the top, place p of the best is v. -/
theorem TreeOk.down {D : Nat} {h : Hp} {T : List Nd} (ht : TreeOk D h.ss h.ins T) (hw : HpW h) (hL : h.ss.length ≤ 2 ^ D) {p : Nat} (hp : p < (bestL h).length) : ∃ m : Nat, Down D T (T.getD 1 z2).1 m D 1 p ∧ (m : Int) - (2 ^ D : Nat) = (bestL h).getD p 0 := by
  have hne : bestL h ≠ [] := fun e => by rw [e] at hp; simp at hp
  have he := (ht.top hw hL).2 hne
  rw [he, List.length_map] at hp
  refine ⟨(under T (T.getD 1 z2).1 D 1)[p], ⟨Nat.le_refl _, by simp, by simp, Int.le_refl _, List.getElem?_eq_getElem hp⟩, ?_⟩
  rw [he]
  exact getD_mapN _ _ hp
end Go.Proofs.Yteiidcogjmekhaa
