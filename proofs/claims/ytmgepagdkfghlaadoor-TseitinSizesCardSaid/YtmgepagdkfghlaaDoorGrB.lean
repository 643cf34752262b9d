/- What a circuit comes to as a graph, as plain data: Check's answer ('checkC'), the graph ('buildB'), its outputs; built anew it is the same. Plain facts on ints and lists; no conditions beyond those typed. -/
import Derived.Test.YtmgepagdkfghlaaDoorGrP
namespace Go.Proofs.YtmgepagdkfghlaaDoor

def okP (n k : Nat) (x : Int × Int) : Bool := decide (0 ≤ x.2) && decide (x.2 ≤ x.1) && decide (x.1 / 2 ≤ ((n + k : Nat) : Int))
def okO (m : Nat) (o : Int) : Bool := decide (0 ≤ o) && decide (o / 2 ≤ (m : Int))
def okA (n : Nat) (ps : List (Int × Int)) : Bool := (List.range ps.length).all fun k => okP n k (ps.getD k (0, 0))
def rightC (n : Nat) (ps : List (Int × Int)) (os : List Int) : Bool := okA n ps && os.all (okO (n + ps.length))
/-- The error's number that Check tells. -/
def checkC (n : Int) (ps : List (Int × Int)) (os : List Int) : Int :=
  if n < 0 ∨ 8000 < n + (ps.length : Int) then 102 else if rightC n.toNat ps os = true then 0 else 104
theorem okP_iff (n k : Nat) (x : Int × Int) : okP n k x = true ↔ 0 ≤ x.2 ∧ x.2 ≤ x.1 ∧ x.1 / 2 ≤ ((n + k : Nat) : Int) := by
  unfold okP; simp [and_assoc]
theorem okO_iff (m : Nat) (o : Int) : okO m o = true ↔ 0 ≤ o ∧ o / 2 ≤ (m : Int) := by unfold okO; simp
theorem okA_iff (n : Nat) (ps : List (Int × Int)) : okA n ps = true ↔ ∀ k, k < ps.length → okP n k (ps.getD k (0, 0)) = true := by
  unfold okA; simp

def renL (bs : List Int) (l : Int) : Int := if l % 2 = 0 then bs.getD (l / 2).toNat 0 else notI (bs.getD (l / 2).toNat 0)
def stepB (s : Gr × List Int) (x : Int × Int) : Gr × List Int := ((andG s.1 (renL s.2 x.1) (renL s.2 x.2)).1, s.2 ++ [(andG s.1 (renL s.2 x.1) (renL s.2 x.2)).2])
def litsB (m : Nat) : List Int := (List.range (m + 1)).map fun (j : Nat) => 2 * (j : Int)
def startB (n : Nat) : Gr × List Int := (⟨n, [], 0⟩, litsB n)
def buildB (n : Nat) (ps : List (Int × Int)) : Gr × List Int := ps.foldl stepB (startB n)
def outsB (n : Nat) (ps : List (Int × Int)) (os : List Int) : List Int := os.map (renL (buildB n ps).2)
theorem litsB_len (m : Nat) : (litsB m).length = m + 1 := by simp [litsB]
theorem litsB_get (m j : Nat) (h : j ≤ m) : (litsB m).getD j 0 = 2 * (j : Int) := by
  unfold litsB; simp [List.getD, show j < m + 1 by omega]
theorem litsB_snoc (m : Nat) : litsB m ++ [2 * ((m : Int) + 1)] = litsB (m + 1) := by
  unfold litsB
  rw [List.range_succ (n := m + 1), List.map_append]
  simp

structure InvB (n k : Nat) (s : Gr × List Int) : Prop where
  gn : s.1.n = n
  bad : s.1.bad = 0
  len : s.1.len ≤ n + k
  by_ : s.2.length = n + 1 + k
  lit : ∀ j, s.1.isB (s.2.getD j 0) = true
theorem renL_isB {g : Gr} {bs : List Int} (h : ∀ j, g.isB (bs.getD j 0) = true) (l : Int) : g.isB (renL bs l) = true := by
  unfold renL
  split
  · exact h _
  · exact isB_not (h _)
theorem InvB.start (n : Nat) : InvB n 0 (startB n) := by
  refine ⟨rfl, rfl, by simp [startB, Gr.len], by simp [startB, litsB_len], fun j => ?_⟩
  rw [isB_iff]
  by_cases h : j ≤ n
  · rw [show (startB n).2 = litsB n from rfl, litsB_get n j h]
    simp only [startB, Gr.len, List.length_nil]
    omega
  · have e : (startB n).2.getD j 0 = 0 := by
      rw [show (startB n).2 = litsB n from rfl]
      simp [List.getD, litsB_len, show n + 1 ≤ j by omega]
    rw [e]; omega
theorem InvB.step {n k : Nat} {s : Gr × List Int} (h : InvB n k s) (x : Int × Int) (hn : n + k < 8000) : InvB n (k + 1) (stepB s x) := by
  have ha := renL_isB h.lit x.1
  have hb := renL_isB h.lit x.2
  have hg := andG_grow s.1 (renL s.2 x.1) (renL s.2 x.2)
  have hl := h.len
  have hby := h.by_
  refine ⟨(andG_n _ _ _).trans h.gn, ?_, ?_, ?_, fun j => ?_⟩
  · show (andG s.1 _ _).1.bad = 0
    rw [andG_bad _ _ _ ha hb (by omega)]; exact h.bad
  · show (andG s.1 _ _).1.len ≤ _
    omega
  · show (s.2 ++ [_]).length = _
    rw [List.length_append, List.length_singleton]; omega
  · show (andG s.1 _ _).1.isB ((s.2 ++ [_]).getD j 0) = true
    by_cases hj : j < s.2.length
    · rw [show (s.2 ++ [(andG s.1 (renL s.2 x.1) (renL s.2 x.2)).2]).getD j 0 = s.2.getD j 0 by simp [List.getD, List.getElem?_append_left hj]]
      exact isB_more hg.2.1 (h.lit j)
    · by_cases hj2 : j = s.2.length
      · rw [show (s.2 ++ [(andG s.1 (renL s.2 x.1) (renL s.2 x.2)).2]).getD j 0 = (andG s.1 (renL s.2 x.1) (renL s.2 x.2)).2 by simp [List.getD, hj2]]
        exact andG_lit _ _ _
      · rw [show (s.2 ++ [(andG s.1 (renL s.2 x.1) (renL s.2 x.2)).2]).getD j 0 = 0 by simp [List.getD, show s.2.length + 1 ≤ j by omega]]
        exact isB_zero _
theorem buildB_take (n : Nat) (ps : List (Int × Int)) (k : Nat) (h : k < ps.length) : buildB n (ps.take (k + 1)) = stepB (buildB n (ps.take k)) (ps.getD k (0, 0)) := by
  unfold buildB
  rw [show ps.take (k + 1) = ps.take k ++ [ps.getD k (0, 0)] by rw [List.take_succ_eq_append_getElem h]; simp [List.getD, h], List.foldl_append]
  rfl
theorem InvB.at (n : Nat) (ps : List (Int × Int)) (hn : n + ps.length ≤ 8000) : ∀ k, k ≤ ps.length → InvB n k (buildB n (ps.take k))
  | 0, _ => by rw [List.take_zero]; exact InvB.start n
  | k + 1, h => by
    rw [buildB_take n ps k (by omega)]
    exact (InvB.at n ps hn k (by omega)).step _ (by omega)
theorem InvB.all (n : Nat) (ps : List (Int × Int)) (hn : n + ps.length ≤ 8000) : InvB n ps.length (buildB n ps) := by
  have := InvB.at n ps hn ps.length (Nat.le_refl _)
  rwa [List.take_length] at this

/-! ### Built anew it is the same -/
theorem renL_lits (m : Nat) (l : Int) (h0 : 0 ≤ l) (h1 : l / 2 ≤ (m : Int)) : renL (litsB m) l = l := by
  have hj : (l / 2).toNat ≤ m := by omega
  unfold renL
  rw [litsB_get m _ hj]
  have e : (((l / 2).toNat : Nat) : Int) = l / 2 := by omega
  rw [e]
  by_cases h : l % 2 = 0
  · rw [if_pos h]; omega
  · rw [if_neg h]
    unfold notI
    rw [if_pos (by omega)]; omega
/-- Each gate of g is a new one where it stands. -/
def Nrm (g : Gr) : Prop := ∀ k, k < g.ands.length → andG ⟨g.n, g.ands.take k, 0⟩ (g.ands.getD k (0, 0)).1 (g.ands.getD k (0, 0)).2 = (⟨g.n, g.ands.take (k + 1), 0⟩, 2 * (((g.n + k : Nat) : Int) + 1)) ∧ okP g.n k (g.ands.getD k (0, 0)) = true
theorem Nrm.step {g : Gr} (h : Nrm g) (hb : g.bad = 0) (a b : Int) (ha : g.isB a = true) (hbb : g.isB b = true) (hl : g.len < 8000) : Nrm (andG g a b).1 := by
  rw [andG_yes g a b ha hbb]
  have hm := max_isB g a b ha hbb
  have hxy : min a b ≤ max a b := by omega
  generalize max a b = x at *
  generalize min a b = y at *
  by_cases h1 : y = 0 ∨ x = notI y
  · unfold andN; rw [if_pos h1]; exact h
  · by_cases h2 : y = 1 ∨ x = y
    · unfold andN; rw [if_neg h1, if_pos h2]; exact h
    · by_cases h3 : (x, y) ∈ g.ands
      · unfold andN; rw [if_neg h1, if_neg h2, if_pos h3]; exact h
      · have e : andN g x y = (⟨g.n, g.ands ++ [(x, y)], g.bad⟩, 2 * ((g.len : Int) + 1)) := by unfold andN; rw [if_neg h1, if_neg h2, if_neg h3, if_neg (by omega)]
        rw [e]
        intro k hk
        simp only [List.length_append, List.length_singleton] at hk
        by_cases hkl : k < g.ands.length
        · have e1 : (g.ands ++ [(x, y)]).take k = g.ands.take k := by rw [List.take_append_of_le_length (by omega)]
          have e2 : (g.ands ++ [(x, y)]).take (k + 1) = g.ands.take (k + 1) := by rw [List.take_append_of_le_length (by omega)]
          have e3 : (g.ands ++ [(x, y)]).getD k (0, 0) = g.ands.getD k (0, 0) := by simp [List.getD, List.getElem?_append_left hkl]
          simp only [e1, e2, e3]
          exact h k hkl
        · have hke : k = g.ands.length := by omega
          subst hke
          have e1 : (g.ands ++ [(x, y)]).take g.ands.length = g.ands := by simp
          have e2 : (g.ands ++ [(x, y)]).take (g.ands.length + 1) = g.ands ++ [(x, y)] := by rw [List.take_of_length_le (by simp)]
          have e3 : (g.ands ++ [(x, y)]).getD g.ands.length (0, 0) = (x, y) := by simp [List.getD]
          simp only [e1, e2, e3]
          have hgg : (⟨g.n, g.ands, 0⟩ : Gr) = g := by rw [← hb]
          rw [hgg, andG_yes g x y hm.1 hm.2, Int.max_eq_left hxy, Int.min_eq_right hxy, e, hb]
          refine ⟨rfl, ?_⟩
          rw [okP_iff]
          exact ⟨((isB_iff _ _).1 hm.2).1, hxy, ((isB_iff _ _).1 hm.1).2⟩
theorem Nrm.build (n : Nat) (ps : List (Int × Int)) (hn : n + ps.length ≤ 8000) : Nrm (buildB n ps).1 := by
  have key : ∀ k, k ≤ ps.length → Nrm (buildB n (ps.take k)).1 := by
    intro k
    induction k with
    | zero =>
      intro _
      rw [List.take_zero]
      intro k hk
      simp [buildB, startB] at hk
    | succ k ih =>
      intro hk
      rw [buildB_take n ps k (by omega)]
      have hI := InvB.at n ps hn k (by omega)
      exact (ih (by omega)).step hI.bad _ _ (renL_isB hI.lit _) (renL_isB hI.lit _) (by have := hI.len; omega)
  have := key ps.length (Nat.le_refl _)
  rwa [List.take_length] at this
theorem build_nrm {g : Gr} (h : Nrm g) : ∀ k, k ≤ g.ands.length → buildB g.n (g.ands.take k) = (⟨g.n, g.ands.take k, 0⟩, litsB (g.n + k))
  | 0, _ => rfl
  | k + 1, hk => by
    rw [buildB_take _ _ k (by omega), build_nrm h k (by omega)]
    obtain ⟨e, ho⟩ := h k (by omega)
    have ho := (okP_iff _ _ _).1 ho
    unfold stepB
    simp only
    rw [renL_lits _ _ (by omega) ho.2.2, renL_lits _ _ ho.1 (by omega), e]
    simp only
    rw [litsB_snoc]
    rfl
/-- A circuit that a graph made comes to that graph again, its literals to themselves. -/
theorem build_again {g : Gr} (h : Nrm g) (hb : g.bad = 0) : buildB g.n g.ands = (g, litsB g.len) := by
  have := build_nrm h g.ands.length (Nat.le_refl _)
  rw [List.take_length] at this
  rw [this, ← hb]
  rfl
theorem outs_again {g : Gr} (h : Nrm g) (hb : g.bad = 0) (os : List Int) (ho : ∀ o ∈ os, g.isB o = true) : outsB g.n g.ands os = os := by
  unfold outsB
  rw [build_again h hb]
  have : ∀ o ∈ os, renL (litsB g.len) o = id o := fun o hm => by
    have := (isB_iff _ _).1 (ho o hm)
    exact renL_lits _ _ this.1 this.2
  rw [List.map_congr_left this, List.map_id]
theorem outs_isB (n : Nat) (ps : List (Int × Int)) (os : List Int) (hn : n + ps.length ≤ 8000) : ∀ o ∈ outsB n ps os, (buildB n ps).1.isB o = true := by
  intro o ho
  unfold outsB at ho
  obtain ⟨l, _, rfl⟩ := List.mem_map.1 ho
  exact renL_isB (InvB.all n ps hn).lit l
/-- It is right. -/
theorem nrm_right {g : Gr} (h : Nrm g) (os : List Int) (ho : ∀ o ∈ os, g.isB o = true) (hl : g.len ≤ 8000) : checkC (g.n : Int) g.ands os = 0 := by
  unfold checkC
  have hl' : g.n + g.ands.length ≤ 8000 := hl
  rw [if_neg (by omega), if_pos]
  unfold rightC
  rw [Bool.and_eq_true]
  refine ⟨(okA_iff _ _).2 fun k hk => (h k hk).2, ?_⟩
  rw [List.all_eq_true]
  intro o hm
  have := (isB_iff _ _).1 (ho o hm)
  rw [okO_iff]
  exact this
end Go.Proofs.YtmgepagdkfghlaaDoor
