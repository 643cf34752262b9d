/- Cones and supports as lists, how deep nodes are, what nodes are worth, a cone copied into a graph, as plain data. Plain facts on ints and lists; no conditions beyond those typed. -/
import Derived.Test.YtmgepagdkfghlaaDoorLkP
namespace Go.Proofs.YtmgepagdkfghlaaDoor

def coneF (N : Nat) (f : Nat → Bool) (k : Nat) : List Int := ((List.range k).filter fun n => f n && decide (N < n)).map fun (n : Nat) => (n : Int)
def suppF (N : Nat) (f : Nat → Bool) (k : Nat) : List Int := ((List.range k).filter fun n => f n && decide (1 ≤ n) && decide (n ≤ N)).map fun (n : Nat) => (n : Int) - 1
theorem coneF_succ (N : Nat) (f : Nat → Bool) (k : Nat) : coneF N f (k + 1) = if (f k && decide (N < k)) = true then coneF N f k ++ [(k : Int)] else coneF N f k := by
  unfold coneF
  rw [List.range_succ, List.filter_append, List.map_append]
  by_cases h : (f k && decide (N < k)) = true
  · rw [if_pos h, List.filter_cons, if_pos h]; rfl
  · rw [if_neg h, List.filter_cons, if_neg h]; simp
theorem suppF_succ (N : Nat) (f : Nat → Bool) (k : Nat) : suppF N f (k + 1) = if (f k && decide (1 ≤ k) && decide (k ≤ N)) = true then suppF N f k ++ [(k : Int) - 1] else suppF N f k := by
  unfold suppF
  rw [List.range_succ, List.filter_append, List.map_append]
  by_cases h : (f k && decide (1 ≤ k) && decide (k ≤ N)) = true
  · rw [if_pos h, List.filter_cons, if_pos h]; rfl
  · rw [if_neg h, List.filter_cons, if_neg h]; simp
theorem coneF_low (N : Nat) (f : Nat → Bool) : ∀ k, k ≤ N + 1 → coneF N f k = []
  | 0, _ => rfl
  | k + 1, h => by rw [coneF_succ, if_neg (by simp; omega), coneF_low N f k (by omega)]
theorem coneF_high (N : Nat) (f : Nat → Bool) (k : Nat) : ∀ d, (∀ n, k ≤ n → f n = false) → coneF N f (k + d) = coneF N f k
  | 0, _ => rfl
  | d + 1, h => by rw [← Nat.add_assoc, coneF_succ, if_neg (by rw [h (k + d) (by omega)]; simp), coneF_high N f k d h]
theorem suppF_low (N : Nat) (f : Nat → Bool) : suppF N f 1 = [] := by rw [suppF_succ, if_neg (by simp)]; rfl
theorem suppF_high (N : Nat) (f : Nat → Bool) (k : Nat) : ∀ d, (∀ n, k ≤ n → f n = false ∨ N < n) → suppF N f (k + d) = suppF N f k
  | 0, _ => rfl
  | d + 1, h => by
    rw [← Nat.add_assoc, suppF_succ, if_neg, suppF_high N f k d h]
    rcases h (k + d) (by omega) with e | e
    · rw [e]; simp
    · simp; omega
theorem mem_coneF {N : Nat} {f : Nat → Bool} {k : Nat} {x : Int} : x ∈ coneF N f k ↔ ∃ n : Nat, x = (n : Int) ∧ n < k ∧ f n = true ∧ N < n := by
  unfold coneF
  simp only [List.mem_map, List.mem_filter, List.mem_range, Bool.and_eq_true, decide_eq_true_eq]
  constructor
  · rintro ⟨n, ⟨h1, h2, h3⟩, rfl⟩; exact ⟨n, rfl, h1, h2, h3⟩
  · rintro ⟨n, rfl, h1, h2, h3⟩; exact ⟨n, ⟨h1, h2, h3⟩, rfl⟩
theorem mem_suppF {N : Nat} {f : Nat → Bool} {k : Nat} {x : Int} : x ∈ suppF N f k ↔ ∃ n : Nat, x = (n : Int) ∧ n + 1 < k ∧ f (n + 1) = true ∧ n + 1 ≤ N := by
  unfold suppF
  simp only [List.mem_map, List.mem_filter, List.mem_range, Bool.and_eq_true, decide_eq_true_eq]
  constructor
  · rintro ⟨n, ⟨h1, ⟨h2, h3⟩, h4⟩, rfl⟩
    obtain ⟨m, rfl⟩ : ∃ m, n = m + 1 := ⟨n - 1, by omega⟩
    exact ⟨m, by omega, h1, h2, h4⟩
  · rintro ⟨n, rfl, h1, h2, h3⟩; exact ⟨n + 1, ⟨h1, ⟨h2, by omega⟩, h3⟩, by omega⟩
theorem coneF_len (N : Nat) (f : Nat → Bool) (k : Nat) : (coneF N f k).length ≤ k := by
  unfold coneF
  rw [List.length_map]
  exact Nat.le_trans (List.length_filter_le _ _) (by simp)
theorem suppF_len (N : Nat) (f : Nat → Bool) (k : Nat) : (suppF N f k).length ≤ k := by
  unfold suppF
  rw [List.length_map]
  exact Nat.le_trans (List.length_filter_le _ _) (by simp)
/-- What node L hangs on: its gates, its inputs. -/
def coneL (N : Nat) (ps : List (Int × Int)) (L : Nat) : List Int := coneF N (hangs N ps L) (L + 1)
def suppL (N : Nat) (ps : List (Int × Int)) (L : Nat) : List Int := suppF N (hangs N ps L) (L + 1)
theorem hangs_no {N : Nat} {ps : List (Int × Int)} {L n : Nat} (h : L < n) : hangs N ps L n = false := by
  rw [Bool.eq_false_iff]; intro e; have := hangs_le e; omega
theorem coneL_all {N : Nat} {ps : List (Int × Int)} {L m : Nat} (h : L ≤ m) : coneF N (hangs N ps L) (m + 1) = coneL N ps L := by
  have := coneF_high N (hangs N ps L) (L + 1) (m - L) (fun n hn => hangs_no (by omega))
  rw [show L + 1 + (m - L) = m + 1 by omega] at this
  exact this
theorem suppL_all {N : Nat} {ps : List (Int × Int)} {L : Nat} : suppF N (hangs N ps L) (N + 1) = suppL N ps L := by
  unfold suppL
  by_cases h : L ≤ N
  · have := suppF_high N (hangs N ps L) (L + 1) (N - L) (fun n hn => .inl (hangs_no (by omega)))
    rw [show L + 1 + (N - L) = N + 1 by omega] at this
    exact this
  · have := suppF_high N (hangs N ps L) (N + 1) (L - N) (fun n hn => .inr (by omega))
    rw [show N + 1 + (L - N) = L + 1 by omega] at this
    exact this.symm

/-! ### How deep -/
def stepD (d : List Int) (x : Int × Int) : List Int := d ++ [1 + max (d.getD (x.1 / 2).toNat 0) (d.getD (x.2 / 2).toNat 0)]
def depthsV (N : Nat) (ps : List (Int × Int)) : List Int := ps.foldl stepD (List.replicate (N + 1) 0)
def depthO (d : List Int) (os : List Int) : Int := os.foldl (fun m o => max m (d.getD (o / 2).toNat 0)) 0
def depthV (N : Nat) (ps : List (Int × Int)) (os : List Int) : Int := depthO (depthsV N ps) os
theorem depthsV_snoc (N : Nat) (ps : List (Int × Int)) (x : Int × Int) : depthsV N (ps ++ [x]) = stepD (depthsV N ps) x := by unfold depthsV; rw [List.foldl_append]; rfl
theorem depthsV_take (N : Nat) (ps : List (Int × Int)) (k : Nat) (h : k < ps.length) : depthsV N (ps.take (k + 1)) = stepD (depthsV N (ps.take k)) (ps.getD k (0, 0)) := by
  rw [← depthsV_snoc, List.take_succ_eq_append_getElem h]; simp [List.getD, h]
theorem depthO_take (d os : List Int) (k : Nat) (h : k < os.length) : depthO d (os.take (k + 1)) = max (depthO d (os.take k)) (d.getD (os.getD k 0 / 2).toNat 0) := by
  unfold depthO
  rw [List.take_succ_eq_append_getElem h, List.foldl_append]; simp [List.getD, h]
structure DepI (N k : Nat) (d : List Int) : Prop where
  len : d.length = N + 1 + k
  lo : ∀ j, 0 ≤ d.getD j 0
  hi : ∀ j, d.getD j 0 ≤ (k : Int)
theorem getD_snocI (d : List Int) (y : Int) (j : Nat) : (d ++ [y]).getD j 0 = if j < d.length then d.getD j 0 else if j = d.length then y else 0 := by
  by_cases h : j < d.length
  · rw [if_pos h]; simp [List.getD, List.getElem?_append_left h]
  · rw [if_neg h]
    by_cases h2 : j = d.length
    · rw [if_pos h2]; simp [List.getD, h2]
    · rw [if_neg h2]; simp [List.getD, show d.length + 1 ≤ j by omega]
theorem DepI.start (N : Nat) : DepI N 0 (List.replicate (N + 1) 0) := by
  have h : ∀ j, (List.replicate (N + 1) (0 : Int)).getD j 0 = 0 := fun j => by
    simp only [List.getD, List.getElem?_replicate]; split <;> rfl
  exact ⟨by simp, fun j => by rw [h]; exact Int.le_refl _, fun j => by rw [h]; exact Int.le_refl _⟩
theorem DepI.step {N k : Nat} {d : List Int} (h : DepI N k d) (x : Int × Int) : DepI N (k + 1) (stepD d x) := by
  have h1 := h.lo (x.1 / 2).toNat
  have h2 := h.hi (x.1 / 2).toNat
  have h3 := h.lo (x.2 / 2).toNat
  have h4 := h.hi (x.2 / 2).toNat
  unfold stepD
  refine ⟨by rw [List.length_append, h.len]; rfl, fun j => ?_, fun j => ?_⟩
  · have := h.lo j
    rw [getD_snocI]
    repeat' split
    all_goals omega
  · have := h.hi j
    rw [getD_snocI]
    repeat' split
    all_goals omega
theorem DepI.at (N : Nat) (ps : List (Int × Int)) : ∀ k, k ≤ ps.length → DepI N k (depthsV N (ps.take k))
  | 0, _ => by rw [List.take_zero]; exact DepI.start N
  | k + 1, h => by rw [depthsV_take N ps k (by omega)]; exact (DepI.at N ps k (by omega)).step _
theorem DepI.all (N : Nat) (ps : List (Int × Int)) : DepI N ps.length (depthsV N ps) := by
  have := DepI.at N ps ps.length (Nat.le_refl _)
  rwa [List.take_length] at this
theorem depthO_bd (d : List Int) (M : Int) (h0 : 0 ≤ M) (hd : ∀ j, d.getD j 0 ≤ M) (os : List Int) : 0 ≤ depthO d os ∧ depthO d os ≤ M := by
  have key : ∀ (os : List Int) (a : Int), 0 ≤ a → a ≤ M → 0 ≤ os.foldl (fun m o => max m (d.getD (o / 2).toNat 0)) a ∧ os.foldl (fun m o => max m (d.getD (o / 2).toNat 0)) a ≤ M := by
    intro os
    induction os with
    | nil => intro a h1 h2; exact ⟨h1, h2⟩
    | cons o os ih =>
      intro a h1 h2
      have := hd (o / 2).toNat
      exact ih (max a (d.getD (o / 2).toNat 0)) (by omega) (by omega)
  exact key os 0 (Int.le_refl _) h0

/-! ### A cone copied into a graph -/
def stepC (N : Nat) (ps : List (Int × Int)) (s : Gr × List Int) (n : Int) : Gr × List Int :=
  ((andG s.1 (renL s.2 (ps.getD (n.toNat - N - 1) (0, 0)).1) (renL s.2 (ps.getD (n.toNat - N - 1) (0, 0)).2)).1, s.2.set n.toNat (andG s.1 (renL s.2 (ps.getD (n.toNat - N - 1) (0, 0)).1) (renL s.2 (ps.getD (n.toNat - N - 1) (0, 0)).2)).2)
/-- Each node's literal ahead: the inputs' ones. -/
def inL (N m : Nat) (by_ : List Int) : List Int := (0 :: (List.range N).map fun i => by_.getD i 0) ++ List.replicate m 0
def copyC (N : Nat) (ps : List (Int × Int)) (g : Gr) (by_ cone : List Int) : Gr × List Int := cone.foldl (stepC N ps) (g, inL N ps.length by_)
def copyV (N : Nat) (ps : List (Int × Int)) (g : Gr) (by_ : List Int) (l : Int) : Gr × Int :=
  ((copyC N ps g by_ (coneL N ps (l / 2).toNat)).1, renL (copyC N ps g by_ (coneL N ps (l / 2).toNat)).2 l)
theorem copyC_snoc (N : Nat) (ps : List (Int × Int)) (g : Gr) (by_ cone : List Int) (n : Int) : copyC N ps g by_ (cone ++ [n]) = stepC N ps (copyC N ps g by_ cone) n := by unfold copyC; rw [List.foldl_append]; rfl
theorem inL_len (N m : Nat) (by_ : List Int) : (inL N m by_).length = N + 1 + m := by simp [inL]; omega
theorem inL_get (N m : Nat) (by_ : List Int) (j : Nat) : (inL N m by_).getD j 0 = if 1 ≤ j ∧ j ≤ N then by_.getD (j - 1) 0 else 0 := by
  unfold inL
  by_cases h : j < N + 1
  · simp only [List.getD]
    rw [List.getElem?_append_left (by simp; omega)]
    cases j with
    | zero => simp
    | succ j => rw [if_pos ⟨by omega, by omega⟩]; simp [show j < N by omega]
  · rw [if_neg (by omega)]
    simp only [List.getD]
    rw [List.getElem?_append_right (by simp; omega), List.getElem?_replicate]
    split <;> rfl
theorem getD_setI (v : List Int) (m : Nat) (x : Int) (i : Nat) : (v.set m x).getD i 0 = if m = i ∧ i < v.length then x else v.getD i 0 := by
  simp only [List.getD, List.getElem?_set]
  by_cases h : m = i
  · subst h
    by_cases h2 : m < v.length
    · simp [h2]
    · simp [h2]
  · simp [h]
/-- What copying keeps: all literals are the graph's, of which there are not many more. -/
structure CopI (N : Nat) (ps : List (Int × Int)) (g0 : Gr) (k : Nat) (s : Gr × List Int) : Prop where
  ext : Ext g0 s.1
  bad : s.1.bad = g0.bad
  len : s.1.len ≤ g0.len + k
  by_ : s.2.length = N + 1 + ps.length
  lit : ∀ j, s.1.isB (s.2.getD j 0) = true
theorem andG_ext (g : Gr) (a b : Int) : Ext g (andG g a b).1 := ⟨andG_n g a b, by obtain ⟨_, _, _, t, h, _⟩ := andG_grow g a b; exact ⟨t, h⟩⟩
theorem CopI.start {N : Nat} {ps : List (Int × Int)} {g : Gr} {by_ : List Int} (h : ∀ l ∈ by_, g.isB l = true) : CopI N ps g 0 (g, inL N ps.length by_) := by
  refine ⟨Ext.refl g, rfl, Nat.le_refl _, inL_len _ _ _, fun j => ?_⟩
  show g.isB ((inL N ps.length by_).getD j 0) = true
  rw [inL_get]
  split
  · by_cases hj : j - 1 < by_.length
    · rw [show by_.getD (j - 1) 0 = by_[j - 1] by simp [List.getD, hj]]
      exact h _ (List.getElem_mem hj)
    · rw [show by_.getD (j - 1) 0 = 0 by simp [List.getD, show by_.length ≤ j - 1 by omega]]
      exact isB_zero g
  · exact isB_zero g
theorem CopI.step {N : Nat} {ps : List (Int × Int)} {g0 : Gr} {k : Nat} {s : Gr × List Int} (h : CopI N ps g0 k s) (n : Int) (hl : g0.len + k < 8000) : CopI N ps g0 (k + 1) (stepC N ps s n) := by
  have ha := renL_isB h.lit (ps.getD (n.toNat - N - 1) (0, 0)).1
  have hb := renL_isB h.lit (ps.getD (n.toNat - N - 1) (0, 0)).2
  unfold stepC
  generalize renL s.2 (ps.getD (n.toNat - N - 1) (0, 0)).1 = a at *
  generalize renL s.2 (ps.getD (n.toNat - N - 1) (0, 0)).2 = b at *
  have hg := andG_grow s.1 a b
  have hln := h.len
  refine ⟨h.ext.trans (andG_ext _ _ _), (andG_bad _ _ _ ha hb (by omega)).trans h.bad, by show (andG s.1 a b).1.len ≤ _; omega, by show (s.2.set _ _).length = _; rw [List.length_set]; exact h.by_, fun j => ?_⟩
  show (andG s.1 a b).1.isB ((s.2.set n.toNat (andG s.1 a b).2).getD j 0) = true
  rw [getD_setI]
  split
  · exact andG_lit _ _ _
  · exact isB_more hg.2.1 (h.lit j)
theorem CopI.at {N : Nat} {ps : List (Int × Int)} {g : Gr} {by_ : List Int} (h : ∀ l ∈ by_, g.isB l = true) (cone : List Int) (hl : g.len + cone.length ≤ 8000) : ∀ k, k ≤ cone.length → CopI N ps g k (copyC N ps g by_ (cone.take k))
  | 0, _ => by rw [List.take_zero]; exact CopI.start h
  | k + 1, hk => by
    rw [List.take_succ_eq_append_getElem (show k < cone.length by omega), copyC_snoc]
    exact (CopI.at h cone hl k (by omega)).step _ (by omega)
end Go.Proofs.YtmgepagdkfghlaaDoor
