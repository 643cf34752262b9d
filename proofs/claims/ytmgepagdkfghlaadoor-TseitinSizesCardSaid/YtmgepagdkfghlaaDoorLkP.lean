/- What a circuit's literals hang on ('hangs'), cones and supports as lists, how deep nodes are, a cone copied into a graph, as plain data. Plain facts on ints and lists; no conditions beyond those typed. -/
import Derived.Test.YtmgepagdkfghlaaDoorGwP
namespace Go.Proofs.YtmgepagdkfghlaaDoor

/-! ### What a literal hangs on -/
def markR (v : List Bool) (x : Int × Int) : List Bool := (v.set (x.1 / 2).toNat true).set (x.2 / 2).toNat true
def stepR (N : Nat) (ps : List (Int × Int)) (v : List Bool) (k : Nat) : List Bool := if v.getD (N + 1 + k) false = true then markR v (ps.getD k (0, 0)) else v
/-- Gates k - 1 down to 0 looked at. -/
def reachN (N : Nat) (ps : List (Int × Int)) : Nat → List Bool → List Bool
  | 0, v => v
  | k + 1, v => reachN N ps k (stepR N ps v k)
def seedR (len L : Nat) : List Bool := (List.replicate len false).set L true
def hangsL (N : Nat) (ps : List (Int × Int)) (L : Nat) : List Bool := reachN N ps (L - N) (seedR (L + 1) L)
/-- Does node L hang on node n? -/
def hangs (N : Nat) (ps : List (Int × Int)) (L n : Nat) : Bool := (hangsL N ps L).getD n false

theorem getD_setR (v : List Bool) (m i : Nat) : (v.set m true).getD i false = if m = i ∧ i < v.length then true else v.getD i false := by
  simp only [List.getD, List.getElem?_set]
  by_cases h : m = i
  · subst h
    by_cases h2 : m < v.length
    · simp [h2]
    · simp [h2]
  · simp [h]
theorem getD_setT {v : List Bool} {m i : Nat} (h : v.getD i false = true) : (v.set m true).getD i false = true := by
  rw [getD_setR]; split
  · rfl
  · exact h
theorem getD_mark (v : List Bool) (x : Int × Int) (i : Nat) (h : (markR v x).getD i false = true) : v.getD i false = true ∨ i = (x.1 / 2).toNat ∨ i = (x.2 / 2).toNat := by
  unfold markR at h
  rw [getD_setR] at h
  split at h
  · next e => exact .inr (.inr e.1.symm)
  · rw [getD_setR] at h
    split at h
    · next e => exact .inr (.inl e.1.symm)
    · exact .inl h
theorem mark_len (v : List Bool) (x : Int × Int) : (markR v x).length = v.length := by simp [markR]
theorem stepR_len (N : Nat) (ps : List (Int × Int)) (v : List Bool) (k : Nat) : (stepR N ps v k).length = v.length := by
  unfold stepR; split
  · exact mark_len _ _
  · rfl
theorem reachN_len (N : Nat) (ps : List (Int × Int)) : ∀ (k : Nat) (v : List Bool), (reachN N ps k v).length = v.length
  | 0, _ => rfl
  | k + 1, v => by rw [reachN, reachN_len N ps k, stepR_len]
theorem stepR_keep {N : Nat} {ps : List (Int × Int)} {v : List Bool} {k i : Nat} (h : v.getD i false = true) : (stepR N ps v k).getD i false = true := by
  unfold stepR; split
  · exact getD_setT (getD_setT h)
  · exact h
theorem reachN_keep {N : Nat} {ps : List (Int × Int)} : ∀ (k : Nat) {v : List Bool} {i : Nat}, v.getD i false = true → (reachN N ps k v).getD i false = true
  | 0, _, _, h => h
  | k + 1, _, _, h => reachN_keep k (stepR_keep h)
theorem okx {N : Nat} {ps : List (Int × Int)} {k : Nat} (hk : okP N k (ps.getD k (0, 0)) = true) : ((ps.getD k (0, 0)).1 / 2).toNat ≤ N + k ∧ ((ps.getD k (0, 0)).2 / 2).toNat ≤ N + k := by
  have := (okP_iff _ _ _).1 hk
  omega
theorem set_app (v t : List Bool) (i : Nat) (h : i < v.length) : (v ++ t).set i true = v.set i true ++ t := by rw [List.set_append_left _ _ h]
theorem stepR_app {N : Nat} {ps : List (Int × Int)} {v t : List Bool} {k : Nat} (hk : okP N k (ps.getD k (0, 0)) = true) (hl : N + 1 + k < v.length) : stepR N ps (v ++ t) k = stepR N ps v k ++ t := by
  have := okx hk
  unfold stepR
  rw [show (v ++ t).getD (N + 1 + k) false = v.getD (N + 1 + k) false by simp [List.getD, List.getElem?_append_left hl]]
  split
  · unfold markR
    rw [set_app v t _ (by omega), set_app _ t _ (by rw [List.length_set]; omega)]
  · rfl
theorem reachN_app {N : Nat} {ps : List (Int × Int)} (hok : ∀ k, k < ps.length → okP N k (ps.getD k (0, 0)) = true) (t : List Bool) : ∀ (k : Nat) (v : List Bool), k ≤ ps.length → (k = 0 ∨ N + k < v.length) → reachN N ps k (v ++ t) = reachN N ps k v ++ t
  | 0, _, _, _ => rfl
  | k + 1, v, h, hl => by
    rw [reachN, reachN, stepR_app (hok k (by omega)) (by omega), reachN_app hok t k _ (by omega) (by rw [stepR_len]; omega)]
theorem reachN_skip {N : Nat} {ps : List (Int × Int)} (k : Nat) : ∀ (d : Nat) (v : List Bool), (∀ j, k ≤ j → j < k + d → v.getD (N + 1 + j) false = false) → reachN N ps (k + d) v = reachN N ps k v
  | 0, _, _ => rfl
  | d + 1, v, h => by
    rw [show k + (d + 1) = (k + d) + 1 by omega, reachN]
    have : stepR N ps v (k + d) = v := by unfold stepR; rw [h (k + d) (by omega) (by omega)]; simp
    rw [this]
    exact reachN_skip k d v fun j h1 h2 => h j h1 (by omega)
theorem seed_get (len L i : Nat) (h : L < len) : (seedR len L).getD i false = decide (i = L) := by
  unfold seedR
  rw [getD_setR]
  by_cases e : L = i
  · subst e; simp [h]
  · rw [if_neg (by simp [e])]
    have : (List.replicate len false).getD i false = false := by
      simp only [List.getD, List.getElem?_replicate]
      split <;> rfl
    rw [this, decide_eq_false (fun h => e h.symm)]
theorem seed_len (len L : Nat) : (seedR len L).length = len := by simp [seedR]
theorem seed_app (L d : Nat) : seedR (L + 1 + d) L = seedR (L + 1) L ++ List.replicate d false := by
  unfold seedR
  rw [← set_app _ _ _ (by simp), List.replicate_append_replicate]
theorem hangsL_len (N : Nat) (ps : List (Int × Int)) (L : Nat) : (hangsL N ps L).length = L + 1 := by unfold hangsL; rw [reachN_len, seed_len]
/-- All gates looked at, it is the same. -/
theorem reach_all {N : Nat} {ps : List (Int × Int)} (hok : ∀ k, k < ps.length → okP N k (ps.getD k (0, 0)) = true) (L : Nat) (hL : L ≤ N + ps.length) : reachN N ps ps.length (seedR (N + ps.length + 1) L) = hangsL N ps L ++ List.replicate (N + ps.length - L) false := by
  have e : seedR (N + ps.length + 1) L = seedR (L + 1) L ++ List.replicate (N + ps.length - L) false := by
    rw [← seed_app, show N + ps.length + 1 = L + 1 + (N + ps.length - L) by omega]
  have hs := reachN_skip (N := N) (ps := ps) (L - N) (ps.length - (L - N)) (seedR (N + ps.length + 1) L) (fun j h1 h2 => by
    rw [seed_get _ _ _ (by omega)]
    exact decide_eq_false (by omega))
  rw [show L - N + (ps.length - (L - N)) = ps.length by omega] at hs
  rw [hs, e, reachN_app hok _ _ _ (by omega) (by rw [seed_len]; omega)]
  rfl
theorem app_false (v : List Bool) (d n : Nat) : (v ++ List.replicate d false).getD n false = v.getD n false := by
  by_cases h : n < v.length
  · simp [List.getD, List.getElem?_append_left h]
  · have e1 : v.getD n false = false := by simp [List.getD, show v.length ≤ n by omega]
    rw [e1]
    simp only [List.getD, List.getElem?_append_right (show v.length ≤ n by omega), List.getElem?_replicate]
    split <;> rfl
theorem reachN_at {N : Nat} {ps : List (Int × Int)} (hok : ∀ k, k < ps.length → okP N k (ps.getD k (0, 0)) = true) : ∀ (k : Nat) (v : List Bool) (p : Nat), k ≤ ps.length → N + k ≤ p → (reachN N ps k v).getD p false = v.getD p false
  | 0, _, _, _, _ => rfl
  | k + 1, v, p, h, hp => by
    rw [reachN, reachN_at hok k _ p (by omega) (by omega)]
    have := okx (hok k (by omega))
    unfold stepR
    split
    · unfold markR
      rw [getD_setR, if_neg (by omega), getD_setR, if_neg (by omega)]
    · rfl
theorem stepR_marks {N : Nat} {ps : List (Int × Int)} {v : List Bool} {k : Nat} (hk : okP N k (ps.getD k (0, 0)) = true) (hl : N + 1 + k < v.length) (h : v.getD (N + 1 + k) false = true) : (stepR N ps v k).getD ((ps.getD k (0, 0)).1 / 2).toNat false = true ∧ (stepR N ps v k).getD ((ps.getD k (0, 0)).2 / 2).toNat false = true := by
  have := okx hk
  unfold stepR
  rw [if_pos h]
  unfold markR
  constructor
  · exact getD_setT (by rw [getD_setR, if_pos ⟨rfl, by omega⟩])
  · rw [getD_setR, if_pos ⟨rfl, by rw [List.length_set]; omega⟩]
theorem reachN_closed {N : Nat} {ps : List (Int × Int)} (hok : ∀ k, k < ps.length → okP N k (ps.getD k (0, 0)) = true) : ∀ (k : Nat) (v : List Bool), k ≤ ps.length → (k = 0 ∨ N + k < v.length) → ∀ j, j < k → (reachN N ps k v).getD (N + 1 + j) false = true →
    (reachN N ps k v).getD ((ps.getD j (0, 0)).1 / 2).toNat false = true ∧ (reachN N ps k v).getD ((ps.getD j (0, 0)).2 / 2).toNat false = true
  | 0, _, _, _, j, hj, _ => absurd hj (Nat.not_lt_zero _)
  | k + 1, v, h, hl, j, hj, hg => by
    rw [reachN] at hg ⊢
    by_cases e : j < k
    · exact reachN_closed hok k _ (by omega) (by rw [stepR_len]; omega) j e hg
    · have e2 : j = k := by omega
      subst e2
      have hm := stepR_len N ps v j
      rw [reachN_at hok j _ _ (by omega) (by omega)] at hg
      have hv : v.getD (N + 1 + j) false = true := by
        have := okx (hok j (by omega))
        unfold stepR at hg
        split at hg
        · next e => exact e
        · exact hg
      have := stepR_marks (hok j (by omega)) (by omega) hv
      exact ⟨reachN_keep j this.1, reachN_keep j this.2⟩
theorem reachN_least {N : Nat} {ps : List (Int × Int)} (Q : Nat → Prop) : ∀ (k : Nat) (v : List Bool), (∀ j, j < k → Q (N + 1 + j) → Q ((ps.getD j (0, 0)).1 / 2).toNat ∧ Q ((ps.getD j (0, 0)).2 / 2).toNat) → (∀ i, v.getD i false = true → Q i) → ∀ i, (reachN N ps k v).getD i false = true → Q i
  | 0, _, _, hv, i, h => hv i h
  | k + 1, v, hc, hv, i, h => by
    rw [reachN] at h
    refine reachN_least Q k _ (fun j hj => hc j (by omega)) (fun i hi => ?_) i h
    unfold stepR at hi
    split at hi
    · next e =>
      have hq := hc k (Nat.lt_succ_self _) (hv _ e)
      rcases getD_mark _ _ _ hi with h | h | h
      · exact hv i h
      · exact h ▸ hq.1
      · exact h ▸ hq.2
    · exact hv i hi

theorem hangs_self (N : Nat) (ps : List (Int × Int)) (L : Nat) : hangs N ps L L = true := by
  unfold hangs hangsL
  exact reachN_keep _ (by rw [seed_get _ _ _ (by omega)]; simp)
theorem hangs_le {N : Nat} {ps : List (Int × Int)} {L n : Nat} (h : hangs N ps L n = true) : n ≤ L := by
  rcases Nat.lt_or_ge n (L + 1) with h' | h'
  · omega
  · unfold hangs at h
    have := hangsL_len N ps L
    simp [List.getD, show (hangsL N ps L).length ≤ n by omega] at h
theorem hangs_closed {N : Nat} {ps : List (Int × Int)} (hok : ∀ k, k < ps.length → okP N k (ps.getD k (0, 0)) = true) {L : Nat} (hL : L ≤ N + ps.length) (k : Nat) (h : hangs N ps L (N + 1 + k) = true) : hangs N ps L ((ps.getD k (0, 0)).1 / 2).toNat = true ∧ hangs N ps L ((ps.getD k (0, 0)).2 / 2).toNat = true := by
  have hle := hangs_le h
  unfold hangs hangsL at h ⊢
  exact reachN_closed hok (L - N) _ (by omega) (by rw [seed_len]; omega) k (by omega) h
theorem hangs_least {N : Nat} {ps : List (Int × Int)} {L : Nat} (Q : Nat → Prop) (hc : ∀ j, j < L - N → Q (N + 1 + j) → Q ((ps.getD j (0, 0)).1 / 2).toNat ∧ Q ((ps.getD j (0, 0)).2 / 2).toNat) (hQ : Q L) (n : Nat) (h : hangs N ps L n = true) : Q n := by
  unfold hangs hangsL at h
  refine reachN_least Q _ _ hc (fun i hi => ?_) n h
  rw [seed_get _ _ _ (by omega), decide_eq_true_eq] at hi
  exact hi ▸ hQ
end Go.Proofs.YtmgepagdkfghlaaDoor
