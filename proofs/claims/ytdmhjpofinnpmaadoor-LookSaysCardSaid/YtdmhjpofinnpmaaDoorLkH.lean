/- A row of gates, its depth and its cone; a gate's depth and cone beside those of its two; agreement of two circuits on what a literal hangs on. Plain facts on ints and lists; no conditions beyond those typed. -/
import Derived.Test.YtdmhjpofinnpmaaDoorLkQ
import Derived.Test.YtdmhjpofinnpmaaDoorMkD
namespace Go.Proofs.YtdmhjpofinnpmaaDoor

/-! ### A row of gates -/
def lastP (n : Nat) : Int := if n = 0 then 2 else 2 * ((n : Int) + 2)
def rowP (n : Nat) : List (Int × Int) := (List.range n).map fun i => (max (lastP i) 4, min (lastP i) 4)
theorem rowP_succ (n : Nat) : rowP (n + 1) = rowP n ++ [(max (lastP n) 4, min (lastP n) 4)] := by unfold rowP; rw [List.range_succ, List.map_append]; rfl
theorem rowP_len (n : Nat) : (rowP n).length = n := by simp [rowP]
theorem rowP_get (n k : Nat) (h : k < n) : (rowP n).getD k (0, 0) = (max (lastP k) 4, min (lastP k) 4) := by simp [rowP, List.getD, h]
theorem rowP_ok (n : Nat) : ∀ k, k < (rowP n).length → okP 2 k ((rowP n).getD k (0, 0)) = true := by
  intro k hk
  rw [rowP_len] at hk
  rw [rowP_get n k hk, okP_iff]
  unfold lastP
  simp only
  split <;> omega
theorem lastP_bd (n : Nat) : 0 ≤ lastP n ∧ lastP n / 2 ≤ ((2 + n : Nat) : Int) := by unfold lastP; split <;> omega
theorem rowP_right (n : Nat) (hn : n ≤ 1000) : checkC (2 : Int) (rowP n) [lastP n] = 0 := by
  have h := lastP_bd n
  refine mk_right (N := 2) (by rw [rowP_len]; omega) (rowP_ok n) (fun o ho => ?_)
  rw [List.mem_singleton] at ho
  subst ho
  rw [okO_iff, rowP_len]
  exact h
theorem getD_app {α : Type} (v t : List α) (d : α) (j : Nat) (h : j < v.length) : (v ++ t).getD j d = v.getD j d := by simp [List.getD, List.getElem?_append_left h]
theorem rowP_depths (n : Nat) : ∀ j, (depthsV 2 (rowP n)).getD j 0 = if 3 ≤ j ∧ j < n + 3 then (j : Int) - 2 else 0 := by
  induction n with
  | zero =>
    intro j
    rw [if_neg (by omega)]
    show (List.replicate 3 (0 : Int)).getD j 0 = 0
    simp only [List.getD, List.getElem?_replicate]; split <;> rfl
  | succ n ih =>
    intro j
    rw [rowP_succ, depthsV_snoc]
    have hl := (DepI.all 2 (rowP n)).len
    rw [rowP_len] at hl
    unfold stepD
    rw [getD_snocI]
    by_cases h1 : j < (depthsV 2 (rowP n)).length
    · rw [if_pos h1, ih]
      by_cases h2 : 3 ≤ j
      · rw [if_pos ⟨h2, by omega⟩, if_pos ⟨h2, by omega⟩]
      · rw [if_neg (by omega), if_neg (by omega)]
    · rw [if_neg h1]
      by_cases h2 : j = (depthsV 2 (rowP n)).length
      · rw [if_pos h2, if_pos ⟨by omega, by omega⟩]
        simp only
        rw [ih, ih]
        unfold lastP
        repeat' split
        all_goals omega
      · rw [if_neg h2, if_neg (by omega)]
theorem rowP_depth (n : Nat) : depthV 2 (rowP n) [lastP n] = (n : Int) := by
  unfold depthV depthO
  simp only [List.foldl_cons, List.foldl_nil]
  rw [rowP_depths]
  unfold lastP
  repeat' split
  all_goals omega
theorem rowP_hangs (n : Nat) (hn : 0 < n) : ∀ d, d < n → hangs 2 (rowP n) (n + 2) (n + 2 - d) = true
  | 0, _ => hangs_self _ _ _
  | d + 1, h => by
    have h1 := rowP_hangs n hn d (by omega)
    rw [show n + 2 - d = 2 + 1 + (n - 1 - d) by omega] at h1
    have h2 := (hangs_closed (rowP_ok n) (by rw [rowP_len]; omega) (n - 1 - d) h1).1
    rw [rowP_get n _ (by omega)] at h2
    have e : (((max (lastP (n - 1 - d)) 4, min (lastP (n - 1 - d)) 4) : Int × Int).1 / 2).toNat = n + 2 - (d + 1) := by
      unfold lastP
      simp only
      rw [if_neg (by omega)]
      omega
    rwa [e] at h2
theorem coneF_full (N : Nat) (f : Nat → Bool) (L : Nat) (hf : ∀ n, N < n → n ≤ L → f n = true) : ∀ k, k ≤ L + 1 → (coneF N f k).length = k - (N + 1)
  | 0, _ => by simp [coneF]
  | k + 1, h => by
    rw [coneF_succ]
    by_cases e : N < k
    · rw [if_pos (by rw [hf k e (by omega)]; simp [e]), List.length_append, coneF_full N f L hf k (by omega), List.length_singleton]
      omega
    · rw [if_neg (by simp [e]), coneF_full N f L hf k (by omega)]
      omega
theorem rowP_cone (n : Nat) : (coneL 2 (rowP n) (lastP n / 2).toNat).length = n := by
  by_cases h : n = 0
  · subst h; rfl
  · have e : (lastP n / 2).toNat = n + 2 := by unfold lastP; rw [if_neg h]; omega
    rw [e]
    unfold coneL
    rw [coneF_full 2 _ (n + 2) (fun m h1 h2 => by
      have := rowP_hangs n (by omega) (n + 2 - m) (by omega)
      rwa [show n + 2 - (n + 2 - m) = m by omega] at this) _ (Nat.le_refl _)]
    omega

/-! ### A gate beside its two -/
theorem depthsV_more (N : Nat) (ps qs : List (Int × Int)) : ∃ t, depthsV N (ps ++ qs) = depthsV N ps ++ t := by
  have : ∀ (qs : List (Int × Int)) (v : List Int), ∃ t, qs.foldl stepD v = v ++ t := by
    intro qs
    induction qs with
    | nil => intro v; exact ⟨[], by simp⟩
    | cons x qs ih =>
      intro v
      obtain ⟨t, h⟩ := ih (stepD v x)
      exact ⟨[1 + max (v.getD (x.1 / 2).toNat 0) (v.getD (x.2 / 2).toNat 0)] ++ t, by rw [List.foldl_cons, h]; simp [stepD]⟩
  obtain ⟨t, h⟩ := this qs (depthsV N ps)
  exact ⟨t, by rw [← h]; unfold depthsV; rw [List.foldl_append]⟩
theorem depths_gate {N : Nat} {ps : List (Int × Int)} (hok : ∀ k, k < ps.length → okP N k (ps.getD k (0, 0)) = true) (k : Nat) (hk : k < ps.length) : (depthsV N ps).getD (N + 1 + k) 0 = 1 + max ((depthsV N ps).getD ((ps.getD k (0, 0)).1 / 2).toNat 0) ((depthsV N ps).getD ((ps.getD k (0, 0)).2 / 2).toNat 0) := by
  have hx := okx (hok k hk)
  have hl := (DepI.at N ps k (by omega)).len
  obtain ⟨t, ht⟩ := depthsV_more N (ps.take (k + 1)) (ps.drop (k + 1))
  rw [List.take_append_drop] at ht
  rw [ht, depthsV_take N ps k hk]
  generalize ps.getD k (0, 0) = x at *
  generalize depthsV N (ps.take k) = d at *
  unfold stepD
  have e1 : ∀ (v : Int) (j : Nat), j ≤ N + 1 + k → (d ++ [v] ++ t).getD j 0 = if j < d.length then d.getD j 0 else if j = d.length then v else 0 := fun v j hj => by
    rw [getD_app _ _ _ _ (by simp; omega), getD_snocI]
  rw [e1 _ _ (Nat.le_refl _), e1 _ _ (by omega), e1 _ _ (by omega), if_neg (by omega), if_pos hl.symm, if_pos (by omega), if_pos (by omega)]
theorem depth_gate {N : Nat} {ps : List (Int × Int)} (hok : ∀ k, k < ps.length → okP N k (ps.getD k (0, 0)) = true) (k : Nat) (hk : k < ps.length) : depthV N ps [2 * ((N + 1 + k : Nat) : Int)] = depthV N ps [(ps.getD k (0, 0)).1, (ps.getD k (0, 0)).2] + 1 := by
  have h := depths_gate hok k hk
  have h1 := (DepI.all N ps).lo ((ps.getD k (0, 0)).1 / 2).toNat
  have h2 := (DepI.all N ps).lo ((ps.getD k (0, 0)).2 / 2).toNat
  unfold depthV depthO
  simp only [List.foldl_cons, List.foldl_nil]
  rw [show (2 * ((N + 1 + k : Nat) : Int) / 2).toNat = N + 1 + k by omega, h]
  omega
theorem cone_sub {N : Nat} {ps : List (Int × Int)} (hok : ∀ k, k < ps.length → okP N k (ps.getD k (0, 0)) = true) (k : Nat) (hk : k < ps.length) : ∀ x ∈ coneL N ps ((ps.getD k (0, 0)).1 / 2).toNat, x ∈ coneL N ps (N + 1 + k) := by
  intro x hx
  obtain ⟨n, rfl, h1, h2, h3⟩ := mem_coneF.1 hx
  have hL : N + 1 + k ≤ N + ps.length := by omega
  have hox := okx (hok k hk)
  have h4 := hangs_least (N := N) (ps := ps) (L := ((ps.getD k (0, 0)).1 / 2).toNat) (fun n => hangs N ps (N + 1 + k) n = true) (fun j _ hj => hangs_closed hok hL j hj) (hangs_closed hok hL k (hangs_self _ _ _)).1 n h2
  exact mem_coneF.2 ⟨n, rfl, by have := hangs_le h4; omega, h4, h3⟩
theorem cone_self (N : Nat) (ps : List (Int × Int)) (k : Nat) : ((N + 1 + k : Nat) : Int) ∈ coneL N ps (N + 1 + k) := mem_coneF.2 ⟨N + 1 + k, rfl, by omega, hangs_self _ _ _, by omega⟩
end Go.Proofs.YtdmhjpofinnpmaaDoor
