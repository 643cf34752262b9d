/- What a literal hangs on alone tells what it is worth: agreement of two circuits; the other gates spoilt. Plain facts on ints and lists; no conditions beyond those typed. -/
import Derived.Test.YtdmhjpofinnpmaaDoorLkH
namespace Go.Proofs.YtdmhjpofinnpmaaDoor

theorem worth_even (v : List Bool) (n : Nat) : worthV v (2 * (n : Int)) = v.getD n false := by
  unfold worthV oddB
  rw [show (2 * (n : Int) / 2).toNat = n by omega, decide_eq_false (by omega)]
  simp
theorem nodes_zero (N : Nat) (ps : List (Int × Int)) (ins : List Bool) : (nodesV N ps ins).getD 0 false = false := by
  obtain ⟨t, h⟩ := nodesV_more N [] ps ins
  rw [List.nil_append] at h
  rw [h]; rfl
theorem nodes_in (N : Nat) (ps : List (Int × Int)) (ins : List Bool) (i : Nat) (h : i < N) : (nodesV N ps ins).getD (i + 1) false = ins.getD i false := by
  have := val_input ⟨N, ps, 0⟩ ins i h
  unfold Gr.val at this
  rw [show 2 * ((i : Int) + 1) = 2 * ((i + 1 : Nat) : Int) by omega, worth_even] at this
  exact this
theorem nodes_gate {N : Nat} {ps : List (Int × Int)} (hok : ∀ k, k < ps.length → okP N k (ps.getD k (0, 0)) = true) (ins : List Bool) (k : Nat) (hk : k < ps.length) : (nodesV N ps ins).getD (N + 1 + k) false = (worthV (nodesV N ps ins) (ps.getD k (0, 0)).1 && worthV (nodesV N ps ins) (ps.getD k (0, 0)).2) := by
  have := val_gate (g := ⟨N, ps, 0⟩) hok ins k hk
  unfold Gr.val at this
  simp only at this
  rw [show 2 * (((N + k : Nat) : Int) + 1) = 2 * ((N + 1 + k : Nat) : Int) by omega, worth_even] at this
  exact this
theorem worth_get {v v' : List Bool} {l : Int} (h : v.getD (l / 2).toNat false = v'.getD (l / 2).toNat false) : worthV v l = worthV v' l := by unfold worthV; rw [h]
theorem nodes_agree {N : Nat} {ps ps' : List (Int × Int)} {ins ins' : List Bool} (hok : ∀ k, k < ps.length → okP N k (ps.getD k (0, 0)) = true) (hok' : ∀ k, k < ps'.length → okP N k (ps'.getD k (0, 0)) = true) (hlen : ps'.length = ps.length) (f : Nat → Bool)
    (hcl : ∀ k, k < ps.length → f (N + 1 + k) = true → f ((ps.getD k (0, 0)).1 / 2).toNat = true ∧ f ((ps.getD k (0, 0)).2 / 2).toNat = true) (hps : ∀ k, k < ps.length → f (N + 1 + k) = true → ps'.getD k (0, 0) = ps.getD k (0, 0)) (hin : ∀ i, i < N → f (i + 1) = true → ins'.getD i false = ins.getD i false) :
    ∀ b n, n < b → n ≤ N + ps.length → f n = true → (nodesV N ps' ins').getD n false = (nodesV N ps ins).getD n false
  | 0, _, h, _, _ => absurd h (Nat.not_lt_zero _)
  | b + 1, n, hb, hn, hf => by
    by_cases h0 : n = 0
    · subst h0; rw [nodes_zero, nodes_zero]
    · by_cases h1 : n ≤ N
      · obtain ⟨i, rfl⟩ : ∃ i, n = i + 1 := ⟨n - 1, by omega⟩
        rw [nodes_in _ _ _ _ (by omega), nodes_in _ _ _ _ (by omega)]
        exact hin i (by omega) hf
      · obtain ⟨k, rfl⟩ : ∃ k, n = N + 1 + k := ⟨n - N - 1, by omega⟩
        have hk : k < ps.length := by omega
        have hx := okx (hok k hk)
        obtain ⟨c1, c2⟩ := hcl k hk hf
        rw [nodes_gate hok' _ k (by omega), nodes_gate hok _ k hk, hps k hk hf]
        rw [worth_get (nodes_agree hok hok' hlen f hcl hps hin b _ (by omega) (by omega) c1), worth_get (nodes_agree hok hok' hlen f hcl hps hin b _ (by omega) (by omega) c2)]
theorem eval_agree {N : Nat} {ps ps' : List (Int × Int)} {ins ins' : List Bool} (hok : ∀ k, k < ps.length → okP N k (ps.getD k (0, 0)) = true) (hok' : ∀ k, k < ps'.length → okP N k (ps'.getD k (0, 0)) = true) (hlen : ps'.length = ps.length) (l : Int) (hl : (l / 2).toNat ≤ N + ps.length)
    (hps : ∀ k, k < ps.length → hangs N ps (l / 2).toNat (N + 1 + k) = true → ps'.getD k (0, 0) = ps.getD k (0, 0)) (hin : ∀ i, i < N → hangs N ps (l / 2).toNat (i + 1) = true → ins'.getD i false = ins.getD i false) : evalV N ps' [l] ins' = evalV N ps [l] ins := by
  unfold evalV
  rw [List.map_singleton, List.map_singleton, worth_get (nodes_agree hok hok' hlen _ (fun k _ h => hangs_closed hok hl k h) hps hin _ _ (Nat.lt_succ_self _) hl (hangs_self _ _ _))]

/-- The gates below i that do not count are spoilt. -/
def spoilP (N : Nat) (ps : List (Int × Int)) (f : Nat → Bool) (i : Nat) : List (Int × Int) := (List.range ps.length).map fun k => if (decide (k < i) && !f (N + 1 + k)) = true then (1, 1) else ps.getD k (0, 0)
theorem spoilP_len (N : Nat) (ps : List (Int × Int)) (f : Nat → Bool) (i : Nat) : (spoilP N ps f i).length = ps.length := by simp [spoilP]
theorem spoilP_get (N : Nat) (ps : List (Int × Int)) (f : Nat → Bool) (i k : Nat) (h : k < ps.length) : (spoilP N ps f i).getD k (0, 0) = if (decide (k < i) && !f (N + 1 + k)) = true then (1, 1) else ps.getD k (0, 0) := by simp [spoilP, List.getD, h]
theorem spoilP_zero (N : Nat) (ps : List (Int × Int)) (f : Nat → Bool) : spoilP N ps f 0 = ps := by
  apply List.ext_getElem (spoilP_len _ _ _ _)
  intro i h1 h2
  have := spoilP_get N ps f 0 i h2
  simpa [List.getD, h1, h2] using this
theorem spoilP_keep {N : Nat} {ps : List (Int × Int)} {f : Nat → Bool} {i : Nat} (h : f (N + 1 + i) = true) : spoilP N ps f (i + 1) = spoilP N ps f i := by
  unfold spoilP
  apply List.map_congr_left
  intro k _
  by_cases e : k = i
  · subst e; simp [h]
  · rw [show decide (k < i + 1) = decide (k < i) by by_cases h : k < i <;> simp [h] <;> omega]
theorem spoilP_turn {N : Nat} {ps : List (Int × Int)} {f : Nat → Bool} {i : Nat} (_hi : i < ps.length) (h : f (N + 1 + i) = false) : spoilP N ps f (i + 1) = (spoilP N ps f i).set i (1, 1) := by
  apply List.ext_getElem (by rw [List.length_set, spoilP_len, spoilP_len])
  intro k h1 h2
  rw [spoilP_len] at h1
  have e1 := spoilP_get N ps f (i + 1) k h1
  have e2 := spoilP_get N ps f i k h1
  rw [List.getElem_set]
  simp only [List.getD, List.getElem?_eq_getElem (show k < (spoilP N ps f (i + 1)).length by rw [spoilP_len]; exact h1), List.getElem?_eq_getElem (show k < (spoilP N ps f i).length by rw [spoilP_len]; exact h1), Option.getD_some] at e1 e2
  rw [e1]
  by_cases e : i = k
  · subst e; simp [h]
  · rw [if_neg e, e2, show decide (k < i + 1) = decide (k < i) by by_cases h : k < i <;> simp [h] <;> omega]
theorem spoilP_ok {N : Nat} {ps : List (Int × Int)} (hok : ∀ k, k < ps.length → okP N k (ps.getD k (0, 0)) = true) (f : Nat → Bool) (i : Nat) : ∀ k, k < (spoilP N ps f i).length → okP N k ((spoilP N ps f i).getD k (0, 0)) = true := by
  intro k hk
  rw [spoilP_len] at hk
  rw [spoilP_get _ _ _ _ _ hk]
  split
  · rw [okP_iff]; simp only; omega
  · exact hok k hk
theorem eval_spoil {N : Nat} {ps : List (Int × Int)} (ins : List Bool) (hok : ∀ k, k < ps.length → okP N k (ps.getD k (0, 0)) = true) (l : Int) (hl : (l / 2).toNat ≤ N + ps.length) : evalV N (spoilP N ps (hangs N ps (l / 2).toNat) ps.length) [l] ins = evalV N ps [l] ins :=
  eval_agree hok (spoilP_ok hok _ _) (spoilP_len _ _ _ _) l hl (fun k hk h => by rw [spoilP_get _ _ _ _ _ hk, h]; simp) (fun _ _ _ => rfl)
theorem mem_cone {N : Nat} {ps : List (Int × Int)} (L i : Nat) : decide (((N + 1 + i : Nat) : Int) ∈ coneL N ps L) = hangs N ps L (N + 1 + i) := by
  by_cases h : hangs N ps L (N + 1 + i) = true
  · rw [h]
    exact decide_eq_true (mem_coneF.2 ⟨N + 1 + i, rfl, by have := hangs_le h; omega, h, by omega⟩)
  · rw [Bool.eq_false_iff.2 h]
    refine decide_eq_false fun hm => ?_
    obtain ⟨n, e, _, h2, _⟩ := mem_coneF.1 hm
    have : n = N + 1 + i := by omega
    subst this
    exact h h2
theorem eval_turned {N : Nat} {ps : List (Int × Int)} (ins : List Bool) (hok : ∀ k, k < ps.length → okP N k (ps.getD k (0, 0)) = true) (l : Int) (hl : (l / 2).toNat ≤ N + ps.length) (K : Nat) (hK : K < N) (x : Bool) : (decide ((K : Int) ∈ suppL N ps (l / 2).toNat) || decide (evalV N ps [l] (ins.set K x) = evalV N ps [l] ins)) = true := by
  by_cases h : hangs N ps (l / 2).toNat (K + 1) = true
  · rw [Bool.or_eq_true]
    left
    exact decide_eq_true (show (K : Int) ∈ suppL N ps (l / 2).toNat from mem_suppF.2 ⟨K, rfl, by have := hangs_le h; omega, h, by omega⟩)
  · rw [Bool.or_eq_true]
    right
    refine decide_eq_true (eval_agree hok hok rfl l hl (fun _ _ _ => rfl) fun i _ hf => ?_)
    have hne : K ≠ i := fun e => by subst e; exact h hf
    simp [List.getD, List.getElem?_set_ne hne]
end Go.Proofs.YtdmhjpofinnpmaaDoor
