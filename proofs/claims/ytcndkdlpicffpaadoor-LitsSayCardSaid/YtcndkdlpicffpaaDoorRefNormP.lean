/- Plain functions for the document's own Norm: a sorted list with one more literal, and whether it has a literal with its opposite. Holds for all lists; no conditions beyond those typed. -/
import Derived.Test.YtcndkdlpicffpaaDoorNormQ
import Derived.Test.YtcndkdlpicffpaaDoorRename
namespace Go.Proofs.YtcndkdlpicffpaaDoor
open Go.RowKit Go.Sort

theorem vw_abs (x : Int) (h1 : -9223372036854775807 ≤ x) (h2 : x ≤ 9223372036854775807) : vw x = absI x := by
  unfold vw absI
  by_cases h : x < 0
  · rw [if_pos h, if_pos h, IntWalk.wrap64_in _ ⟨by omega, by omega⟩]
  · rw [if_neg h, if_neg h]
/-- By the variable, the one below 0 first. -/
def ltQ (x y : Int) : Prop := absI x < absI y ∨ (absI x = absI y ∧ x < y)
instance (x y : Int) : Decidable (ltQ x y) := inferInstanceAs (Decidable (_ ∨ _))
theorem ltQ_iff {x y : Int} (hx : -9223372036854775807 ≤ x ∧ x ≤ 9223372036854775807) (hy : -9223372036854775807 ≤ y ∧ y ≤ 9223372036854775807) : ltQ x y ↔ ltP x y := by
  unfold ltQ ltP; rw [vw_abs x hx.1 hx.2, vw_abs y hy.1 hy.2]
theorem ltQ_trans {x y z : Int} (h1 : ltQ x y) (h2 : ltQ y z) : ltQ x z := by
  unfold ltQ at *; omega
theorem ltQ_tot {x y : Int} (h : ¬ ltQ x y) (hne : x ≠ y) : ltQ y x := by
  unfold ltQ at *; omega
theorem ltQ_irrefl {x : Int} (h : ltQ x x) : False := by unfold ltQ at h; omega

/-- No literal but 0 stands there with its opposite. -/
def saysL (l : List Int) : Bool := decide (∀ x ∈ l, x ≠ 0 → -x ∉ l)
theorem saysL_iff (l : List Int) : saysL l = true ↔ ∀ x ∈ l, x ≠ 0 → -x ∉ l := by unfold saysL; exact decide_eq_true_iff
theorem saysL_step (l l' : List Int) (x : Int) (hx : x ∉ l) (h : ∀ y, y ∈ l' ↔ y ∈ l ∨ y = x) : saysL l' = (saysL l && !decide (-x ∈ l)) := by
  rw [Bool.eq_iff_iff, saysL_iff, Bool.and_eq_true, saysL_iff]
  simp only [Bool.not_eq_true', decide_eq_false_iff_not]
  constructor
  · intro hs
    refine ⟨fun y hy h0 hm => hs y ((h y).2 (.inl hy)) h0 ((h _).2 (.inl hm)), fun hm => ?_⟩
    by_cases h0 : x = 0
    · rw [h0] at hm hx; exact hx (by simpa using hm)
    · exact hs x ((h x).2 (.inr rfl)) h0 ((h _).2 (.inl hm))
  · rintro ⟨hs, hm⟩ y hy h0 hy'
    rcases (h y).1 hy with hy | rfl
    · rcases (h _).1 hy' with hy' | e
      · exact hs y hy h0 hy'
      · exact hm (by rw [← e]; simpa using hy)
    · rcases (h _).1 hy' with hy' | e
      · exact hm hy'
      · omega

theorem saysL_norm (l : List Int) (hp : l.Pairwise ltQ) : normSays l = saysL l := by
  cases hs : saysL l with
  | true =>
    refine normSays_true l fun i h1 h2 he => ?_
    have hs' := (saysL_iff l).1 hs
    have e1 : l.getD i 0 = l[i] := by simp [List.getD, h2]
    have e0 : l.getD (i - 1) 0 = l[i - 1] := by simp [List.getD, show i - 1 < l.length by omega]
    rw [e1, e0] at he
    have hlt := List.pairwise_iff_getElem.1 hp (i - 1) i (by omega) h2 (by omega)
    by_cases h0 : l[i - 1] = 0
    · rw [h0] at he hlt; rw [he] at hlt; exact ltQ_irrefl (by simpa using hlt)
    · exact hs' _ (List.getElem_mem (by omega)) h0 (by rw [← he]; exact List.getElem_mem h2)
  | false =>
    have key : ∀ i j, (hi : i < l.length) → (hj : j < l.length) → i < j → l[j] = -l[i] → normSays l = false := fun i j hi hj hij he => by
      have hj1 : j = i + 1 := by
        rcases Nat.lt_or_ge (i + 1) j with h | h
        · exfalso
          have a := List.pairwise_iff_getElem.1 hp i (i + 1) hi (by omega) (by omega)
          have b := List.pairwise_iff_getElem.1 hp (i + 1) j (by omega) hj h
          rw [he] at b
          unfold ltQ absI at a b
          split at a <;> split at a <;> split at b <;> omega
        · omega
      subst hj1
      refine normSays_false l (i + 1) (by omega) hj ?_
      rw [Nat.add_sub_cancel]
      simpa [List.getD, hi, hj] using he
    have hex : ∃ x, x ∈ l ∧ x ≠ 0 ∧ -x ∈ l := by
      refine Classical.byContradiction fun hn => ?_
      have : saysL l = true := (saysL_iff l).2 fun x hx h0 hm => hn ⟨x, hx, h0, hm⟩
      rw [hs] at this; cases this
    obtain ⟨x, hx, h0, hm⟩ := hex
    obtain ⟨i, hi, rfl⟩ := List.getElem_of_mem hx
    obtain ⟨j, hj, he⟩ := List.getElem_of_mem hm
    rcases Nat.lt_trichotomy i j with h | h | h
    · exact key i j hi hj h he
    · subst h; omega
    · exact key j i hj hi h (by rw [he]; simp)

theorem ins_pair (l : List Int) (x : Int) (q : Nat) (hp : l.Pairwise ltQ) (h1 : ∀ j, j < q → j < l.length → ltQ (l.getD j 0) x) (h2 : q < l.length → ltQ x (l.getD q 0)) : (l.take q ++ [x] ++ l.drop q).Pairwise ltQ := by
  have hp' := hp
  rw [← List.take_append_drop q l] at hp'
  obtain ⟨p1, p2, p3⟩ := List.pairwise_append.1 hp'
  have ht : ∀ a ∈ l.take q, ltQ a x := fun a ha => by
    obtain ⟨j, hj, rfl⟩ := List.getElem_of_mem ha
    have hj' : j < q ∧ j < l.length := by simp at hj; omega
    have := h1 j hj'.1 hj'.2
    simpa [List.getD, hj'.2] using this
  have hd : ∀ b ∈ l.drop q, ltQ x b := fun b hb => by
    obtain ⟨j, hj, rfl⟩ := List.getElem_of_mem hb
    have hj' : q + j < l.length := by simp at hj; omega
    have hq := h2 (by omega)
    have e0 : l.getD q 0 = l[q] := by simp [List.getD, show q < l.length by omega]
    rw [e0] at hq
    rw [List.getElem_drop]
    rcases Nat.eq_zero_or_pos j with h | h
    · subst h; exact hq
    · exact ltQ_trans hq (List.pairwise_iff_getElem.1 hp q (q + j) (by omega) hj' (by omega))
  refine List.pairwise_append.2 ⟨List.pairwise_append.2 ⟨p1, List.pairwise_singleton _ _, ?_⟩, p2, ?_⟩
  · intro a ha b hb
    simp at hb; subst hb
    exact ht a ha
  · intro a ha b hb
    rcases List.mem_append.1 ha with ha | ha
    · exact p3 a ha b hb
    · simp at ha; subst ha; exact hd b hb
theorem normL_of (xs l : List Int) (hxs : InW xs) (hp : l.Pairwise ltQ) (hm : ∀ x, x ∈ l ↔ x ∈ xs) : normL xs = l :=
  norm_eq xs l (hp.imp_of_mem fun ha hb h => (ltQ_iff (hxs _ ((hm _).1 ha)) (hxs _ ((hm _).1 hb))).1 h) hm
end Go.Proofs.YtcndkdlpicffpaaDoor
