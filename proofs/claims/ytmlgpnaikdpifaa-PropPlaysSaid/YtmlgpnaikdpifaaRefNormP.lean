/- Plain functions for the document's own Norm: a sorted list with one more literal, and whether it has a literal with its opposite. Holds for all lists; no conditions beyond those typed. -/
import Derived.Test.YtmlgpnaikdpifaaRename
namespace Go.Proofs.Ytmlgpnaikdpifaa
open Go.RowKit

/-- By the variable, the one below 0 first. -/
def ltQ (x y : Int) : Prop := absI x < absI y ∨ (absI x = absI y ∧ x < y)
instance (x y : Int) : Decidable (ltQ x y) := inferInstanceAs (Decidable (_ ∨ _))
theorem ltQ_trans {x y z : Int} (h1 : ltQ x y) (h2 : ltQ y z) : ltQ x z := by
  unfold ltQ at *; omega
theorem ltQ_tot {x y : Int} (h : ¬ ltQ x y) (hne : x ≠ y) : ltQ y x := by
  unfold ltQ at *; omega
theorem ltQ_irrefl {x : Int} (h : ltQ x x) : False := by unfold ltQ at h; omega

/-- No literal but 0 stands there with its opposite. -/
def saysL (l : List Int) : Bool := decide (∀ x ∈ l, x ≠ 0 → -x ∉ l)
theorem saysL_iff (l : List Int) : saysL l = true ↔ ∀ x ∈ l, x ≠ 0 → -x ∉ l := by unfold saysL; exact decide_eq_true_iff
theorem saysL_step (l l' : List Int) (x : Int) (hx : x ∉ l) (h : ∀ y, y ∈ l' ↔ y ∈ l ∨ y = x) : saysL l' = (saysL l && !decide (-x ∈ l)) := by
  rw [Bool.eq_iff_iff, saysL_iff, Bool.and_eq_true, saysL_iff]
  simp only [Bool.not_eq_true', decide_eq_false_iff_not]
  constructor
  · intro hs
    refine ⟨fun y hy h0 hm => hs y ((h y).2 (.inl hy)) h0 ((h _).2 (.inl hm)), fun hm => ?_⟩
    by_cases h0 : x = 0
    · rw [h0] at hm hx; exact hx (by simpa using hm)
    · exact hs x ((h x).2 (.inr rfl)) h0 ((h _).2 (.inl hm))
  · rintro ⟨hs, hm⟩ y hy h0 hy'
    rcases (h y).1 hy with hy | rfl
    · rcases (h _).1 hy' with hy' | e
      · exact hs y hy h0 hy'
      · exact hm (by rw [← e]; simpa using hy)
    · rcases (h _).1 hy' with hy' | e
      · exact hm hy'
      · omega

theorem ins_pair (l : List Int) (x : Int) (q : Nat) (hp : l.Pairwise ltQ) (h1 : ∀ j, j < q → j < l.length → ltQ (l.getD j 0) x) (h2 : q < l.length → ltQ x (l.getD q 0)) : (l.take q ++ [x] ++ l.drop q).Pairwise ltQ := by
  have hp' := hp
  rw [← List.take_append_drop q l] at hp'
  obtain ⟨p1, p2, p3⟩ := List.pairwise_append.1 hp'
  have ht : ∀ a ∈ l.take q, ltQ a x := fun a ha => by
    obtain ⟨j, hj, rfl⟩ := List.getElem_of_mem ha
    have hj' : j < q ∧ j < l.length := by simp at hj; omega
    have := h1 j hj'.1 hj'.2
    simpa [List.getD, hj'.2] using this
  have hd : ∀ b ∈ l.drop q, ltQ x b := fun b hb => by
    obtain ⟨j, hj, rfl⟩ := List.getElem_of_mem hb
    have hj' : q + j < l.length := by simp at hj; omega
    have hq := h2 (by omega)
    have e0 : l.getD q 0 = l[q] := by simp [List.getD, show q < l.length by omega]
    rw [e0] at hq
    rw [List.getElem_drop]
    rcases Nat.eq_zero_or_pos j with h | h
    · subst h; exact hq
    · exact ltQ_trans hq (List.pairwise_iff_getElem.1 hp q (q + j) (by omega) hj' (by omega))
  refine List.pairwise_append.2 ⟨List.pairwise_append.2 ⟨p1, List.pairwise_singleton _ _, ?_⟩, p2, ?_⟩
  · intro a ha b hb
    simp at hb; subst hb
    exact ht a ha
  · intro a ha b hb
    rcases List.mem_append.1 ha with ha | ha
    · exact p3 a ha b hb
    · simp at ha; subst ha; exact hd b hb
/-- Sorted lists with the same members are the same. -/
theorem ltQ_asymm {x y : Int} (h1 : ltQ x y) (h2 : ltQ y x) : False := ltQ_irrefl (ltQ_trans h1 h2)
theorem ltQ_uniq : ∀ (l m : List Int), l.Pairwise ltQ → m.Pairwise ltQ → (∀ x, x ∈ l ↔ x ∈ m) → l = m
  | [], [], _, _, _ => rfl
  | [], b :: m, _, _, h => absurd ((h b).2 (by simp)) (by simp)
  | a :: l, [], _, _, h => absurd ((h a).1 (by simp)) (by simp)
  | a :: l, b :: m, hl, hm, h => by
    obtain ⟨h1, h2⟩ := List.pairwise_cons.1 hl
    obtain ⟨h3, h4⟩ := List.pairwise_cons.1 hm
    have e : a = b := by
      rcases List.mem_cons.1 ((h a).1 (by simp)) with e | e
      · exact e
      · rcases List.mem_cons.1 ((h b).2 (by simp)) with e' | e'
        · exact e'.symm
        · exact (ltQ_asymm (h3 _ e) (h1 _ e')).elim
    subst e
    rw [ltQ_uniq l m h2 h4 fun x => ⟨fun hx => ?_, fun hx => ?_⟩]
    · rcases List.mem_cons.1 ((h x).1 (by simp [hx])) with e | e
      · subst e; exact (ltQ_irrefl (h1 _ hx)).elim
      · exact e
    · rcases List.mem_cons.1 ((h x).2 (by simp [hx])) with e | e
      · subst e; exact (ltQ_irrefl (h3 _ hx)).elim
      · exact e
/-- The document's Norm of a list, as a list that is sorted and has its members. -/
structure Nsd (xs l : List Int) : Prop where
  pair : l.Pairwise ltQ
  mem : ∀ x, x ∈ l ↔ x ∈ xs
theorem Nsd.uniq {xs ys l m : List Int} (h : Nsd xs l) (h' : Nsd ys m) (he : ∀ x, x ∈ xs ↔ x ∈ ys) : l = m :=
  ltQ_uniq l m h.pair h'.pair fun x => (h.mem x).trans ((he x).trans (h'.mem x).symm)
theorem Nsd.says {xs l : List Int} (h : Nsd xs l) : saysL l = saysL xs := by
  rw [Bool.eq_iff_iff, saysL_iff, saysL_iff]
  constructor
  · intro hs x hx h0 hm
    exact hs x ((h.mem x).2 hx) h0 ((h.mem _).2 hm)
  · intro hs x hx h0 hm
    exact hs x ((h.mem x).1 hx) h0 ((h.mem _).1 hm)
end Go.Proofs.Ytmlgpnaikdpifaa
