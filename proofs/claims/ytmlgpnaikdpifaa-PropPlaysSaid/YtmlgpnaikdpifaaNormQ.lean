/- Laws of the plain list that lits.Norm answers: strictly in order, with the same members, and the only such list. Holds for all lists of ints; no conditions. -/
import Derived.Test.YtmlgpnaikdpifaaNormP
namespace Go.Proofs.Ytmlgpnaikdpifaa
open Go.RowKit Go.Sort

def leP (x y : Int) : Prop := vw x < vw y ∨ (vw x = vw y ∧ x ≤ y)
def ltP (x y : Int) : Prop := vw x < vw y ∨ (vw x = vw y ∧ x < y)
theorem leP_iff (x y : Int) : (!(ltOf cfO) y x) = true ↔ leP x y := by
  rw [ltO]
  unfold leP
  generalize vw x = a
  generalize vw y = b
  simp; omega
theorem leP_trans {x y z : Int} (h1 : leP x y) (h2 : leP y z) : leP x z := by
  unfold leP at *; omega
theorem ltP_of {x y : Int} (h1 : leP x y) (h2 : y ≠ x) : ltP x y := by
  unfold leP at h1; unfold ltP; omega
theorem ltP_of_le {x y z : Int} (h1 : leP x y) (h2 : ltP y z) : ltP x z := by
  unfold leP at h1; unfold ltP at *; omega
theorem ltP_asymm {x y : Int} (h1 : ltP x y) (h2 : ltP y x) : False := by
  unfold ltP at *; omega
theorem ltP_irrefl {x : Int} (h : ltP x x) : False := by
  unfold ltP at h; omega

theorem sortL_sorted (xs : List Int) : (sortL xs).Pairwise leP := by
  have h := List.pairwise_mergeSort (le := fun x y => !(ltOf cfO) y x) (fun a b c h1 h2 => (leP_iff a c).2 (leP_trans ((leP_iff a b).1 h1) ((leP_iff b c).1 h2)))
    (fun a b => by
      rw [Bool.or_eq_true, leP_iff a b, leP_iff b a]
      unfold leP; omega) xs
  exact h.imp fun {a b} hab => (leP_iff a b).1 hab
theorem sortL_mem (xs : List Int) (x : Int) : x ∈ sortL xs ↔ x ∈ xs := (List.mergeSort_perm xs _).mem_iff

theorem compact_spec (d : Array Int) (hs : ∀ i j, i ≤ j → j < d.size → leP d[i]! d[j]!) : ∀ m, m ≤ d.size → (Lib.compactUpTo d m).Pairwise ltP ∧ ∀ x, x ∈ Lib.compactUpTo d m ↔ ∃ j, j < m ∧ d[j]! = x
  | 0, _ => by simp [Lib.compactUpTo]
  | m + 1, hm => by
    obtain ⟨h1, h2⟩ := compact_spec d hs m (by omega)
    rw [Lib.compactUpTo_succ]
    by_cases hk : Lib.keeps d m = true
    · rw [if_pos hk]
      refine ⟨?_, fun x => ?_⟩
      · rw [List.pairwise_append]
        refine ⟨h1, by simp, fun a ha b hb => ?_⟩
        simp at hb
        subst hb
        obtain ⟨j, hj, rfl⟩ := (h2 a).1 ha
        have hne : d[m]! ≠ d[m - 1]! := by
          simp [Lib.keeps] at hk
          rcases hk with hk | hk
          · omega
          · simpa using hk
        exact ltP_of_le (hs j (m - 1) (by omega) (by omega)) (ltP_of (hs (m - 1) m (by omega) (by omega)) hne)
      · rw [List.mem_append, h2 x]
        constructor
        · rintro (⟨j, hj, e⟩ | h)
          · exact ⟨j, by omega, e⟩
          · simp at h; exact ⟨m, by omega, by simp [h]⟩
        · rintro ⟨j, hj, e⟩
          by_cases ej : j = m
          · subst ej; right; simp [← e]
          · left; exact ⟨j, by omega, e⟩
    · rw [if_neg hk]
      refine ⟨by simpa using h1, fun x => ?_⟩
      rw [List.append_nil, h2 x]
      have hk2 : 0 < m ∧ d[m]! = d[m - 1]! := by
        simp only [Lib.keeps, decide_eq_true_eq] at hk
        refine ⟨Nat.pos_of_ne_zero fun e => hk (.inl e), ?_⟩
        exact Classical.byContradiction fun e => hk (.inr e)
      constructor
      · rintro ⟨j, hj, e⟩; exact ⟨j, by omega, e⟩
      · rintro ⟨j, hj, e⟩
        by_cases ej : j = m
        · subst ej; exact ⟨j - 1, by omega, by rw [← e, hk2.2]⟩
        · exact ⟨j, by omega, e⟩

theorem getB (l : List Int) (i : Nat) (h : i < l.length) : l.toArray[i]! = l[i] := by simp [getElem!_pos, h]

theorem norm_spec (xs : List Int) : (normL xs).Pairwise ltP ∧ ∀ x, x ∈ normL xs ↔ x ∈ xs := by
  have hp := sortL_sorted xs
  have hrefl : ∀ a : Int, leP a a := fun a => .inr ⟨rfl, Int.le_refl _⟩
  have hs : ∀ i j, i ≤ j → j < (sortL xs).toArray.size → leP (sortL xs).toArray[i]! (sortL xs).toArray[j]! := by
    intro i j hij hj
    have hj' : j < (sortL xs).length := by simpa using hj
    rw [getB _ i (by omega), getB _ j hj']
    by_cases e : i = j
    · subst e; exact hrefl _
    · exact List.pairwise_iff_getElem.1 hp i j (by omega) hj' (by omega)
  obtain ⟨h1, h2⟩ := compact_spec (sortL xs).toArray hs (sortL xs).length (by simp)
  refine ⟨h1, fun x => ?_⟩
  rw [← sortL_mem xs x]
  refine (h2 x).trans ?_
  constructor
  · rintro ⟨j, hj, e⟩; rw [getB _ j hj] at e; rw [← e]; exact List.getElem_mem hj
  · intro h; obtain ⟨j, hj, e⟩ := List.getElem_of_mem h; exact ⟨j, hj, by rw [getB _ j hj]; exact e⟩

theorem ltP_unique : ∀ l1 l2 : List Int, l1.Pairwise ltP → l2.Pairwise ltP → (∀ x, x ∈ l1 ↔ x ∈ l2) → l1 = l2
  | [], [], _, _, _ => rfl
  | [], b :: l2, _, _, h => by have := (h b).2 (by simp); simp at this
  | a :: l1, [], _, _, h => by have := (h a).1 (by simp); simp at this
  | a :: l1, b :: l2, h1, h2, h => by
    rw [List.pairwise_cons] at h1 h2
    have hab : a = b := by
      have ha := (h a).1 (by simp)
      have hb := (h b).2 (by simp)
      simp only [List.mem_cons] at ha hb
      rcases ha with ha | ha
      · exact ha
      · rcases hb with hb | hb
        · exact hb.symm
        · exact absurd (h1.1 b hb) fun e => ltP_asymm e (h2.1 a ha)
    subst hab
    congr 1
    refine ltP_unique l1 l2 h1.2 h2.2 fun x => ?_
    have hx := h x
    simp only [List.mem_cons] at hx
    constructor
    · intro hm
      rcases hx.1 (.inr hm) with e | e
      · subst e; exact absurd (h1.1 x hm) fun e => ltP_irrefl e
      · exact e
    · intro hm
      rcases hx.2 (.inr hm) with e | e
      · subst e; exact absurd (h2.1 x hm) fun e => ltP_irrefl e
      · exact e

/-- Norm's list is the one list in order with those members. -/
theorem norm_eq (xs l : List Int) (hp : l.Pairwise ltP) (hm : ∀ x, x ∈ l ↔ x ∈ xs) : normL xs = l :=
  ltP_unique _ _ (norm_spec xs).1 hp fun x => ((norm_spec xs).2 x).trans (hm x).symm
theorem norm_congr (xs ys : List Int) (hm : ∀ x, x ∈ xs ↔ x ∈ ys) : normL xs = normL ys :=
  norm_eq xs _ (norm_spec ys).1 fun x => ((norm_spec ys).2 x).trans (hm x).symm
theorem norm_iff (xs ys : List Int) : normL xs = normL ys ↔ ∀ x, x ∈ xs ↔ x ∈ ys :=
  ⟨fun h x => by rw [← (norm_spec xs).2 x, h, (norm_spec ys).2 x], norm_congr xs ys⟩
theorem norm_norm (xs : List Int) : normL (normL xs) = normL xs := norm_eq _ _ (norm_spec xs).1 fun _ => Iff.rfl
end Go.Proofs.Ytmlgpnaikdpifaa
