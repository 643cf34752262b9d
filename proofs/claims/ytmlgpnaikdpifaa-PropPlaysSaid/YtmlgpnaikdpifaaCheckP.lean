/- Plain functions for lits.Check: the sum of lengths, the first clause with a literal that is not right, the fault. Holds for all lists; no conditions. -/
import Derived.Test.YtmlgpnaikdpifaaBase
import Derived.Test.YtmlgpnaikdpifaaPlain
namespace Go.Proofs.Ytmlgpnaikdpifaa
open Go.RowKit

/-- A slice of slices of ints that reads as these lists. -/
def RowsAt (w : World) (a : Option Addr) (c : Nat) (xss : List (List Int)) : Prop :=
  xss.length ≤ c ∧ c ≤ maxLen ∧ (xss.length = 0 ∨ ∃ b off, a = some ⟨b, off, none⟩ ∧ b < w.heap.size ∧ ∀ i, i < xss.length → ∃ v, w.cell? ⟨b, off + i, none⟩ = some v ∧ Row w v (xss.getD i []))
theorem RowsAt.keep {w w' : World} {a : Option Addr} {c : Nat} {xss : List (List Int)} (h : RowsAt w a c xss) (hb : Below w.heap.size w w') : RowsAt w' a c xss := by
  obtain ⟨h1, h2, h3⟩ := h
  refine ⟨h1, h2, ?_⟩
  rcases h3 with h3 | ⟨b, off, e, hlt, hc⟩
  · exact .inl h3
  · refine .inr ⟨b, off, e, Nat.lt_of_lt_of_le hlt hb.size, fun i hi => ?_⟩
    obtain ⟨v, hv, hr⟩ := hc i hi
    exact ⟨v, (hb.cell (p := ⟨b, off + i, none⟩) hlt).trans hv, hr.keep hb⟩

/-- The lengths of the first k lists, in all. -/
def sumTo (xss : List (List Int)) (k : Nat) : Nat := ((xss.take k).map List.length).sum
theorem sumTo_succ (xss : List (List Int)) (k : Nat) (h : k < xss.length) : sumTo xss (k + 1) = sumTo xss k + (xss.getD k []).length := by
  unfold sumTo
  rw [List.take_succ_eq_append_getElem h, List.map_append, List.sum_append]
  simp [List.getD, h]
theorem sumTo_mono (xss : List (List Int)) (k m : Nat) (h : k ≤ m) : sumTo xss k ≤ sumTo xss m := by
  induction m with
  | zero => have : k = 0 := by omega
            subst this; exact Nat.le_refl _
  | succ m ih =>
    by_cases e : k = m + 1
    · subst e; exact Nat.le_refl _
    · refine Nat.le_trans (ih (by omega)) ?_
      by_cases hm : m < xss.length
      · rw [sumTo_succ _ _ hm]; omega
      · unfold sumTo
        rw [List.take_of_length_le (by omega), List.take_of_length_le (by omega)]
        exact Nat.le_refl _
/-- A literal that is right for so many variables. -/
def isB (vars l : Int) : Bool := decide (1 ≤ absI l) && decide (absI l ≤ vars)
/-- No list has a literal that is not right. -/
def allIs (vars : Int) (xss : List (List Int)) : Prop := ∀ xs ∈ xss, ∀ l ∈ xs, isB vars l = true
/-- The k-th list is the first with one. -/
def firstBad (vars : Int) (xss : List (List Int)) (k : Nat) : Prop := k < xss.length ∧ (∀ j, j < k → ∀ l ∈ xss.getD j [], isB vars l = true) ∧ ∃ l ∈ xss.getD k [], isB vars l = false
/-- Too much of it. -/
def tooMuch (vars : Int) (xss : List (List Int)) : Prop := vars < 0 ∨ 4000 < vars ∨ 20000 < xss.length ∨ 80000 < sumTo xss xss.length
/-- The fault that Check tells. -/
def CheckF (vars : Int) (xss : List (List Int)) (c : Int) (p : Bool) (k : Int) : Prop :=
  (tooMuch vars xss ∧ c = 102 ∧ p = false ∧ k = 0) ∨ (¬ tooMuch vars xss ∧ ∃ i : Nat, firstBad vars xss i ∧ c = 104 ∧ p = true ∧ k = i) ∨ (¬ tooMuch vars xss ∧ allIs vars xss ∧ c = 0 ∧ p = false ∧ k = 0)
end Go.Proofs.Ytmlgpnaikdpifaa
