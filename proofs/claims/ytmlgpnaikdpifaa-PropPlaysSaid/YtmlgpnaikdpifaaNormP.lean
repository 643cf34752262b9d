/- Plain functions for lits.Norm: the order of its literals, the list that it answers, whether it says something. Holds for all lists of ints; no conditions. -/
import Derived.Test.YtmlgpnaikdpifaaPlain
import Derived.Shelf.SlSortCmp.NoneTotal
import Derived.Lib.OwnBridge
namespace Go.Proofs.Ytmlgpnaikdpifaa
open Go.RowKit Go.Sort

/-- A literal without its sign, as 64 bits give it. -/
def vw (x : Int) : Int := if x < 0 then wrap64 (-x) else x
def orI (p q : Int) : Int := if p = 0 then q else p
/-- The comparison that Norm sorts by. -/
def cfO (x y : Int) : Int := orI (Lib.compareInt (vw x) (vw y)) (Lib.compareInt x y)
theorem ltO (x y : Int) : ltOf cfO x y = decide (vw x < vw y ∨ (vw x = vw y ∧ x < y)) := by
  unfold ltOf cfO orI Lib.compareInt
  generalize vw x = a
  generalize vw y = b
  by_cases h1 : a < b
  · simp [h1]
  · by_cases h2 : b < a
    · have : ¬ a = b := by omega
      simp [h1, h2, this]
    · have : a = b := by omega
      subst this
      by_cases h3 : x < y
      · simp [h3]
      · by_cases h4 : y < x <;> simp [h3, h4]
theorem swoO : SWO (ltOf cfO) where
  irrefl x := by rw [ltO]; simp
  trans x y z h1 h2 := by
    rw [ltO] at *
    generalize vw x = a at *
    generalize vw y = b at *
    generalize vw z = c at *
    simp at *; omega
  ntrans x y z h1 h2 := by
    rw [ltO] at *
    generalize vw x = a at *
    generalize vw y = b at *
    generalize vw z = c at *
    simp only [decide_eq_false_iff_not] at *; omega
theorem totO (x y : Int) (h1 : ltOf cfO x y = false) (h2 : ltOf cfO y x = false) : x = y := by
  rw [ltO] at *
  generalize vw x = a at *
  generalize vw y = b at *
  simp only [decide_eq_false_iff_not] at *; omega

/-- The list in Norm's order. -/
def sortL (xs : List Int) : List Int := xs.mergeSort fun x y => !(ltOf cfO) y x
theorem sortL_len (xs : List Int) : (sortL xs).length = xs.length := by simp [sortL]
/-- What Norm answers. -/
def normL (xs : List Int) : List Int := Lib.compact (sortL xs)
theorem normL_len (xs : List Int) : (normL xs).length ≤ xs.length := by
  have := Lib.compact_length_le (sortL xs)
  rw [sortL_len] at this
  exact this
/-- Whether no place but the first holds the opposite of the one before it. -/
def saysTo (l : List Int) (k : Nat) : Prop := ∀ i, 1 ≤ i → i < k → l.getD i 0 ≠ -(l.getD (i - 1) 0)
def normSays (l : List Int) : Bool := (List.range l.length).all fun i => i == 0 || !(l.getD i 0 == -(l.getD (i - 1) 0))
theorem normSays_true (l : List Int) (h : saysTo l l.length) : normSays l = true := by
  unfold normSays
  rw [List.all_eq_true]
  intro i hi
  rw [List.mem_range] at hi
  by_cases h0 : i = 0
  · simp [h0]
  · have := h i (by omega) hi
    have hb : (l.getD i 0 == -(l.getD (i - 1) 0)) = false := by rw [beq_eq_false_iff_ne]; exact this
    rw [hb]; simp
theorem normSays_false (l : List Int) (k : Nat) (h1 : 1 ≤ k) (h2 : k < l.length) (h : l.getD k 0 = -(l.getD (k - 1) 0)) : normSays l = false := by
  unfold normSays
  rw [List.all_eq_false]
  refine ⟨k, by simpa using h2, ?_⟩
  rw [h]
  have : ¬ k = 0 := by omega
  simp [this]
end Go.Proofs.Ytmlgpnaikdpifaa
