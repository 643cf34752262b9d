/- Plain functions on values of variables: what a literal is worth, setting, unsetting, what a clause and clauses are worth. Holds for all ints and lists; no conditions beyond those typed. -/
import Derived.Test.YtmlgpnaikdpifaaBase
import Derived.Test.YtmlgpnaikdpifaaPlain
import Derived.Test.YtmlgpnaikdpifaaCheckP
namespace Go.Proofs.Ytmlgpnaikdpifaa
open Go.RowKit

/-- The opposite of a value. -/
def opp (x : Int) : Int := if x = 1 then 2 else if x = 2 then 1 else 0
/-- Its place. -/
def plc (l : Int) : Nat := (absI l).toNat
/-- The literal is right for these values. -/
def rightB (V : List Int) (l : Int) : Bool := decide (1 ≤ plc l) && decide (plc l < V.length)
/-- What a literal is worth. -/
def valL (V : List Int) (l : Int) : Int := if rightB V l = true then (if 0 < l then V.getD (plc l) 0 else opp (V.getD (plc l) 0)) else 0
def setOk (V : List Int) (l : Int) : Bool := rightB V l && !(valL V l == 2)
def setV (V : List Int) (l : Int) : List Int := if setOk V l = true then V.set (plc l) (if 0 < l then 1 else 2) else V
def unsetV (V : List Int) (v : Int) : List Int := if 0 < v ∧ v.toNat < V.length then V.set v.toNat 0 else V
/-- Values: each not known, true or false; place 0 nobody's. -/
structure Vals (V : List Int) : Prop where
  pos : 0 < V.length
  len : V.length ≤ 4001
  zero : V.getD 0 0 = 0
  three : ∀ i, V.getD i 0 = 0 ∨ V.getD i 0 = 1 ∨ V.getD i 0 = 2

theorem getD_set (V : List Int) (m : Nat) (x : Int) (i : Nat) : (V.set m x).getD i 0 = if m = i ∧ i < V.length then x else V.getD i 0 := by
  simp only [List.getD, List.getElem?_set]
  by_cases h1 : m = i
  · subst h1
    by_cases h2 : m < V.length
    · simp [h2]
    · simp [h2]
  · simp [h1]
theorem Vals.set {V : List Int} (h : Vals V) (m : Nat) (x : Int) (h0 : m = 0 → x = 0) (hx : x = 0 ∨ x = 1 ∨ x = 2) : Vals (V.set m x) := by
  refine ⟨by simpa using h.pos, by simpa using h.len, ?_, fun i => ?_⟩
  · rw [getD_set]; split
    · rename_i hh; exact h0 hh.1
    · exact h.zero
  · rw [getD_set]; split
    · exact hx
    · exact h.three i
theorem rightB_iff (V : List Int) (l : Int) : rightB V l = true ↔ 1 ≤ plc l ∧ plc l < V.length := by unfold rightB; simp
theorem Vals.setV {V : List Int} (h : Vals V) (l : Int) : Vals (setV V l) := by
  unfold Proofs.Ytmlgpnaikdpifaa.setV
  split
  · rename_i hs
    have hr : rightB V l = true := by unfold setOk at hs; simp at hs; exact hs.1
    rw [rightB_iff] at hr
    exact h.set _ _ (fun e => by omega) (by split <;> simp)
  · exact h
theorem Vals.unsetV {V : List Int} (h : Vals V) (l : Int) : Vals (unsetV V l) := by
  unfold Proofs.Ytmlgpnaikdpifaa.unsetV
  split
  · exact h.set _ _ (fun _ => rfl) (.inl rfl)
  · exact h
theorem setV_len (V : List Int) (l : Int) : (setV V l).length = V.length := by unfold setV; split <;> simp
theorem unsetV_len (V : List Int) (l : Int) : (unsetV V l).length = V.length := by unfold unsetV; split <;> simp
theorem opp_three {x : Int} (h : x = 0 ∨ x = 1 ∨ x = 2) : opp x = 0 ∨ opp x = 1 ∨ opp x = 2 := by unfold opp; rcases h with h | h | h <;> simp [h]
theorem Vals.val {V : List Int} (h : Vals V) (l : Int) : valL V l = 0 ∨ valL V l = 1 ∨ valL V l = 2 := by
  unfold valL
  split
  · split
    · exact h.three _
    · exact opp_three (h.three _)
  · exact .inl rfl
/-- As the reference has it. -/
theorem opp_sub {x : Int} (h : x = 0 ∨ x = 1 ∨ x = 2) : opp x = if x = 0 then 0 else 3 - x := by unfold opp; rcases h with h | h | h <;> simp [h]

/-- All values of n variables unknown. -/
def newV (n : Int) : List Int := List.replicate (min (max n 0) 4000 + 1).toNat 0
theorem newV_len (n : Int) : (newV n).length = (min (max n 0) 4000 + 1).toNat := by simp [newV]
theorem newV_get (n : Int) (i : Nat) : (newV n).getD i 0 = 0 := by
  simp only [newV, List.getD, List.getElem?_replicate]
  split <;> rfl
theorem newV_vals (n : Int) : Vals (newV n) := by
  refine ⟨?_, ?_, newV_get n 0, fun i => .inl (newV_get n i)⟩
  · rw [newV_len]; omega
  · rw [newV_len]; omega
end Go.Proofs.Ytmlgpnaikdpifaa
