/- Small facts on clauses that were made and told. No conditions beyond those typed. -/
import Derived.Test.YtkjaepcdhclmfaaDoorPrT
set_option linter.unusedVariables false
set_option linter.unusedSimpArgs false
namespace Go.Proofs.YtkjaepcdhclmfaaDoor
open Go.RowKit

theorem row_at {w : World} {a : Option Addr} {n c : Nat} {xs : List Int} (h : Row w (.slice a n c) xs) : n = xs.length ∧ RowAt w a c xs := by
  obtain ⟨a', c', e, h⟩ := h
  injection e with e1 e2 e3
  subst e1; subst e3
  exact ⟨e2, h⟩
/-- The clauses that were made are right ones. -/
theorem made_in {xss : List (List Int)} {m : Int} (hm : m ≤ 4000) (h : ∀ c ∈ xss, ∀ l ∈ c, l ≠ 0 ∧ isF l m = true) : ∀ c ∈ xss, InW c := fun c hc l hl => by
  have := (h c hc l hl).2
  unfold isF at this
  simp at this
  omega
theorem made_len {xss : List (List Int)} {n : Nat} (h : (xss.map List.length).sum ≤ n) : ∀ c ∈ xss, c.length ≤ n := by
  induction xss generalizing n with
  | nil => intro c hc; cases hc
  | cons x xss ih =>
    simp at h
    intro c hc
    rcases List.mem_cons.1 hc with rfl | hc
    · omega
    · exact ih (n := n) (by omega) c hc
theorem getD_memL {l : List (List Int)} {i : Nat} (h : i < l.length) : l.getD i [] ∈ l := by simp [List.getD, h]
theorem AddR.keepN {p p' : Pr} {xs : List Int} {b : Bool} (h : AddR p xs b p') : p'.n = p.n ∧ p'.st = p.st ∧ p'.tr = p.tr ∧ p'.cl.length ≤ p.cl.length + 1 := by
  rcases h with ⟨_, _, c, _, rfl⟩ | ⟨_, _, rfl⟩
  · exact ⟨rfl, rfl, rfl, by simp [addP]⟩
  · exact ⟨rfl, rfl, rfl, by omega⟩
end Go.Proofs.YtkjaepcdhclmfaaDoor
