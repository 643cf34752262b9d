/- From the way in which an argument is handed over (a row of ints in memory) to 'RowAt'. No conditions beyond those typed. -/
import Derived.Test.YtnhmeojcjnkebaaBase
import Derived.OpenShut
namespace Go.Proofs.Ytnhmeojcjnkebaa
open Go.RowKit

theorem rowOf {w : World} {a : Option Addr} {len cap : Nat} {zs : List Int}
    (h : (a = none ∧ len = 0 ∧ cap = 0 ∧ zs = []) ∨ ∃ x, a = some x ∧ len ≤ cap ∧ cap ≤ maxLen ∧ zs.length = cap ∧ (∀ i, i < zs.length → w.cell? (x.add i) = some (.int .i64 (zs.getD i 0))) ∧ ∀ n ∈ zs, (Lit.int .i64 n).wf = true) :
    ∃ xs : List Int, xs.length = len ∧ RowAt w a cap xs ∧ ∀ y ∈ xs, -9223372036854775808 ≤ y ∧ y ≤ 9223372036854775807 := by
  rcases h with ⟨rfl, rfl, rfl, rfl⟩ | ⟨x, rfl, hl, hm, hz, hc, hw⟩
  · exact ⟨[], rfl, ⟨by simp, by unfold maxLen; omega, .inl rfl⟩, by simp⟩
  · refine ⟨zs.take len, by simp; omega, ⟨by simp; omega, hm, ?_⟩, fun y hy => bounds_i64 (hw y (List.mem_of_mem_take hy))⟩
    by_cases h0 : len = 0
    · left; simp [h0]
    · right
      obtain ⟨b, off, spot⟩ := x
      have h1 := hc 0 (by omega)
      have hs : spot = none := by simpa [Addr.add] using World.cell?_spot h1
      subst hs
      refine ⟨b, off, rfl, World.block_lt_of_cell? w _ h1, fun i hi => ?_⟩
      have hi' : i < len := by simp at hi; omega
      have h2 := hc i (by omega)
      have he : (⟨b, off, none⟩ : Addr).add i = ⟨b, off + i, none⟩ := by
        by_cases e : i = 0
        · subst e; rfl
        · simp [Addr.add, e]
      rw [he] at h2
      rw [h2]
      simp [List.getD, hi']
end Go.Proofs.Ytnhmeojcjnkebaa
