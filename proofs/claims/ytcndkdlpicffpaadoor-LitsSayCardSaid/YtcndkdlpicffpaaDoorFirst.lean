/- The contract of the law's own helper 'first': the chapter's examples hold. No conditions. -/
import Derived.Test.YtcndkdlpicffpaaDoorNorm
import Derived.Test.YtcndkdlpicffpaaDoorNormQ
namespace Go.Proofs.YtcndkdlpicffpaaDoor
open Go.RowKit

theorem norm_example : normL [2, -1, 2] = [-1, 2] := norm_eq _ _ (by simp [ltP, vw, wrap64]) (by intro x; simp; omega)
theorem says_example : normSays [-1, 2] = true := by decide +kernel

set_option maxHeartbeats 1000000 in
theorem first_any (w : World) : Calls Tryd.prog 5 #[] w fun e w' => e = .returned (.bool true) ∧ Below w.heap.size w w' := by
  have hN : ∀ W : World, (∃ o, W = w.alloc o) → W.cell? ⟨w.heap.size, 0, none⟩ = some (.int .i64 2) → W.cell? ⟨w.heap.size, 1, none⟩ = some (.int .i64 (-1)) → W.cell? ⟨w.heap.size, 2, none⟩ = some (.int .i64 2) →
      Calls Tryd.prog 9 #[.slice (some ⟨w.heap.size, 0, none⟩) 3 3] W fun e w' => ∃ g c, e = .returned (.tuple #[.slice (some ⟨g, 0, none⟩) 2 c, .bool true]) ∧ Below w.heap.size w w' ∧ w'.cell? ⟨g, 0, none⟩ = some (.int .i64 (-1)) ∧ w'.cell? ⟨g, 1, none⟩ = some (.int .i64 2) := by
    rintro W ⟨o, hW⟩ h0 h1 h2
    have hlt : w.heap.size < W.heap.size := by rw [hW]; simp
    have hR : Row W (.slice (some ⟨w.heap.size, 0, none⟩) 3 3) [2, -1, 2] := by
      refine ⟨_, _, rfl, by simp, by unfold maxLen; omega, .inr ⟨_, _, rfl, hlt, ?_⟩⟩
      intro i hi
      match i, hi with
      | 0, _ => exact h0
      | 1, _ => exact h1
      | 2, _ => exact h2
    refine (norm_any _ [2, -1, 2] W hR (by intro x hx; simp at hx; omega) (by simp)).mono ?_
    rintro e w' ⟨v', rfl, hb, hown⟩
    rw [norm_example] at hown ⊢
    rw [says_example]
    obtain ⟨g, c, rfl, _⟩ := own_some hown (by simp)
    refine ⟨g, c, rfl, ?_, ?_, ?_⟩
    · rw [hW] at hb
      exact ((Below.refl _ w).alloc (Nat.le_refl _) o).trans (hb.mono (by simp))
    · rw [hown.cellAt 0 (by simp)]; rfl
    · rw [hown.cellAt 1 (by simp)]; rfl
  have HN := Lib.hid hN; clear hN
  go_enter Tryd.func5, Tryd.ntmps5
  go_wp2_with fail
  refine (HN.out _ ⟨_, rfl⟩ (by rw [World.cell?_alloc_at _ _ _ _ rfl]; rfl) (by rw [World.cell?_alloc_at _ _ _ _ rfl]; rfl) (by rw [World.cell?_alloc_at _ _ _ _ rfl]; rfl)).mono ?_
  rintro e w1 ⟨g, c, rfl, hb, h0, h1⟩
  go_wp2_with fail
  go_ret
  exact ⟨rfl, hb⟩
end Go.Proofs.YtcndkdlpicffpaaDoor
