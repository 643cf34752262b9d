/- The contract of graph.Build of a right circuit: the graph and the outputs that 'buildB', 'outsB' say; of one that is not: Check's error. Conditions: as GrK's. -/
import Derived.Test.YtmgepagdkfghlaaDoorGrK
import Derived.Test.YtmgepagdkfghlaaDoorBst
import Derived.Deep.RegionHeld3
namespace Go.Proofs.YtmgepagdkfghlaaDoor
open Go.RowKit

def BuildPost (G : Value → World → List Nat → Gr → Prop) (w : World) (gr : Gr) (os : List Int) (mk : Value → Value → Value) (e : Ending) (w' : World) : Prop :=
  (∃ v o S, e = .returned (mk v o) ∧ G v w' S gr ∧ (∀ i ∈ S, w.heap.size ≤ i) ∧ w'.ownsRow w.heap.size 3 1 o os.length (os.map (Value.int .i64))) ∧ Below w.heap.size w w'
theorem check_zero8 {N : Nat} {ps : List (Int × Int)} {os : List Int} (h : checkC (N : Int) ps os = 0) : N + ps.length ≤ 8000 ∧ (∀ k, k < ps.length → okP N k (ps.getD k (0, 0)) = true) ∧ ∀ k, k < os.length → okO (N + ps.length) (os.getD k 0) = true := by
  unfold checkC at h
  by_cases h1 : (N : Int) < 0 ∨ 8000 < (N : Int) + (ps.length : Int)
  · rw [if_pos h1] at h; omega
  · rw [if_neg h1] at h
    by_cases h2 : rightC (N : Int).toNat ps os = true
    · rw [show ((N : Int)).toNat = N by omega] at h2
      unfold rightC at h2
      rw [Bool.and_eq_true] at h2
      refine ⟨by omega, (okA_iff N ps).1 h2.1, fun k hk => ?_⟩
      exact List.all_eq_true.1 h2.2 _ (by simp [List.getD, hk])
    · rw [if_neg h2] at h; omega

end Go.Proofs.YtmgepagdkfghlaaDoor
