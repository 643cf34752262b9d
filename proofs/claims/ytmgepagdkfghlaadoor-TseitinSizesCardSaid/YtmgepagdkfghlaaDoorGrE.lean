/- The contracts of graph's And and Input: what 'andG', 'inG' say. Conditions: the graph lies in memory as 'GrM' says; the two errors lie as 'Sents2' says; the numbers are 64-bit ints. -/
import Derived.Test.YtmgepagdkfghlaaDoorGrD
namespace Go.Proofs.YtmgepagdkfghlaaDoor
open Go.RowKit Go.Maps

/-- What a call on a graph leaves. -/
def GrPost (w : World) (A : Nat → Addr) (v : Value) (S : List Nat) (r : Gr × Int) (e : Ending) (w' : World) : Prop :=
  e = .returned (.int .i64 r.2) ∧ (∃ S', GrM w' A v S' r.1 ∧ Fresh w S S') ∧ Chg S w w'
theorem Sents2.chg {w w' : World} {A : Nat → Addr} {S : List Nat} {B : Nat} (h : Sents2 w A) (hb : ∀ g ∈ [(1 : Nat), 0], g < B) (hS : ∀ i ∈ S, B ≤ i) (hc : Chg S w w') : Sents2 w' A := by
  have k : ∀ g v, g < B → w.cell? ⟨g, 0, none⟩ = some v → w'.cell? ⟨g, 0, none⟩ = some v := fun g v hg e => (hc.cell (World.block_lt_of_cell? w _ e) (fun hm => absurd hg (Nat.not_lt.2 (hS g hm)))).trans e
  exact ⟨k _ _ (hb _ (by simp)) h.c1, k _ _ (hb _ (by simp)) h.c3⟩

theorem zeroJ (w : World) : (zeroValue 3).run Tryd.prog w = .ok (.int .i64 0) w := by kernel_rfl
theorem GrPost.of {w w' : World} {A : Nat → Addr} {v : Value} {S : List Nat} {g : Gr} {z : Int} (q : Nat) (h : GrM w A v S g) (hw : w' = w.drewN q) : GrPost w A v S (g, z) (.returned (.int .i64 z)) w' := by
  subst hw
  exact ⟨rfl, ⟨S, h.below (below_drewN (Below.refl _ _) q), Fresh.refl _ _⟩, chg_drewN _ _⟩

end Go.Proofs.YtmgepagdkfghlaaDoor
