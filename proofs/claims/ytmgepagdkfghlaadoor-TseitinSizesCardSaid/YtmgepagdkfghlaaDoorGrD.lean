/- The contract of graph's add: a new gate. Conditions: the graph lies in memory as 'GrM' says; the gate is not there yet; there is room. -/
import Derived.Test.YtmgepagdkfghlaaDoorGrC
import Derived.Deep.RegionLaw
import Derived.Deep.AppendLies
import Derived.Deep.RegionHeld3
import Derived.WalkSmall
import Derived.Deep.Draws
namespace Go.Proofs.YtmgepagdkfghlaaDoor
open Go.RowKit Go.Maps

theorem infoA : (Tryd.prog.info? 59).map (fun i => (i.zero, i.size, i.bytes)) = some (some (.agg #[.int .i64 0, .int .i64 0]), 2, 16) := by kernel_rfl
theorem add0 (g k : Nat) : (⟨g, 0, none⟩ : Addr).add k = ⟨g, k, none⟩ := by unfold Addr.add; split <;> simp_all

theorem chg_drewN {S : List Nat} (w : World) (k : Nat) : Chg S w (w.drewN k) := Chg.of_below (below_drewN (Below.refl _ _) k)
/-- Behind the store of the new row: what the rest of add asks. -/
def AddCells (W : World) (B gn p m ga g1 cap : Nat) (x y : Int) : Prop :=
  W.cell? ⟨p, 0, none⟩ = some (.int .i64 (gn : Int)) ∧ W.cell? ⟨p, 1, none⟩ = some (.slice (some ⟨g1, 0, none⟩) (ga + 1) cap) ∧ W.cell? ⟨p, 2, none⟩ = some (.map (some m)) ∧ W.cell? ⟨B, 0, none⟩ = some (.int .i64 x) ∧ W.cell? ⟨B, 1, none⟩ = some (.int .i64 y)
theorem AddCells.chg {W W' : World} {B gn p m ga g1 cap : Nat} {x y : Int} {S : List Nat} (h : AddCells W B gn p m ga g1 cap x y) (hc : Chg S W W') (hp : p ∉ S) (hB : B ∉ S) : AddCells W' B gn p m ga g1 cap x y := by
  obtain ⟨h0, h1, h2, h3, h4⟩ := h
  have kp : p < W.heap.size := World.block_lt_of_cell? W _ h0
  have kB : B < W.heap.size := World.block_lt_of_cell? W _ h3
  exact ⟨(hc.cell kp hp).trans h0, (hc.cell kp hp).trans h1, (hc.cell kp hp).trans h2, (hc.cell kB hB).trans h3, (hc.cell kB hB).trans h4⟩

end Go.Proofs.YtmgepagdkfghlaaDoor
