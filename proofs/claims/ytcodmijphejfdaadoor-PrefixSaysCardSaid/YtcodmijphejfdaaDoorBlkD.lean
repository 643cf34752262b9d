/- Contracts of qdimacs.at and marks.add. No conditions beyond those typed. -/
import Derived.Test.YtcodmijphejfdaaDoorBlkM
import Derived.BigQuiet
namespace Go.Proofs.YtcodmijphejfdaaDoor
open Go.RowKit

theorem infoBl : (Tryd.prog.info? 4).map (fun i => (i.zero, i.size, i.bytes)) = some (some (.bool false), 1, 1) := by kernel_rfl

set_option maxHeartbeats 1000000 in
theorem qat_any (A : Nat → Addr) (k : Int) (i : Nat) (w : World) : Calls Tryd.prog 47 #[.int .i64 k, .iface 149 (.pointer (some (A i)))] w fun e w' => (∃ ev, e = .returned ev ∧ AtB A w.heap.size w' ev k i) ∧ Below w.heap.size w w' := by
  go_enter Tryd.func47, Tryd.ntmps47
  go_wp2
  go_ret
  refine ⟨⟨_, rfl, w.heap.size, Nat.le_refl _, rfl, ?_, ?_⟩, (Below.refl _ w).alloc (Nat.le_refl _) _⟩
  · rw [World.cell?_alloc_at _ _ _ _ (by simp)]; rfl
  · rw [World.cell?_alloc_at _ _ _ _ (by simp)]; rfl

def AddPost (q n : Nat) (met : List Int) (v : Int) (w : World) (e : Ending) (w' : World) : Prop :=
  e = .returned (.bool (okV ((n : Int) - 1) met v)) ∧ (∃ bits, CelG Value.bool false w' q bits ∧ MkL n (if okV ((n : Int) - 1) met v = true then met ++ [v] else met) bits) ∧ Only q w w'
set_option maxHeartbeats 1000000 in
theorem add_any (q n : Nat) (met : List Int) (bits : List Bool) (v : Int) (w : World) (hc : CelG Value.bool false w q bits) (hm : MkL n met bits) :
    Calls Tryd.prog 46 #[.slice (some ⟨q, 0, none⟩) n n, .int .i64 v] w (AddPost q n met v w) := by
  by_cases h1 : v < 1
  · have hb : decide (v < 1) = true := by simpa using h1
    have hr : okV ((n : Int) - 1) met v = false := by unfold okV; simp; omega
    unfold AddPost
    rw [hr]
    go_enter Tryd.func46, Tryd.ntmps46
    go_wp2_with fail
    go_ret
    exact ⟨rfl, ⟨bits, hc, by simpa using hm⟩, Only.refl _ _⟩
  · obtain ⟨u, rfl⟩ : ∃ u : Nat, v = u := ⟨v.toNat, by omega⟩
    have hb : decide ((u : Int) < 1) = false := by simpa using h1
    by_cases h2 : n ≤ u
    · have hb2 : decide ((n : Int) ≤ (u : Int)) = true := by simp; omega
      have hr : okV ((n : Int) - 1) met u = false := by unfold okV; simp; omega
      unfold AddPost
      rw [hr]
      go_enter Tryd.func46, Tryd.ntmps46
      go_wp2_with fail
      go_ret
      exact ⟨rfl, ⟨bits, hc, by simpa using hm⟩, Only.refl _ _⟩
    · have hb2 : decide ((n : Int) ≤ (u : Int)) = false := by simp; omega
      have hu : (u : Int) < n := by omega
      have g := hc.cells u (by rw [hm.1]; omega)
      have gf := hc.free u
      rw [hm.2 u (by omega) (by omega)] at g
      cases hk : met.contains (u : Int) with
      | true =>
        rw [hk] at g
        have hr : okV ((n : Int) - 1) met u = false := by unfold okV; rw [hk]; simp
        unfold AddPost
        rw [hr]
        clear hk hr
        go_enter Tryd.func46, Tryd.ntmps46
        go_wp2_with fail
        go_ret
        exact ⟨rfl, ⟨bits, hc, by simpa using hm⟩, Only.refl _ _⟩
      | false =>
        rw [hk] at g
        have hr : okV ((n : Int) - 1) met u = true := by unfold okV; rw [hk]; simp; omega
        unfold AddPost
        rw [hr]
        have HC := Lib.hid (hc.set u true)
        have HM := Lib.hid (hm.add u (by omega))
        clear hk hr hc hm
        go_enter Tryd.func46, Tryd.ntmps46
        go_wp2_with fail
        go_ret
        exact ⟨rfl, ⟨_, HC.out, HM.out⟩, Only.setCell _ _ _ _⟩
end Go.Proofs.YtcodmijphejfdaaDoor
