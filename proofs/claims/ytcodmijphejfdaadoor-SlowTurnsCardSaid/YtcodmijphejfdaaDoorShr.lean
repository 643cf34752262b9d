/- The contract of slow.shorter: an order of masks. No conditions. -/
import Derived.Test.YtcodmijphejfdaaDoorOrd0
import Derived.Test.YtcodmijphejfdaaDoorBlkM
import Derived.Sort.Grow
namespace Go.Proofs.YtcodmijphejfdaaDoor
open Go.RowKit Go.Lib Go.Sort

theorem grow_three (W : World) (A B C : Obj) : (((W.alloc A).alloc B).alloc C).drew = grow (W.drewN 1) #[A, B, C] := by
  rw [alloc_eq_grow, alloc_eq_grow, alloc_eq_grow, grow_grow, grow_grow]
  rfl

/-- How many bits both masks have, in the program's own words. -/
noncomputable def ocM (d : Nat × Nat) : Int := onesM (IntKind.u64.wrap (bits .or .i64 (d.1 : Int) (d.2 : Int)))

set_option maxRecDepth 8000 in
set_option maxHeartbeats 4000000 in
theorem shorter_any (p1 m1 p2 m2 : Nat) (W : World) :
    Calls Tryd.prog 60 #[.agg #[.int .i64 (p1 : Int), .int .i64 (m1 : Int)], .agg #[.int .i64 (p2 : Int), .int .i64 (m2 : Int)]] W fun e w' => e = .returned (.int .i64 (cfM ocM (p1, m1) (p2, m2))) ∧ ∃ q os', w' = grow (W.drewN q) os' := by
  have HO := Lib.hid (fun x w => onesM_any x w)
  have HC := Lib.hid (fun x y w => cmpI_any x y w)
  have HOR : Hid (∀ (x y z : Int) (W0 : World) (nb : Nat), nb = W0.heap.size → Calls Tryd.prog 81 #[.slice (some ⟨nb, 0, none⟩) 3 3] (W0.alloc (.cells #[.int .i64 x, .int .i64 y, .int .i64 z] 3)).drew fun e w' => e = .returned (.int .i64 (or3 x y z)) ∧ (W0.alloc (.cells #[.int .i64 x, .int .i64 y, .int .i64 z] 3)).drew = w') := fun x y z W0 nb hnb => by
    subst hnb
    obtain ⟨h0, h1, h2⟩ := cells3 W0 (W0.alloc (.cells #[.int .i64 x, .int .i64 y, .int .i64 z] 3)).drew _ _ _ _ (Below.refl _ _).drew
    rw [← orL_three]
    exact or_any (.slice (some ⟨W0.heap.size, 0, none⟩) 3 3) [x, y, z] _ ⟨_, _, rfl, Nat.le_refl _, by unfold maxLen; simp, .inr ⟨W0.heap.size, 0, rfl, by simp, fun i hi => by
      match i, hi with
      | 0, _ => exact h0
      | 1, _ => exact h1
      | 2, _ => exact h2⟩⟩
  have HO3 := Lib.hid (fun x y z => HOR.out x y z ((W.alloc (.cells #[.int .i64 (p1 : Int), .int .i64 (m1 : Int)] 104)).alloc (.cells #[.int .i64 (p2 : Int), .int .i64 (m2 : Int)] 104)) (W.heap.size + 1 + 1) (by simp))
  have HE : Hid (cfM ocM (p1, m1) (p2, m2) = or3 (compareInt (onesM (IntKind.u64.wrap (bits .or .i64 (p1 : Int) (m1 : Int)))) (onesM (IntKind.u64.wrap (bits .or .i64 (p2 : Int) (m2 : Int))))) (compareInt (p1 : Int) (p2 : Int)) (compareInt (m1 : Int) (m2 : Int))) := rfl
  rw [HE.out]
  clear HE
  go_enter Tryd.func60, Tryd.ntmps60
  go_wp2_with fail
  have HK : Hid (∀ W', Below (W.heap.size + 2) ((W.alloc (.cells #[.int .i64 (p1 : Int), .int .i64 (m1 : Int)] 104)).alloc (.cells #[.int .i64 (p2 : Int), .int .i64 (m2 : Int)] 104)) W' → W'.cell? ⟨W.heap.size, 0, none⟩ = some (.int .i64 (p1 : Int)) ∧ W'.cell? ⟨W.heap.size, 1, none⟩ = some (.int .i64 (m1 : Int)) ∧ W'.cell? ⟨W.heap.size + 1, 0, none⟩ = some (.int .i64 (p2 : Int)) ∧ W'.cell? ⟨W.heap.size + 1, 1, none⟩ = some (.int .i64 (m2 : Int))) := fun W' h => by
    have hA : Below (W.alloc (.cells #[.int .i64 (p1 : Int), .int .i64 (m1 : Int)] 104)).heap.size (W.alloc (.cells #[.int .i64 (p1 : Int), .int .i64 (m1 : Int)] 104)) W' := ((Below.refl _ _).alloc (Nat.le_refl _) _).trans (h.mono (by simp))
    have h1 := cells2 W _ _ _ _ hA
    have h2 := cells2 (W.alloc (.cells #[.int .i64 (p1 : Int), .int .i64 (m1 : Int)] 104)) W' _ _ 104 (by simpa using h)
    rw [show (W.alloc (.cells #[.int .i64 (p1 : Int), .int .i64 (m1 : Int)] 104)).heap.size = W.heap.size + 1 by simp] at h2
    exact ⟨h1.1, h1.2, h2.1, h2.2⟩
  go_region_held3 (fun W' => W'.cell? ⟨W.heap.size, 0, none⟩ = some (.int .i64 (p1 : Int)) ∧ W'.cell? ⟨W.heap.size, 1, none⟩ = some (.int .i64 (m1 : Int)) ∧ W'.cell? ⟨W.heap.size + 1, 0, none⟩ = some (.int .i64 (p2 : Int)) ∧ W'.cell? ⟨W.heap.size + 1, 1, none⟩ = some (.int .i64 (m2 : Int))) (first | exact HK.out _ (Below.refl _ _).drew | exact HK.out _ (below_drewN (Below.refl _ _) _) | exact HK.out _ ((below_drewN (Below.refl _ _) _).alloc (by simp) _) | exact HK.out _ ((Below.refl _ _).drew.alloc (by simp) _)) (first
    | (go_at_call 83; refine (HO.out _ _).mono ?_; rintro e w' ⟨rfl, rfl⟩)
    | (go_at_call 82; refine (HC.out _ _ _).mono ?_; rintro e w' ⟨rfl, rfl⟩)
    | (go_at_call 81; refine (HO3.out _ _ _).mono ?_; rintro e w' ⟨rfl, rfl⟩))
  all_goals go_wp2_with fail
  all_goals go_ret
  exact ⟨rfl, 1, _, grow_three W _ _ _⟩
end Go.Proofs.YtcodmijphejfdaaDoor
