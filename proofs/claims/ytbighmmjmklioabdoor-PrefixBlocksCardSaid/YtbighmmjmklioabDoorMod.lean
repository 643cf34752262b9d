/- The contract of skolemworld.Number; appends of a string onto a row of bytes that is the call's own, or the bytes of a constant. Conditions: those typed. -/
import Derived.Test.YtbighmmjmklioabDoorSmall
namespace Go.Proofs.YtbighmmjmklioabDoor
open Go.RowKit

/-- n, brought between 0 and k. -/
def modN (n : Int) (k : Nat) : Nat := (n % (k : Int)).toNat
theorem modN_lt (n : Int) {k : Nat} (h : 0 < k) : modN n k < k := by
  unfold modN
  have h1 := Int.emod_nonneg n (show (k : Int) ≠ 0 by omega)
  have h2 := Int.emod_lt_of_pos n (show (0 : Int) < k by omega)
  omega

set_option maxHeartbeats 1000000 in
theorem modNum_any (n : Int) (k : Nat) (hk : 0 < k) (hk2 : k ≤ 1000) (w : World) :
    Calls Tryd.prog 18 #[.int .i64 n, .int .i64 (k : Int)] w fun e w' => e = .returned (.int .i64 (modN n k : Int)) ∧ w = w' := by
  have hkz : ((k : Int) == 0) = false := beq_eq_false_iff_ne.2 (by omega)
  have e0 : ((modN n k : Nat) : Int) = n % (k : Int) := by
    unfold modN
    have := Int.emod_nonneg n (show (k : Int) ≠ 0 by omega)
    omega
  rw [e0]
  have t1 := Int.emod_nonneg n (show (k : Int) ≠ 0 by omega)
  have t2 := Int.emod_lt_of_pos n (show (0 : Int) < k by omega)
  clear e0
  have hlt : n.tmod (k : Int) < k := Int.tmod_lt_of_pos n (by omega)
  have hgt : -(k : Int) < n.tmod (k : Int) := by
    have := Int.tmod_lt_of_pos (-n) (show (0 : Int) < k by omega)
    rw [Int.neg_tmod] at this
    omega
  have hk3 : (k : Int) ≤ 1000 := by omega
  have hk4 : (0 : Int) < k := by omega
  by_cases hneg : n.tmod (k : Int) < 0
  · have hb : decide (n.tmod (k : Int) < 0) = true := decide_eq_true hneg
    have he : n.tmod (k : Int) + k = n % (k : Int) := by
      rw [Int.tmod_eq_emod]
      rw [Int.tmod_eq_emod] at hneg
      split at hneg
      · omega
      · rename_i h
        rw [if_neg h]
        have : ((k : Int).natAbs : Int) = k := by omega
        omega
    rw [← he]
    clear he t1 t2
    go_enter Tryd.func18, Tryd.ntmps18
    go_wp2_with fail
    (try go_ret)
    exact ⟨rfl, rfl⟩
  · have hb : decide (n.tmod (k : Int) < 0) = false := decide_eq_false hneg
    have he : n.tmod (k : Int) = n % (k : Int) := by
      rw [Int.tmod_eq_emod]
      rw [Int.tmod_eq_emod] at hneg
      split at hneg
      · rename_i h
        rw [if_pos h]; omega
      · exfalso
        have : ((k : Int).natAbs : Int) = k := by omega
        omega
    rw [← he]
    clear he t1 t2
    go_enter Tryd.func18, Tryd.ntmps18
    go_wp2_with fail
    (try go_ret)
    exact ⟨rfl, rfl⟩
end Go.Proofs.YtbighmmjmklioabDoor
