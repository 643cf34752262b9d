/- The contract of skolemmake.Near: whether all ints of the slice are at least -2^60. Conditions: the slice reads as the list named. -/
import Derived.Test.YtcodmijphejfdaaDoorBase
import Derived.Test.YtcodmijphejfdaaDoorChecked
import Derived.Lib.Hide
namespace Go.Proofs.YtcodmijphejfdaaDoor
open Go.RowKit

def nearB (l : Int) : Bool := !decide (l < -1152921504606846976)
theorem nearB_iff (l : Int) : nearB l = true ↔ -1152921504606846976 ≤ l := by unfold nearB; simp

set_option maxHeartbeats 1000000 in
theorem near_any (v : Value) (xs : List Int) (w : World) (hv : Row w v xs) :
    Calls Tryd.prog 24 #[v] w fun e w' => e = .returned (.bool (xs.all nearB)) ∧ w = w' := by
  obtain ⟨a, c, rfl, hxc, hcm, hx⟩ := hv
  unfold maxLen at hcm
  have HX := Lib.hid hx; clear hx
  generalize hN : xs.length = n at *
  have HN := Lib.hid hN; clear hN
  go_enter Tryd.func24, Tryd.ntmps24
  go_wp2
  go_loop [3] (fun i => ∃ k : Nat, k ≤ n ∧ i = .int .i64 k ∧ Hid ((xs.take k).all nearB = true)) (fun i => n - (intOf i).toNat)
  case atStart => exact ⟨0, Nat.zero_le _, rfl, by simp [Hid]⟩
  case round =>
    obtain ⟨k, hk, rfl, HQ⟩ := hrel
    by_cases hlt : k < n
    · obtain ⟨b, off, ha, hb, hc⟩ := HX.out.resolve_left (by omega)
      subst ha
      have g1 : w.cell? ⟨b, off + k, none⟩ = some (.int .i64 (xs.getD k 0)) := hc k hlt
      clear hc
      have hkl : k < xs.length := by rw [HN.out]; exact hlt
      have HT := Lib.hid (show (xs.take (k + 1)).all nearB = ((xs.take k).all nearB && nearB (xs.getD k 0)) by rw [take_snoc xs k hkl, List.all_append]; simp)
      have HF := Lib.hid (show nearB (xs.getD k 0) = false → xs.all nearB = false from fun h => by
        rw [List.all_eq_false]
        exact ⟨xs[k], List.getElem_mem hkl, by simpa [List.getD, hkl] using h⟩)
      clear hkl
      generalize xs.getD k 0 = y at *
      by_cases hy : y < -1152921504606846976
      · go_wp2
        go_ret
        exact ⟨by rw [HF.out (by unfold nearB; simp [hy])]; rfl, rfl⟩
      · go_wp2
        go_round
        case rel => exact ⟨k + 1, by omega, by go_num, by unfold Hid; rw [HT.out, HQ.out]; unfold nearB; simp; omega⟩
        case measure => simp [intOf]; omega
    · have hkn : k = n := by omega
      have HA := Lib.hid (show xs.all nearB = true by have := HQ.out; rwa [hkn, List.take_of_length_le (by rw [HN.out]; exact Nat.le_refl _)] at this)
      clear hlt
      go_wp2
      go_ret
      exact ⟨by rw [HA.out]; rfl, rfl⟩
end Go.Proofs.YtcodmijphejfdaaDoor
