/- Contracts of skolemmake.Values (Booleans, that many) and skolemlaw9.is. Conditions: few values; the literal is one of the inputs' or a constant. -/
import Derived.Test.YtbighmmjmklioaaDoorEvl
namespace Go.Proofs.YtbighmmjmklioaaDoor
open Go.RowKit

set_option maxRecDepth 8000 in
set_option maxHeartbeats 2000000 in
theorem values_any (n : Int) (m : Nat) (w : World) (_hn1 : -9223372036854775808 ≤ n) (_hn2 : n ≤ 9223372036854775807) (hm : m ≤ 59) :
    Calls Tryd.prog 31 #[.int .i64 n, .int .i64 (m : Int)] w fun e w' => ∃ (z : Value) (xs : List Bool), e = .returned z ∧ w'.ownsRow w.heap.size 4 1 z m (xs.map Value.bool) ∧ Below w.heap.size w w' := by
  go_enter Tryd.func31, Tryd.ntmps31
  go_wp2_with fail
  go_loopw [6, 5] (fun i u wr => ∃ (k : Nat) (xs : List Bool), k ≤ m ∧ i = .int .i64 k ∧ wr.ownsRow w.heap.size 4 1 u k (xs.map Value.bool) ∧ Below w.heap.size w wr) (fun i _ _ => m - (intOf i).toNat)
  case atStart => exact ⟨0, [], Nat.zero_le _, rfl, World.ownsRow_nil _ _ _ _, Below.refl _ _⟩
  case round =>
    obtain ⟨k, xs, hk, rfl, hown, hbr⟩ := hrel
    obtain ⟨ab, cb, rfl, _, hcb⟩ := own_shape hown
    unfold maxLen at hcb
    by_cases hlt : k < m
    · have hsz := hbr.size
      have HBQ := Lib.hid hbr
      clear hbr
      go_wp2_with (at_builtin; refine wpList_app1G Value.bool 51 4 (.bool false) 1 Tryd.underlying51 infoBool9 rfl (by decide) rfl _ _ rfl wr w.heap.size _ k xs _ rfl hown hsz (by omega) rfl rfl ?_; intro u' w5 hown5 hap5)
      go_roundw
      case rel => exact ⟨k + 1, _, by omega, by go_num, hown5, HBQ.out.trans hap5.below⟩
      case measure => simp [intOf]; omega
    · have hkm : m = k := by omega
      subst hkm
      go_wp2_with fail
      go_ret
      exact ⟨_, _, rfl, hown, hbr⟩

set_option maxRecDepth 8000 in
set_option maxHeartbeats 1000000 in
theorem is9_any (v : Value) (xs : List Bool) (l : Int) (w : World) (hv : BRow w v xs) (h0 : 0 ≤ l) (h1 : l < 4611686018427387904) (h2 : l / 2 ≤ (xs.length : Int)) :
    Calls Tryd.prog 32 #[v, .int .i64 l] w fun e w' => e = .returned (.bool (worthV (inV xs.length xs) l)) ∧ w = w' := by
  obtain ⟨a, c, rfl, hxc, hcm, hx⟩ := hv
  unfold maxLen at hcm
  obtain ⟨k, hk⟩ : ∃ k : Nat, l / 2 = (k : Int) := ⟨(l / 2).toNat, by omega⟩
  have hkl : k ≤ xs.length := by omega
  have HW : Hid (worthV (inV xs.length xs) l = ((inV xs.length xs).getD k false != oddB l)) := by unfold Hid worthV; rw [hk, show ((k : Int)).toNat = k by omega]
  by_cases hk0 : k = 0
  · subst hk0
    have HV := Lib.hid (odd_val false l h0 h1)
    have hz : (inV xs.length xs).getD 0 false = false := rfl
    rw [hz] at HW
    rw [← HW.out] at HV
    generalize worthV (inV xs.length xs) l = r at *
    clear hx hz HW
    generalize xs.length = n at *
    go_enter Tryd.func32, Tryd.ntmps32
    go_wp2_with fail
    go_ret
    exact ⟨ret_bool (by first | exact HV.out | (have := HV.out; simpa using this)), rfl⟩
  · obtain ⟨j, rfl⟩ : ∃ j, k = j + 1 := ⟨k - 1, by omega⟩
    have hz : (inV xs.length xs).getD (j + 1) false = xs.getD j false := by
      simp [inV, List.getD, show j < xs.length by omega]
    rw [hz] at HW
    have HV := Lib.hid (odd_val (xs.getD j false) l h0 h1)
    rw [← HW.out] at HV
    obtain ⟨b, off, ha, hbl, hc⟩ := hx.resolve_left (by omega)
    subst ha
    have y0 := hc j (by omega)
    generalize worthV (inV xs.length xs) l = r at *
    clear hc hx hz HW hk0
    generalize xs.getD j false = x at *
    generalize xs.length = n at *
    have hk2 : l / 2 = (j : Int) + 1 := by omega
    have hj0 : decide ((0 : Int) < (j : Int) + 1) = true := decide_eq_true (by omega)
    clear hk
    go_enter Tryd.func32, Tryd.ntmps32
    go_wp2_with fail
    go_ret
    exact ⟨ret_bool HV.out, rfl⟩
end Go.Proofs.YtbighmmjmklioaaDoor
