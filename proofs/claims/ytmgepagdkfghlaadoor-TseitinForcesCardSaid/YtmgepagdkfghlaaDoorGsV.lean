/- Contracts of skolemmake.Values (Booleans, that many) and skolemlaw9.is. Conditions: few values; the literal is one of the inputs' or a constant. -/
import Derived.Test.YtmgepagdkfghlaaDoorEvl
namespace Go.Proofs.YtmgepagdkfghlaaDoor
open Go.RowKit

set_option maxRecDepth 8000 in
set_option maxHeartbeats 2000000 in
theorem values_any (n : Int) (m : Nat) (w : World) (_hn1 : -9223372036854775808 ≤ n) (_hn2 : n ≤ 9223372036854775807) (hm : m ≤ 59) :
    Calls Tryd.prog 14 #[.int .i64 n, .int .i64 (m : Int)] w fun e w' => ∃ (z : Value) (xs : List Bool), e = .returned z ∧ w'.ownsRow w.heap.size 4 1 z m (xs.map Value.bool) ∧ Below w.heap.size w w' := by
  go_enter Tryd.func14, Tryd.ntmps14
  go_wp2_with fail
  go_loopw [6, 5] (fun i u wr => ∃ (k : Nat) (xs : List Bool), k ≤ m ∧ i = .int .i64 k ∧ wr.ownsRow w.heap.size 4 1 u k (xs.map Value.bool) ∧ Below w.heap.size w wr) (fun i _ _ => m - (intOf i).toNat)
  case atStart => exact ⟨0, [], Nat.zero_le _, rfl, World.ownsRow_nil _ _ _ _, Below.refl _ _⟩
  case round =>
    obtain ⟨k, xs, hk, rfl, hown, hbr⟩ := hrel
    obtain ⟨ab, cb, rfl, _, hcb⟩ := own_shape hown
    unfold maxLen at hcb
    by_cases hlt : k < m
    · have hsz := hbr.size
      have HBQ := Lib.hid hbr
      clear hbr
      go_wp2_with (at_builtin; refine wpList_app1G Value.bool 40 4 (.bool false) 1 Tryd.underlying40 infoBool9 rfl (by decide) rfl _ _ rfl wr w.heap.size _ k xs _ rfl hown hsz (by omega) rfl rfl ?_; intro u' w5 hown5 hap5)
      go_roundw
      case rel => exact ⟨k + 1, _, by omega, by go_num, hown5, HBQ.out.trans hap5.below⟩
      case measure => simp [intOf]; omega
    · have hkm : m = k := by omega
      subst hkm
      go_wp2_with fail
      go_ret
      exact ⟨_, _, rfl, hown, hbr⟩

end Go.Proofs.YtmgepagdkfghlaaDoor
