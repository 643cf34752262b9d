/- The contract of skolemref.SameBools at what reads alike: true; small facts on worlds. Conditions: those typed. -/
import Derived.Test.YtmgepagdkfghlaaDoorEvl
namespace Go.Proofs.YtmgepagdkfghlaaDoor
open Go.RowKit

theorem bb_step {w0 W W' : World} (h : Below w0.heap.size w0 W) (hb : Below W.heap.size W W') : Below w0.heap.size w0 W' := h.trans (hb.mono h.size)

set_option maxRecDepth 8000 in
set_option maxHeartbeats 2000000 in
theorem sameBools_yes (v u : Value) (xs : List Bool) (w : World) (hv : BRow w v xs) (hu : BRow w u xs) :
    Calls Tryd.prog 18 #[v, u] w fun e w' => e = .returned (.bool true) ∧ Below w.heap.size w w' := by
  obtain ⟨a, c, rfl, hxc, hcm, hx⟩ := hv
  obtain ⟨a', c', rfl, hyc, hcm', hy⟩ := hu
  unfold maxLen at hcm hcm'
  have HX := Lib.hid hx; clear hx
  have HY := Lib.hid hy; clear hy
  have hne : ((xs.length : Int) != (xs.length : Int)) = false := by simp
  generalize hn : xs.length = n at *
  have HN := Lib.hid hn; clear hn
  go_enter Tryd.func18, Tryd.ntmps18
  go_wp2_with fail
  go_loopw [5, 6] (fun i _ wr => ∃ k q : Nat, k ≤ n ∧ i = .int .i64 k ∧ wr = w.drewN q) (fun i _ _ => n - (intOf i).toNat)
  case atStart => exact ⟨0, 0, Nat.zero_le _, rfl, rfl⟩
  case round =>
    obtain ⟨k, q, hk, rfl, rfl⟩ := hrel
    by_cases hlt : k < n
    · obtain ⟨b, off, ha, hb, hx⟩ := HX.out.resolve_left (by omega)
      obtain ⟨b', off', ha', hb', hy⟩ := HY.out.resolve_left (by omega)
      subst ha; subst ha'
      have x0 := hx k hlt
      have y0 := hy k hlt
      clear hx hy
      generalize xs.getD k false = p0 at *
      go_wp2_with fail
      try go_quiet (fail)
      go_wp2_with fail
      go_roundw
      case rel => exact ⟨k + 1, _, by omega, by go_num, rfl⟩
      case measure => simp [intOf]; omega
    · have hkn : k = n := by omega
      subst hkn
      go_wp2_with fail
      go_ret
      exact ⟨rfl, below_drewN (Below.refl _ _) _⟩
end Go.Proofs.YtmgepagdkfghlaaDoor
