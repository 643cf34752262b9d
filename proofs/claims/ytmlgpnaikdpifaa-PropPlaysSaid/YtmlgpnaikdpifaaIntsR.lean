/- The contract of skolemref.Ints: a copy in memory of the call's own. Conditions: the slice reads as ints, and is not too long. -/
import Derived.Test.YtmlgpnaikdpifaaOwn
import Derived.Test.YtmlgpnaikdpifaaChecked
import Derived.IntWalk
namespace Go.Proofs.Ytmlgpnaikdpifaa
open Go.RowKit

set_option maxHeartbeats 1000000 in
theorem ints_any (v : Value) (xs : List Int) (w : World) (hv : Row w v xs) (hn : xs.length < 1000000000) :
    Calls Try.prog 21 #[v] w fun e w' => ∃ v', e = .returned v' ∧ w'.ownsRow w.heap.size 3 1 v' xs.length (xs.map (Value.int .i64)) ∧ Below w.heap.size w w' := by
  obtain ⟨a, c, rfl, hxc, hcm, hx⟩ := hv
  unfold maxLen at hcm
  have HX := Lib.hid hx; clear hx
  generalize hN : xs.length = n at *
  have HN := Lib.hid hN; clear hN
  go_enter Try.func21, Try.ntmps21
  go_wp2_with (at_make; refine wpList_make0 rfl _ _ rfl _ n rfl rfl (by omega) ?_; intro w1 hown hb1 hs1)
  go_loopw [3, 4] (fun o i wr => ∃ k : Nat, k ≤ n ∧ i = .int .i64 k ∧ wr.ownsRow w.heap.size 3 1 o k ((xs.take k).map (Value.int .i64)) ∧ Below w.heap.size w wr ∧ w.heap.size < wr.heap.size) (fun _ i _ => n - (intOf i).toNat)
  case atStart => exact ⟨0, Nat.zero_le _, rfl, by simpa using hown, hb1, hs1⟩
  case round =>
    obtain ⟨k, hk, rfl, hownr, hbr, hsr⟩ := hrel
    clear hown hb1 hs1
    by_cases hlt : k < n
    · obtain ⟨b, off, ha, hb, hc⟩ := HX.out.resolve_left (by omega)
      subst ha
      have g1 : wr.cell? ⟨b, off + k, none⟩ = some (.int .i64 (xs.getD k 0)) := (hbr.cell (p := ⟨b, off + k, none⟩) hb).trans (hc k hlt)
      clear hc
      have HT := Lib.hid (take_snoc xs k (by rw [HN.out]; exact hlt))
      generalize xs.getD k 0 = y at *
      go_wp2_with (at_builtin; refine wpList_app1 rfl _ _ rfl wr w.heap.size _ _ _ y hownr (by omega) (by omega) rfl rfl ?_; intro v' w2 hown2 hb3)
      go_roundw
      case rel => exact ⟨k + 1, by omega, by go_num, by rw [HT.out]; exact hown2, hbr.trans hb3.below, Nat.lt_of_lt_of_le hsr hb3.below.size⟩
      case measure => simp [intOf]; omega
    · have hkn : k = n := by omega
      rw [hkn, List.take_of_length_le (by rw [HN.out]; exact Nat.le_refl _)] at hownr
      clear hkn
      go_wp2
      go_ret
      exact ⟨_, rfl, hownr, hbr⟩
end Go.Proofs.Ytmlgpnaikdpifaa
