/- Contracts of the small helpers that only compute with ints: skolemworld.Number, skolemmake.Lit, lits.Var, lits.Is. Conditions: the moduli are positive and small, the ints are 64-bit ones. -/
import Derived.Test.YtmlgpnaikdpifaaBase
import Derived.Test.YtmlgpnaikdpifaaPlain
import Derived.Test.YtmlgpnaikdpifaaChecked
import Derived.IntWalk
namespace Go.Proofs.Ytmlgpnaikdpifaa
open Go.RowKit

set_option maxHeartbeats 400000 in
theorem number_any (n m : Int) (w : World) (hm : 0 < m) (hm2 : m ≤ 4000000000) (h1 : -9223372036854775808 ≤ n) (h2 : n ≤ 9223372036854775807) :
    Calls Try.prog 19 #[.int .i64 n, .int .i64 m] w fun e w' => e = .returned (.int .i64 (n % m)) ∧ w = w' := by
  have t1 := Int.tmod_lt_of_pos n hm
  have t2 : -m < n.tmod m := Int.lt_tmod_of_pos n hm
  have t3 : n.tmod m < 0 → n.tmod m + m = n % m := fun h => by
    rw [Int.emod_eq_tmod, if_neg]
    · simp; omega
    · intro h'
      rcases h' with h' | h'
      · have := Int.tmod_nonneg m h'; omega
      · rw [Int.tmod_eq_zero_of_dvd h'] at h; omega
  have t4 : ¬ n.tmod m < 0 → n.tmod m = n % m := fun h => by
    rw [Int.emod_eq_tmod, if_pos]
    · simp
    · by_cases h0 : 0 ≤ n
      · exact .inl h0
      · right
        have hneg := Int.tmod_nonneg (a := -n) m (by omega)
        rw [Int.neg_tmod] at hneg
        have h0' : n.tmod m = 0 := by omega
        exact Int.dvd_of_tmod_eq_zero h0'
  have H3 := Lib.hid t3; clear t3
  have H4 := Lib.hid t4; clear t4
  by_cases hneg : n.tmod m < 0
  · go_enter Try.func19, Try.ntmps19
    go_wp2
    go_ret
    exact ⟨ret_int (H3.out hneg), rfl⟩
  · go_enter Try.func19, Try.ntmps19
    go_wp2
    go_ret
    exact ⟨ret_int (H4.out hneg), rfl⟩

set_option maxHeartbeats 400000 in
theorem lit_any (n v : Int) (w : World) (hv : 0 < v) (hv2 : v ≤ 1000) (h1 : -9223372036854775808 ≤ n) (h2 : n ≤ 9223372036854775807) :
    Calls Try.prog 16 #[.int .i64 n, .int .i64 v] w fun e w' => e = .returned (.int .i64 (litOf n v)) ∧ w = w' := by
  have m1 := Int.emod_nonneg n (show 2 * v ≠ 0 by omega)
  have m2 := Int.emod_lt_of_pos n (show 0 < 2 * v by omega)
  have H := Lib.hid (number_any n (2 * v) w (by omega) (by omega) h1 h2)
  have HL := Lib.hid (show litOf n v = if n % (2 * v) < v then n % (2 * v) + 1 else v - n % (2 * v) - 1 from rfl)
  generalize litOf n v = r at HL ⊢
  by_cases hlt : n % (2 * v) < v
  all_goals
    generalize hk : n % (2 * v) = k at *
    have HK := Lib.hid hk; clear hk
    go_enter Try.func16, Try.ntmps16
    go_wp2_with (go_at_call 19; refine H.out.mono ?_; rintro e w' ⟨rfl, rfl⟩)
    go_ret
    exact ⟨ret_int (by rw [HL.out]; first | rw [if_pos (by omega)] | rw [if_neg (by omega)]), rfl⟩

set_option maxHeartbeats 400000 in
theorem var_any (l : Int) (w : World) (h1 : -9223372036854775807 ≤ l) (h2 : l ≤ 9223372036854775807) :
    Calls Try.prog 54 #[.int .i64 l] w fun e w' => e = .returned (.int .i64 (absI l)) ∧ w = w' := by
  unfold absI
  by_cases hlt : l < 0
  · go_enter Try.func54, Try.ntmps54
    go_wp2
    go_ret
    exact ⟨rfl, rfl⟩
  · go_enter Try.func54, Try.ntmps54
    go_wp2
    go_ret
    exact ⟨rfl, rfl⟩

set_option maxHeartbeats 400000 in
theorem is_any (l v : Int) (w : World) (h1 : -9223372036854775807 ≤ l) (h2 : l ≤ 9223372036854775807) :
    Calls Try.prog 75 #[.int .i64 l, .int .i64 v] w fun e w' => e = .returned (.bool (decide (1 ≤ absI l) && decide (absI l ≤ v))) ∧ w = w' := by
  have H := Lib.hid (var_any l w h1 h2)
  generalize absI l = a at *
  by_cases hlt : 1 ≤ a
  · go_enter Try.func75, Try.ntmps75
    go_wp2_with (go_at_call 54; refine H.out.mono ?_; rintro e w' ⟨rfl, rfl⟩)
    go_ret
    exact ⟨ret_bool (by simp [hlt]), rfl⟩
  · have hd : decide (1 ≤ a) = false := by simpa using hlt
    go_enter Try.func75, Try.ntmps75
    go_wp2_with (go_at_call 54; refine H.out.mono ?_; rintro e w' ⟨rfl, rfl⟩)
    go_ret
    exact ⟨ret_bool (by simp; omega), rfl⟩

end Go.Proofs.Ytmlgpnaikdpifaa
