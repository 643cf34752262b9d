/- Contracts of the small helpers that only compute with ints: skolemworld.Number, skolemmake.Lit, lits.Var, lits.Is. Conditions: the moduli are positive and small, the ints are 64-bit ones. -/
import Derived.Test.YtnhmeojcjnkebaaBase
import Derived.Test.YtnhmeojcjnkebaaPlain
import Derived.Test.YtnhmeojcjnkebaaChecked
import Derived.IntWalk
namespace Go.Proofs.Ytnhmeojcjnkebaa
open Go.RowKit

set_option maxHeartbeats 400000 in
theorem number_any (n m : Int) (w : World) (hm : 0 < m) (hm2 : m ≤ 4000000000) (h1 : -9223372036854775808 ≤ n) (h2 : n ≤ 9223372036854775807) :
    Calls Try.prog 6 #[.int .i64 n, .int .i64 m] w fun e w' => e = .returned (.int .i64 (n % m)) ∧ w = w' := by
  have t1 := Int.tmod_lt_of_pos n hm
  have t2 : -m < n.tmod m := Int.lt_tmod_of_pos n hm
  have t3 : n.tmod m < 0 → n.tmod m + m = n % m := fun h => by
    rw [Int.emod_eq_tmod, if_neg]
    · simp; omega
    · intro h'
      rcases h' with h' | h'
      · have := Int.tmod_nonneg m h'; omega
      · rw [Int.tmod_eq_zero_of_dvd h'] at h; omega
  have t4 : ¬ n.tmod m < 0 → n.tmod m = n % m := fun h => by
    rw [Int.emod_eq_tmod, if_pos]
    · simp
    · by_cases h0 : 0 ≤ n
      · exact .inl h0
      · right
        have hneg := Int.tmod_nonneg (a := -n) m (by omega)
        rw [Int.neg_tmod] at hneg
        have h0' : n.tmod m = 0 := by omega
        exact Int.dvd_of_tmod_eq_zero h0'
  have H3 := Lib.hid t3; clear t3
  have H4 := Lib.hid t4; clear t4
  by_cases hneg : n.tmod m < 0
  · go_enter Try.func6, Try.ntmps6
    go_wp2
    go_ret
    exact ⟨ret_int (H3.out hneg), rfl⟩
  · go_enter Try.func6, Try.ntmps6
    go_wp2
    go_ret
    exact ⟨ret_int (H4.out hneg), rfl⟩

end Go.Proofs.Ytnhmeojcjnkebaa
