/- Contracts of the small helpers that only compute with ints: skolemworld.Number, skolemmake.Lit, lits.Var, lits.Is. Conditions: the moduli are positive and small, the ints are 64-bit ones. -/
import Derived.Test.YtcndkdlpicffpaaDoorBase
import Derived.Test.YtcndkdlpicffpaaDoorPlain
import Derived.Test.YtcndkdlpicffpaaDoorChecked
import Derived.IntWalk
namespace Go.Proofs.YtcndkdlpicffpaaDoor
open Go.RowKit

set_option maxHeartbeats 400000 in
theorem var_any (l : Int) (w : World) (h1 : -9223372036854775807 ≤ l) (h2 : l ≤ 9223372036854775807) :
    Calls Tryd.prog 13 #[.int .i64 l] w fun e w' => e = .returned (.int .i64 (absI l)) ∧ w = w' := by
  unfold absI
  by_cases hlt : l < 0
  · go_enter Tryd.func13, Tryd.ntmps13
    go_wp2
    go_ret
    exact ⟨rfl, rfl⟩
  · go_enter Tryd.func13, Tryd.ntmps13
    go_wp2
    go_ret
    exact ⟨rfl, rfl⟩

set_option maxHeartbeats 400000 in
theorem is_any (l v : Int) (w : World) (h1 : -9223372036854775807 ≤ l) (h2 : l ≤ 9223372036854775807) :
    Calls Tryd.prog 15 #[.int .i64 l, .int .i64 v] w fun e w' => e = .returned (.bool (decide (1 ≤ absI l) && decide (absI l ≤ v))) ∧ w = w' := by
  have H := Lib.hid (var_any l w h1 h2)
  generalize absI l = a at *
  by_cases hlt : 1 ≤ a
  · go_enter Tryd.func15, Tryd.ntmps15
    go_wp2_with (go_at_call 13; refine H.out.mono ?_; rintro e w' ⟨rfl, rfl⟩)
    go_ret
    exact ⟨ret_bool (by simp [hlt]), rfl⟩
  · have hd : decide (1 ≤ a) = false := by simpa using hlt
    go_enter Tryd.func15, Tryd.ntmps15
    go_wp2_with (go_at_call 13; refine H.out.mono ?_; rintro e w' ⟨rfl, rfl⟩)
    go_ret
    exact ⟨ret_bool (by simp; omega), rfl⟩

end Go.Proofs.YtcndkdlpicffpaaDoor
