/- Contracts of the document's own small helpers: skolemref.Abs, skolemref1.Is, before, Rename. Conditions: the literals are 64-bit ints above the least, the lists are short. -/
import Derived.Test.YtcodmijphejfdaaDoorRename
import Derived.Test.YtcodmijphejfdaaDoorCheckP
namespace Go.Proofs.YtcodmijphejfdaaDoor
open Go.RowKit

set_option maxHeartbeats 400000 in
theorem abs_any (l : Int) (w : World) (h1 : -9223372036854775807 ≤ l) (h2 : l ≤ 9223372036854775807) :
    Calls Tryd.prog 36 #[.int .i64 l] w fun e w' => e = .returned (.int .i64 (absI l)) ∧ w = w' := by
  unfold absI
  by_cases hlt : l < 0
  · go_enter Tryd.func36, Tryd.ntmps36
    go_wp2
    go_ret
    exact ⟨rfl, rfl⟩
  · go_enter Tryd.func36, Tryd.ntmps36
    go_wp2
    go_ret
    exact ⟨rfl, rfl⟩

set_option maxHeartbeats 400000 in
theorem refIs_any (l v : Int) (w : World) (h1 : -9223372036854775807 ≤ l) (h2 : l ≤ 9223372036854775807) (hv1 : -9223372036854775808 ≤ v) (hv2 : v ≤ 9223372036854775807) :
    Calls Tryd.prog 64 #[.int .i64 l, .int .i64 v] w fun e w' => e = .returned (.bool (isB v l)) ∧ w = w' := by
  have H := Lib.hid (show isB v l = decide (l ≠ 0 ∧ l ≤ v ∧ -v ≤ l) from by
    unfold isB absI; rw [Bool.eq_iff_iff]; simp; split <;> omega)
  generalize isB v l = r at *
  by_cases h0 : l = 0
  · subst h0
    go_enter Tryd.func64, Tryd.ntmps64
    go_wp2
    go_ret
    exact ⟨ret_bool (by rw [H.out]; simp), rfl⟩
  have hb0 : (l == 0) = false := by simp [h0]
  have hb0' : (l != 0) = true := by simp [h0]
  by_cases hle : l ≤ v
  · have hd : decide (l ≤ v) = true := by simp [hle]
    go_enter Tryd.func64, Tryd.ntmps64
    go_wp2
    go_ret
    exact ⟨ret_bool (by rw [H.out]; simp [h0, hle]), rfl⟩
  · have hd : decide (l ≤ v) = false := by simp; omega
    go_enter Tryd.func64, Tryd.ntmps64
    go_wp2
    go_ret
    exact ⟨ret_bool (by rw [H.out]; simp; omega), rfl⟩

end Go.Proofs.YtcodmijphejfdaaDoor
