/- skolemlaw2.first answers true. No conditions. -/
import Derived.Test.YtbofgnihockpmaaAsgNew
namespace Go.Proofs.Ytbofgnihockpmaa
open Go.RowKit

set_option maxHeartbeats 2000000 in
theorem first_any (w : World) :
    Calls Try.prog 7 #[] w fun e w' => e = .returned (.bool true) ∧ Below w.heap.size w w' := by
  have HN := Lib.hid (new_any 3 w (by omega) (by omega))
  have k1 : setOk (newV 3) 2 = true := by decide
  have k2 : setOk (setV (newV 3) 2) (-2) = false := by decide
  have k3 : valL (setV (setV (newV 3) 2) (-2)) 2 = 1 := by decide
  generalize hV0 : newV 3 = V at *
  generalize hV1 : setV V 2 = V1 at *
  generalize hV2 : setV V1 (-2) = V2 at *
  have H0 := Lib.hid hV0; clear hV0
  have H1 := Lib.hid hV1; clear hV1
  have H2 := Lib.hid hV2; clear hV2
  go_enter Try.func7, Try.ntmps7
  go_wp2_with (first
    | (go_at_call 10; refine HN.out.mono ?_; rintro e w1 ⟨p, q, rfl, hA, hb⟩; rw [H0.out] at hA)
    | (go_at_call 13; refine (set_any hA2 (-2) (by omega) (by omega)).mono ?_; rintro e w3 ⟨rfl, hA3, hO3⟩; rw [H2.out] at hA3)
    | (go_at_call 13; refine (set_any hA 2 (by omega) (by omega)).mono ?_; rintro e w2 ⟨rfl, hA2, hO2⟩; rw [H1.out] at hA2)
    | (go_at_call 19; refine (value_any hA3 2 (by omega) (by omega)).mono ?_; rintro e w4 ⟨rfl, rfl⟩))
  go_ret
  exact ⟨rfl, hO3.below (hO2.below hb hb.size hA.bq) (Nat.le_trans hb.size hO2.size) hA.bq⟩
end Go.Proofs.Ytbofgnihockpmaa
