/- Contracts of skolemsee.Is at an error that reads as a number; graph.Check of a circuit with Inputs below 0. Conditions: those typed. -/
import Derived.Test.YtnhimicifebgjaaDoorFault
import Derived.Test.YtnhimicifebgjaaDoorGrM
namespace Go.Proofs.YtnhimicifebgjaaDoor
open Go.RowKit

set_option maxHeartbeats 1000000 in
theorem isE_any (ev : Value) (c : Int) (w : World) (h : ErrAs w ev c false 0) : Calls Tryd.prog 38 #[ev, .int .i64 c] w fun e w' => e = .returned (.bool true) ∧ Below w.heap.size w w' := by
  have HB := Lib.hid (bare_any c w)
  have HS := Lib.hid (fun W (hW : Below w.heap.size w W) => see_yes ev c false 0 W (h.keep hW))
  clear h
  unfold faultV at HB HS
  go_enter Tryd.func38, Tryd.ntmps38
  go_wp2_with fail
  refine HB.out.mono ?_
  rintro e w1 ⟨rfl, hb⟩
  go_wp2_with fail
  refine (HS.out _ hb).mono ?_
  rintro e w2 ⟨rfl, hb2⟩
  go_wp2_with fail
  go_ret
  exact ⟨rfl, hb.trans (hb2.mono hb.size)⟩

set_option maxHeartbeats 1000000 in
theorem gcheck_neg (A : Nat → Addr) (w : World) (hs : Sents2 w A) : Calls Tryd.prog 26 #[.agg #[.int .i64 (-1), .slice none 0 0, .slice none 0 0]] w fun e w' => e = .returned (sentV A 1) ∧ Below w.heap.size w w' := by
  have s1 := (hs.keep ((Below.refl _ w).alloc (Nat.le_refl _) (.cells #[.int .i64 (-1), .slice none 0 0, .slice none 0 0] 39))).c1
  unfold sentV
  clear hs
  go_enter Tryd.func26, Tryd.ntmps26
  go_wp2_with fail
  go_ret
  exact ⟨rfl, (Below.refl _ w).alloc (Nat.le_refl _) _⟩
end Go.Proofs.YtnhimicifebgjaaDoor
