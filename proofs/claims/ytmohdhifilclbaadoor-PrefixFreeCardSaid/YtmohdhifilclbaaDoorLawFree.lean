/- The law PrefixFree: true for whatever arguments. Conditions: the slice reads as 64-bit ints; the three errors lie as 'Sents3' says. -/
import Derived.Test.YtmohdhifilclbaaDoorLawFreeA
import Derived.Test.YtmohdhifilclbaaDoorLawFreeB
import Derived.Test.YtmohdhifilclbaaDoorLawFreeC
import Derived.Test.YtmohdhifilclbaaDoorLawFreeD
namespace Go.Proofs.YtmohdhifilclbaaDoor
open Go.RowKit

theorem lawFree_any (A : Nat → Addr) (a : Option Addr) (c : Nat) (cs : List Int) (fi : Int) (ex : Bool) (fr : Int) (w : World) (hS : Sents3 w A) (hv : RowAt w a c cs) (hcs : ∀ y ∈ cs, -9223372036854775808 ≤ y ∧ y ≤ 9223372036854775807)
    (f1 : -9223372036854775808 ≤ fi) (f2 : fi ≤ 9223372036854775807) (f3 : -9223372036854775808 ≤ fr) (f4 : fr ≤ 9223372036854775807) :
    Calls Tryd.prog 6 #[.slice a cs.length c, .int .i64 fi, .bool ex, .int .i64 fr] w fun e w' => e = .returned (.bool true) ∧ Below w.heap.size w w' := by
  by_cases hn : cs.length ≤ 60
  · by_cases h1 : fi < 0
    · by_cases h2 : fr < 0
      · exact lawFree_inA A a c cs fi ex fr w hS hv hcs hn f1 f2 f3 f4 h1 h2
      · exact lawFree_inB A a c cs fi ex fr w hS hv hcs hn f1 f2 f3 f4 h1 (by omega)
    · by_cases h2 : fr < 0
      · exact lawFree_inC A a c cs fi ex fr w hS hv hcs hn f1 f2 f3 f4 (by omega) h2
      · exact lawFree_inD A a c cs fi ex fr w hS hv hcs hn f1 f2 f3 f4 (by omega) (by omega)
  · have HF := Lib.hid (first6_any A w hS)
    have hd : decide ((60 : Int) < (cs.length : Int)) = true := decide_eq_true (by omega)
    have hd' : decide (60 < cs.length) = true := decide_eq_true (by omega)
    clear hv hcs
    generalize cs.length = n at *
    go_enter Tryd.func6, Tryd.ntmps6
    go_wp2_with (go_at_call 8; refine HF.out.mono ?_; rintro e w1 ⟨rfl, hb1⟩)
    go_ret
    exact ⟨rfl, hb1⟩
end Go.Proofs.YtmohdhifilclbaaDoor
