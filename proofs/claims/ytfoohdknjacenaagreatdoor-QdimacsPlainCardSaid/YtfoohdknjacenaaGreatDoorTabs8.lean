/- Where the errors lie, and the table of powers of ten, from the row's condition. No conditions beyond those typed. -/
import Derived.Test.YtfoohdknjacenaaGreatDoorErr8
import Derived.Test.YtfoohdknjacenaaGreatDoorAppI
import Derived.Test.YtfoohdknjacenaaGreatDoorRows
import Derived.Stop.LaidErr
namespace Go.Proofs.YtfoohdknjacenaaGreatDoor
open Go.RowKit

def tabL : List (String × DataW Unit) := [("math/bits.deBruijn32tab", Rows.laid_math_bits_deBruijn32tab), ("math/bits.deBruijn64tab", Rows.laid_math_bits_deBruijn64tab), ("internal/strconv.uint64pow10", Rows.laid_internal_strconv_uint64pow10)]
theorem gpow : Tryz.prog.globalNamed "internal/strconv.uint64pow10" = some 10 := by kernel_rfl
theorem gpowT : (Tryz.prog.globals[10]?).map (·.type) = some 171 := by kernel_rfl
theorem tabs8_met {W : World} {H : List (String × DataW Unit)} (h : laidMet Tryz.prog (tabL ++ sentL8.map sentD) W)
    (hH : handlesMet Tryz.prog H W) (hm : ("errors.errorType", (.iface "internal/reflectlite.rtype" (.agg [.ptr (.lit (.string [101, 114, 114, 111, 114]))]) : DataW Unit)) ∈ H) : ∃ A, Sents8 W A ∧ Tabs W := by
  have h2 : laidMet Tryz.prog (("internal/strconv.uint64pow10", Lib.tabData .u64 Lib.pow10Tab) :: sentL8.map sentD) W := h.tail.tail
  have ht : Lib.TabIs Tryz.prog W "internal/strconv.uint64pow10" .u64 Lib.pow10Tab := Lib.tabIs_of_head gpow gpowT Tryz.underlying171 Tryz.underlying147 (by kernel_rfl) (by kernel_rfl) h2
  obtain ⟨ps, hl, hnd, hrows⟩ := h2.tail
  obtain ⟨A, hS⟩ := sents8_met hl hnd hrows hH hm
  exact ⟨A, hS, Lib.tabBelow_of_tabIs ht⟩
end Go.Proofs.YtfoohdknjacenaaGreatDoor
