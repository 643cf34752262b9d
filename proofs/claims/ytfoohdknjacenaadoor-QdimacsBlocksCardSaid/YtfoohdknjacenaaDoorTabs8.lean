/- Where the errors lie, and the table of powers of ten, from the row's condition. No conditions beyond those typed. -/
import Derived.Test.YtfoohdknjacenaaDoorErr8
import Derived.Test.YtfoohdknjacenaaDoorAppI
import Derived.Test.YtfoohdknjacenaaDoorRows
import Derived.Stop.LaidErr
namespace Go.Proofs.YtfoohdknjacenaaDoor
open Go.RowKit

def tabL : List (String × DataW Unit) := [("math/bits.deBruijn32tab", Rows.laid_math_bits_deBruijn32tab), ("math/bits.deBruijn64tab", Rows.laid_math_bits_deBruijn64tab), ("internal/strconv.uint64pow10", Rows.laid_internal_strconv_uint64pow10)]
theorem gpow : Tryd.prog.globalNamed "internal/strconv.uint64pow10" = some 10 := by kernel_rfl
theorem gpowT : (Tryd.prog.globals[10]?).map (·.type) = some 147 := by kernel_rfl
theorem tabs8_met {W : World} {H : List (String × DataW Unit)} (h : laidMet Tryd.prog (tabL ++ sentL8.map sentD) W)
    (hH : handlesMet Tryd.prog H W) (hm : ("errors.errorType", (.iface "internal/reflectlite.rtype" (.agg [.ptr (.lit (.string [101, 114, 114, 111, 114]))]) : DataW Unit)) ∈ H) : ∃ A, Sents8 W A ∧ Tabs W := by
  have h2 : laidMet Tryd.prog (("internal/strconv.uint64pow10", Lib.tabData .u64 Lib.pow10Tab) :: sentL8.map sentD) W := h.tail.tail
  have ht : Lib.TabIs Tryd.prog W "internal/strconv.uint64pow10" .u64 Lib.pow10Tab := Lib.tabIs_of_head gpow gpowT Tryd.underlying147 Tryd.underlying123 (by kernel_rfl) (by kernel_rfl) h2
  obtain ⟨ps, hl, hnd, hrows⟩ := h2.tail
  obtain ⟨A, hS⟩ := sents8_met hl hnd hrows hH hm
  exact ⟨A, hS, Lib.tabBelow_of_tabIs ht⟩
end Go.Proofs.YtfoohdknjacenaaDoor
