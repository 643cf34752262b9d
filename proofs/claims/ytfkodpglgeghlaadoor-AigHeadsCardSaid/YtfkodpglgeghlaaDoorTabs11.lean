/- Where the errors lie, and the table of powers of ten, from the row's condition. No conditions beyond those typed. -/
import Derived.Test.YtfkodpglgeghlaaDoorSents
import Derived.Test.YtfkodpglgeghlaaDoorAppI
import Derived.Test.YtfkodpglgeghlaaDoorRows
import Derived.Stop.LaidErr
namespace Go.Proofs.YtfkodpglgeghlaaDoor
open Go.RowKit

def tabL : List (String × DataW Unit) := [("math/bits.deBruijn32tab", Rows.laid_math_bits_deBruijn32tab), ("math/bits.deBruijn64tab", Rows.laid_math_bits_deBruijn64tab), ("internal/strconv.uint64pow10", Rows.laid_internal_strconv_uint64pow10)]
theorem gpow : Tryd.prog.globalNamed "internal/strconv.uint64pow10" = some 2 := by kernel_rfl
theorem gpowT : (Tryd.prog.globals[2]?).map (·.type) = some 124 := by kernel_rfl
theorem tabs11_met {W : World} (h : laidMet Tryd.prog (tabL ++ sentL.map sentD) W) : ∃ A, Sents W A ∧ Tabs W := by
  have h2 : laidMet Tryd.prog (("internal/strconv.uint64pow10", Lib.tabData .u64 Lib.pow10Tab) :: sentL.map sentD) W := h.tail.tail
  have ht : Lib.TabIs Tryd.prog W "internal/strconv.uint64pow10" .u64 Lib.pow10Tab := Lib.tabIs_of_head gpow gpowT Tryd.underlying124 Tryd.underlying49 (by kernel_rfl) (by kernel_rfl) h2
  obtain ⟨A, hS⟩ := sents_met h2.tail
  exact ⟨A, hS, Lib.tabBelow_of_tabIs ht⟩
end Go.Proofs.YtfkodpglgeghlaaDoor
