/- The table of tens, as the row of UnitPrints lays it. -/
import Derived.Test.YtgnfbhemkombaaaDoorN6
import Derived.Test.YtgnfbhemkombaaaDoorRows
import Derived.Lib.LaidTab
import Derived.Stop.LaidErr
namespace Go.Proofs.YtgnfbhemkombaaaDoor
open Go.RowKit
set_option maxRecDepth 100000 in
theorem tb_of {W : World} (h : laidMet Tryd.prog Rows.unitPrintsRow.laid W) : TB W := by
  have h3 : laidMet Tryd.prog [("internal/strconv.uint64pow10", Lib.tabData .u64 Lib.pow10Tab)] W := h.tail.tail
  exact Lib.tabIs_of_head (g := 0) (t := 151) (e := 138) (n := 20) (by kernel_rfl) (by kernel_rfl) Tryd.underlying151 Tryd.underlying138 (by kernel_rfl) (by kernel_rfl) h3
end Go.Proofs.YtgnfbhemkombaaaDoor
