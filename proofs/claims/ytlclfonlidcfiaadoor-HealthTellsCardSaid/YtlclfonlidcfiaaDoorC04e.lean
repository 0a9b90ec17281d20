/- Contracts of layer 4's bounds: the document's. -/
import Derived.Test.YtlclfonlidcfiaaDoorC04d
import Derived.Test.YtlclfonlidcfiaaDoorC02d
namespace Go.Proofs.YtlclfonlidcfiaaDoor
open Go.RowKit
set_option maxRecDepth 100000
attribute [local go_sem ↓] Go.wp_at_zero Go.wp_at_succ
end Go.Proofs.YtlclfonlidcfiaaDoor
