/- Contracts of layer 21: the document's Step. -/
import Derived.Test.YtlclfonlidcfiaaDoorC21d
import Derived.Test.YtlclfonlidcfiaaDoorC12b
namespace Go.Proofs.YtlclfonlidcfiaaDoor
open Go.RowKit
set_option linter.unusedVariables false
set_option maxRecDepth 100000
attribute [local go_sem ↓] Go.wp_at_zero Go.wp_at_succ
end Go.Proofs.YtlclfonlidcfiaaDoor
