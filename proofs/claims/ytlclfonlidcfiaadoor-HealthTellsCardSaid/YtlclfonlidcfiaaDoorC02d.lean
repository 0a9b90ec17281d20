/- Contracts of layer 2's document functions: products by digits. -/
import Derived.Test.YtlclfonlidcfiaaDoorC01a
import Derived.Test.YtlclfonlidcfiaaDoorC01c
import Derived.Test.YtlclfonlidcfiaaDoorC02c
import Derived.Test.YtlclfonlidcfiaaDoorMA
import Derived.Test.YtlclfonlidcfiaaDoorWA
import Derived.Deep.OwnRows
import Derived.RegionTactic
import Derived.ChangeAlike
namespace Go.Proofs.YtlclfonlidcfiaaDoor
open Go.RowKit
set_option maxRecDepth 100000

end Go.Proofs.YtlclfonlidcfiaaDoor
