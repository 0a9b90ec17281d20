/- Contracts of layer 2's document functions: products by digits. -/
import Derived.Test.YtlclfonlidcfiaaC01a
import Derived.Test.YtlclfonlidcfiaaC01c
import Derived.Test.YtlclfonlidcfiaaC02c
import Derived.Test.YtlclfonlidcfiaaMA
import Derived.Test.YtlclfonlidcfiaaWA
import Derived.Deep.OwnRows
import Derived.RegionTactic
import Derived.ChangeAlike
namespace Go.Proofs.Ytlclfonlidcfiaa
open Go.RowKit
set_option maxRecDepth 100000

end Go.Proofs.Ytlclfonlidcfiaa
