/- Contracts of layer 2's document functions: divisors, division. -/
import Derived.Test.YtlclfonlidcfiaaC01a
import Derived.Test.YtlclfonlidcfiaaMA
import Derived.Test.YtlclfonlidcfiaaWA
namespace Go.Proofs.Ytlclfonlidcfiaa
open Go.RowKit Go.Lib
set_option maxRecDepth 100000

end Go.Proofs.Ytlclfonlidcfiaa
