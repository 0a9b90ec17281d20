/- math/bits.Div64: what it answers, of a high word below the divisor. -/
import Derived.Test.YtlclfonlidcfiaaC01a
import Derived.Test.YtlclfonlidcfiaaC01c
import Derived.Test.YtlclfonlidcfiaaMA
import Derived.Deep.QuietTactic
import Derived.BigQuiet
import Derived.Deep.CutBlock
import Derived.Deep.DeepCutAuto
import Derived.Laws.BitsAllLaws
import Derived.Lib.ItoaNum
namespace Go.Proofs.Ytlclfonlidcfiaa
open Go.RowKit Go.Lib
set_option maxRecDepth 100000

end Go.Proofs.Ytlclfonlidcfiaa
