/- math/bits.Div64: what it answers, of a high word below the divisor. -/
import Derived.Test.YtbbkohpaebeidaaDoorC01a
import Derived.Test.YtbbkohpaebeidaaDoorC01c
import Derived.Test.YtbbkohpaebeidaaDoorM02
import Derived.Deep.QuietTactic
import Derived.BigQuiet
import Derived.Deep.CutBlock
import Derived.Deep.DeepCutAuto
import Derived.Laws.BitsAllLaws
import Derived.Lib.ItoaNum
namespace Go.Proofs.YtbbkohpaebeidaaDoor
open Go.RowKit Go.Lib
set_option maxRecDepth 100000

end Go.Proofs.YtbbkohpaebeidaaDoor
