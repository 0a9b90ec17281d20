/- Contracts of layer 1: over lists of numbers. -/
import Derived.Test.YtolaipclndhkkaaC01a
import Derived.Test.YtolaipclndhkkaaW01
namespace Go.Proofs.Ytolaipclndhkkaa
open Go.RowKit Go.Lib

end Go.Proofs.Ytolaipclndhkkaa
