/- Contracts of layer 1: over lists of numbers. -/
import Derived.Test.YtjnfbdjdpppmkaaC01a
import Derived.Test.YtjnfbdjdpppmkaaW01
namespace Go.Proofs.Ytjnfbdjdpppmkaa
open Go.RowKit Go.Lib

end Go.Proofs.Ytjnfbdjdpppmkaa
