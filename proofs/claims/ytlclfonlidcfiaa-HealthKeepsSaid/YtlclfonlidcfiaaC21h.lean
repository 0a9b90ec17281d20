/- The program's calls of layer 21 do what C21p says. -/
import Derived.Test.YtlclfonlidcfiaaC21g
import Derived.Test.YtlclfonlidcfiaaC21t
namespace Go.Proofs.Ytlclfonlidcfiaa
open Go.RowKit
theorem front21 : FrontDoes where
  healthSane p s A cap w hA hl := (healthSane p s A cap w hA hl).mono fun _ _ ⟨A2, c2, he, hT, hok⟩ => ⟨A2, c2, he, hT.pairs, hok⟩
  healthOf := healthOf
  healthFar := healthFar
  frontHealth := frontHealth
  frontNow := frontNow
  frontInterval := frontInterval
  frontStamp := frontStamp
  frontListen := frontListen
  frontStep g p s A cap ticks u C cup w h hC hl := (frontStep g p s A cap ticks u C cup w h hC hl).mono fun _ _ ⟨he, A2, c2, hO, hT, hon⟩ => ⟨he, A2, c2, hO, hT.pairs, hon⟩
end Go.Proofs.Ytlclfonlidcfiaa
