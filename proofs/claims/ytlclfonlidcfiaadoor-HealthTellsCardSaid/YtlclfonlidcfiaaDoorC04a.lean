/- Contracts of layer 4's functions: what numbers may be. -/
import Derived.Test.YtlclfonlidcfiaaDoorC01a
import Derived.Test.YtlclfonlidcfiaaDoorWA
import Derived.Test.YtlclfonlidcfiaaDoorMA
import Derived.Deep.QuietTactic
import Derived.BigQuiet
import Derived.Deep.RegionHeld3
import Derived.Deep.DrawnRows
namespace Go.Proofs.YtlclfonlidcfiaaDoor
open Go.RowKit
set_option maxRecDepth 100000
attribute [local go_sem ↓] Go.wp_at_zero Go.wp_at_succ
/-- A fabric's numbers, as a value. -/
abbrev parV (p : Par) : Value := .agg #[.int .i64 p.n, .int .i64 p.f, .int .i64 p.d, .int .i64 p.beat, .int .i64 p.rho, .int .i64 p.delay, .int .i64 p.jit, .int .i64 p.eps, .int .i64 p.mu, .int .i64 p.hold, .int .i64 p.pulse, .int .i64 p.sec]

end Go.Proofs.YtlclfonlidcfiaaDoor
