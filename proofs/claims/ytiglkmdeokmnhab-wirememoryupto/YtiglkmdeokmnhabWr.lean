/- The reference's Take: it reads and answers, and turns nothing. -/
import Derived.Test.YtiglkmdeokmnhabWt
namespace Go.Proofs.Ytiglkmdeokmnhab
open Go.RowKit
end Go.Proofs.Ytiglkmdeokmnhab
