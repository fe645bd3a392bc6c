/- The reference's Take: it reads and answers, and turns nothing. -/
import Derived.Test.YtakijnclllmkfabWt

namespace Go.Proofs.Ytakijnclllmkfab

open Go.RowKit







end Go.Proofs.Ytakijnclllmkfab


