/- The reference's Take: it reads and answers, and turns nothing. -/
import Derived.Test.YtonnlhehbhiiiaaWt

namespace Go.Proofs.Ytonnlhehbhiiiaa

open Go.RowKit







end Go.Proofs.Ytonnlhehbhiiiaa


