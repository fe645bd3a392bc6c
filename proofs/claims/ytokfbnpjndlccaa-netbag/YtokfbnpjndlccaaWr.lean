/- The reference's Take: it reads and answers, and turns nothing. -/
import Derived.Test.YtokfbnpjndlccaaWt

namespace Go.Proofs.Ytokfbnpjndlccaa

open Go.RowKit







end Go.Proofs.Ytokfbnpjndlccaa


