/- Contracts of the reference's Fit, of both Merge. -/
import Derived.Test.YtfcpooihihklaabGb
import Derived.Deep.DeepCutAuto
import Derived.Deep.RegionHeld3
namespace Go.Proofs.Ytfcpooihihklaab
open Ieee Go.RowKit

attribute [local go_sem] run_bits run_frombits
end Go.Proofs.Ytfcpooihihklaab
