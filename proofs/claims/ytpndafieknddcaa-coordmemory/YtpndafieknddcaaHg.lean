/- act: the first try is done. -/
import Derived.Test.YtpndafieknddcaaHf
import Derived.Test.YtpndafieknddcaaHd
namespace Go.Proofs.Ytpndafieknddcaa

open Ieee Go.RowKit

section

variable {wz w w' w2 : World} {A A' E B Z : Nat → Prop} {sb cb WB : Nat} {c c' : Cs} {p : Pn} {ov sv v onv : Value} {V : List Tq} {M : List Ms} {mo : Option Ms} {k : Int} {on : List Int}

end

end Go.Proofs.Ytpndafieknddcaa
