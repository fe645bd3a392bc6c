/- act: a tick. -/
import Derived.Test.YtpndafieknddcaaHb
import Derived.Test.YtpndafieknddcaaM28
namespace Go.Proofs.Ytpndafieknddcaa

open Ieee Go.RowKit

section

variable {wz w w' w2 : World} {A A' E B Z : Nat → Prop} {sb cb WB : Nat} {c c' : Cs} {p : Pn} {ov sv v onv : Value} {V : List Tq} {M : List Ms} {mo : Option Ms} {k : Int} {on : List Int}

def WbS (WB : Nat) (p : Pn) (ov : Value) (sb : Nat) (sv : Value) (wx : World) : Prop := ∃ q : Nat, wx.heap[WB]? = some (.cells (wC p ov sb q sv) 31 (0, 0))
end

end Go.Proofs.Ytpndafieknddcaa
