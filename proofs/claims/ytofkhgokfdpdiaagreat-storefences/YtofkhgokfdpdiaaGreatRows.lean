/-
  No cell of these rows narrows 'for every input' (looked for: loops, veiled, ifaces, maps, wideKeys, modest, calm, conditions, laid).
  DERIVED. THE GIVEN ROWS OF THIS SEAT. 6 by the template 'for every input the law returns true; each argument reads behind the call as it read before'; 0 by the template 'total and deterministic' (their statements: YtofkhgokfdpdiaaGreatTotals.lean).
  GIVEN WITH THE SEED: the statements are not yours to turn. If you find one false, say at which input.
  Laid BY PROGRAM, IN A SANDBOX (cutbox-rows.mjs): the forced cells as the released guide's own fill.sh prints them over the translation 8f25994d07040084… (all of the seat's roots in one cut). By AI agents, Wed Nov 11 2026. No macro, syntax, notation, axiom, sorry.
-/
import Derived.Test.YtofkhgokfdpdiaaGreatChecked
import GoSem.Claim
import GoSem.ClaimJoined
import GoSem.ClaimMapViews
import Derived.JoinedTies
import Derived.KernelRfl
namespace Go.Proofs.YtofkhgokfdpdiaaGreat
/- THE CELL 'sum', in the pinned program and in every row, IS THE sha256 OF THE DUMP (.gsa) THAT YtofkhgokfdpdiaaGreatProg.lean LOADS. Nothing in Lean hashes anything: it is a label: what it is worth is what the hold of that sum in a sandbox is worth. -/
noncomputable def Tryz.pinned : Pinned := { name := "ytofkhgokfdpdiaagreat", sum := "8f25994d07040084f194c28102268da984382890ec70918dbbec959ad1ffda32", checked := Tryz.checked }
namespace Rows
def none {H : Type} : Left H := { results := [], args := [] }

/-- 'repriselaw13.StoreExact': WHATEVER THE INPUT: true; the input reads as it did. -/
def storeExactSpec : ChangeSpec := { name := "storeExact", fn := fun _ => fun
  | [d1, d2, d3] => { results := [.lit (.bool true)], args := [d1, d2, d3] }
  | _ => none }
def storeExactRow : OpenClaim := { program := "ytofkhgokfdpdiaagreat", sum := "8f25994d07040084f194c28102268da984382890ec70918dbbec959ad1ffda32", func := "reprise/repriselaw13.StoreExact", spec := "storeExact", inPlace := ["math.Float64frombits", "math.Float64bits"], unfollowed := true, recurses := true, apart := false }
def StoreExactSaid : Prop := storeExactRow.holds Tryz.pinned (OpenSpec.ofChange storeExactSpec)

/-- ITS FALSE NEIGHBOUR: 'it returns false'. Refute it at one input. -/
def storeExactWrong : ChangeSpec := { name := "storeExact", fn := fun _ => fun
  | [d1, d2, d3] => { results := [.lit (.bool false)], args := [d1, d2, d3] }
  | _ => none }
def StoreExactWrongFalsely : Prop := storeExactRow.holds Tryz.pinned (OpenSpec.ofChange storeExactWrong)

/-- 'repriselaw13.StoreImages': WHATEVER THE INPUT: true; the input reads as it did. -/
def storeImagesSpec : ChangeSpec := { name := "storeImages", fn := fun _ => fun
  | [d1, d2, d3] => { results := [.lit (.bool true)], args := [d1, d2, d3] }
  | _ => none }
def storeImagesRow : OpenClaim := { program := "ytofkhgokfdpdiaagreat", sum := "8f25994d07040084f194c28102268da984382890ec70918dbbec959ad1ffda32", func := "reprise/repriselaw13.StoreImages", spec := "storeImages", inPlace := ["math.Float64frombits", "math.Float64bits"], unfollowed := true, recurses := true, apart := false }
def StoreImagesSaid : Prop := storeImagesRow.holds Tryz.pinned (OpenSpec.ofChange storeImagesSpec)

/-- ITS FALSE NEIGHBOUR: 'it returns false'. Refute it at one input. -/
def storeImagesWrong : ChangeSpec := { name := "storeImages", fn := fun _ => fun
  | [d1, d2, d3] => { results := [.lit (.bool false)], args := [d1, d2, d3] }
  | _ => none }
def StoreImagesWrongFalsely : Prop := storeImagesRow.holds Tryz.pinned (OpenSpec.ofChange storeImagesWrong)

/-- 'repriselaw13.StoreRow': WHATEVER THE INPUT: true; the input reads as it did. -/
def storeRowSpec : ChangeSpec := { name := "storeRow", fn := fun _ => fun
  | [d1, d2] => { results := [.lit (.bool true)], args := [d1, d2] }
  | _ => none }
def storeRowRow : OpenClaim := { program := "ytofkhgokfdpdiaagreat", sum := "8f25994d07040084f194c28102268da984382890ec70918dbbec959ad1ffda32", func := "reprise/repriselaw13.StoreRow", spec := "storeRow", inPlace := ["math.Float64frombits", "math.Float64bits", "math.archFloor", "math.archTrunc"], unfollowed := true, recurses := true, apart := false }
def StoreRowSaid : Prop := storeRowRow.holds Tryz.pinned (OpenSpec.ofChange storeRowSpec)

/-- ITS FALSE NEIGHBOUR: 'it returns false'. Refute it at one input. -/
def storeRowWrong : ChangeSpec := { name := "storeRow", fn := fun _ => fun
  | [d1, d2] => { results := [.lit (.bool false)], args := [d1, d2] }
  | _ => none }
def StoreRowWrongFalsely : Prop := storeRowRow.holds Tryz.pinned (OpenSpec.ofChange storeRowWrong)

/-- 'repriselaw13.StoreFences': WHATEVER THE INPUT: true; the input reads as it did. -/
def storeFencesSpec : ChangeSpec := { name := "storeFences", fn := fun _ => fun
  | [d1, d2, d3] => { results := [.lit (.bool true)], args := [d1, d2, d3] }
  | _ => none }
def storeFencesRow : OpenClaim := { program := "ytofkhgokfdpdiaagreat", sum := "8f25994d07040084f194c28102268da984382890ec70918dbbec959ad1ffda32", func := "reprise/repriselaw13.StoreFences", spec := "storeFences", inPlace := ["math.Float64frombits", "math.Float64bits", "math.archFloor", "math.archTrunc"], unfollowed := true, recurses := true, apart := false }
def StoreFencesSaid : Prop := storeFencesRow.holds Tryz.pinned (OpenSpec.ofChange storeFencesSpec)

/-- ITS FALSE NEIGHBOUR: 'it returns false'. Refute it at one input. -/
def storeFencesWrong : ChangeSpec := { name := "storeFences", fn := fun _ => fun
  | [d1, d2, d3] => { results := [.lit (.bool false)], args := [d1, d2, d3] }
  | _ => none }
def StoreFencesWrongFalsely : Prop := storeFencesRow.holds Tryz.pinned (OpenSpec.ofChange storeFencesWrong)

/-- 'repriselaw13.StoreAgain': WHATEVER THE INPUT: true; the input reads as it did. -/
def storeAgainSpec : ChangeSpec := { name := "storeAgain", fn := fun _ => fun
  | [d1, d2, d3] => { results := [.lit (.bool true)], args := [d1, d2, d3] }
  | _ => none }
def storeAgainRow : OpenClaim := { program := "ytofkhgokfdpdiaagreat", sum := "8f25994d07040084f194c28102268da984382890ec70918dbbec959ad1ffda32", func := "reprise/repriselaw13.StoreAgain", spec := "storeAgain", inPlace := ["math.Float64frombits", "math.Float64bits", "math.archFloor", "math.archTrunc"], unfollowed := true, recurses := true, apart := false }
def StoreAgainSaid : Prop := storeAgainRow.holds Tryz.pinned (OpenSpec.ofChange storeAgainSpec)

/-- ITS FALSE NEIGHBOUR: 'it returns false'. Refute it at one input. -/
def storeAgainWrong : ChangeSpec := { name := "storeAgain", fn := fun _ => fun
  | [d1, d2, d3] => { results := [.lit (.bool false)], args := [d1, d2, d3] }
  | _ => none }
def StoreAgainWrongFalsely : Prop := storeAgainRow.holds Tryz.pinned (OpenSpec.ofChange storeAgainWrong)

/-- 'repriselaw13.StoreRetries': WHATEVER THE INPUT: true; the input reads as it did. -/
def storeRetriesSpec : ChangeSpec := { name := "storeRetries", fn := fun _ => fun
  | [d1, d2, d3] => { results := [.lit (.bool true)], args := [d1, d2, d3] }
  | _ => none }
def storeRetriesRow : OpenClaim := { program := "ytofkhgokfdpdiaagreat", sum := "8f25994d07040084f194c28102268da984382890ec70918dbbec959ad1ffda32", func := "reprise/repriselaw13.StoreRetries", spec := "storeRetries", inPlace := ["math.Float64frombits", "math.Float64bits", "math.archFloor", "math.archTrunc"], unfollowed := true, recurses := true, apart := false }
def StoreRetriesSaid : Prop := storeRetriesRow.holds Tryz.pinned (OpenSpec.ofChange storeRetriesSpec)

/-- ITS FALSE NEIGHBOUR: 'it returns false'. Refute it at one input. -/
def storeRetriesWrong : ChangeSpec := { name := "storeRetries", fn := fun _ => fun
  | [d1, d2, d3] => { results := [.lit (.bool false)], args := [d1, d2, d3] }
  | _ => none }
def StoreRetriesWrongFalsely : Prop := storeRetriesRow.holds Tryz.pinned (OpenSpec.ofChange storeRetriesWrong)

/- THE SECOND FORM. 'bulk': how many values and letters a reading holds, each counted each time it is reached (what is shared counts as often as it is met; a slice's spare places count too). A statement '..UptoSaid' is the law's where the arguments, and the package variables that the reading takes, are together of bulk at most 1048576: NARROWER than '..Said'. Prove '..Said' where nothing that the law and all that it calls make is longer than what came in: it says more and counts as full. Else prove '..UptoSaid'. A law counts once. -/
mutual
def uptoBulk {H : Type} : DataW H → Nat
  | .lit (.string bytes) => bytes.length + 1
  | .lit _ => 1
  | .nil => 1
  | .ptr d => uptoBulk d + 1
  | .slice elems spare => uptoBulkAll elems + uptoBulkAll spare + 1
  | .agg parts => uptoBulkAll parts + 1
  | .iface _ d => uptoBulk d + 1
  | .map entries => uptoBulkEntries entries + 1
  | .held _ => 1
def uptoBulkAll {H : Type} : List (DataW H) → Nat
  | [] => 0
  | d :: r => uptoBulk d + uptoBulkAll r
def uptoBulkEntries {H : Type} : List (Lit × DataW H) → Nat
  | [] => 0
  | x :: r => uptoBulkEntry x + uptoBulkEntries r
def uptoBulkEntry {H : Type} : Lit × DataW H → Nat
  | (.string bytes, d) => bytes.length + uptoBulk d + 1
  | (_, d) => uptoBulk d + 1
 end
def uptoSmall : (H : Type) → List (DataW H) → Bool := fun _ ds => decide (uptoBulkAll ds ≤ 1048576)
def OpenSpec.upto (s : _root_.Go.ChangeSpec) : _root_.Go.OpenSpec := { _root_.Go.OpenSpec.ofChange s with cond := some uptoSmall }

/-- 'repriselaw13.StoreExact', WHERE WHAT IT READS IS OF BULK AT MOST 1048576: true; the input reads as it did. -/
def storeExactUptoRow : OpenClaim := { program := "ytofkhgokfdpdiaagreat", sum := "8f25994d07040084f194c28102268da984382890ec70918dbbec959ad1ffda32", func := "reprise/repriselaw13.StoreExact", spec := "storeExact", inPlace := ["math.Float64frombits", "math.Float64bits"], unfollowed := true, recurses := true, apart := false, narrowed := true }
def StoreExactUptoSaid : Prop := storeExactUptoRow.holds Tryz.pinned (OpenSpec.upto storeExactSpec)

/-- 'repriselaw13.StoreImages', WHERE WHAT IT READS IS OF BULK AT MOST 1048576: true; the input reads as it did. -/
def storeImagesUptoRow : OpenClaim := { program := "ytofkhgokfdpdiaagreat", sum := "8f25994d07040084f194c28102268da984382890ec70918dbbec959ad1ffda32", func := "reprise/repriselaw13.StoreImages", spec := "storeImages", inPlace := ["math.Float64frombits", "math.Float64bits"], unfollowed := true, recurses := true, apart := false, narrowed := true }
def StoreImagesUptoSaid : Prop := storeImagesUptoRow.holds Tryz.pinned (OpenSpec.upto storeImagesSpec)

/-- 'repriselaw13.StoreRow', WHERE WHAT IT READS IS OF BULK AT MOST 1048576: true; the input reads as it did. -/
def storeRowUptoRow : OpenClaim := { program := "ytofkhgokfdpdiaagreat", sum := "8f25994d07040084f194c28102268da984382890ec70918dbbec959ad1ffda32", func := "reprise/repriselaw13.StoreRow", spec := "storeRow", inPlace := ["math.Float64frombits", "math.Float64bits", "math.archFloor", "math.archTrunc"], unfollowed := true, recurses := true, apart := false, narrowed := true }
def StoreRowUptoSaid : Prop := storeRowUptoRow.holds Tryz.pinned (OpenSpec.upto storeRowSpec)

/-- 'repriselaw13.StoreFences', WHERE WHAT IT READS IS OF BULK AT MOST 1048576: true; the input reads as it did. -/
def storeFencesUptoRow : OpenClaim := { program := "ytofkhgokfdpdiaagreat", sum := "8f25994d07040084f194c28102268da984382890ec70918dbbec959ad1ffda32", func := "reprise/repriselaw13.StoreFences", spec := "storeFences", inPlace := ["math.Float64frombits", "math.Float64bits", "math.archFloor", "math.archTrunc"], unfollowed := true, recurses := true, apart := false, narrowed := true }
def StoreFencesUptoSaid : Prop := storeFencesUptoRow.holds Tryz.pinned (OpenSpec.upto storeFencesSpec)

/-- 'repriselaw13.StoreAgain', WHERE WHAT IT READS IS OF BULK AT MOST 1048576: true; the input reads as it did. -/
def storeAgainUptoRow : OpenClaim := { program := "ytofkhgokfdpdiaagreat", sum := "8f25994d07040084f194c28102268da984382890ec70918dbbec959ad1ffda32", func := "reprise/repriselaw13.StoreAgain", spec := "storeAgain", inPlace := ["math.Float64frombits", "math.Float64bits", "math.archFloor", "math.archTrunc"], unfollowed := true, recurses := true, apart := false, narrowed := true }
def StoreAgainUptoSaid : Prop := storeAgainUptoRow.holds Tryz.pinned (OpenSpec.upto storeAgainSpec)

/-- 'repriselaw13.StoreRetries', WHERE WHAT IT READS IS OF BULK AT MOST 1048576: true; the input reads as it did. -/
def storeRetriesUptoRow : OpenClaim := { program := "ytofkhgokfdpdiaagreat", sum := "8f25994d07040084f194c28102268da984382890ec70918dbbec959ad1ffda32", func := "reprise/repriselaw13.StoreRetries", spec := "storeRetries", inPlace := ["math.Float64frombits", "math.Float64bits", "math.archFloor", "math.archTrunc"], unfollowed := true, recurses := true, apart := false, narrowed := true }
def StoreRetriesUptoSaid : Prop := storeRetriesUptoRow.holds Tryz.pinned (OpenSpec.upto storeRetriesSpec)

end Rows
end Go.Proofs.YtofkhgokfdpdiaaGreat
