/-
  No cell of these rows narrows 'for every input' (looked for: loops, veiled, ifaces, maps, wideKeys, modest, calm, conditions, laid).
  DERIVED. THE GIVEN ROWS OF THIS SEAT. 5 by the template 'for every input the law returns true; each argument reads behind the call as it read before'; 0 by the template 'total and deterministic' (their statements: YtlblpjookbomjaaTotals.lean).
  GIVEN WITH THE SEED: the statements are not yours to turn. If you find one false, say at which input.
  Laid BY PROGRAM, IN A SANDBOX (cutbox-rows.mjs): the forced cells as the released guide's own fill.sh prints them over the translation d1b39a33fd9f6741… (all of the seat's roots in one cut). By AI agents, Wed Nov 11 2026. No macro, syntax, notation, axiom, sorry.
-/
import Derived.Test.YtlblpjookbomjaaChecked
import GoSem.Claim
import GoSem.ClaimJoined
import GoSem.ClaimMapViews
import Derived.JoinedTies
import Derived.KernelRfl
namespace Go.Proofs.Ytlblpjookbomjaa
/- THE CELL 'sum', in the pinned program and in every row, IS THE sha256 OF THE DUMP (.gsa) THAT YtlblpjookbomjaaProg.lean LOADS. Nothing in Lean hashes anything: it is a label: what it is worth is what the hold of that sum in a sandbox is worth. -/
noncomputable def Try.pinned : Pinned := { name := "ytlblpjookbomjaa", sum := "d1b39a33fd9f6741f4c2ee01eaa9398421107320046b19eaeee0244fa9881b8c", checked := Try.checked }
namespace Rows
def none {H : Type} : Left H := { results := [], args := [] }

/-- 'repriselaw14.PlanCheck': WHATEVER THE INPUT: true; the input reads as it did. -/
def planCheckSpec : ChangeSpec := { name := "planCheck", fn := fun _ => fun
  | [d] => { results := [.lit (.bool true)], args := [d] }
  | _ => none }
def planCheckRow : OpenClaim := { program := "ytlblpjookbomjaa", sum := "d1b39a33fd9f6741f4c2ee01eaa9398421107320046b19eaeee0244fa9881b8c", func := "reprise/repriselaw14.PlanCheck", spec := "planCheck", apart := false }
def PlanCheckSaid : Prop := planCheckRow.holds Try.pinned (OpenSpec.ofChange planCheckSpec)

/-- ITS FALSE NEIGHBOUR: 'it returns false'. Refute it at one input. -/
def planCheckWrong : ChangeSpec := { name := "planCheck", fn := fun _ => fun
  | [d] => { results := [.lit (.bool false)], args := [d] }
  | _ => none }
def PlanCheckWrongFalsely : Prop := planCheckRow.holds Try.pinned (OpenSpec.ofChange planCheckWrong)

/-- 'repriselaw14.PlanNodes': WHATEVER THE INPUT: true; the input reads as it did. -/
def planNodesSpec : ChangeSpec := { name := "planNodes", fn := fun _ => fun
  | [d1, d2, d3] => { results := [.lit (.bool true)], args := [d1, d2, d3] }
  | _ => none }
def planNodesRow : OpenClaim := { program := "ytlblpjookbomjaa", sum := "d1b39a33fd9f6741f4c2ee01eaa9398421107320046b19eaeee0244fa9881b8c", func := "reprise/repriselaw14.PlanNodes", spec := "planNodes", apart := false }
def PlanNodesSaid : Prop := planNodesRow.holds Try.pinned (OpenSpec.ofChange planNodesSpec)

/-- ITS FALSE NEIGHBOUR: 'it returns false'. Refute it at one input. -/
def planNodesWrong : ChangeSpec := { name := "planNodes", fn := fun _ => fun
  | [d1, d2, d3] => { results := [.lit (.bool false)], args := [d1, d2, d3] }
  | _ => none }
def PlanNodesWrongFalsely : Prop := planNodesRow.holds Try.pinned (OpenSpec.ofChange planNodesWrong)

/-- 'repriselaw14.PlanDeals': WHATEVER THE INPUT: true; the input reads as it did. -/
def planDealsSpec : ChangeSpec := { name := "planDeals", fn := fun _ => fun
  | [d1, d2] => { results := [.lit (.bool true)], args := [d1, d2] }
  | _ => none }
def planDealsRow : OpenClaim := { program := "ytlblpjookbomjaa", sum := "d1b39a33fd9f6741f4c2ee01eaa9398421107320046b19eaeee0244fa9881b8c", func := "reprise/repriselaw14.PlanDeals", spec := "planDeals", apart := false }
def PlanDealsSaid : Prop := planDealsRow.holds Try.pinned (OpenSpec.ofChange planDealsSpec)

/-- ITS FALSE NEIGHBOUR: 'it returns false'. Refute it at one input. -/
def planDealsWrong : ChangeSpec := { name := "planDeals", fn := fun _ => fun
  | [d1, d2] => { results := [.lit (.bool false)], args := [d1, d2] }
  | _ => none }
def PlanDealsWrongFalsely : Prop := planDealsRow.holds Try.pinned (OpenSpec.ofChange planDealsWrong)

/-- 'repriselaw14.PlanShares': WHATEVER THE INPUT: true; the input reads as it did. -/
def planSharesSpec : ChangeSpec := { name := "planShares", fn := fun _ => fun
  | [d1, d2, d3] => { results := [.lit (.bool true)], args := [d1, d2, d3] }
  | _ => none }
def planSharesRow : OpenClaim := { program := "ytlblpjookbomjaa", sum := "d1b39a33fd9f6741f4c2ee01eaa9398421107320046b19eaeee0244fa9881b8c", func := "reprise/repriselaw14.PlanShares", spec := "planShares", apart := false }
def PlanSharesSaid : Prop := planSharesRow.holds Try.pinned (OpenSpec.ofChange planSharesSpec)

/-- ITS FALSE NEIGHBOUR: 'it returns false'. Refute it at one input. -/
def planSharesWrong : ChangeSpec := { name := "planShares", fn := fun _ => fun
  | [d1, d2, d3] => { results := [.lit (.bool false)], args := [d1, d2, d3] }
  | _ => none }
def PlanSharesWrongFalsely : Prop := planSharesRow.holds Try.pinned (OpenSpec.ofChange planSharesWrong)

/-- 'repriselaw14.PlanMemory': WHATEVER THE INPUT: true; the input reads as it did. -/
def planMemorySpec : ChangeSpec := { name := "planMemory", fn := fun _ => fun
  | [d1, d2] => { results := [.lit (.bool true)], args := [d1, d2] }
  | _ => none }
def planMemoryRow : OpenClaim := { program := "ytlblpjookbomjaa", sum := "d1b39a33fd9f6741f4c2ee01eaa9398421107320046b19eaeee0244fa9881b8c", func := "reprise/repriselaw14.PlanMemory", spec := "planMemory", apart := false }
def PlanMemorySaid : Prop := planMemoryRow.holds Try.pinned (OpenSpec.ofChange planMemorySpec)

/-- ITS FALSE NEIGHBOUR: 'it returns false'. Refute it at one input. -/
def planMemoryWrong : ChangeSpec := { name := "planMemory", fn := fun _ => fun
  | [d1, d2] => { results := [.lit (.bool false)], args := [d1, d2] }
  | _ => none }
def PlanMemoryWrongFalsely : Prop := planMemoryRow.holds Try.pinned (OpenSpec.ofChange planMemoryWrong)

/- THE SECOND FORM. 'bulk': how many values and letters a reading holds, each counted each time it is reached (what is shared counts as often as it is met; a slice's spare places count too). A statement '..UptoSaid' is the law's where the arguments, and the package variables that the reading takes, are together of bulk at most 1048576: NARROWER than '..Said'. Prove '..Said' where nothing that the law and all that it calls make is longer than what came in: it says more and counts as full. Else prove '..UptoSaid'. A law counts once. -/
mutual
def uptoBulk {H : Type} : DataW H → Nat
  | .lit (.string bytes) => bytes.length + 1
  | .lit _ => 1
  | .nil => 1
  | .ptr d => uptoBulk d + 1
  | .slice elems spare => uptoBulkAll elems + uptoBulkAll spare + 1
  | .agg parts => uptoBulkAll parts + 1
  | .iface _ d => uptoBulk d + 1
  | .map entries => uptoBulkEntries entries + 1
  | .held _ => 1
def uptoBulkAll {H : Type} : List (DataW H) → Nat
  | [] => 0
  | d :: r => uptoBulk d + uptoBulkAll r
def uptoBulkEntries {H : Type} : List (Lit × DataW H) → Nat
  | [] => 0
  | x :: r => uptoBulkEntry x + uptoBulkEntries r
def uptoBulkEntry {H : Type} : Lit × DataW H → Nat
  | (.string bytes, d) => bytes.length + uptoBulk d + 1
  | (_, d) => uptoBulk d + 1
 end
def uptoSmall : (H : Type) → List (DataW H) → Bool := fun _ ds => decide (uptoBulkAll ds ≤ 1048576)
def OpenSpec.upto (s : _root_.Go.ChangeSpec) : _root_.Go.OpenSpec := { _root_.Go.OpenSpec.ofChange s with cond := some uptoSmall }

/-- 'repriselaw14.PlanCheck', WHERE WHAT IT READS IS OF BULK AT MOST 1048576: true; the input reads as it did. -/
def planCheckUptoRow : OpenClaim := { program := "ytlblpjookbomjaa", sum := "d1b39a33fd9f6741f4c2ee01eaa9398421107320046b19eaeee0244fa9881b8c", func := "reprise/repriselaw14.PlanCheck", spec := "planCheck", apart := false, narrowed := true }
def PlanCheckUptoSaid : Prop := planCheckUptoRow.holds Try.pinned (OpenSpec.upto planCheckSpec)

/-- 'repriselaw14.PlanNodes', WHERE WHAT IT READS IS OF BULK AT MOST 1048576: true; the input reads as it did. -/
def planNodesUptoRow : OpenClaim := { program := "ytlblpjookbomjaa", sum := "d1b39a33fd9f6741f4c2ee01eaa9398421107320046b19eaeee0244fa9881b8c", func := "reprise/repriselaw14.PlanNodes", spec := "planNodes", apart := false, narrowed := true }
def PlanNodesUptoSaid : Prop := planNodesUptoRow.holds Try.pinned (OpenSpec.upto planNodesSpec)

/-- 'repriselaw14.PlanDeals', WHERE WHAT IT READS IS OF BULK AT MOST 1048576: true; the input reads as it did. -/
def planDealsUptoRow : OpenClaim := { program := "ytlblpjookbomjaa", sum := "d1b39a33fd9f6741f4c2ee01eaa9398421107320046b19eaeee0244fa9881b8c", func := "reprise/repriselaw14.PlanDeals", spec := "planDeals", apart := false, narrowed := true }
def PlanDealsUptoSaid : Prop := planDealsUptoRow.holds Try.pinned (OpenSpec.upto planDealsSpec)

/-- 'repriselaw14.PlanShares', WHERE WHAT IT READS IS OF BULK AT MOST 1048576: true; the input reads as it did. -/
def planSharesUptoRow : OpenClaim := { program := "ytlblpjookbomjaa", sum := "d1b39a33fd9f6741f4c2ee01eaa9398421107320046b19eaeee0244fa9881b8c", func := "reprise/repriselaw14.PlanShares", spec := "planShares", apart := false, narrowed := true }
def PlanSharesUptoSaid : Prop := planSharesUptoRow.holds Try.pinned (OpenSpec.upto planSharesSpec)

/-- 'repriselaw14.PlanMemory', WHERE WHAT IT READS IS OF BULK AT MOST 1048576: true; the input reads as it did. -/
def planMemoryUptoRow : OpenClaim := { program := "ytlblpjookbomjaa", sum := "d1b39a33fd9f6741f4c2ee01eaa9398421107320046b19eaeee0244fa9881b8c", func := "reprise/repriselaw14.PlanMemory", spec := "planMemory", apart := false, narrowed := true }
def PlanMemoryUptoSaid : Prop := planMemoryUptoRow.holds Try.pinned (OpenSpec.upto planMemorySpec)

end Rows
end Go.Proofs.Ytlblpjookbomjaa
