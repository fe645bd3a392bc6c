/-
  No cell of these rows narrows 'for every input' (looked for: loops, veiled, ifaces, maps, wideKeys, modest, calm, conditions, laid).
  DERIVED. THE GIVEN ROWS OF THIS SEAT. 6 by the template 'for every input the law returns true; each argument reads behind the call as it read before'; 0 by the template 'total and deterministic' (their statements: YtakijnclllmkfaaTotals.lean).
  GIVEN WITH THE SEED: the statements are not yours to turn. If you find one false, say at which input.
  Laid BY PROGRAM, IN A SANDBOX (cutbox-rows.mjs): the forced cells as the released guide's own fill.sh prints them over the translation 14c1fa5058bc9e62… (all of the seat's roots in one cut). By AI agents, Wed Nov 11 2026. No macro, syntax, notation, axiom, sorry.
-/
import Derived.Test.YtakijnclllmkfaaChecked
import GoSem.Claim
import GoSem.ClaimJoined
import GoSem.ClaimMapViews
import Derived.JoinedTies
import Derived.KernelRfl
namespace Go.Proofs.Ytakijnclllmkfaa
/- THE CELL 'sum', in the pinned program and in every row, IS THE sha256 OF THE DUMP (.gsa) THAT YtakijnclllmkfaaProg.lean LOADS. Nothing in Lean hashes anything: it is a label: what it is worth is what the hold of that sum in a sandbox is worth. -/
noncomputable def Try.pinned : Pinned := { name := "ytakijnclllmkfaa", sum := "14c1fa5058bc9e62ca836e4021776828994cc4a3890d416991554bdf24a1a274", checked := Try.checked }
namespace Rows
def none {H : Type} : Left H := { results := [], args := [] }

/-- 'repriselaw09.PagesExact': WHATEVER THE INPUT: true; the input reads as it did. -/
def pagesExactSpec : ChangeSpec := { name := "pagesExact", fn := fun _ => fun
  | [d1, d2, d3] => { results := [.lit (.bool true)], args := [d1, d2, d3] }
  | _ => none }
def pagesExactRow : OpenClaim := { program := "ytakijnclllmkfaa", sum := "14c1fa5058bc9e62ca836e4021776828994cc4a3890d416991554bdf24a1a274", func := "reprise/repriselaw09.PagesExact", spec := "pagesExact", unfollowed := true, recurses := true, apart := false }
def PagesExactSaid : Prop := pagesExactRow.holds Try.pinned (OpenSpec.ofChange pagesExactSpec)

/-- ITS FALSE NEIGHBOUR: 'it returns false'. Refute it at one input. -/
def pagesExactWrong : ChangeSpec := { name := "pagesExact", fn := fun _ => fun
  | [d1, d2, d3] => { results := [.lit (.bool false)], args := [d1, d2, d3] }
  | _ => none }
def PagesExactWrongFalsely : Prop := pagesExactRow.holds Try.pinned (OpenSpec.ofChange pagesExactWrong)

/-- 'repriselaw09.PagesImages': WHATEVER THE INPUT: true; the input reads as it did. -/
def pagesImagesSpec : ChangeSpec := { name := "pagesImages", fn := fun _ => fun
  | [d] => { results := [.lit (.bool true)], args := [d] }
  | _ => none }
def pagesImagesRow : OpenClaim := { program := "ytakijnclllmkfaa", sum := "14c1fa5058bc9e62ca836e4021776828994cc4a3890d416991554bdf24a1a274", func := "reprise/repriselaw09.PagesImages", spec := "pagesImages", unfollowed := true, recurses := true, apart := false }
def PagesImagesSaid : Prop := pagesImagesRow.holds Try.pinned (OpenSpec.ofChange pagesImagesSpec)

/-- ITS FALSE NEIGHBOUR: 'it returns false'. Refute it at one input. -/
def pagesImagesWrong : ChangeSpec := { name := "pagesImages", fn := fun _ => fun
  | [d] => { results := [.lit (.bool false)], args := [d] }
  | _ => none }
def PagesImagesWrongFalsely : Prop := pagesImagesRow.holds Try.pinned (OpenSpec.ofChange pagesImagesWrong)

/-- 'repriselaw09.PagesLast': WHATEVER THE INPUT: true; the input reads as it did. -/
def pagesLastSpec : ChangeSpec := { name := "pagesLast", fn := fun _ => fun
  | [d] => { results := [.lit (.bool true)], args := [d] }
  | _ => none }
def pagesLastRow : OpenClaim := { program := "ytakijnclllmkfaa", sum := "14c1fa5058bc9e62ca836e4021776828994cc4a3890d416991554bdf24a1a274", func := "reprise/repriselaw09.PagesLast", spec := "pagesLast", unfollowed := true, recurses := true, apart := false }
def PagesLastSaid : Prop := pagesLastRow.holds Try.pinned (OpenSpec.ofChange pagesLastSpec)

/-- ITS FALSE NEIGHBOUR: 'it returns false'. Refute it at one input. -/
def pagesLastWrong : ChangeSpec := { name := "pagesLast", fn := fun _ => fun
  | [d] => { results := [.lit (.bool false)], args := [d] }
  | _ => none }
def PagesLastWrongFalsely : Prop := pagesLastRow.holds Try.pinned (OpenSpec.ofChange pagesLastWrong)

/-- 'repriselaw09.PagesCrash': WHATEVER THE INPUT: true; the input reads as it did. -/
def pagesCrashSpec : ChangeSpec := { name := "pagesCrash", fn := fun _ => fun
  | [d1, d2, d3] => { results := [.lit (.bool true)], args := [d1, d2, d3] }
  | _ => none }
def pagesCrashRow : OpenClaim := { program := "ytakijnclllmkfaa", sum := "14c1fa5058bc9e62ca836e4021776828994cc4a3890d416991554bdf24a1a274", func := "reprise/repriselaw09.PagesCrash", spec := "pagesCrash", unfollowed := true, recurses := true, apart := false }
def PagesCrashSaid : Prop := pagesCrashRow.holds Try.pinned (OpenSpec.ofChange pagesCrashSpec)

/-- ITS FALSE NEIGHBOUR: 'it returns false'. Refute it at one input. -/
def pagesCrashWrong : ChangeSpec := { name := "pagesCrash", fn := fun _ => fun
  | [d1, d2, d3] => { results := [.lit (.bool false)], args := [d1, d2, d3] }
  | _ => none }
def PagesCrashWrongFalsely : Prop := pagesCrashRow.holds Try.pinned (OpenSpec.ofChange pagesCrashWrong)

/-- 'repriselaw09.PagesShadow': WHATEVER THE INPUT: true; the input reads as it did. -/
def pagesShadowSpec : ChangeSpec := { name := "pagesShadow", fn := fun _ => fun
  | [d] => { results := [.lit (.bool true)], args := [d] }
  | _ => none }
def pagesShadowRow : OpenClaim := { program := "ytakijnclllmkfaa", sum := "14c1fa5058bc9e62ca836e4021776828994cc4a3890d416991554bdf24a1a274", func := "reprise/repriselaw09.PagesShadow", spec := "pagesShadow", unfollowed := true, recurses := true, apart := false }
def PagesShadowSaid : Prop := pagesShadowRow.holds Try.pinned (OpenSpec.ofChange pagesShadowSpec)

/-- ITS FALSE NEIGHBOUR: 'it returns false'. Refute it at one input. -/
def pagesShadowWrong : ChangeSpec := { name := "pagesShadow", fn := fun _ => fun
  | [d] => { results := [.lit (.bool false)], args := [d] }
  | _ => none }
def PagesShadowWrongFalsely : Prop := pagesShadowRow.holds Try.pinned (OpenSpec.ofChange pagesShadowWrong)

/-- 'repriselaw09.PagesRefuses': WHATEVER THE INPUT: true; the input reads as it did. -/
def pagesRefusesSpec : ChangeSpec := { name := "pagesRefuses", fn := fun _ => fun
  | [d1, d2, d3] => { results := [.lit (.bool true)], args := [d1, d2, d3] }
  | _ => none }
def pagesRefusesRow : OpenClaim := { program := "ytakijnclllmkfaa", sum := "14c1fa5058bc9e62ca836e4021776828994cc4a3890d416991554bdf24a1a274", func := "reprise/repriselaw09.PagesRefuses", spec := "pagesRefuses", unfollowed := true, recurses := true, apart := false }
def PagesRefusesSaid : Prop := pagesRefusesRow.holds Try.pinned (OpenSpec.ofChange pagesRefusesSpec)

/-- ITS FALSE NEIGHBOUR: 'it returns false'. Refute it at one input. -/
def pagesRefusesWrong : ChangeSpec := { name := "pagesRefuses", fn := fun _ => fun
  | [d1, d2, d3] => { results := [.lit (.bool false)], args := [d1, d2, d3] }
  | _ => none }
def PagesRefusesWrongFalsely : Prop := pagesRefusesRow.holds Try.pinned (OpenSpec.ofChange pagesRefusesWrong)

/- THE SECOND FORM. 'bulk': how many values and letters a reading holds, each counted each time it is reached (what is shared counts as often as it is met; a slice's spare places count too). A statement '..UptoSaid' is the law's where the arguments, and the package variables that the reading takes, are together of bulk at most 1048576: NARROWER than '..Said'. Prove '..Said' where nothing that the law and all that it calls make is longer than what came in: it says more and counts as full. Else prove '..UptoSaid'. A law counts once. -/
mutual
def uptoBulk {H : Type} : DataW H → Nat
  | .lit (.string bytes) => bytes.length + 1
  | .lit _ => 1
  | .nil => 1
  | .ptr d => uptoBulk d + 1
  | .slice elems spare => uptoBulkAll elems + uptoBulkAll spare + 1
  | .agg parts => uptoBulkAll parts + 1
  | .iface _ d => uptoBulk d + 1
  | .map entries => uptoBulkEntries entries + 1
  | .held _ => 1
def uptoBulkAll {H : Type} : List (DataW H) → Nat
  | [] => 0
  | d :: r => uptoBulk d + uptoBulkAll r
def uptoBulkEntries {H : Type} : List (Lit × DataW H) → Nat
  | [] => 0
  | x :: r => uptoBulkEntry x + uptoBulkEntries r
def uptoBulkEntry {H : Type} : Lit × DataW H → Nat
  | (.string bytes, d) => bytes.length + uptoBulk d + 1
  | (_, d) => uptoBulk d + 1
 end
def uptoSmall : (H : Type) → List (DataW H) → Bool := fun _ ds => decide (uptoBulkAll ds ≤ 1048576)
def OpenSpec.upto (s : _root_.Go.ChangeSpec) : _root_.Go.OpenSpec := { _root_.Go.OpenSpec.ofChange s with cond := some uptoSmall }

/-- 'repriselaw09.PagesExact', WHERE WHAT IT READS IS OF BULK AT MOST 1048576: true; the input reads as it did. -/
def pagesExactUptoRow : OpenClaim := { program := "ytakijnclllmkfaa", sum := "14c1fa5058bc9e62ca836e4021776828994cc4a3890d416991554bdf24a1a274", func := "reprise/repriselaw09.PagesExact", spec := "pagesExact", unfollowed := true, recurses := true, apart := false, narrowed := true }
def PagesExactUptoSaid : Prop := pagesExactUptoRow.holds Try.pinned (OpenSpec.upto pagesExactSpec)

/-- 'repriselaw09.PagesImages', WHERE WHAT IT READS IS OF BULK AT MOST 1048576: true; the input reads as it did. -/
def pagesImagesUptoRow : OpenClaim := { program := "ytakijnclllmkfaa", sum := "14c1fa5058bc9e62ca836e4021776828994cc4a3890d416991554bdf24a1a274", func := "reprise/repriselaw09.PagesImages", spec := "pagesImages", unfollowed := true, recurses := true, apart := false, narrowed := true }
def PagesImagesUptoSaid : Prop := pagesImagesUptoRow.holds Try.pinned (OpenSpec.upto pagesImagesSpec)

/-- 'repriselaw09.PagesLast', WHERE WHAT IT READS IS OF BULK AT MOST 1048576: true; the input reads as it did. -/
def pagesLastUptoRow : OpenClaim := { program := "ytakijnclllmkfaa", sum := "14c1fa5058bc9e62ca836e4021776828994cc4a3890d416991554bdf24a1a274", func := "reprise/repriselaw09.PagesLast", spec := "pagesLast", unfollowed := true, recurses := true, apart := false, narrowed := true }
def PagesLastUptoSaid : Prop := pagesLastUptoRow.holds Try.pinned (OpenSpec.upto pagesLastSpec)

/-- 'repriselaw09.PagesCrash', WHERE WHAT IT READS IS OF BULK AT MOST 1048576: true; the input reads as it did. -/
def pagesCrashUptoRow : OpenClaim := { program := "ytakijnclllmkfaa", sum := "14c1fa5058bc9e62ca836e4021776828994cc4a3890d416991554bdf24a1a274", func := "reprise/repriselaw09.PagesCrash", spec := "pagesCrash", unfollowed := true, recurses := true, apart := false, narrowed := true }
def PagesCrashUptoSaid : Prop := pagesCrashUptoRow.holds Try.pinned (OpenSpec.upto pagesCrashSpec)

/-- 'repriselaw09.PagesShadow', WHERE WHAT IT READS IS OF BULK AT MOST 1048576: true; the input reads as it did. -/
def pagesShadowUptoRow : OpenClaim := { program := "ytakijnclllmkfaa", sum := "14c1fa5058bc9e62ca836e4021776828994cc4a3890d416991554bdf24a1a274", func := "reprise/repriselaw09.PagesShadow", spec := "pagesShadow", unfollowed := true, recurses := true, apart := false, narrowed := true }
def PagesShadowUptoSaid : Prop := pagesShadowUptoRow.holds Try.pinned (OpenSpec.upto pagesShadowSpec)

/-- 'repriselaw09.PagesRefuses', WHERE WHAT IT READS IS OF BULK AT MOST 1048576: true; the input reads as it did. -/
def pagesRefusesUptoRow : OpenClaim := { program := "ytakijnclllmkfaa", sum := "14c1fa5058bc9e62ca836e4021776828994cc4a3890d416991554bdf24a1a274", func := "reprise/repriselaw09.PagesRefuses", spec := "pagesRefuses", unfollowed := true, recurses := true, apart := false, narrowed := true }
def PagesRefusesUptoSaid : Prop := pagesRefusesUptoRow.holds Try.pinned (OpenSpec.upto pagesRefusesSpec)

end Rows
end Go.Proofs.Ytakijnclllmkfaa
