/- Slices of acts among the arguments, opened. -/
import Derived.Test.YtjcmmhonidamoaaBz
import Derived.Test.YtjcmmhonidamoaaHb
namespace Go.Proofs.Ytjcmmhonidamoaa
open Go.ChangeShapes Go.WideShapes Go.ChangeAt Go.RowKit

theorem cells_act : Try.prog.cellsOf 47 = 7 := by kernel_rfl

theorem cells_of_act {H : Type} {enc : TypeId × Value → H} {W : World} {sp : Nat → Bool} {held : Bool} {base n : Nat} {cs : List Value} {x : DataW H × List MemPlace} (hl : cs.length = 7) (h : DataW.trod enc Try.prog W base sp held n 47 cs = some x) :
    ∃ a : Ac, cs = acF a ∧ a.c.ok := by
  obtain ⟨y0, y1, m, _, _, h0, h1⟩ := trod_struct2 Try.underlying47 h
  match cs, hl with
  | [c0, c1, c2, c3, c4, c5, c6], _ =>
    simp only [cells_bool, cells_cell, List.drop_zero, List.drop_succ_cons, List.take_succ_cons, List.take_zero] at h0 h1
    obtain ⟨d, rfl⟩ := cell_bool h0
    obtain ⟨c, hc, ok⟩ := cells_of_cell rfl h1
    exact ⟨⟨d, c⟩, by rw [hc]; rfl, ok⟩
end Go.Proofs.Ytjcmmhonidamoaa
