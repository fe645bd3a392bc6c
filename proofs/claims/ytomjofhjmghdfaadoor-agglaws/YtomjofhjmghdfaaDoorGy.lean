/- From the walk to the row: a kind and three values by value among the arguments, opened. -/
import Derived.Test.YtomjofhjmghdfaaDoorGz
namespace Go.Proofs.YtomjofhjmghdfaaDoor
open Go.ChangeShapes Go.WideShapes Go.ChangeAt Go.RowKit

theorem cells_three : Tryd.prog.cellsOf 37 = 7 := by kernel_rfl

theorem cells_of_three {H : Type} {enc : TypeId × Value → H} {W : World} {sp : Nat → Bool} {held : Bool} {base n : Nat} {cs : List Value} {x : DataW H × List MemPlace} (hl : cs.length = 7) (h : DataW.trod enc Tryd.prog W base sp held n 37 cs = some x) :
    ∃ (k : Int) (A B C : Vl), cs = [.int .i64 k, .bool A.h, .int .u64 A.b, .bool B.h, .int .u64 B.b, .bool C.h, .int .u64 C.b] ∧ A.ok ∧ B.ok ∧ C.ok := by
  obtain ⟨y0, y1, y2, y3, m, _, _, h0, h1, h2, h3⟩ := Go.Joins.trod_struct4 Tryd.underlying37 h
  match cs, hl with
  | [c0, c1, c2, c3, c4, c5, c6], _ =>
    simp only [cells_int, cells_value, List.drop_zero, List.drop_succ_cons, List.take_succ_cons, List.take_zero] at h0 h1 h2 h3
    obtain ⟨k, rfl⟩ := cell_i64 h0
    obtain ⟨A, hA, oA⟩ := cells_of_value rfl h1
    obtain ⟨B, hB, oB⟩ := cells_of_value rfl h2
    obtain ⟨C, hC, oC⟩ := cells_of_value rfl h3
    simp only [List.cons.injEq, and_true] at hA hB hC
    obtain ⟨rfl, rfl⟩ := hA
    obtain ⟨rfl, rfl⟩ := hB
    obtain ⟨rfl, rfl⟩ := hC
    exact ⟨k, A, B, C, rfl, oA, oB, oC⟩

theorem open_three {H : Type} {enc : TypeId × Value → H} {W : World} {v : Value} {d : DataW H} {p : List MemPlace} {base : Nat}
    (hv : Value.okWide Tryd.prog W .any base 37 v) (h : DataW.Trod enc Tryd.prog W 0 (fun _ => true) true 37 v d p) :
    ∃ (k : Int) (A B C : Vl), v = .agg #[.int .i64 k, .bool A.h, .int .u64 A.b, .bool B.h, .int .u64 B.b, .bool C.h, .int .u64 C.b] ∧ A.ok ∧ B.ok ∧ C.ok := by
  obtain ⟨cs, rfl, hsz⟩ := okWide_struct Tryd.underlying37 hv
  obtain ⟨fuel, hf⟩ := h
  obtain ⟨k, A, B, C, hr, hok⟩ := cells_of_three (by simpa [Value.cells, cells_three] using hsz) hf
  refine ⟨k, A, B, C, ?_, hok⟩
  have : cs = #[.int .i64 k, .bool A.h, .int .u64 A.b, .bool B.h, .int .u64 B.b, .bool C.h, .int .u64 C.b] := by
    apply Array.toList_inj.1
    simpa [Value.cells] using hr
  rw [this]
end Go.Proofs.YtomjofhjmghdfaaDoor
