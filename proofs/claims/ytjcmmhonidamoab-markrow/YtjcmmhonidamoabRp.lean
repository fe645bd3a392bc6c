/- MarkRow: attempts in memory. -/
import Derived.Test.YtjcmmhonidamoabKq
import Derived.Laws.StructEq
namespace Go.Proofs.Ytjcmmhonidamoab
open Go.RowKit

structure PB (w : World) (P : Nat) (b a : Int) : Prop where
  c0 : w.cell? ⟨P, 0, none⟩ = some (.int .i64 b)
  c1 : w.cell? ⟨P, 1, none⟩ = some (.int .i64 a)
theorem PB.keep {w w' : World} {P : Nat} {b a : Int} (h : PB w P b a) (hb : Below w.heap.size w w') : PB w' P b a := by
  have hl := cell_lt h.c0
  exact ⟨by rw [hb.cell (p := ⟨P, 0, none⟩) hl]; exact h.c0, by rw [hb.cell (p := ⟨P, 1, none⟩) hl]; exact h.c1⟩
theorem pb_new (w : World) (b a : Int) : PB (w.alloc (Obj.cells #[.int .i64 b, .int .i64 a] 46)) w.heap.size b a := by
  constructor <;> simp [go_sem]
abbrev W3 (w : World) (ab aa bb ba cb ca : Int) : World := ((w.alloc (Obj.cells #[.int .i64 ab, .int .i64 aa] 46)).alloc (Obj.cells #[.int .i64 bb, .int .i64 ba] 46)).alloc (Obj.cells #[.int .i64 cb, .int .i64 ca] 46)
theorem w3_parts (w : World) (ab aa bb ba cb ca : Int) : PB (W3 w ab aa bb ba cb ca) w.heap.size ab aa ∧ PB (W3 w ab aa bb ba cb ca) (w.heap.size + 1) bb ba ∧ PB (W3 w ab aa bb ba cb ca) (w.heap.size + 2) cb ca ∧ Below w.heap.size w (W3 w ab aa bb ba cb ca) := by
  have h1 := pb_new w ab aa
  have h2 := pb_new (w.alloc (Obj.cells #[.int .i64 ab, .int .i64 aa] 46)) bb ba
  have h3 := pb_new ((w.alloc (Obj.cells #[.int .i64 ab, .int .i64 aa] 46)).alloc (Obj.cells #[.int .i64 bb, .int .i64 ba] 46)) cb ca
  rw [size_allocC] at h2
  rw [size_allocC, size_allocC] at h3
  exact ⟨(h1.keep (below_alloc _ _)).keep (below_alloc _ _), h2.keep (below_alloc _ _), h3, below_trans (below_trans (below_alloc _ _) (below_alloc _ _)) (below_alloc _ _)⟩
end Go.Proofs.Ytjcmmhonidamoab
