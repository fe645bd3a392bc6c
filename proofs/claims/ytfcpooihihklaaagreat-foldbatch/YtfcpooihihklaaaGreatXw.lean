/- The statements' own first question: answers that the document fixes by number. -/
import Derived.Test.YtfcpooihihklaaaGreatXo
namespace Go.Proofs.YtfcpooihihklaaaGreat
open Ieee Go.RowKit
attribute [local go_sem] run_store_float

theorem ok_small {K N : Int} {X : Nat} (h : -100 ≤ K ∧ K ≤ 100 ∧ -100 ≤ N ∧ N ≤ 100) (hX : X < 18446744073709551616) : Stp.ok ⟨K, N, X⟩ := ⟨⟨by simp only; omega, by simp only; omega⟩, ⟨by simp only; omega, by simp only; omega⟩, hX⟩
theorem aw1 : runS [⟨10, 7, 0⟩] ⟨1, 4613712638259704627⟩ = (1, ⟨1, 4613937818241073152⟩) := by kernel_rfl
theorem aw2 : runS [⟨10, 7, 0⟩] ⟨1, 4602678819172646912⟩ = (3, ⟨0, 0⟩) := by kernel_rfl
theorem aw3 : oneS ⟨1, 0, 4611686018427387904⟩ ⟨0, 4613937818241073152⟩ = (2, ⟨0, 0⟩) := by kernel_rfl
theorem aw4 : runS [⟨12, 0, 0⟩] ⟨5, 0⟩ = (1, ⟨21, 0⟩) := by kernel_rfl
theorem aw5 : chkI [⟨13, 0, 0⟩] = 30 := by kernel_rfl

theorem rec_new {w w1 w2 : World} {k x : Nat} {t : TypeId} (h : w1.alloc (Obj.cells #[Value.int IntKind.u64 k, Value.float FloatKind.f64 x] t) = w2) (hB : Below w.heap.size w w1) :
    Hid (w2.heap.size = w1.heap.size + 1) ∧ Hid (RB w2 w1.heap.size k x) ∧ Hid (Below w.heap.size w w2) := by
  subst h
  refine ⟨by simp [Hid, go_sem], ⟨?_, ?_, ?_, ?_⟩, below_trans hB (below_alloc _ _)⟩
  all_goals simp [go_sem]
end Go.Proofs.YtfcpooihihklaaaGreat
