/- One, Key; the statements' own small functions; their first question. -/
import Derived.Test.YtfcpooihihklaaaGreatXr
namespace Go.Proofs.YtfcpooihihklaaaGreat
open Ieee Go.RowKit
attribute [local go_sem] run_store_float run_bits run_frombits

theorem ov_one (w : World) (o : Stp) (ho : o.ok) (t : TypeId) : Ov (w.alloc (Obj.cells #[.int .i64 o.K, .int .i64 o.N, .float .f64 o.X] t)) (.slice (some ⟨w.heap.size, 0, none⟩) 1 1) [o] := by
  refine ⟨⟨_, 1, rfl, by simp, by simp [maxLen], by simp, fun i hi => ?_⟩, by simpa using ho⟩
  have : i = 0 := by simpa using hi
  subst this
  refine ⟨_, _, rfl, ?_, ?_, ?_⟩ <;> simp [go_sem]
end Go.Proofs.YtfcpooihihklaaaGreat
