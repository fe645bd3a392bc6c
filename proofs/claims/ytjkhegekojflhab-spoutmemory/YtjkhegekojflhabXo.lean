/- One, Key; the statements' own small functions; their first question. -/
import Derived.Test.YtjkhegekojflhabXr
namespace Go.Proofs.Ytjkhegekojflhab
open Ieee Go.RowKit
attribute [local go_sem] run_store_float run_bits run_frombits

theorem ov_one (w : World) (o : Stp) (ho : o.ok) (t : TypeId) : Ov (w.alloc (Obj.cells #[.int .i64 o.K, .int .i64 o.N, .float .f64 o.X] t)) (.slice (some ⟨w.heap.size, 0, none⟩) 1 1) [o] := by
  refine ⟨⟨_, 1, rfl, by simp, by simp [maxLen], by simp, fun i hi => ?_⟩, by simpa using ho⟩
  have : i = 0 := by simpa using hi
  subst this
  refine ⟨_, _, rfl, ?_, ?_, ?_⟩ <;> simp [go_sem]

theorem key_walk {v : Value} {l : List Stp} {w : World} (r : Rcd) (hr : r.ok) (ho : Ov w v l) :
    Calls Try.prog 31 #[v, .agg #[.int .u64 r.k, .float .f64 r.x]] w fun e w' =>
      e = .returned (.tuple #[.int .u64 (runS l r).2.k, .bool ((runS l r).1 == 1)]) ∧ Below w.heap.size w w' := by
  have HO : Hid (Ov w v l) := ho
  have HR : Hid r.ok := hr
  clear ho hr
  go_enter Try.func31, Try.ntmps31
  go_wp2_with fail
  refine (run_walk r HR.out (HO.out.below (below_alloc _ _))).mono ?_
  rintro e w2 ⟨rfl, hB⟩
  have HB : Hid (Below w.heap.size w w2) := below_trans (below_alloc _ _) hB
  clear hB
  go_wp2_with fail
  go_ret2
  exact ⟨rfl, HB.out.alloc HB.out.size _⟩

theorem rsame_walk (a b : Nat) (w : World) :
    Calls Try.prog 25 #[.float .f64 a, .float .f64 b] w fun e w' => e = .returned (.bool (decide (a = b))) ∧ w' = w := by
  go_enter Try.func25, Try.ntmps25
  go_wp2
  go_ret
  exact ⟨ret_bool (by rw [Bool.eq_iff_iff]; simp; omega), rfl⟩
end Go.Proofs.Ytjkhegekojflhab
