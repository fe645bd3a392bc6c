/- One, Key; the statements' own small functions; their first question. -/
import Derived.Test.YtkpfjoklbindjabXr
namespace Go.Proofs.Ytkpfjoklbindjab
open Ieee Go.RowKit
attribute [local go_sem] run_store_float run_bits run_frombits

theorem ov_one (w : World) (o : Stp) (ho : o.ok) (t : TypeId) : Ov (w.alloc (Obj.cells #[.int .i64 o.K, .int .i64 o.N, .float .f64 o.X] t)) (.slice (some ⟨w.heap.size, 0, none⟩) 1 1) [o] := by
  refine ⟨⟨_, 1, rfl, by simp, by simp [maxLen], by simp, fun i hi => ?_⟩, by simpa using ho⟩
  have : i = 0 := by simpa using hi
  subst this
  refine ⟨_, _, rfl, ?_, ?_, ?_⟩ <;> simp [go_sem]

set_option linter.unusedSimpArgs false in
theorem one_walk (o : Stp) (r : Rcd) (ho : o.ok) (hr : r.ok) (w : World) :
    Calls Try.prog 7 #[.agg #[.int .i64 o.K, .int .i64 o.N, .float .f64 o.X], .agg #[.int .u64 r.k, .float .f64 r.x]] w fun e w' =>
      e = .returned (.tuple #[.agg #[.int .u64 (oneS o r).2.k, .float .f64 (oneS o r).2.x], .int .i64 (oneS o r).1]) ∧ Below w.heap.size w w' := by
  have HO : Hid o.ok := ho
  have HR : Hid r.ok := hr
  clear ho hr
  go_enter Try.func7, Try.ntmps7
  go_wp2_with fail
  generalize hw1 : ((w.alloc (Obj.cells #[Value.int IntKind.i64 o.K, Value.int IntKind.i64 o.N, Value.float FloatKind.f64 o.X] 30)).alloc (Obj.cells #[Value.int IntKind.u64 r.k, Value.float FloatKind.f64 r.x] 25)).alloc (Obj.cells #[Value.int IntKind.u64 0, Value.float FloatKind.f64 0] 25) = w1
  obtain ⟨HS, HB, _, _, _, _, R2⟩ := step_start hw1
  clear hw1
  rw [← HS.out]
  refine (run_walk r HR.out (ov_one w1 o HO.out _)).mono ?_
  rintro e w2 ⟨rfl, hB⟩
  have HB2 : Hid (Below w1.heap.size w1 w2) := below_trans (below_alloc _ _) hB
  obtain ⟨d0, d1, y0, y1⟩ := R2.below HB2.out (cell_lt R2.c0)
  clear hB R2
  go_wp2_with fail
  refine bodyPost_ret (v := .tuple #[.agg #[.int .u64 (runS [o] r).2.k, .float .f64 (runS [o] r).2.x], .int .i64 (runS [o] r).1]) (by simp [results, Try.results7, go_sem, d0, d1, y0, y1]) rfl ⟨rfl, ?_⟩
  exact ((below_trans HB.out HB2.out).setCell (p := ⟨w.heap.size + 1 + 1, 0, none⟩) (by simp only; omega) _).setCell (p := ⟨w.heap.size + 1 + 1, 1, none⟩) (by simp only; omega) _

theorem key_walk {v : Value} {l : List Stp} {w : World} (r : Rcd) (hr : r.ok) (ho : Ov w v l) :
    Calls Try.prog 6 #[v, .agg #[.int .u64 r.k, .float .f64 r.x]] w fun e w' =>
      e = .returned (.tuple #[.int .u64 (runS l r).2.k, .bool ((runS l r).1 == 1)]) ∧ Below w.heap.size w w' := by
  have HO : Hid (Ov w v l) := ho
  have HR : Hid r.ok := hr
  clear ho hr
  go_enter Try.func6, Try.ntmps6
  go_wp2_with fail
  refine (run_walk r HR.out (HO.out.below (below_alloc _ _))).mono ?_
  rintro e w2 ⟨rfl, hB⟩
  have HB : Hid (Below w.heap.size w w2) := below_trans (below_alloc _ _) hB
  clear hB
  go_wp2_with fail
  go_ret2
  exact ⟨rfl, HB.out.alloc HB.out.size _⟩

theorem rsame_walk (a b : Nat) (w : World) :
    Calls Try.prog 12 #[.float .f64 a, .float .f64 b] w fun e w' => e = .returned (.bool (decide (a = b))) ∧ w' = w := by
  go_enter Try.func12, Try.ntmps12
  go_wp2
  go_ret
  exact ⟨ret_bool (by rw [Bool.eq_iff_iff]; simp; omega), rfl⟩

def sameB (a b : Rcd) : Bool := decide (a.k = b.k) && decide (a.x = b.x)
theorem same_walk (a b : Rcd) (w : World) :
    Calls Try.prog 10 #[.agg #[.int .u64 a.k, .float .f64 a.x], .agg #[.int .u64 b.k, .float .f64 b.x]] w fun e w' => e = .returned (.bool (sameB a b)) ∧ Below w.heap.size w w' := by
  by_cases h : a.k = b.k
  · have h1 : ((a.k : Int) == (b.k : Int)) = true := by simp; omega
    have HE : Hid (sameB a b = decide (a.x = b.x)) := by show _ = _; unfold sameB; rw [decide_eq_true h, Bool.true_and]
    clear h
    go_enter Try.func10, Try.ntmps10
    go_wp2_with fail
    refine (rsame_walk _ _ _).mono ?_
    rintro e w' ⟨rfl, rfl⟩
    go_wp2_with fail
    go_ret
    exact ⟨ret_bool HE.out.symm, (below_alloc _ _).alloc (by simp [go_sem]) _⟩
  · have h1 : ((a.k : Int) == (b.k : Int)) = false := by simp; omega
    have HE : Hid (sameB a b = false) := by show _ = _; unfold sameB; rw [decide_eq_false h, Bool.false_and]
    clear h
    go_enter Try.func10, Try.ntmps10
    go_wp2_with fail
    go_ret
    exact ⟨ret_bool HE.out.symm, (below_alloc _ _).alloc (by simp [go_sem]) _⟩
end Go.Proofs.Ytkpfjoklbindjab
