/- The reference's TakeNums. -/
import Derived.Test.YtakijnclllmkfabWk

namespace Go.Proofs.Ytakijnclllmkfab

open Go.RowKit



theorem tn_err {b : List Nat} {p e : Nat} (k : Nat) (acc : List Nat) (h : Wm.take (b.drop p) = (0, 0, e)) (h34 : e = 3 ∨ e = 4) : Wm.tnums (k + 1) b p acc = ([], 0, e) := by
  rw [Wm.tnums, h]; rcases h34 with rfl | rfl <;> rfl
theorem tn_big {b : List Nat} {p x n : Nat} (k : Nat) (acc : List Nat) (h : Wm.take (b.drop p) = (x, n, 0)) (hb : 4611686018427387904 < x) : Wm.tnums (k + 1) b p acc = ([], 0, 4) := by
  rw [Wm.tnums, h]; simp only; rw [if_pos hb]
theorem tn_ok {b : List Nat} {p x n : Nat} (k : Nat) (acc : List Nat) (h : Wm.take (b.drop p) = (x, n, 0)) (hb : ¬ 4611686018427387904 < x) : Wm.tnums (k + 1) b p acc = Wm.tnums k b (p + n) (acc ++ [x]) := by
  rw [Wm.tnums, h]; simp only; rw [if_neg hb]


end Go.Proofs.Ytakijnclllmkfab


