/- The walk of FbitPowers, road by road. -/
import Derived.Test.YtjieoemknocikabW5
import Derived.Test.YtjieoemknocikabFj
namespace Go.Proofs.Ytjieoemknocikab
open Ieee Go.RowKit

/-- The other sign. -/
def negW (x : Nat) : Nat := Op.negFloat .f64 x
theorem unary_negW (x : Nat) : Op.unary .neg (.float .f64 x) = pure (.float .f64 (negW x)) := rfl
attribute [local go_sem] unary_negW
theorem scaleR_lt {x : Nat} (n : Int) (hx : x < 18446744073709551616) : scaleR x n < 18446744073709551616 := by
  rw [← ldW_canon]; exact canon_lt (ldW_lt hx)

/-- The bits that the tape gives where x + x has no answer. -/
def nanG (x : Nat) (w : World) : Nat := (Question.nanBits .f64 x x).cut (w.tape w.drawn (.nanBits .f64 x x))
theorem nanG_nan (x : Nat) (w : World) : nanB (nanG x w) = true ∧ nanG x w < 18446744073709551616 := by
  unfold nanG
  generalize w.tape w.drawn (.nanBits .f64 x x) = t
  have e : (Question.nanBits .f64 x x).cut t = (t % 2) * 9223372036854775808 + 9218868437227405312 + 1 + (t / 2) % 4503599627370495 := rfl
  rw [e]
  have h1 : t % 2 < 2 := Nat.mod_lt _ (by omega)
  have h2 : (t / 2) % 4503599627370495 < 4503599627370495 := Nat.mod_lt _ (by omega)
  generalize t % 2 = a at *
  generalize (t / 2) % 4503599627370495 = b at *
  refine ⟨?_, by omega⟩
  unfold nanB rung
  rw [decide_eq_true_eq]
  omega
theorem run_add_nan (P : Program) {x : Nat} (t : TypeId) (h : FloatKind.f64.format.add x x = none) (w : World) :
    (binOp .add t (.float .f64 x) (.float .f64 x)).run P w = .ok (.float .f64 (nanG x w)) (w.drewN 1) := by
  simp [binOp, Op.floatArith, h, Question.forced]
  exact ⟨rfl, rfl⟩

set_option linter.unusedVariables false in
set_option maxHeartbeats 1000000 in
theorem pw_nan {x : Nat}  (n : Int) (n1 : -32768 ≤ n) (n2 : n ≤ 32767) (hx : x < 18446744073709551616) (w : World) (sx : FloatKind.f64.format.order x x = none) (hs : FloatKind.f64.format.add x x = none) (h0 : scaleR x 0 = 9221120237041090561) (hc0 : canonW x = 9221120237041090561) (h1 : scaleR x 1 = 9221120237041090561) (hy : scaleR x n = 9221120237041090561) (hX : negW x < 18446744073709551616) (qq : FloatKind.f64.format.order 9221120237041090561 9221120237041090561 = none) (ox0 : FloatKind.f64.format.order x 0 = none) (c3 : (classI x == 3) = false) :
    Calls Try.prog 3 #[.float .f64 x, .int .i16 n] w fun e w' => e = .returned (.bool true) ∧ ∃ n, w' = w.drewN n := by
  have hr : ∀ w : World, (binOp .add 22 (.float .f64 x) (.float .f64 x)).run Try.prog w = .ok (.float .f64 (nanG x w)) (w.drewN 1) := fun w => run_add_nan Try.prog _ hs w
  have hc : ∀ w : World, canonW (nanG x w) = 9221120237041090561 := fun w => by unfold canonW; rw [(nanG_nan x w).1]; rfl
  have hl : ∀ w : World, nanG x w < 18446744073709551616 := fun w => (nanG_nan x w).2
  have HL : Hid (∀ w : World, nanG x w < 18446744073709551616) := hl
  clear hs hl
  go_enter Try.func3, Try.ntmps3
  go_wp2_with fail
  refine (awake_walk _).mono ?_
  rintro e w' ⟨rfl, m1, rfl⟩
  go_wp2_with fail
  refine (scale_walk 0 hx _).mono ?_
  rintro e w' ⟨rfl, rfl⟩
  go_wp2_with fail
  refine (canon_walk hx _).mono ?_
  rintro e w' ⟨rfl, rfl⟩
  go_wp2_with fail
  refine (same_walk _ _ _).mono ?_
  rintro e w' ⟨rfl, rfl⟩
  go_wp2_with fail
  refine (scale_walk 1 hx _).mono ?_
  rintro e w' ⟨rfl, rfl⟩
  go_wp2_with fail
  refine (canon_walk (HL.out _) _).mono ?_
  rintro e w' ⟨rfl, rfl⟩
  go_wp2_with fail
  refine (same_walk _ _ _).mono ?_
  rintro e w' ⟨rfl, rfl⟩
  go_wp2_with fail
  refine (scale_walk n hx _).mono ?_
  rintro e w' ⟨rfl, rfl⟩
  go_wp2_with fail
  refine (scale_walk n hX _).mono ?_
  rintro e w' ⟨rfl, rfl⟩
  go_wp2_with fail
  refine (class_walk hx _).mono ?_
  rintro e w' ⟨rfl, rfl⟩
  go_wp2_with fail
  go_ret
  exact ⟨rfl, _, rfl⟩

set_option linter.unusedVariables false in
set_option maxHeartbeats 1000000 in
theorem pw_zero {x : Nat} {A : Nat} (n : Int) (n1 : -32768 ≤ n) (n2 : n ≤ 32767) (hx : x < 18446744073709551616) (w : World) (sx : FloatKind.f64.format.order x x = some .eq) (hA : A < 18446744073709551616) (ha0 : FloatKind.f64.format.add x x = some A) (h0 : scaleR x 0 = canonW x) (h1 : scaleR x 1 = canonW A) (hX : negW x < 18446744073709551616) (hz : scaleR (negW x) n = negW (scaleR x n)) (hy : scaleR x n = x) (ox0 : FloatKind.f64.format.order x 0 = some .eq) (c3 : (classI x == 3) = false) :
    Calls Try.prog 3 #[.float .f64 x, .int .i16 n] w fun e w' => e = .returned (.bool true) ∧ ∃ n, w' = w.drewN n := by
  have hr : ∀ w : World, (binOp .add 22 (.float .f64 x) (.float .f64 x)).run Try.prog w = .ok (.float .f64 A) w := fun w => run_float_arith w .add 22 .f64 _ _ _ ha0
  clear ha0
  go_enter Try.func3, Try.ntmps3
  go_wp2_with fail
  refine (awake_walk _).mono ?_
  rintro e w' ⟨rfl, m1, rfl⟩
  go_wp2_with fail
  refine (scale_walk 0 hx _).mono ?_
  rintro e w' ⟨rfl, rfl⟩
  go_wp2_with fail
  refine (canon_walk hx _).mono ?_
  rintro e w' ⟨rfl, rfl⟩
  go_wp2_with fail
  refine (same_walk _ _ _).mono ?_
  rintro e w' ⟨rfl, rfl⟩
  go_wp2_with fail
  refine (scale_walk 1 hx _).mono ?_
  rintro e w' ⟨rfl, rfl⟩
  go_wp2_with fail
  refine (canon_walk hA _).mono ?_
  rintro e w' ⟨rfl, rfl⟩
  go_wp2_with fail
  refine (same_walk _ _ _).mono ?_
  rintro e w' ⟨rfl, rfl⟩
  go_wp2_with fail
  refine (scale_walk n hx _).mono ?_
  rintro e w' ⟨rfl, rfl⟩
  go_wp2_with fail
  refine (scale_walk n hX _).mono ?_
  rintro e w' ⟨rfl, rfl⟩
  go_wp2_with fail
  refine (same_walk _ _ _).mono ?_
  rintro e w' ⟨rfl, rfl⟩
  go_wp2_with fail
  refine (class_walk hx _).mono ?_
  rintro e w' ⟨rfl, rfl⟩
  go_wp2_with fail
  refine (same_walk _ _ _).mono ?_
  rintro e w' ⟨rfl, rfl⟩
  go_wp2_with fail
  go_ret
  exact ⟨rfl, _, rfl⟩

set_option linter.unusedVariables false in
set_option maxHeartbeats 1000000 in
theorem pw_other_lt {x : Nat} {A : Nat} (n : Int) (n1 : -32768 ≤ n) (n2 : n ≤ 32767) (hx : x < 18446744073709551616) (w : World) (sx : FloatKind.f64.format.order x x = some .eq) (hA : A < 18446744073709551616) (ha0 : FloatKind.f64.format.add x x = some A) (h0 : scaleR x 0 = canonW x) (h1 : scaleR x 1 = canonW A) (hX : negW x < 18446744073709551616) (hz : scaleR (negW x) n = negW (scaleR x n)) (yy : FloatKind.f64.format.order (scaleR x n) (scaleR x n) = some .eq) (ox0 : FloatKind.f64.format.order x 0 = some .lt) (c3 : (classI x == 3) = false) :
    Calls Try.prog 3 #[.float .f64 x, .int .i16 n] w fun e w' => e = .returned (.bool true) ∧ ∃ n, w' = w.drewN n := by
  have hr : ∀ w : World, (binOp .add 22 (.float .f64 x) (.float .f64 x)).run Try.prog w = .ok (.float .f64 A) w := fun w => run_float_arith w .add 22 .f64 _ _ _ ha0
  clear ha0
  go_enter Try.func3, Try.ntmps3
  go_wp2_with fail
  refine (awake_walk _).mono ?_
  rintro e w' ⟨rfl, m1, rfl⟩
  go_wp2_with fail
  refine (scale_walk 0 hx _).mono ?_
  rintro e w' ⟨rfl, rfl⟩
  go_wp2_with fail
  refine (canon_walk hx _).mono ?_
  rintro e w' ⟨rfl, rfl⟩
  go_wp2_with fail
  refine (same_walk _ _ _).mono ?_
  rintro e w' ⟨rfl, rfl⟩
  go_wp2_with fail
  refine (scale_walk 1 hx _).mono ?_
  rintro e w' ⟨rfl, rfl⟩
  go_wp2_with fail
  refine (canon_walk hA _).mono ?_
  rintro e w' ⟨rfl, rfl⟩
  go_wp2_with fail
  refine (same_walk _ _ _).mono ?_
  rintro e w' ⟨rfl, rfl⟩
  go_wp2_with fail
  refine (scale_walk n hx _).mono ?_
  rintro e w' ⟨rfl, rfl⟩
  go_wp2_with fail
  refine (scale_walk n hX _).mono ?_
  rintro e w' ⟨rfl, rfl⟩
  go_wp2_with fail
  refine (same_walk _ _ _).mono ?_
  rintro e w' ⟨rfl, rfl⟩
  go_wp2_with fail
  refine (class_walk hx _).mono ?_
  rintro e w' ⟨rfl, rfl⟩
  go_wp2_with fail
  go_ret
  exact ⟨rfl, _, rfl⟩

set_option linter.unusedVariables false in
set_option maxHeartbeats 1000000 in
theorem pw_na_lt {x : Nat} {A : Nat} (n : Int) (n1 : -32768 ≤ n) (n2 : n ≤ 32767) (hx : x < 18446744073709551616) (w : World) (sx : FloatKind.f64.format.order x x = some .eq) (hA : A < 18446744073709551616) (ha0 : FloatKind.f64.format.add x x = some A) (h0 : scaleR x 0 = canonW x) (h1 : scaleR x 1 = canonW A) (hX : negW x < 18446744073709551616) (hz : scaleR (negW x) n = negW (scaleR x n)) (yy : FloatKind.f64.format.order (scaleR x n) (scaleR x n) = some .eq) (ox0 : FloatKind.f64.format.order x 0 = some .lt) (c3 : classI x = 3) (c4 : (classI (scaleR x n) == 3) = false) :
    Calls Try.prog 3 #[.float .f64 x, .int .i16 n] w fun e w' => e = .returned (.bool true) ∧ ∃ n, w' = w.drewN n := by
  have hr : ∀ w : World, (binOp .add 22 (.float .f64 x) (.float .f64 x)).run Try.prog w = .ok (.float .f64 A) w := fun w => run_float_arith w .add 22 .f64 _ _ _ ha0
  clear ha0
  go_enter Try.func3, Try.ntmps3
  go_wp2_with fail
  refine (awake_walk _).mono ?_
  rintro e w' ⟨rfl, m1, rfl⟩
  go_wp2_with fail
  refine (scale_walk 0 hx _).mono ?_
  rintro e w' ⟨rfl, rfl⟩
  go_wp2_with fail
  refine (canon_walk hx _).mono ?_
  rintro e w' ⟨rfl, rfl⟩
  go_wp2_with fail
  refine (same_walk _ _ _).mono ?_
  rintro e w' ⟨rfl, rfl⟩
  go_wp2_with fail
  refine (scale_walk 1 hx _).mono ?_
  rintro e w' ⟨rfl, rfl⟩
  go_wp2_with fail
  refine (canon_walk hA _).mono ?_
  rintro e w' ⟨rfl, rfl⟩
  go_wp2_with fail
  refine (same_walk _ _ _).mono ?_
  rintro e w' ⟨rfl, rfl⟩
  go_wp2_with fail
  refine (scale_walk n hx _).mono ?_
  rintro e w' ⟨rfl, rfl⟩
  go_wp2_with fail
  refine (scale_walk n hX _).mono ?_
  rintro e w' ⟨rfl, rfl⟩
  go_wp2_with fail
  refine (same_walk _ _ _).mono ?_
  rintro e w' ⟨rfl, rfl⟩
  go_wp2_with fail
  refine (class_walk hx _).mono ?_
  rintro e w' ⟨rfl, rfl⟩
  go_wp2_with fail
  refine (class_walk (scaleR_lt n hx) _).mono ?_
  rintro e w' ⟨rfl, rfl⟩
  go_wp2_with fail
  go_ret
  exact ⟨rfl, _, rfl⟩

set_option linter.unusedVariables false in
set_option maxHeartbeats 1000000 in
theorem pw_nb_lt {x : Nat} {A : Nat} (n : Int) (n1 : -32768 ≤ n) (n2 : n ≤ 32767) (hx : x < 18446744073709551616) (w : World) (sx : FloatKind.f64.format.order x x = some .eq) (hA : A < 18446744073709551616) (ha0 : FloatKind.f64.format.add x x = some A) (h0 : scaleR x 0 = canonW x) (h1 : scaleR x 1 = canonW A) (hX : negW x < 18446744073709551616) (hz : scaleR (negW x) n = negW (scaleR x n)) (yy : FloatKind.f64.format.order (scaleR x n) (scaleR x n) = some .eq) (ox0 : FloatKind.f64.format.order x 0 = some .lt) (c3 : classI x = 3) (c4 : classI (scaleR x n) = 3) (c5 : (classI (scaleR (scaleR x n) (-1)) == 3) = false) :
    Calls Try.prog 3 #[.float .f64 x, .int .i16 n] w fun e w' => e = .returned (.bool true) ∧ ∃ n, w' = w.drewN n := by
  have hr : ∀ w : World, (binOp .add 22 (.float .f64 x) (.float .f64 x)).run Try.prog w = .ok (.float .f64 A) w := fun w => run_float_arith w .add 22 .f64 _ _ _ ha0
  clear ha0
  go_enter Try.func3, Try.ntmps3
  go_wp2_with fail
  refine (awake_walk _).mono ?_
  rintro e w' ⟨rfl, m1, rfl⟩
  go_wp2_with fail
  refine (scale_walk 0 hx _).mono ?_
  rintro e w' ⟨rfl, rfl⟩
  go_wp2_with fail
  refine (canon_walk hx _).mono ?_
  rintro e w' ⟨rfl, rfl⟩
  go_wp2_with fail
  refine (same_walk _ _ _).mono ?_
  rintro e w' ⟨rfl, rfl⟩
  go_wp2_with fail
  refine (scale_walk 1 hx _).mono ?_
  rintro e w' ⟨rfl, rfl⟩
  go_wp2_with fail
  refine (canon_walk hA _).mono ?_
  rintro e w' ⟨rfl, rfl⟩
  go_wp2_with fail
  refine (same_walk _ _ _).mono ?_
  rintro e w' ⟨rfl, rfl⟩
  go_wp2_with fail
  refine (scale_walk n hx _).mono ?_
  rintro e w' ⟨rfl, rfl⟩
  go_wp2_with fail
  refine (scale_walk n hX _).mono ?_
  rintro e w' ⟨rfl, rfl⟩
  go_wp2_with fail
  refine (same_walk _ _ _).mono ?_
  rintro e w' ⟨rfl, rfl⟩
  go_wp2_with fail
  refine (class_walk hx _).mono ?_
  rintro e w' ⟨rfl, rfl⟩
  go_wp2_with fail
  refine (class_walk (scaleR_lt n hx) _).mono ?_
  rintro e w' ⟨rfl, rfl⟩
  go_wp2_with fail
  refine (scale_walk (-1) (scaleR_lt n hx) _).mono ?_
  rintro e w' ⟨rfl, rfl⟩
  go_wp2_with fail
  refine (class_walk (scaleR_lt (-1) (scaleR_lt n hx)) _).mono ?_
  rintro e w' ⟨rfl, rfl⟩
  go_wp2_with fail
  go_ret
  exact ⟨rfl, _, rfl⟩

set_option linter.unusedVariables false in
set_option maxHeartbeats 1000000 in
theorem pw_other_gt {x : Nat} {A : Nat} (n : Int) (n1 : -32768 ≤ n) (n2 : n ≤ 32767) (hx : x < 18446744073709551616) (w : World) (sx : FloatKind.f64.format.order x x = some .eq) (hA : A < 18446744073709551616) (ha0 : FloatKind.f64.format.add x x = some A) (h0 : scaleR x 0 = canonW x) (h1 : scaleR x 1 = canonW A) (hX : negW x < 18446744073709551616) (hz : scaleR (negW x) n = negW (scaleR x n)) (yy : FloatKind.f64.format.order (scaleR x n) (scaleR x n) = some .eq) (ox0 : FloatKind.f64.format.order x 0 = some .gt) (c3 : (classI x == 3) = false) :
    Calls Try.prog 3 #[.float .f64 x, .int .i16 n] w fun e w' => e = .returned (.bool true) ∧ ∃ n, w' = w.drewN n := by
  have hr : ∀ w : World, (binOp .add 22 (.float .f64 x) (.float .f64 x)).run Try.prog w = .ok (.float .f64 A) w := fun w => run_float_arith w .add 22 .f64 _ _ _ ha0
  clear ha0
  go_enter Try.func3, Try.ntmps3
  go_wp2_with fail
  refine (awake_walk _).mono ?_
  rintro e w' ⟨rfl, m1, rfl⟩
  go_wp2_with fail
  refine (scale_walk 0 hx _).mono ?_
  rintro e w' ⟨rfl, rfl⟩
  go_wp2_with fail
  refine (canon_walk hx _).mono ?_
  rintro e w' ⟨rfl, rfl⟩
  go_wp2_with fail
  refine (same_walk _ _ _).mono ?_
  rintro e w' ⟨rfl, rfl⟩
  go_wp2_with fail
  refine (scale_walk 1 hx _).mono ?_
  rintro e w' ⟨rfl, rfl⟩
  go_wp2_with fail
  refine (canon_walk hA _).mono ?_
  rintro e w' ⟨rfl, rfl⟩
  go_wp2_with fail
  refine (same_walk _ _ _).mono ?_
  rintro e w' ⟨rfl, rfl⟩
  go_wp2_with fail
  refine (scale_walk n hx _).mono ?_
  rintro e w' ⟨rfl, rfl⟩
  go_wp2_with fail
  refine (scale_walk n hX _).mono ?_
  rintro e w' ⟨rfl, rfl⟩
  go_wp2_with fail
  refine (same_walk _ _ _).mono ?_
  rintro e w' ⟨rfl, rfl⟩
  go_wp2_with fail
  refine (class_walk hx _).mono ?_
  rintro e w' ⟨rfl, rfl⟩
  go_wp2_with fail
  go_ret
  exact ⟨rfl, _, rfl⟩

set_option linter.unusedVariables false in
set_option maxHeartbeats 1000000 in
theorem pw_na_gt {x : Nat} {A : Nat} (n : Int) (n1 : -32768 ≤ n) (n2 : n ≤ 32767) (hx : x < 18446744073709551616) (w : World) (sx : FloatKind.f64.format.order x x = some .eq) (hA : A < 18446744073709551616) (ha0 : FloatKind.f64.format.add x x = some A) (h0 : scaleR x 0 = canonW x) (h1 : scaleR x 1 = canonW A) (hX : negW x < 18446744073709551616) (hz : scaleR (negW x) n = negW (scaleR x n)) (yy : FloatKind.f64.format.order (scaleR x n) (scaleR x n) = some .eq) (ox0 : FloatKind.f64.format.order x 0 = some .gt) (c3 : classI x = 3) (c4 : (classI (scaleR x n) == 3) = false) :
    Calls Try.prog 3 #[.float .f64 x, .int .i16 n] w fun e w' => e = .returned (.bool true) ∧ ∃ n, w' = w.drewN n := by
  have hr : ∀ w : World, (binOp .add 22 (.float .f64 x) (.float .f64 x)).run Try.prog w = .ok (.float .f64 A) w := fun w => run_float_arith w .add 22 .f64 _ _ _ ha0
  clear ha0
  go_enter Try.func3, Try.ntmps3
  go_wp2_with fail
  refine (awake_walk _).mono ?_
  rintro e w' ⟨rfl, m1, rfl⟩
  go_wp2_with fail
  refine (scale_walk 0 hx _).mono ?_
  rintro e w' ⟨rfl, rfl⟩
  go_wp2_with fail
  refine (canon_walk hx _).mono ?_
  rintro e w' ⟨rfl, rfl⟩
  go_wp2_with fail
  refine (same_walk _ _ _).mono ?_
  rintro e w' ⟨rfl, rfl⟩
  go_wp2_with fail
  refine (scale_walk 1 hx _).mono ?_
  rintro e w' ⟨rfl, rfl⟩
  go_wp2_with fail
  refine (canon_walk hA _).mono ?_
  rintro e w' ⟨rfl, rfl⟩
  go_wp2_with fail
  refine (same_walk _ _ _).mono ?_
  rintro e w' ⟨rfl, rfl⟩
  go_wp2_with fail
  refine (scale_walk n hx _).mono ?_
  rintro e w' ⟨rfl, rfl⟩
  go_wp2_with fail
  refine (scale_walk n hX _).mono ?_
  rintro e w' ⟨rfl, rfl⟩
  go_wp2_with fail
  refine (same_walk _ _ _).mono ?_
  rintro e w' ⟨rfl, rfl⟩
  go_wp2_with fail
  refine (class_walk hx _).mono ?_
  rintro e w' ⟨rfl, rfl⟩
  go_wp2_with fail
  refine (class_walk (scaleR_lt n hx) _).mono ?_
  rintro e w' ⟨rfl, rfl⟩
  go_wp2_with fail
  go_ret
  exact ⟨rfl, _, rfl⟩

set_option linter.unusedVariables false in
set_option maxHeartbeats 1000000 in
theorem pw_nb_gt {x : Nat} {A : Nat} (n : Int) (n1 : -32768 ≤ n) (n2 : n ≤ 32767) (hx : x < 18446744073709551616) (w : World) (sx : FloatKind.f64.format.order x x = some .eq) (hA : A < 18446744073709551616) (ha0 : FloatKind.f64.format.add x x = some A) (h0 : scaleR x 0 = canonW x) (h1 : scaleR x 1 = canonW A) (hX : negW x < 18446744073709551616) (hz : scaleR (negW x) n = negW (scaleR x n)) (yy : FloatKind.f64.format.order (scaleR x n) (scaleR x n) = some .eq) (ox0 : FloatKind.f64.format.order x 0 = some .gt) (c3 : classI x = 3) (c4 : classI (scaleR x n) = 3) (c5 : (classI (scaleR (scaleR x n) (-1)) == 3) = false) :
    Calls Try.prog 3 #[.float .f64 x, .int .i16 n] w fun e w' => e = .returned (.bool true) ∧ ∃ n, w' = w.drewN n := by
  have hr : ∀ w : World, (binOp .add 22 (.float .f64 x) (.float .f64 x)).run Try.prog w = .ok (.float .f64 A) w := fun w => run_float_arith w .add 22 .f64 _ _ _ ha0
  clear ha0
  go_enter Try.func3, Try.ntmps3
  go_wp2_with fail
  refine (awake_walk _).mono ?_
  rintro e w' ⟨rfl, m1, rfl⟩
  go_wp2_with fail
  refine (scale_walk 0 hx _).mono ?_
  rintro e w' ⟨rfl, rfl⟩
  go_wp2_with fail
  refine (canon_walk hx _).mono ?_
  rintro e w' ⟨rfl, rfl⟩
  go_wp2_with fail
  refine (same_walk _ _ _).mono ?_
  rintro e w' ⟨rfl, rfl⟩
  go_wp2_with fail
  refine (scale_walk 1 hx _).mono ?_
  rintro e w' ⟨rfl, rfl⟩
  go_wp2_with fail
  refine (canon_walk hA _).mono ?_
  rintro e w' ⟨rfl, rfl⟩
  go_wp2_with fail
  refine (same_walk _ _ _).mono ?_
  rintro e w' ⟨rfl, rfl⟩
  go_wp2_with fail
  refine (scale_walk n hx _).mono ?_
  rintro e w' ⟨rfl, rfl⟩
  go_wp2_with fail
  refine (scale_walk n hX _).mono ?_
  rintro e w' ⟨rfl, rfl⟩
  go_wp2_with fail
  refine (same_walk _ _ _).mono ?_
  rintro e w' ⟨rfl, rfl⟩
  go_wp2_with fail
  refine (class_walk hx _).mono ?_
  rintro e w' ⟨rfl, rfl⟩
  go_wp2_with fail
  refine (class_walk (scaleR_lt n hx) _).mono ?_
  rintro e w' ⟨rfl, rfl⟩
  go_wp2_with fail
  refine (scale_walk (-1) (scaleR_lt n hx) _).mono ?_
  rintro e w' ⟨rfl, rfl⟩
  go_wp2_with fail
  refine (class_walk (scaleR_lt (-1) (scaleR_lt n hx)) _).mono ?_
  rintro e w' ⟨rfl, rfl⟩
  go_wp2_with fail
  go_ret
  exact ⟨rfl, _, rfl⟩

set_option linter.unusedVariables false in
set_option maxHeartbeats 1000000 in
theorem pw_nc {x : Nat} {A : Nat} (n : Int) (n1 : -32768 ≤ n) (n2 : n ≤ 32767) (hx : x < 18446744073709551616) (w : World) (sx : FloatKind.f64.format.order x x = some .eq) (hA : A < 18446744073709551616) (ha0 : FloatKind.f64.format.add x x = some A) (h0 : scaleR x 0 = canonW x) (h1 : scaleR x 1 = canonW A) (hX : negW x < 18446744073709551616) (hz : scaleR (negW x) n = negW (scaleR x n)) (c3 : classI x = 3) (c4 : classI (scaleR x n) = 3) (c5 : classI (scaleR (scaleR x n) (-1)) = 3) (hb : scaleR (scaleR x n) (-n) = x) :
    Calls Try.prog 3 #[.float .f64 x, .int .i16 n] w fun e w' => e = .returned (.bool true) ∧ ∃ n, w' = w.drewN n := by
  have hr : ∀ w : World, (binOp .add 22 (.float .f64 x) (.float .f64 x)).run Try.prog w = .ok (.float .f64 A) w := fun w => run_float_arith w .add 22 .f64 _ _ _ ha0
  clear ha0
  go_enter Try.func3, Try.ntmps3
  go_wp2_with fail
  refine (awake_walk _).mono ?_
  rintro e w' ⟨rfl, m1, rfl⟩
  go_wp2_with fail
  refine (scale_walk 0 hx _).mono ?_
  rintro e w' ⟨rfl, rfl⟩
  go_wp2_with fail
  refine (canon_walk hx _).mono ?_
  rintro e w' ⟨rfl, rfl⟩
  go_wp2_with fail
  refine (same_walk _ _ _).mono ?_
  rintro e w' ⟨rfl, rfl⟩
  go_wp2_with fail
  refine (scale_walk 1 hx _).mono ?_
  rintro e w' ⟨rfl, rfl⟩
  go_wp2_with fail
  refine (canon_walk hA _).mono ?_
  rintro e w' ⟨rfl, rfl⟩
  go_wp2_with fail
  refine (same_walk _ _ _).mono ?_
  rintro e w' ⟨rfl, rfl⟩
  go_wp2_with fail
  refine (scale_walk n hx _).mono ?_
  rintro e w' ⟨rfl, rfl⟩
  go_wp2_with fail
  refine (scale_walk n hX _).mono ?_
  rintro e w' ⟨rfl, rfl⟩
  go_wp2_with fail
  refine (same_walk _ _ _).mono ?_
  rintro e w' ⟨rfl, rfl⟩
  go_wp2_with fail
  refine (class_walk hx _).mono ?_
  rintro e w' ⟨rfl, rfl⟩
  go_wp2_with fail
  refine (class_walk (scaleR_lt n hx) _).mono ?_
  rintro e w' ⟨rfl, rfl⟩
  go_wp2_with fail
  refine (scale_walk (-1) (scaleR_lt n hx) _).mono ?_
  rintro e w' ⟨rfl, rfl⟩
  go_wp2_with fail
  refine (class_walk (scaleR_lt (-1) (scaleR_lt n hx)) _).mono ?_
  rintro e w' ⟨rfl, rfl⟩
  go_wp2_with fail
  refine (scale_walk (-n) (scaleR_lt n hx) _).mono ?_
  rintro e w' ⟨rfl, rfl⟩
  go_wp2_with fail
  refine (same_walk _ _ _).mono ?_
  rintro e w' ⟨rfl, rfl⟩
  go_wp2_with fail
  go_ret
  exact ⟨rfl, _, rfl⟩

end Go.Proofs.Ytjieoemknocikab
