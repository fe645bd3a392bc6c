/- The walk of FbitBounds: it answers true at every float. -/
import Derived.Test.YtjieoemknocikaaW5
import Derived.Test.YtjieoemknocikaaFj
namespace Go.Proofs.Ytjieoemknocikaa
open Ieee Go.RowKit

set_option linter.unusedVariables false in
set_option maxHeartbeats 1000000 in
theorem bd_nan {x : Nat}  (hx : x < 18446744073709551616) (w : World) (sx : FloatKind.f64.format.order x x = none) (hf : floorW x = 9221120237041090561) (hw : wholeI x = 0) :
    Calls Try.prog 8 #[.float .f64 x] w fun e w' => e = .returned (.bool true) ∧ ∃ n, w' = w.drewN n := by
  go_enter Try.func8, Try.ntmps8
  go_wp2_with fail
  refine (awake_walk _).mono ?_
  rintro e w' ⟨rfl, n1, rfl⟩
  go_wp2_with fail
  refine (floor_walk hx _).mono ?_
  rintro e w' ⟨rfl, n2, rfl⟩
  go_wp2_with fail
  refine (whole_walk hx _).mono ?_
  rintro e w' ⟨rfl, rfl⟩
  go_wp2_with fail
  refine (by_walk 9221120237041090561 _).mono ?_
  rintro e w' ⟨rfl, rfl⟩
  go_wp2_with fail
  refine (same_walk _ _ _).mono ?_
  rintro e w' ⟨rfl, rfl⟩
  go_wp2_with fail
  go_ret
  exact ⟨rfl, _, rfl⟩

theorem of_walk3 (n : Int) (w : World) :
    Calls Try.prog 28 #[.int .i64 n] w fun e w' => e = .returned (.float .f64 (ofW n)) ∧ w' = w := of_walk n w

/-- The bits that the tape gives where x - x has no answer. -/
def nanF (x : Nat) (w : World) : Nat := (Question.nanBits .f64 x x).cut (w.tape w.drawn (.nanBits .f64 x x))
theorem nanF_nan (x : Nat) (w : World) : nanB (nanF x w) = true ∧ nanF x w < 18446744073709551616 := by
  unfold nanF
  generalize w.tape w.drawn (.nanBits .f64 x x) = t
  have e : (Question.nanBits .f64 x x).cut t = (t % 2) * 9223372036854775808 + 9218868437227405312 + 1 + (t / 2) % 4503599627370495 := rfl
  rw [e]
  have h1 : t % 2 < 2 := Nat.mod_lt _ (by omega)
  have h2 : (t / 2) % 4503599627370495 < 4503599627370495 := Nat.mod_lt _ (by omega)
  generalize t % 2 = a at *
  generalize (t / 2) % 4503599627370495 = b at *
  refine ⟨?_, by omega⟩
  unfold nanB rung
  rw [decide_eq_true_eq]
  omega
theorem run_sub_nan (P : Program) {x : Nat} (t : TypeId) (h : FloatKind.f64.format.sub x x = none) (w : World) :
    (binOp .sub t (.float .f64 x) (.float .f64 x)).run P w = .ok (.float .f64 (nanF x w)) (w.drewN 1) := by
  simp [binOp, Op.floatArith, h, Question.forced]
  exact ⟨rfl, rfl⟩

set_option linter.unusedVariables false in
set_option maxHeartbeats 1000000 in
theorem bd_inf_p {x : Nat}  (hx : x < 18446744073709551616) (w : World) (sx : FloatKind.f64.format.order x x = some .eq) (hs : FloatKind.f64.format.sub x x = none) (hf : floorW x = x) (ox0 : FloatKind.f64.format.order x 0 = some .gt) (hw : (wholeI x == 9223372036854775807) = true) :
    Calls Try.prog 8 #[.float .f64 x] w fun e w' => e = .returned (.bool true) ∧ ∃ n, w' = w.drewN n := by
  have hr : ∀ w : World, (binOp .sub 24 (.float .f64 x) (.float .f64 x)).run Try.prog w = .ok (.float .f64 (nanF x w)) (w.drewN 1) := fun w => run_sub_nan Try.prog _ hs w
  have hn : ∀ w : World, FloatKind.f64.format.order (nanF x w) 0 = none := fun w => order_nan_left (nanF_nan x w).2 (nanF_nan x w).1
  clear hs
  go_enter Try.func8, Try.ntmps8
  go_wp2_with fail
  refine (awake_walk _).mono ?_
  rintro e w' ⟨rfl, n1, rfl⟩
  go_wp2_with fail
  refine (floor_walk hx _).mono ?_
  rintro e w' ⟨rfl, n2, rfl⟩
  go_wp2_with fail
  refine (whole_walk hx _).mono ?_
  rintro e w' ⟨rfl, rfl⟩
  go_wp2_with fail
  refine (same_walk _ _ _).mono ?_
  rintro e w' ⟨rfl, rfl⟩
  go_wp2_with fail
  go_ret
  first | exact ⟨rfl, _, rfl⟩ | exact ⟨ret_bool hw, _, rfl⟩

set_option linter.unusedVariables false in
set_option maxHeartbeats 1000000 in
theorem bd_inf_n {x : Nat}  (hx : x < 18446744073709551616) (w : World) (sx : FloatKind.f64.format.order x x = some .eq) (hs : FloatKind.f64.format.sub x x = none) (hf : floorW x = x) (ox0 : FloatKind.f64.format.order x 0 = some .lt) (hw : (wholeI x == -9223372036854775808) = true) :
    Calls Try.prog 8 #[.float .f64 x] w fun e w' => e = .returned (.bool true) ∧ ∃ n, w' = w.drewN n := by
  have hr : ∀ w : World, (binOp .sub 24 (.float .f64 x) (.float .f64 x)).run Try.prog w = .ok (.float .f64 (nanF x w)) (w.drewN 1) := fun w => run_sub_nan Try.prog _ hs w
  have hn : ∀ w : World, FloatKind.f64.format.order (nanF x w) 0 = none := fun w => order_nan_left (nanF_nan x w).2 (nanF_nan x w).1
  clear hs
  go_enter Try.func8, Try.ntmps8
  go_wp2_with fail
  refine (awake_walk _).mono ?_
  rintro e w' ⟨rfl, n1, rfl⟩
  go_wp2_with fail
  refine (floor_walk hx _).mono ?_
  rintro e w' ⟨rfl, n2, rfl⟩
  go_wp2_with fail
  refine (whole_walk hx _).mono ?_
  rintro e w' ⟨rfl, rfl⟩
  go_wp2_with fail
  refine (same_walk _ _ _).mono ?_
  rintro e w' ⟨rfl, rfl⟩
  go_wp2_with fail
  go_ret
  first | exact ⟨rfl, _, rfl⟩ | exact ⟨ret_bool hw, _, rfl⟩

set_option linter.unusedVariables false in
set_option maxHeartbeats 1000000 in
theorem bd_zero {x : Nat}  (hx : x < 18446744073709551616) (w : World) (sx : FloatKind.f64.format.order x x = some .eq) (hr0 : FloatKind.f64.format.sub x x = some 0) (zz : FloatKind.f64.format.order 0 0 = some .eq) (hf : floorW x = x) (ox0 : FloatKind.f64.format.order x 0 = some .eq) (hw : wholeI x = 0) :
    Calls Try.prog 8 #[.float .f64 x] w fun e w' => e = .returned (.bool true) ∧ ∃ n, w' = w.drewN n := by
  have hr : ∀ w : World, (binOp .sub 24 (.float .f64 x) (.float .f64 x)).run Try.prog w = .ok (.float .f64 0) w := fun w => run_float_arith w .sub 24 .f64 _ _ _ hr0
  clear hr0
  go_enter Try.func8, Try.ntmps8
  go_wp2_with fail
  refine (awake_walk _).mono ?_
  rintro e w' ⟨rfl, n1, rfl⟩
  go_wp2_with fail
  refine (floor_walk hx _).mono ?_
  rintro e w' ⟨rfl, n2, rfl⟩
  go_wp2_with fail
  refine (whole_walk hx _).mono ?_
  rintro e w' ⟨rfl, rfl⟩
  go_wp2_with fail
  refine (same_walk _ _ _).mono ?_
  rintro e w' ⟨rfl, rfl⟩
  go_wp2_with fail
  go_ret
  exact ⟨rfl, _, rfl⟩

set_option linter.unusedVariables false in
set_option maxHeartbeats 1000000 in
theorem bd_small_p_lt {x : Nat} {F F1 : Nat} (hx : x < 18446744073709551616) (w : World) (hF : F < 18446744073709551616) (sx : FloatKind.f64.format.order x x = some .eq) (hr0 : FloatKind.f64.format.sub x x = some 0) (zz : FloatKind.f64.format.order 0 0 = some .eq) (k52 : scaleR 4607182418800017408 52 = 4841369599423283200) (k63 : scaleR 4607182418800017408 63 = 4890909195324358656) (kn52 : Op.unary .neg (.float .f64 4841369599423283200) = pure (.float .f64 14064741636278059008)) (kn63 : Op.unary .neg (.float .f64 4890909195324358656) = pure (.float .f64 14114281232179134464)) (ox0 : FloatKind.f64.format.order x 0 = some .gt) (hf : floorW x = F) (hff : floorW F = F) (hT : ofW (wholeI x) = F) (ha0 : FloatKind.f64.format.add F 4607182418800017408 = some F1) (o1 : FloatKind.f64.format.order 4841369599423283200 x = some .gt) (o2 : FloatKind.f64.format.order x 14064741636278059008 = some .gt) (o3 : FloatKind.f64.format.order F1 x = some .gt) (o4 : FloatKind.f64.format.order x 4890909195324358656 = some .lt) (o5 : FloatKind.f64.format.order x 14114281232179134464 = some .gt) (oT : FloatKind.f64.format.order F x = some .lt) :
    Calls Try.prog 8 #[.float .f64 x] w fun e w' => e = .returned (.bool true) ∧ ∃ n, w' = w.drewN n := by
  have hr : ∀ w : World, (binOp .sub 24 (.float .f64 x) (.float .f64 x)).run Try.prog w = .ok (.float .f64 0) w := fun w => run_float_arith w .sub 24 .f64 _ _ _ hr0
  clear hr0
  have ha : ∀ w : World, (binOp .add 24 (.float .f64 F) (.float .f64 4607182418800017408)).run Try.prog w = .ok (.float .f64 F1) w := fun w => run_float_arith w .add 24 .f64 _ _ _ ha0
  clear ha0
  go_enter Try.func8, Try.ntmps8
  go_wp2_with fail
  refine (awake_walk _).mono ?_
  rintro e w' ⟨rfl, n1, rfl⟩
  go_wp2_with fail
  refine (floor_walk hx _).mono ?_
  rintro e w' ⟨rfl, n2, rfl⟩
  go_wp2_with fail
  refine (whole_walk hx _).mono ?_
  rintro e w' ⟨rfl, rfl⟩
  go_wp2_with fail
  refine (floor_walk hF _).mono ?_
  rintro e w' ⟨rfl, n3, rfl⟩
  go_wp2_with fail
  refine (same_walk _ _ _).mono ?_
  rintro e w' ⟨rfl, rfl⟩
  go_wp2_with fail
  refine (scale_walk 52 (by omega) _).mono ?_
  rintro e w' ⟨rfl, rfl⟩
  go_wp2_with fail
  refine (scale_walk 52 (by omega) _).mono ?_
  rintro e w' ⟨rfl, rfl⟩
  go_wp2_with fail
  refine (scale_walk 63 (by omega) _).mono ?_
  rintro e w' ⟨rfl, rfl⟩
  go_wp2_with fail
  refine (scale_walk 63 (by omega) _).mono ?_
  rintro e w' ⟨rfl, rfl⟩
  go_wp2_with fail
  refine (of_walk3 _ _).mono ?_
  rintro e w' ⟨rfl, rfl⟩
  go_wp2_with fail
  refine (same_walk _ _ _).mono ?_
  rintro e w' ⟨rfl, rfl⟩
  go_wp2_with fail
  go_ret
  exact ⟨rfl, _, rfl⟩

set_option linter.unusedVariables false in
set_option maxHeartbeats 1000000 in
theorem bd_small_p_eq {x : Nat} {F F1 : Nat} (hx : x < 18446744073709551616) (w : World) (hF : F < 18446744073709551616) (sx : FloatKind.f64.format.order x x = some .eq) (hr0 : FloatKind.f64.format.sub x x = some 0) (zz : FloatKind.f64.format.order 0 0 = some .eq) (k52 : scaleR 4607182418800017408 52 = 4841369599423283200) (k63 : scaleR 4607182418800017408 63 = 4890909195324358656) (kn52 : Op.unary .neg (.float .f64 4841369599423283200) = pure (.float .f64 14064741636278059008)) (kn63 : Op.unary .neg (.float .f64 4890909195324358656) = pure (.float .f64 14114281232179134464)) (ox0 : FloatKind.f64.format.order x 0 = some .gt) (hf : floorW x = F) (hff : floorW F = F) (hT : ofW (wholeI x) = F) (ha0 : FloatKind.f64.format.add F 4607182418800017408 = some F1) (o1 : FloatKind.f64.format.order 4841369599423283200 x = some .gt) (o2 : FloatKind.f64.format.order x 14064741636278059008 = some .gt) (o3 : FloatKind.f64.format.order F1 x = some .gt) (o4 : FloatKind.f64.format.order x 4890909195324358656 = some .lt) (o5 : FloatKind.f64.format.order x 14114281232179134464 = some .gt) (oT : FloatKind.f64.format.order F x = some .eq) :
    Calls Try.prog 8 #[.float .f64 x] w fun e w' => e = .returned (.bool true) ∧ ∃ n, w' = w.drewN n := by
  have hr : ∀ w : World, (binOp .sub 24 (.float .f64 x) (.float .f64 x)).run Try.prog w = .ok (.float .f64 0) w := fun w => run_float_arith w .sub 24 .f64 _ _ _ hr0
  clear hr0
  have ha : ∀ w : World, (binOp .add 24 (.float .f64 F) (.float .f64 4607182418800017408)).run Try.prog w = .ok (.float .f64 F1) w := fun w => run_float_arith w .add 24 .f64 _ _ _ ha0
  clear ha0
  go_enter Try.func8, Try.ntmps8
  go_wp2_with fail
  refine (awake_walk _).mono ?_
  rintro e w' ⟨rfl, n1, rfl⟩
  go_wp2_with fail
  refine (floor_walk hx _).mono ?_
  rintro e w' ⟨rfl, n2, rfl⟩
  go_wp2_with fail
  refine (whole_walk hx _).mono ?_
  rintro e w' ⟨rfl, rfl⟩
  go_wp2_with fail
  refine (floor_walk hF _).mono ?_
  rintro e w' ⟨rfl, n3, rfl⟩
  go_wp2_with fail
  refine (same_walk _ _ _).mono ?_
  rintro e w' ⟨rfl, rfl⟩
  go_wp2_with fail
  refine (scale_walk 52 (by omega) _).mono ?_
  rintro e w' ⟨rfl, rfl⟩
  go_wp2_with fail
  refine (scale_walk 52 (by omega) _).mono ?_
  rintro e w' ⟨rfl, rfl⟩
  go_wp2_with fail
  refine (scale_walk 63 (by omega) _).mono ?_
  rintro e w' ⟨rfl, rfl⟩
  go_wp2_with fail
  refine (scale_walk 63 (by omega) _).mono ?_
  rintro e w' ⟨rfl, rfl⟩
  go_wp2_with fail
  refine (of_walk3 _ _).mono ?_
  rintro e w' ⟨rfl, rfl⟩
  go_wp2_with fail
  refine (same_walk _ _ _).mono ?_
  rintro e w' ⟨rfl, rfl⟩
  go_wp2_with fail
  go_ret
  exact ⟨rfl, _, rfl⟩

set_option linter.unusedVariables false in
set_option maxHeartbeats 1000000 in
theorem bd_small_n_eq {x : Nat} {F F1 : Nat} (hx : x < 18446744073709551616) (w : World) (hF : F < 18446744073709551616) (sx : FloatKind.f64.format.order x x = some .eq) (hr0 : FloatKind.f64.format.sub x x = some 0) (zz : FloatKind.f64.format.order 0 0 = some .eq) (k52 : scaleR 4607182418800017408 52 = 4841369599423283200) (k63 : scaleR 4607182418800017408 63 = 4890909195324358656) (kn52 : Op.unary .neg (.float .f64 4841369599423283200) = pure (.float .f64 14064741636278059008)) (kn63 : Op.unary .neg (.float .f64 4890909195324358656) = pure (.float .f64 14114281232179134464)) (ox0 : FloatKind.f64.format.order x 0 = some .lt) (hf : floorW x = F) (hff : floorW F = F) (hT : ofW (wholeI x) = F) (ha0 : FloatKind.f64.format.add F 4607182418800017408 = some F1) (o1 : FloatKind.f64.format.order 4841369599423283200 x = some .gt) (o2 : FloatKind.f64.format.order x 14064741636278059008 = some .gt) (o3 : FloatKind.f64.format.order F1 x = some .gt) (o4 : FloatKind.f64.format.order x 4890909195324358656 = some .lt) (o5 : FloatKind.f64.format.order x 14114281232179134464 = some .gt) (oT : FloatKind.f64.format.order F x = some .eq) :
    Calls Try.prog 8 #[.float .f64 x] w fun e w' => e = .returned (.bool true) ∧ ∃ n, w' = w.drewN n := by
  have hr : ∀ w : World, (binOp .sub 24 (.float .f64 x) (.float .f64 x)).run Try.prog w = .ok (.float .f64 0) w := fun w => run_float_arith w .sub 24 .f64 _ _ _ hr0
  clear hr0
  have ha : ∀ w : World, (binOp .add 24 (.float .f64 F) (.float .f64 4607182418800017408)).run Try.prog w = .ok (.float .f64 F1) w := fun w => run_float_arith w .add 24 .f64 _ _ _ ha0
  clear ha0
  go_enter Try.func8, Try.ntmps8
  go_wp2_with fail
  refine (awake_walk _).mono ?_
  rintro e w' ⟨rfl, n1, rfl⟩
  go_wp2_with fail
  refine (floor_walk hx _).mono ?_
  rintro e w' ⟨rfl, n2, rfl⟩
  go_wp2_with fail
  refine (whole_walk hx _).mono ?_
  rintro e w' ⟨rfl, rfl⟩
  go_wp2_with fail
  refine (floor_walk hF _).mono ?_
  rintro e w' ⟨rfl, n3, rfl⟩
  go_wp2_with fail
  refine (same_walk _ _ _).mono ?_
  rintro e w' ⟨rfl, rfl⟩
  go_wp2_with fail
  refine (scale_walk 52 (by omega) _).mono ?_
  rintro e w' ⟨rfl, rfl⟩
  go_wp2_with fail
  refine (scale_walk 52 (by omega) _).mono ?_
  rintro e w' ⟨rfl, rfl⟩
  go_wp2_with fail
  refine (scale_walk 63 (by omega) _).mono ?_
  rintro e w' ⟨rfl, rfl⟩
  go_wp2_with fail
  refine (scale_walk 63 (by omega) _).mono ?_
  rintro e w' ⟨rfl, rfl⟩
  go_wp2_with fail
  refine (of_walk3 _ _).mono ?_
  rintro e w' ⟨rfl, rfl⟩
  go_wp2_with fail
  go_ret
  exact ⟨rfl, _, rfl⟩

set_option linter.unusedVariables false in
set_option maxHeartbeats 1000000 in
theorem bd_small_n_gt {x : Nat} {F F1 : Nat} (hx : x < 18446744073709551616) (w : World) (hF : F < 18446744073709551616) (sx : FloatKind.f64.format.order x x = some .eq) (hr0 : FloatKind.f64.format.sub x x = some 0) (zz : FloatKind.f64.format.order 0 0 = some .eq) (k52 : scaleR 4607182418800017408 52 = 4841369599423283200) (k63 : scaleR 4607182418800017408 63 = 4890909195324358656) (kn52 : Op.unary .neg (.float .f64 4841369599423283200) = pure (.float .f64 14064741636278059008)) (kn63 : Op.unary .neg (.float .f64 4890909195324358656) = pure (.float .f64 14114281232179134464)) (ox0 : FloatKind.f64.format.order x 0 = some .lt) (hf : floorW x = F) (hff : floorW F = F) (hT : ofW (wholeI x) = F1) (ha0 : FloatKind.f64.format.add F 4607182418800017408 = some F1) (o1 : FloatKind.f64.format.order 4841369599423283200 x = some .gt) (o2 : FloatKind.f64.format.order x 14064741636278059008 = some .gt) (o3 : FloatKind.f64.format.order F1 x = some .gt) (o4 : FloatKind.f64.format.order x 4890909195324358656 = some .lt) (o5 : FloatKind.f64.format.order x 14114281232179134464 = some .gt) (oF : FloatKind.f64.format.order F x = some .lt) (oFF : FloatKind.f64.format.order F F = some .eq) (hb0 : FloatKind.f64.format.sub F1 4607182418800017408 = some F) :
    Calls Try.prog 8 #[.float .f64 x] w fun e w' => e = .returned (.bool true) ∧ ∃ n, w' = w.drewN n := by
  have hr : ∀ w : World, (binOp .sub 24 (.float .f64 x) (.float .f64 x)).run Try.prog w = .ok (.float .f64 0) w := fun w => run_float_arith w .sub 24 .f64 _ _ _ hr0
  clear hr0
  have ha : ∀ w : World, (binOp .add 24 (.float .f64 F) (.float .f64 4607182418800017408)).run Try.prog w = .ok (.float .f64 F1) w := fun w => run_float_arith w .add 24 .f64 _ _ _ ha0
  clear ha0
  have hb : ∀ w : World, (binOp .sub 24 (.float .f64 F1) (.float .f64 4607182418800017408)).run Try.prog w = .ok (.float .f64 F) w := fun w => run_float_arith w .sub 24 .f64 _ _ _ hb0
  clear hb0
  go_enter Try.func8, Try.ntmps8
  go_wp2_with fail
  refine (awake_walk _).mono ?_
  rintro e w' ⟨rfl, n1, rfl⟩
  go_wp2_with fail
  refine (floor_walk hx _).mono ?_
  rintro e w' ⟨rfl, n2, rfl⟩
  go_wp2_with fail
  refine (whole_walk hx _).mono ?_
  rintro e w' ⟨rfl, rfl⟩
  go_wp2_with fail
  refine (floor_walk hF _).mono ?_
  rintro e w' ⟨rfl, n3, rfl⟩
  go_wp2_with fail
  refine (same_walk _ _ _).mono ?_
  rintro e w' ⟨rfl, rfl⟩
  go_wp2_with fail
  refine (scale_walk 52 (by omega) _).mono ?_
  rintro e w' ⟨rfl, rfl⟩
  go_wp2_with fail
  refine (scale_walk 52 (by omega) _).mono ?_
  rintro e w' ⟨rfl, rfl⟩
  go_wp2_with fail
  refine (scale_walk 63 (by omega) _).mono ?_
  rintro e w' ⟨rfl, rfl⟩
  go_wp2_with fail
  refine (scale_walk 63 (by omega) _).mono ?_
  rintro e w' ⟨rfl, rfl⟩
  go_wp2_with fail
  refine (of_walk3 _ _).mono ?_
  rintro e w' ⟨rfl, rfl⟩
  go_wp2_with fail
  go_ret
  exact ⟨rfl, _, rfl⟩

set_option linter.unusedVariables false in
set_option maxHeartbeats 1000000 in
theorem bd_mid_p {x : Nat}  (hx : x < 18446744073709551616) (w : World) (sx : FloatKind.f64.format.order x x = some .eq) (hr0 : FloatKind.f64.format.sub x x = some 0) (zz : FloatKind.f64.format.order 0 0 = some .eq) (k52 : scaleR 4607182418800017408 52 = 4841369599423283200) (k63 : scaleR 4607182418800017408 63 = 4890909195324358656) (kn52 : Op.unary .neg (.float .f64 4841369599423283200) = pure (.float .f64 14064741636278059008)) (kn63 : Op.unary .neg (.float .f64 4890909195324358656) = pure (.float .f64 14114281232179134464)) (ox0 : FloatKind.f64.format.order x 0 = some .gt) (hf : floorW x = x) (hT : ofW (wholeI x) = x) (o1 : (FloatKind.f64.format.order 4841369599423283200 x == some .gt) = false) (o4 : FloatKind.f64.format.order x 4890909195324358656 = some .lt) (o5 : FloatKind.f64.format.order x 14114281232179134464 = some .gt) :
    Calls Try.prog 8 #[.float .f64 x] w fun e w' => e = .returned (.bool true) ∧ ∃ n, w' = w.drewN n := by
  have hr : ∀ w : World, (binOp .sub 24 (.float .f64 x) (.float .f64 x)).run Try.prog w = .ok (.float .f64 0) w := fun w => run_float_arith w .sub 24 .f64 _ _ _ hr0
  clear hr0
  go_enter Try.func8, Try.ntmps8
  go_wp2_with fail
  refine (awake_walk _).mono ?_
  rintro e w' ⟨rfl, n1, rfl⟩
  go_wp2_with fail
  refine (floor_walk hx _).mono ?_
  rintro e w' ⟨rfl, n2, rfl⟩
  go_wp2_with fail
  refine (whole_walk hx _).mono ?_
  rintro e w' ⟨rfl, rfl⟩
  go_wp2_with fail
  refine (floor_walk hx _).mono ?_
  rintro e w' ⟨rfl, n3, rfl⟩
  go_wp2_with fail
  refine (same_walk _ _ _).mono ?_
  rintro e w' ⟨rfl, rfl⟩
  go_wp2_with fail
  refine (scale_walk 52 (by omega) _).mono ?_
  rintro e w' ⟨rfl, rfl⟩
  go_wp2_with fail
  refine (scale_walk 63 (by omega) _).mono ?_
  rintro e w' ⟨rfl, rfl⟩
  go_wp2_with fail
  refine (scale_walk 63 (by omega) _).mono ?_
  rintro e w' ⟨rfl, rfl⟩
  go_wp2_with fail
  refine (of_walk3 _ _).mono ?_
  rintro e w' ⟨rfl, rfl⟩
  go_wp2_with fail
  refine (same_walk _ _ _).mono ?_
  rintro e w' ⟨rfl, rfl⟩
  go_wp2_with fail
  go_ret
  exact ⟨rfl, _, rfl⟩

set_option linter.unusedVariables false in
set_option maxHeartbeats 1000000 in
theorem bd_mid_n {x : Nat}  (hx : x < 18446744073709551616) (w : World) (sx : FloatKind.f64.format.order x x = some .eq) (hr0 : FloatKind.f64.format.sub x x = some 0) (zz : FloatKind.f64.format.order 0 0 = some .eq) (k52 : scaleR 4607182418800017408 52 = 4841369599423283200) (k63 : scaleR 4607182418800017408 63 = 4890909195324358656) (kn52 : Op.unary .neg (.float .f64 4841369599423283200) = pure (.float .f64 14064741636278059008)) (kn63 : Op.unary .neg (.float .f64 4890909195324358656) = pure (.float .f64 14114281232179134464)) (ox0 : FloatKind.f64.format.order x 0 = some .lt) (hf : floorW x = x) (hT : ofW (wholeI x) = x) (o1 : FloatKind.f64.format.order 4841369599423283200 x = some .gt) (o2 : (FloatKind.f64.format.order x 14064741636278059008 == some .gt) = false) (o4 : FloatKind.f64.format.order x 4890909195324358656 = some .lt) (o5 : (FloatKind.f64.format.order x 14114281232179134464 == some .lt) = false) :
    Calls Try.prog 8 #[.float .f64 x] w fun e w' => e = .returned (.bool true) ∧ ∃ n, w' = w.drewN n := by
  have hr : ∀ w : World, (binOp .sub 24 (.float .f64 x) (.float .f64 x)).run Try.prog w = .ok (.float .f64 0) w := fun w => run_float_arith w .sub 24 .f64 _ _ _ hr0
  clear hr0
  go_enter Try.func8, Try.ntmps8
  go_wp2_with fail
  refine (awake_walk _).mono ?_
  rintro e w' ⟨rfl, n1, rfl⟩
  go_wp2_with fail
  refine (floor_walk hx _).mono ?_
  rintro e w' ⟨rfl, n2, rfl⟩
  go_wp2_with fail
  refine (whole_walk hx _).mono ?_
  rintro e w' ⟨rfl, rfl⟩
  go_wp2_with fail
  refine (floor_walk hx _).mono ?_
  rintro e w' ⟨rfl, n3, rfl⟩
  go_wp2_with fail
  refine (same_walk _ _ _).mono ?_
  rintro e w' ⟨rfl, rfl⟩
  go_wp2_with fail
  refine (scale_walk 52 (by omega) _).mono ?_
  rintro e w' ⟨rfl, rfl⟩
  go_wp2_with fail
  refine (scale_walk 52 (by omega) _).mono ?_
  rintro e w' ⟨rfl, rfl⟩
  go_wp2_with fail
  refine (scale_walk 63 (by omega) _).mono ?_
  rintro e w' ⟨rfl, rfl⟩
  go_wp2_with fail
  refine (scale_walk 63 (by omega) _).mono ?_
  rintro e w' ⟨rfl, rfl⟩
  go_wp2_with fail
  refine (of_walk3 _ _).mono ?_
  rintro e w' ⟨rfl, rfl⟩
  go_wp2_with fail
  go_ret
  exact ⟨rfl, _, rfl⟩

set_option linter.unusedVariables false in
set_option maxHeartbeats 1000000 in
theorem bd_big_p_gt {x : Nat}  (hx : x < 18446744073709551616) (w : World) (sx : FloatKind.f64.format.order x x = some .eq) (hr0 : FloatKind.f64.format.sub x x = some 0) (zz : FloatKind.f64.format.order 0 0 = some .eq) (k52 : scaleR 4607182418800017408 52 = 4841369599423283200) (k63 : scaleR 4607182418800017408 63 = 4890909195324358656) (kn52 : Op.unary .neg (.float .f64 4841369599423283200) = pure (.float .f64 14064741636278059008)) (kn63 : Op.unary .neg (.float .f64 4890909195324358656) = pure (.float .f64 14114281232179134464)) (ox0 : FloatKind.f64.format.order x 0 = some .gt) (hf : floorW x = x) (hw : (wholeI x == 9223372036854775807) = true) (o1 : (FloatKind.f64.format.order 4841369599423283200 x == some .gt) = false) (o4 : FloatKind.f64.format.order x 4890909195324358656 = some .gt) :
    Calls Try.prog 8 #[.float .f64 x] w fun e w' => e = .returned (.bool true) ∧ ∃ n, w' = w.drewN n := by
  have hr : ∀ w : World, (binOp .sub 24 (.float .f64 x) (.float .f64 x)).run Try.prog w = .ok (.float .f64 0) w := fun w => run_float_arith w .sub 24 .f64 _ _ _ hr0
  clear hr0
  go_enter Try.func8, Try.ntmps8
  go_wp2_with fail
  refine (awake_walk _).mono ?_
  rintro e w' ⟨rfl, n1, rfl⟩
  go_wp2_with fail
  refine (floor_walk hx _).mono ?_
  rintro e w' ⟨rfl, n2, rfl⟩
  go_wp2_with fail
  refine (whole_walk hx _).mono ?_
  rintro e w' ⟨rfl, rfl⟩
  go_wp2_with fail
  refine (floor_walk hx _).mono ?_
  rintro e w' ⟨rfl, n3, rfl⟩
  go_wp2_with fail
  refine (same_walk _ _ _).mono ?_
  rintro e w' ⟨rfl, rfl⟩
  go_wp2_with fail
  refine (scale_walk 52 (by omega) _).mono ?_
  rintro e w' ⟨rfl, rfl⟩
  go_wp2_with fail
  refine (scale_walk 63 (by omega) _).mono ?_
  rintro e w' ⟨rfl, rfl⟩
  go_wp2_with fail
  go_ret
  first | exact ⟨rfl, _, rfl⟩ | exact ⟨ret_bool hw, _, rfl⟩

set_option linter.unusedVariables false in
set_option maxHeartbeats 1000000 in
theorem bd_big_p_eq {x : Nat}  (hx : x < 18446744073709551616) (w : World) (sx : FloatKind.f64.format.order x x = some .eq) (hr0 : FloatKind.f64.format.sub x x = some 0) (zz : FloatKind.f64.format.order 0 0 = some .eq) (k52 : scaleR 4607182418800017408 52 = 4841369599423283200) (k63 : scaleR 4607182418800017408 63 = 4890909195324358656) (kn52 : Op.unary .neg (.float .f64 4841369599423283200) = pure (.float .f64 14064741636278059008)) (kn63 : Op.unary .neg (.float .f64 4890909195324358656) = pure (.float .f64 14114281232179134464)) (ox0 : FloatKind.f64.format.order x 0 = some .gt) (hf : floorW x = x) (hw : (wholeI x == 9223372036854775807) = true) (o1 : (FloatKind.f64.format.order 4841369599423283200 x == some .gt) = false) (o4 : FloatKind.f64.format.order x 4890909195324358656 = some .eq) :
    Calls Try.prog 8 #[.float .f64 x] w fun e w' => e = .returned (.bool true) ∧ ∃ n, w' = w.drewN n := by
  have hr : ∀ w : World, (binOp .sub 24 (.float .f64 x) (.float .f64 x)).run Try.prog w = .ok (.float .f64 0) w := fun w => run_float_arith w .sub 24 .f64 _ _ _ hr0
  clear hr0
  go_enter Try.func8, Try.ntmps8
  go_wp2_with fail
  refine (awake_walk _).mono ?_
  rintro e w' ⟨rfl, n1, rfl⟩
  go_wp2_with fail
  refine (floor_walk hx _).mono ?_
  rintro e w' ⟨rfl, n2, rfl⟩
  go_wp2_with fail
  refine (whole_walk hx _).mono ?_
  rintro e w' ⟨rfl, rfl⟩
  go_wp2_with fail
  refine (floor_walk hx _).mono ?_
  rintro e w' ⟨rfl, n3, rfl⟩
  go_wp2_with fail
  refine (same_walk _ _ _).mono ?_
  rintro e w' ⟨rfl, rfl⟩
  go_wp2_with fail
  refine (scale_walk 52 (by omega) _).mono ?_
  rintro e w' ⟨rfl, rfl⟩
  go_wp2_with fail
  refine (scale_walk 63 (by omega) _).mono ?_
  rintro e w' ⟨rfl, rfl⟩
  go_wp2_with fail
  go_ret
  first | exact ⟨rfl, _, rfl⟩ | exact ⟨ret_bool hw, _, rfl⟩

set_option linter.unusedVariables false in
set_option maxHeartbeats 1000000 in
theorem bd_big_n {x : Nat}  (hx : x < 18446744073709551616) (w : World) (sx : FloatKind.f64.format.order x x = some .eq) (hr0 : FloatKind.f64.format.sub x x = some 0) (zz : FloatKind.f64.format.order 0 0 = some .eq) (k52 : scaleR 4607182418800017408 52 = 4841369599423283200) (k63 : scaleR 4607182418800017408 63 = 4890909195324358656) (kn52 : Op.unary .neg (.float .f64 4841369599423283200) = pure (.float .f64 14064741636278059008)) (kn63 : Op.unary .neg (.float .f64 4890909195324358656) = pure (.float .f64 14114281232179134464)) (ox0 : FloatKind.f64.format.order x 0 = some .lt) (hf : floorW x = x) (hw : (wholeI x == -9223372036854775808) = true) (o1 : FloatKind.f64.format.order 4841369599423283200 x = some .gt) (o2 : (FloatKind.f64.format.order x 14064741636278059008 == some .gt) = false) (o4 : FloatKind.f64.format.order x 4890909195324358656 = some .lt) (o5 : FloatKind.f64.format.order x 14114281232179134464 = some .lt) :
    Calls Try.prog 8 #[.float .f64 x] w fun e w' => e = .returned (.bool true) ∧ ∃ n, w' = w.drewN n := by
  have hr : ∀ w : World, (binOp .sub 24 (.float .f64 x) (.float .f64 x)).run Try.prog w = .ok (.float .f64 0) w := fun w => run_float_arith w .sub 24 .f64 _ _ _ hr0
  clear hr0
  go_enter Try.func8, Try.ntmps8
  go_wp2_with fail
  refine (awake_walk _).mono ?_
  rintro e w' ⟨rfl, n1, rfl⟩
  go_wp2_with fail
  refine (floor_walk hx _).mono ?_
  rintro e w' ⟨rfl, n2, rfl⟩
  go_wp2_with fail
  refine (whole_walk hx _).mono ?_
  rintro e w' ⟨rfl, rfl⟩
  go_wp2_with fail
  refine (floor_walk hx _).mono ?_
  rintro e w' ⟨rfl, n3, rfl⟩
  go_wp2_with fail
  refine (same_walk _ _ _).mono ?_
  rintro e w' ⟨rfl, rfl⟩
  go_wp2_with fail
  refine (scale_walk 52 (by omega) _).mono ?_
  rintro e w' ⟨rfl, rfl⟩
  go_wp2_with fail
  refine (scale_walk 52 (by omega) _).mono ?_
  rintro e w' ⟨rfl, rfl⟩
  go_wp2_with fail
  refine (scale_walk 63 (by omega) _).mono ?_
  rintro e w' ⟨rfl, rfl⟩
  go_wp2_with fail
  refine (scale_walk 63 (by omega) _).mono ?_
  rintro e w' ⟨rfl, rfl⟩
  go_wp2_with fail
  go_ret
  first | exact ⟨rfl, _, rfl⟩ | exact ⟨ret_bool hw, _, rfl⟩

end Go.Proofs.Ytjieoemknocikaa
