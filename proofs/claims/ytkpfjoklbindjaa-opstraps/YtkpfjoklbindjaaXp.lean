/- The walk of OpsTraps, road by road. -/
import Derived.Test.YtkpfjoklbindjaaXm
namespace Go.Proofs.Ytkpfjoklbindjaa
open Ieee Go.RowKit
attribute [local go_sem] run_store_float unary_negW

set_option maxRecDepth 100000 in
theorem traps_fin_zero {x : Nat} {n : Int} (hx : x < 18446744073709551616) (hn : -9223372036854775808 ≤ n ∧ n < 9223372036854775808) (hr : rung x < 9218868437227405312) (h0 : wholeI x = 0) (w : World) :
    Calls Try.prog 8 #[.float .f64 x, .int .i64 n] w fun e w' => e = .returned (.bool true) ∧ Below w.heap.size w w' := by
  have HX : Hid (x < 18446744073709551616) := hx
  have HN : Hid (-9223372036854775808 ≤ n ∧ n < 9223372036854775808) := hn
  have hsub : ∀ w : World, (binOp .sub 29 (.float .f64 x) (.float .f64 x)).run Try.prog w = .ok (.float .f64 0) w := fun w => run_sub_num Try.prog _ (sub_self hx hr) w
  have H1 : Hid (oneS ⟨9, 0, 0⟩ ⟨9, x⟩ = (1, ⟨9, x⟩)) := need_fin hr
  have zz := zz0
  have HW : Hid (wholeI x = 0) := h0
  have H2 : Hid (oneS ⟨10, n, 0⟩ ⟨9, x⟩ = (3, ⟨0, 0⟩)) := per_zero h0
  clear h0 hr hx hn
  go_enter Try.func8, Try.ntmps8
  go_wp2_with fail
  refine (awake_walk _).mono ?_
  rintro e w1 ⟨rfl, hB⟩
  have HB1 : Hid (Below w.heap.size w w1) := hB
  clear hB
  go_wp2_with fail
  refine (lstep_walk 9 0 HX.out (by omega) (by omega) _).mono ?_
  rw [H1.out]
  rintro e w2 ⟨rfl, hB⟩
  have HB2 : Hid (Below w.heap.size w w2) := below_trans HB1.out hB
  clear hB
  go_wp2_with fail
  refine (rsame_walk _ _ _).mono ?_
  rintro e w' ⟨rfl, rfl⟩
  go_wp2_with fail
  refine (whole_walk HX.out _).mono ?_
  rintro e w' ⟨rfl, rfl⟩
  go_wp2_with fail
  refine (lstep_walk 10 n HX.out (by omega) HN.out _).mono ?_
  rw [H2.out, HW.out]
  rintro e w3 ⟨rfl, hB⟩
  have HB3 : Hid (Below w.heap.size w w3) := below_trans HB2.out hB
  clear hB
  go_wp2_with fail
  refine (rsame_walk _ _ _).mono ?_
  rintro e w' ⟨rfl, rfl⟩
  go_wp2_with fail
  go_ret
  exact ⟨rfl, HB3.out⟩

set_option maxRecDepth 100000 in
theorem traps_fin_neg {x : Nat} {n : Int} (hx : x < 18446744073709551616) (hn : -9223372036854775808 ≤ n ∧ n < 9223372036854775808) (hr : rung x < 9218868437227405312) (h0 : ¬ wholeI x = 0) (hs0 : n < 0) (w : World) :
    Calls Try.prog 8 #[.float .f64 x, .int .i64 n] w fun e w' => e = .returned (.bool true) ∧ Below w.heap.size w w' := by
  have HX : Hid (x < 18446744073709551616) := hx
  have HN : Hid (-9223372036854775808 ≤ n ∧ n < 9223372036854775808) := hn
  have hsub : ∀ w : World, (binOp .sub 29 (.float .f64 x) (.float .f64 x)).run Try.prog w = .ok (.float .f64 0) w := fun w => run_sub_num Try.prog _ (sub_self hx hr) w
  have H1 : Hid (oneS ⟨9, 0, 0⟩ ⟨9, x⟩ = (1, ⟨9, x⟩)) := need_fin hr
  have zz := zz0
  have b0 : (wholeI x == 0) = false := by simpa using h0
  have b1 : (wholeI x != 0) = true := by simpa using h0
  have H2 : Hid (oneS ⟨10, n, 0⟩ ⟨9, x⟩ = (1, ⟨9, ofW (perI n (wholeI x))⟩)) := per_some h0
  obtain ⟨⟨q1, q2⟩, q3⟩ := per_le n (wholeI x)
  obtain ⟨s1, s2⟩ := of_le_size q3 hn.1 hn.2
  have hfl := of_floor q1 q2
  have HV : Hid (ofW (perI n (wholeI x)) < 18446744073709551616) := of_lt _
  have ls := of_lss0 hn.1 hn.2
  rw [decide_eq_true hs0] at ls
  have es : sizeW n = negW (ofW n) := if_pos hs0
  rw [es] at s1 s2
  obtain ⟨V, hV⟩ : ∃ V, V = ofW (perI n (wholeI x)) := ⟨_, rfl⟩
  rw [← hV] at s1 s2 hfl HV H2
  have S1 := (show Hid _ from s1)
  have S2 := (show Hid _ from s2)
  clear es s1 s2 q1 q2 q3 hV h0 hs0 hr hx hn
  go_enter Try.func8, Try.ntmps8
  go_wp2_with fail
  refine (awake_walk _).mono ?_
  rintro e w1 ⟨rfl, hB⟩
  have HB1 : Hid (Below w.heap.size w w1) := hB
  clear hB
  go_wp2_with fail
  refine (lstep_walk 9 0 HX.out (by omega) (by omega) _).mono ?_
  rw [H1.out]
  rintro e w2 ⟨rfl, hB⟩
  have HB2 : Hid (Below w.heap.size w w2) := below_trans HB1.out hB
  clear hB
  go_wp2_with fail
  refine (rsame_walk _ _ _).mono ?_
  rintro e w' ⟨rfl, rfl⟩
  go_wp2_with fail
  refine (whole_walk HX.out _).mono ?_
  rintro e w' ⟨rfl, rfl⟩
  go_wp2_with fail
  refine (lstep_walk 10 n HX.out (by omega) HN.out _).mono ?_
  rw [H2.out]
  rintro e w3 ⟨rfl, hB⟩
  have HB3 : Hid (Below w.heap.size w w3) := below_trans HB2.out hB
  clear hB
  go_wp2_with fail
  refine (of_walk' _ _).mono ?_
  rintro e w' ⟨rfl, rfl⟩
  go_wp2_with fail
  refine (floor_walk HV.out _).mono ?_
  rw [hfl]
  rintro e w' ⟨rfl, m, rfl⟩
  go_wp2_with fail
  refine (rsame_walk _ _ _).mono ?_
  rintro e w' ⟨rfl, rfl⟩
  go_wp2_with fail
  · go_ret
    exact ⟨ret_bool (by rw [S1.out, S2.out]; rfl), below_trans HB3.out (below_drewN _ _)⟩
  · rename_i h
    have k := S1.out
    simp only [Bool.or_eq_true, beq_iff_eq] at k
    exact absurd k h

set_option maxRecDepth 100000 in
theorem traps_fin_pos {x : Nat} {n : Int} (hx : x < 18446744073709551616) (hn : -9223372036854775808 ≤ n ∧ n < 9223372036854775808) (hr : rung x < 9218868437227405312) (h0 : ¬ wholeI x = 0) (hs0 : ¬ n < 0) (w : World) :
    Calls Try.prog 8 #[.float .f64 x, .int .i64 n] w fun e w' => e = .returned (.bool true) ∧ Below w.heap.size w w' := by
  have HX : Hid (x < 18446744073709551616) := hx
  have HN : Hid (-9223372036854775808 ≤ n ∧ n < 9223372036854775808) := hn
  have hsub : ∀ w : World, (binOp .sub 29 (.float .f64 x) (.float .f64 x)).run Try.prog w = .ok (.float .f64 0) w := fun w => run_sub_num Try.prog _ (sub_self hx hr) w
  have H1 : Hid (oneS ⟨9, 0, 0⟩ ⟨9, x⟩ = (1, ⟨9, x⟩)) := need_fin hr
  have zz := zz0
  have b0 : (wholeI x == 0) = false := by simpa using h0
  have b1 : (wholeI x != 0) = true := by simpa using h0
  have H2 : Hid (oneS ⟨10, n, 0⟩ ⟨9, x⟩ = (1, ⟨9, ofW (perI n (wholeI x))⟩)) := per_some h0
  obtain ⟨⟨q1, q2⟩, q3⟩ := per_le n (wholeI x)
  obtain ⟨s1, s2⟩ := of_le_size q3 hn.1 hn.2
  have hfl := of_floor q1 q2
  have HV : Hid (ofW (perI n (wholeI x)) < 18446744073709551616) := of_lt _
  have ls := of_lss0 hn.1 hn.2
  rw [decide_eq_false hs0] at ls
  have es : sizeW n = ofW n := if_neg hs0
  rw [es] at s1 s2
  obtain ⟨V, hV⟩ : ∃ V, V = ofW (perI n (wholeI x)) := ⟨_, rfl⟩
  rw [← hV] at s1 s2 hfl HV H2
  have S1 := (show Hid _ from s1)
  have S2 := (show Hid _ from s2)
  clear es s1 s2 q1 q2 q3 hV h0 hs0 hr hx hn
  go_enter Try.func8, Try.ntmps8
  go_wp2_with fail
  refine (awake_walk _).mono ?_
  rintro e w1 ⟨rfl, hB⟩
  have HB1 : Hid (Below w.heap.size w w1) := hB
  clear hB
  go_wp2_with fail
  refine (lstep_walk 9 0 HX.out (by omega) (by omega) _).mono ?_
  rw [H1.out]
  rintro e w2 ⟨rfl, hB⟩
  have HB2 : Hid (Below w.heap.size w w2) := below_trans HB1.out hB
  clear hB
  go_wp2_with fail
  refine (rsame_walk _ _ _).mono ?_
  rintro e w' ⟨rfl, rfl⟩
  go_wp2_with fail
  refine (whole_walk HX.out _).mono ?_
  rintro e w' ⟨rfl, rfl⟩
  go_wp2_with fail
  refine (lstep_walk 10 n HX.out (by omega) HN.out _).mono ?_
  rw [H2.out]
  rintro e w3 ⟨rfl, hB⟩
  have HB3 : Hid (Below w.heap.size w w3) := below_trans HB2.out hB
  clear hB
  go_wp2_with fail
  refine (of_walk' _ _).mono ?_
  rintro e w' ⟨rfl, rfl⟩
  go_wp2_with fail
  refine (floor_walk HV.out _).mono ?_
  rw [hfl]
  rintro e w' ⟨rfl, m, rfl⟩
  go_wp2_with fail
  refine (rsame_walk _ _ _).mono ?_
  rintro e w' ⟨rfl, rfl⟩
  go_wp2_with fail
  · go_ret
    exact ⟨ret_bool (by rw [S1.out, S2.out]; rfl), below_trans HB3.out (below_drewN _ _)⟩
  · rename_i h
    have k := S1.out
    simp only [Bool.or_eq_true, beq_iff_eq] at k
    exact absurd k h

set_option maxRecDepth 100000 in
theorem traps_not_zero {x : Nat} {n : Int} (hx : x < 18446744073709551616) (hn : -9223372036854775808 ≤ n ∧ n < 9223372036854775808) (hr : 9218868437227405312 ≤ rung x) (hs : FloatKind.f64.format.sub x x = none) (h0 : wholeI x = 0) (w : World) :
    Calls Try.prog 8 #[.float .f64 x, .int .i64 n] w fun e w' => e = .returned (.bool true) ∧ Below w.heap.size w w' := by
  have HX : Hid (x < 18446744073709551616) := hx
  have HN : Hid (-9223372036854775808 ≤ n ∧ n < 9223372036854775808) := hn
  have hsub : ∀ w : World, (binOp .sub 29 (.float .f64 x) (.float .f64 x)).run Try.prog w = .ok (.float .f64 (nanQ x x w)) (w.drewN 1) := fun w => run_sub_nan Try.prog _ hs w
  have H1 : Hid (oneS ⟨9, 0, 0⟩ ⟨9, x⟩ = (3, ⟨0, 0⟩)) := need_not hr
  have hq : ∀ w : World, FloatKind.f64.format.order (nanQ x x w) 0 = none := fun w => nanQ_order x x w 0
  have HW : Hid (wholeI x = 0) := h0
  have H2 : Hid (oneS ⟨10, n, 0⟩ ⟨9, x⟩ = (3, ⟨0, 0⟩)) := per_zero h0
  clear h0 hr hs hx hn
  go_enter Try.func8, Try.ntmps8
  go_wp2_with fail
  refine (awake_walk _).mono ?_
  rintro e w1 ⟨rfl, hB⟩
  have HB1 : Hid (Below w.heap.size w w1) := hB
  clear hB
  go_wp2_with fail
  refine (lstep_walk 9 0 HX.out (by omega) (by omega) _).mono ?_
  rw [H1.out]
  rintro e w2 ⟨rfl, hB⟩
  have HB2 : Hid (Below w.heap.size w w2) := below_trans HB1.out hB
  clear hB
  go_wp2_with fail
  refine (rsame_walk _ _ _).mono ?_
  rintro e w' ⟨rfl, rfl⟩
  go_wp2_with fail
  refine (whole_walk HX.out _).mono ?_
  rintro e w' ⟨rfl, rfl⟩
  go_wp2_with fail
  refine (lstep_walk 10 n HX.out (by omega) HN.out _).mono ?_
  rw [H2.out, HW.out]
  rintro e w3 ⟨rfl, hB⟩
  have HB3 : Hid (Below w.heap.size w w3) := below_trans (below_trans (below_trans HB2.out (below_drewN _ 1)) (below_drewN _ 1)) hB
  clear hB
  go_wp2_with fail
  refine (rsame_walk _ _ _).mono ?_
  rintro e w' ⟨rfl, rfl⟩
  go_wp2_with fail
  go_ret
  exact ⟨rfl, HB3.out⟩

set_option maxRecDepth 100000 in
theorem traps_not_neg {x : Nat} {n : Int} (hx : x < 18446744073709551616) (hn : -9223372036854775808 ≤ n ∧ n < 9223372036854775808) (hr : 9218868437227405312 ≤ rung x) (hs : FloatKind.f64.format.sub x x = none) (h0 : ¬ wholeI x = 0) (hs0 : n < 0) (w : World) :
    Calls Try.prog 8 #[.float .f64 x, .int .i64 n] w fun e w' => e = .returned (.bool true) ∧ Below w.heap.size w w' := by
  have HX : Hid (x < 18446744073709551616) := hx
  have HN : Hid (-9223372036854775808 ≤ n ∧ n < 9223372036854775808) := hn
  have hsub : ∀ w : World, (binOp .sub 29 (.float .f64 x) (.float .f64 x)).run Try.prog w = .ok (.float .f64 (nanQ x x w)) (w.drewN 1) := fun w => run_sub_nan Try.prog _ hs w
  have H1 : Hid (oneS ⟨9, 0, 0⟩ ⟨9, x⟩ = (3, ⟨0, 0⟩)) := need_not hr
  have hq : ∀ w : World, FloatKind.f64.format.order (nanQ x x w) 0 = none := fun w => nanQ_order x x w 0
  have b0 : (wholeI x == 0) = false := by simpa using h0
  have b1 : (wholeI x != 0) = true := by simpa using h0
  have H2 : Hid (oneS ⟨10, n, 0⟩ ⟨9, x⟩ = (1, ⟨9, ofW (perI n (wholeI x))⟩)) := per_some h0
  obtain ⟨⟨q1, q2⟩, q3⟩ := per_le n (wholeI x)
  obtain ⟨s1, s2⟩ := of_le_size q3 hn.1 hn.2
  have hfl := of_floor q1 q2
  have HV : Hid (ofW (perI n (wholeI x)) < 18446744073709551616) := of_lt _
  have ls := of_lss0 hn.1 hn.2
  rw [decide_eq_true hs0] at ls
  have es : sizeW n = negW (ofW n) := if_pos hs0
  rw [es] at s1 s2
  obtain ⟨V, hV⟩ : ∃ V, V = ofW (perI n (wholeI x)) := ⟨_, rfl⟩
  rw [← hV] at s1 s2 hfl HV H2
  have S1 := (show Hid _ from s1)
  have S2 := (show Hid _ from s2)
  clear es s1 s2 q1 q2 q3 hV h0 hs0 hr hs hx hn
  go_enter Try.func8, Try.ntmps8
  go_wp2_with fail
  refine (awake_walk _).mono ?_
  rintro e w1 ⟨rfl, hB⟩
  have HB1 : Hid (Below w.heap.size w w1) := hB
  clear hB
  go_wp2_with fail
  refine (lstep_walk 9 0 HX.out (by omega) (by omega) _).mono ?_
  rw [H1.out]
  rintro e w2 ⟨rfl, hB⟩
  have HB2 : Hid (Below w.heap.size w w2) := below_trans HB1.out hB
  clear hB
  go_wp2_with fail
  refine (rsame_walk _ _ _).mono ?_
  rintro e w' ⟨rfl, rfl⟩
  go_wp2_with fail
  refine (whole_walk HX.out _).mono ?_
  rintro e w' ⟨rfl, rfl⟩
  go_wp2_with fail
  refine (lstep_walk 10 n HX.out (by omega) HN.out _).mono ?_
  rw [H2.out]
  rintro e w3 ⟨rfl, hB⟩
  have HB3 : Hid (Below w.heap.size w w3) := below_trans (below_trans (below_trans HB2.out (below_drewN _ 1)) (below_drewN _ 1)) hB
  clear hB
  go_wp2_with fail
  refine (of_walk' _ _).mono ?_
  rintro e w' ⟨rfl, rfl⟩
  go_wp2_with fail
  refine (floor_walk HV.out _).mono ?_
  rw [hfl]
  rintro e w' ⟨rfl, m, rfl⟩
  go_wp2_with fail
  refine (rsame_walk _ _ _).mono ?_
  rintro e w' ⟨rfl, rfl⟩
  go_wp2_with fail
  · go_ret
    exact ⟨ret_bool (by rw [S1.out, S2.out]; rfl), below_trans HB3.out (below_drewN _ _)⟩
  · rename_i h
    have k := S1.out
    simp only [Bool.or_eq_true, beq_iff_eq] at k
    exact absurd k h

set_option maxRecDepth 100000 in
theorem traps_not_pos {x : Nat} {n : Int} (hx : x < 18446744073709551616) (hn : -9223372036854775808 ≤ n ∧ n < 9223372036854775808) (hr : 9218868437227405312 ≤ rung x) (hs : FloatKind.f64.format.sub x x = none) (h0 : ¬ wholeI x = 0) (hs0 : ¬ n < 0) (w : World) :
    Calls Try.prog 8 #[.float .f64 x, .int .i64 n] w fun e w' => e = .returned (.bool true) ∧ Below w.heap.size w w' := by
  have HX : Hid (x < 18446744073709551616) := hx
  have HN : Hid (-9223372036854775808 ≤ n ∧ n < 9223372036854775808) := hn
  have hsub : ∀ w : World, (binOp .sub 29 (.float .f64 x) (.float .f64 x)).run Try.prog w = .ok (.float .f64 (nanQ x x w)) (w.drewN 1) := fun w => run_sub_nan Try.prog _ hs w
  have H1 : Hid (oneS ⟨9, 0, 0⟩ ⟨9, x⟩ = (3, ⟨0, 0⟩)) := need_not hr
  have hq : ∀ w : World, FloatKind.f64.format.order (nanQ x x w) 0 = none := fun w => nanQ_order x x w 0
  have b0 : (wholeI x == 0) = false := by simpa using h0
  have b1 : (wholeI x != 0) = true := by simpa using h0
  have H2 : Hid (oneS ⟨10, n, 0⟩ ⟨9, x⟩ = (1, ⟨9, ofW (perI n (wholeI x))⟩)) := per_some h0
  obtain ⟨⟨q1, q2⟩, q3⟩ := per_le n (wholeI x)
  obtain ⟨s1, s2⟩ := of_le_size q3 hn.1 hn.2
  have hfl := of_floor q1 q2
  have HV : Hid (ofW (perI n (wholeI x)) < 18446744073709551616) := of_lt _
  have ls := of_lss0 hn.1 hn.2
  rw [decide_eq_false hs0] at ls
  have es : sizeW n = ofW n := if_neg hs0
  rw [es] at s1 s2
  obtain ⟨V, hV⟩ : ∃ V, V = ofW (perI n (wholeI x)) := ⟨_, rfl⟩
  rw [← hV] at s1 s2 hfl HV H2
  have S1 := (show Hid _ from s1)
  have S2 := (show Hid _ from s2)
  clear es s1 s2 q1 q2 q3 hV h0 hs0 hr hs hx hn
  go_enter Try.func8, Try.ntmps8
  go_wp2_with fail
  refine (awake_walk _).mono ?_
  rintro e w1 ⟨rfl, hB⟩
  have HB1 : Hid (Below w.heap.size w w1) := hB
  clear hB
  go_wp2_with fail
  refine (lstep_walk 9 0 HX.out (by omega) (by omega) _).mono ?_
  rw [H1.out]
  rintro e w2 ⟨rfl, hB⟩
  have HB2 : Hid (Below w.heap.size w w2) := below_trans HB1.out hB
  clear hB
  go_wp2_with fail
  refine (rsame_walk _ _ _).mono ?_
  rintro e w' ⟨rfl, rfl⟩
  go_wp2_with fail
  refine (whole_walk HX.out _).mono ?_
  rintro e w' ⟨rfl, rfl⟩
  go_wp2_with fail
  refine (lstep_walk 10 n HX.out (by omega) HN.out _).mono ?_
  rw [H2.out]
  rintro e w3 ⟨rfl, hB⟩
  have HB3 : Hid (Below w.heap.size w w3) := below_trans (below_trans (below_trans HB2.out (below_drewN _ 1)) (below_drewN _ 1)) hB
  clear hB
  go_wp2_with fail
  refine (of_walk' _ _).mono ?_
  rintro e w' ⟨rfl, rfl⟩
  go_wp2_with fail
  refine (floor_walk HV.out _).mono ?_
  rw [hfl]
  rintro e w' ⟨rfl, m, rfl⟩
  go_wp2_with fail
  refine (rsame_walk _ _ _).mono ?_
  rintro e w' ⟨rfl, rfl⟩
  go_wp2_with fail
  · go_ret
    exact ⟨ret_bool (by rw [S1.out, S2.out]; rfl), below_trans HB3.out (below_drewN _ _)⟩
  · rename_i h
    have k := S1.out
    simp only [Bool.or_eq_true, beq_iff_eq] at k
    exact absurd k h

theorem opstraps_walk {x : Nat} {n : Int} (hx : x < 18446744073709551616) (hn : -9223372036854775808 ≤ n ∧ n < 9223372036854775808) (w : World) :
    Calls Try.prog 8 #[.float .f64 x, .int .i64 n] w fun e w' => e = .returned (.bool true) ∧ Below w.heap.size w w' := by
  by_cases hr : rung x < 9218868437227405312
  · by_cases h0 : wholeI x = 0
    · exact traps_fin_zero hx hn hr h0 w
    · by_cases hs0 : n < 0
      · exact traps_fin_neg hx hn hr h0 hs0 w
      · exact traps_fin_pos hx hn hr h0 hs0 w
  · have hr' : 9218868437227405312 ≤ rung x := by omega
    have hs : FloatKind.f64.format.sub x x = none := by
      cases hq : nanB x
      · have := nan_f hq
        exact sub_inf hx (by omega)
      · exact sub_nan hx hq
    by_cases h0 : wholeI x = 0
    · exact traps_not_zero hx hn hr' hs h0 w
    · by_cases hs0 : n < 0
      · exact traps_not_neg hx hn hr' hs h0 hs0 w
      · exact traps_not_pos hx hn hr' hs h0 hs0 w
end Go.Proofs.Ytkpfjoklbindjaa
