/- The walk of OpsEdges, road by road. -/
import Derived.Test.YtkpfjoklbindjaaXe
namespace Go.Proofs.Ytkpfjoklbindjaa
open Ieee Go.RowKit
attribute [local go_sem] run_store_float unary_negW

set_option linter.unusedVariables false in
set_option maxRecDepth 100000 in
set_option maxHeartbeats 1000000 in
theorem edges_nan {x y : Nat} {lf mf : Int} {r7 r8 r9 : Rcd} (HX : Hid (x < 18446744073709551616)) (HY : Hid (y < 18446744073709551616)) (HA : Hid (9221120237041090561 < 18446744073709551616)) (HI : Hid (9221120237041090561 < 18446744073709551616)) (HC : Hid (canonW x = 9221120237041090561)) (H1 : Hid (oneS ⟨4, 0, 0⟩ ⟨9, x⟩ = (1, ⟨9, 9221120237041090561⟩))) (H2 : Hid (oneS ⟨4, 0, 0⟩ ⟨9, 9221120237041090561⟩ = (1, ⟨9, 9221120237041090561⟩))) (H3 : Hid (oneS ⟨5, 0, 0⟩ ⟨9, x⟩ = (1, ⟨9, 9221120237041090561⟩))) (H4 : Hid (oneS ⟨5, 0, 0⟩ ⟨9, 9221120237041090561⟩ = (1, ⟨9, 9221120237041090561⟩))) (H5 : Hid (oneS ⟨8, 0, 0⟩ ⟨9, x⟩ = (1, ⟨9, 9221120237041090561⟩))) (H6 : Hid (oneS ⟨8, 0, 0⟩ ⟨9, 9221120237041090561⟩ = (1, ⟨9, 9221120237041090561⟩))) (H7 : Hid (oneS ⟨1, 0, y⟩ ⟨0, x⟩ = (lf, r7))) (e7 : (lf == 1) = (FloatKind.f64.format.order x y == some .lt)) (e7' : (lf != 3) = true) (H8 : Hid (oneS ⟨2, 0, y⟩ ⟨0, x⟩ = (mf, r8))) (e8 : (mf == 1) = (FloatKind.f64.format.order x y == some .gt)) (e8' : (mf != 3) = true) (H9 : Hid (oneS ⟨3, 0, 0⟩ ⟨0, x⟩ = (2, r9))) (ox : FloatKind.f64.format.order x x = none) (ox0 : FloatKind.f64.format.order x 0 = none) (oxy : FloatKind.f64.format.order x y = none) (oqq : FloatKind.f64.format.order 9221120237041090561 9221120237041090561 = none) (oq0 : FloatKind.f64.format.order 9221120237041090561 0 = none) (hsub : ∀ w : World, (binOp .sub 29 (.float .f64 x) (.float .f64 x)).run Try.prog w = .ok (.float .f64 (nanQ x x w)) (w.drewN 1)) (hq : ∀ w : World, FloatKind.f64.format.order (nanQ x x w) 0 = none) (w : World) :
    Calls Try.prog 7 #[.float .f64 x, .float .f64 y] w fun e w' => e = .returned (.bool true) ∧ Below w.heap.size w w' := by
  go_enter Try.func7, Try.ntmps7
  go_wp2_with fail
  refine (awake_walk _).mono ?_
  rintro e v0 ⟨rfl, hB⟩
  have HB : Hid (Below w.heap.size w v0) := hB
  clear hB
  go_wp2_with fail
  refine (canon_walk HX.out _).mono ?_
  rw [HC.out]
  rintro e w' ⟨rfl, rfl⟩
  go_wp2_with fail
  refine (lstep_walk 4 0 HX.out (by omega) (by omega) _).mono ?_
  rw [H1.out]
  rintro e v1 ⟨rfl, hB⟩
  have HB' : Hid (Below w.heap.size w v1) := by
    show Below _ _ _
    first | exact below_trans HB.out hB | exact below_trans (below_trans HB.out (below_alloc _ _)) hB | exact below_trans (below_trans HB.out (below_drewN _ 1)) hB | exact below_trans (below_trans (below_trans HB.out (below_drewN _ 1)) (below_drewN _ 1)) hB
  clear HB hB
  have HB := HB'
  clear HB'
  go_wp2_with fail
  refine (lstep_walk 4 0 HA.out (by omega) (by omega) _).mono ?_
  rw [H2.out]
  rintro e v2 ⟨rfl, hB⟩
  have HB' : Hid (Below w.heap.size w v2) := by
    show Below _ _ _
    first | exact below_trans HB.out hB | exact below_trans (below_trans HB.out (below_alloc _ _)) hB | exact below_trans (below_trans HB.out (below_drewN _ 1)) hB | exact below_trans (below_trans (below_trans HB.out (below_drewN _ 1)) (below_drewN _ 1)) hB
  clear HB hB
  have HB := HB'
  clear HB'
  go_wp2_with fail
  refine (rsame_walk _ _ _).mono ?_
  rintro e w' ⟨rfl, rfl⟩
  go_wp2_with fail
  refine (lstep_walk 5 0 HX.out (by omega) (by omega) _).mono ?_
  rw [H3.out]
  rintro e v3 ⟨rfl, hB⟩
  have HB' : Hid (Below w.heap.size w v3) := by
    show Below _ _ _
    first | exact below_trans HB.out hB | exact below_trans (below_trans HB.out (below_alloc _ _)) hB | exact below_trans (below_trans HB.out (below_drewN _ 1)) hB | exact below_trans (below_trans (below_trans HB.out (below_drewN _ 1)) (below_drewN _ 1)) hB
  clear HB hB
  have HB := HB'
  clear HB'
  go_wp2_with fail
  refine (lstep_walk 5 0 HA.out (by omega) (by omega) _).mono ?_
  rw [H4.out]
  rintro e v4 ⟨rfl, hB⟩
  have HB' : Hid (Below w.heap.size w v4) := by
    show Below _ _ _
    first | exact below_trans HB.out hB | exact below_trans (below_trans HB.out (below_alloc _ _)) hB | exact below_trans (below_trans HB.out (below_drewN _ 1)) hB | exact below_trans (below_trans (below_trans HB.out (below_drewN _ 1)) (below_drewN _ 1)) hB
  clear HB hB
  have HB := HB'
  clear HB'
  go_wp2_with fail
  refine (rsame_walk _ _ _).mono ?_
  rintro e w' ⟨rfl, rfl⟩
  go_wp2_with fail
  refine (rsame_walk _ _ _).mono ?_
  rintro e w' ⟨rfl, rfl⟩
  go_wp2_with fail
  refine (lstep_walk 8 0 HX.out (by omega) (by omega) _).mono ?_
  rw [H5.out]
  rintro e v5 ⟨rfl, hB⟩
  have HB' : Hid (Below w.heap.size w v5) := by
    show Below _ _ _
    first | exact below_trans HB.out hB | exact below_trans (below_trans HB.out (below_alloc _ _)) hB | exact below_trans (below_trans HB.out (below_drewN _ 1)) hB | exact below_trans (below_trans (below_trans HB.out (below_drewN _ 1)) (below_drewN _ 1)) hB
  clear HB hB
  have HB := HB'
  clear HB'
  go_wp2_with fail
  refine (lstep_walk 8 0 HI.out (by omega) (by omega) _).mono ?_
  rw [H6.out]
  rintro e v6 ⟨rfl, hB⟩
  have HB' : Hid (Below w.heap.size w v6) := by
    show Below _ _ _
    first | exact below_trans HB.out hB | exact below_trans (below_trans HB.out (below_alloc _ _)) hB | exact below_trans (below_trans HB.out (below_drewN _ 1)) hB | exact below_trans (below_trans (below_trans HB.out (below_drewN _ 1)) (below_drewN _ 1)) hB
  clear HB hB
  have HB := HB'
  clear HB'
  go_wp2_with fail
  refine (one_walk ⟨1, 0, y⟩ ⟨0, x⟩ ⟨by simp, by simp, HY.out⟩ ⟨by simp, HX.out⟩ _).mono ?_
  rw [H7.out]
  rintro e v7 ⟨rfl, hB⟩
  have HB' : Hid (Below w.heap.size w v7) := by
    show Below _ _ _
    first | exact below_trans HB.out hB | exact below_trans (below_trans HB.out (below_alloc _ _)) hB | exact below_trans (below_trans HB.out (below_drewN _ 1)) hB | exact below_trans (below_trans (below_trans HB.out (below_drewN _ 1)) (below_drewN _ 1)) hB
  clear HB hB
  have HB := HB'
  clear HB'
  go_wp2_with fail
  refine (one_walk ⟨2, 0, y⟩ ⟨0, x⟩ ⟨by simp, by simp, HY.out⟩ ⟨by simp, HX.out⟩ _).mono ?_
  rw [H8.out]
  rintro e v8 ⟨rfl, hB⟩
  have HB' : Hid (Below w.heap.size w v8) := by
    show Below _ _ _
    first | exact below_trans HB.out hB | exact below_trans (below_trans HB.out (below_alloc _ _)) hB | exact below_trans (below_trans HB.out (below_drewN _ 1)) hB | exact below_trans (below_trans (below_trans HB.out (below_drewN _ 1)) (below_drewN _ 1)) hB
  clear HB hB
  have HB := HB'
  clear HB'
  go_wp2_with fail
  refine (one_walk ⟨3, 0, 0⟩ ⟨0, x⟩ ⟨by simp, by simp, by simp⟩ ⟨by simp, HX.out⟩ _).mono ?_
  rw [H9.out]
  rintro e v9 ⟨rfl, hB⟩
  have HB' : Hid (Below w.heap.size w v9) := by
    show Below _ _ _
    first | exact below_trans HB.out hB | exact below_trans (below_trans HB.out (below_alloc _ _)) hB | exact below_trans (below_trans HB.out (below_drewN _ 1)) hB | exact below_trans (below_trans (below_trans HB.out (below_drewN _ 1)) (below_drewN _ 1)) hB
  clear HB hB
  have HB := HB'
  clear HB'
  go_wp2_with fail
  go_ret
  exact ⟨rfl, below_trans HB.out (below_alloc _ _)⟩

set_option linter.unusedVariables false in
set_option maxRecDepth 100000 in
set_option maxHeartbeats 1000000 in
theorem edges_zero_pos {x y : Nat} {lf mf : Int} {r7 r8 r9 : Rcd} {A I : Nat} (HX : Hid (x < 18446744073709551616)) (HY : Hid (y < 18446744073709551616)) (HA : Hid (A < 18446744073709551616)) (HI : Hid (I < 18446744073709551616)) (HC : Hid (canonW x = x)) (H1 : Hid (oneS ⟨4, 0, 0⟩ ⟨9, x⟩ = (1, ⟨9, A⟩))) (H2 : Hid (oneS ⟨4, 0, 0⟩ ⟨9, A⟩ = (1, ⟨9, x⟩))) (H3 : Hid (oneS ⟨5, 0, 0⟩ ⟨9, x⟩ = (1, ⟨9, x⟩))) (H4 : Hid (oneS ⟨5, 0, 0⟩ ⟨9, A⟩ = (1, ⟨9, x⟩))) (H5 : Hid (oneS ⟨8, 0, 0⟩ ⟨9, x⟩ = (1, ⟨9, I⟩))) (H6 : Hid (oneS ⟨8, 0, 0⟩ ⟨9, I⟩ = (1, ⟨9, x⟩))) (H7 : Hid (oneS ⟨1, 0, y⟩ ⟨0, x⟩ = (lf, r7))) (e7 : (lf == 1) = (FloatKind.f64.format.order x y == some .lt)) (e7' : (lf != 3) = true) (H8 : Hid (oneS ⟨2, 0, y⟩ ⟨0, x⟩ = (mf, r8))) (e8 : (mf == 1) = (FloatKind.f64.format.order x y == some .gt)) (e8' : (mf != 3) = true) (H9 : Hid (oneS ⟨3, 0, 0⟩ ⟨0, x⟩ = (1, r9))) (ox : FloatKind.f64.format.order x x = some .eq) (oi : FloatKind.f64.format.order I I = some .eq) (nAx : decide (A = x) = false) (oS : (FloatKind.f64.format.order x 0 == some .lt) = false) (ox0 : FloatKind.f64.format.order x 0 = some .eq) (hsub : ∀ w : World, (binOp .sub 29 (.float .f64 I) (.float .f64 I)).run Try.prog w = .ok (.float .f64 (nanQ I I w)) (w.drewN 1)) (hq : ∀ w : World, FloatKind.f64.format.order (nanQ I I w) 0 = none) (w : World) :
    Calls Try.prog 7 #[.float .f64 x, .float .f64 y] w fun e w' => e = .returned (.bool true) ∧ Below w.heap.size w w' := by
  go_enter Try.func7, Try.ntmps7
  go_wp2_with fail
  refine (awake_walk _).mono ?_
  rintro e v0 ⟨rfl, hB⟩
  have HB : Hid (Below w.heap.size w v0) := hB
  clear hB
  go_wp2_with fail
  refine (canon_walk HX.out _).mono ?_
  rw [HC.out]
  rintro e w' ⟨rfl, rfl⟩
  go_wp2_with fail
  refine (lstep_walk 4 0 HX.out (by omega) (by omega) _).mono ?_
  rw [H1.out]
  rintro e v1 ⟨rfl, hB⟩
  have HB' : Hid (Below w.heap.size w v1) := by
    show Below _ _ _
    first | exact below_trans HB.out hB | exact below_trans (below_trans HB.out (below_alloc _ _)) hB | exact below_trans (below_trans HB.out (below_drewN _ 1)) hB | exact below_trans (below_trans (below_trans HB.out (below_drewN _ 1)) (below_drewN _ 1)) hB
  clear HB hB
  have HB := HB'
  clear HB'
  go_wp2_with fail
  refine (lstep_walk 4 0 HA.out (by omega) (by omega) _).mono ?_
  rw [H2.out]
  rintro e v2 ⟨rfl, hB⟩
  have HB' : Hid (Below w.heap.size w v2) := by
    show Below _ _ _
    first | exact below_trans HB.out hB | exact below_trans (below_trans HB.out (below_alloc _ _)) hB | exact below_trans (below_trans HB.out (below_drewN _ 1)) hB | exact below_trans (below_trans (below_trans HB.out (below_drewN _ 1)) (below_drewN _ 1)) hB
  clear HB hB
  have HB := HB'
  clear HB'
  go_wp2_with fail
  refine (rsame_walk _ _ _).mono ?_
  rintro e w' ⟨rfl, rfl⟩
  go_wp2_with fail
  refine (rsame_walk _ _ _).mono ?_
  rintro e w' ⟨rfl, rfl⟩
  go_wp2_with fail
  refine (lstep_walk 5 0 HX.out (by omega) (by omega) _).mono ?_
  rw [H3.out]
  rintro e v3 ⟨rfl, hB⟩
  have HB' : Hid (Below w.heap.size w v3) := by
    show Below _ _ _
    first | exact below_trans HB.out hB | exact below_trans (below_trans HB.out (below_alloc _ _)) hB | exact below_trans (below_trans HB.out (below_drewN _ 1)) hB | exact below_trans (below_trans (below_trans HB.out (below_drewN _ 1)) (below_drewN _ 1)) hB
  clear HB hB
  have HB := HB'
  clear HB'
  go_wp2_with fail
  refine (lstep_walk 5 0 HA.out (by omega) (by omega) _).mono ?_
  rw [H4.out]
  rintro e v4 ⟨rfl, hB⟩
  have HB' : Hid (Below w.heap.size w v4) := by
    show Below _ _ _
    first | exact below_trans HB.out hB | exact below_trans (below_trans HB.out (below_alloc _ _)) hB | exact below_trans (below_trans HB.out (below_drewN _ 1)) hB | exact below_trans (below_trans (below_trans HB.out (below_drewN _ 1)) (below_drewN _ 1)) hB
  clear HB hB
  have HB := HB'
  clear HB'
  go_wp2_with fail
  refine (rsame_walk _ _ _).mono ?_
  rintro e w' ⟨rfl, rfl⟩
  go_wp2_with fail
  refine (rsame_walk _ _ _).mono ?_
  rintro e w' ⟨rfl, rfl⟩
  go_wp2_with fail
  refine (lstep_walk 8 0 HX.out (by omega) (by omega) _).mono ?_
  rw [H5.out]
  rintro e v5 ⟨rfl, hB⟩
  have HB' : Hid (Below w.heap.size w v5) := by
    show Below _ _ _
    first | exact below_trans HB.out hB | exact below_trans (below_trans HB.out (below_alloc _ _)) hB | exact below_trans (below_trans HB.out (below_drewN _ 1)) hB | exact below_trans (below_trans (below_trans HB.out (below_drewN _ 1)) (below_drewN _ 1)) hB
  clear HB hB
  have HB := HB'
  clear HB'
  go_wp2_with fail
  refine (lstep_walk 8 0 HI.out (by omega) (by omega) _).mono ?_
  rw [H6.out]
  rintro e v6 ⟨rfl, hB⟩
  have HB' : Hid (Below w.heap.size w v6) := by
    show Below _ _ _
    first | exact below_trans HB.out hB | exact below_trans (below_trans HB.out (below_alloc _ _)) hB | exact below_trans (below_trans HB.out (below_drewN _ 1)) hB | exact below_trans (below_trans (below_trans HB.out (below_drewN _ 1)) (below_drewN _ 1)) hB
  clear HB hB
  have HB := HB'
  clear HB'
  go_wp2_with fail
  refine (rsame_walk _ _ _).mono ?_
  rintro e w' ⟨rfl, rfl⟩
  go_wp2_with fail
  refine (one_walk ⟨1, 0, y⟩ ⟨0, x⟩ ⟨by simp, by simp, HY.out⟩ ⟨by simp, HX.out⟩ _).mono ?_
  rw [H7.out]
  rintro e v7 ⟨rfl, hB⟩
  have HB' : Hid (Below w.heap.size w v7) := by
    show Below _ _ _
    first | exact below_trans HB.out hB | exact below_trans (below_trans HB.out (below_alloc _ _)) hB | exact below_trans (below_trans HB.out (below_drewN _ 1)) hB | exact below_trans (below_trans (below_trans HB.out (below_drewN _ 1)) (below_drewN _ 1)) hB
  clear HB hB
  have HB := HB'
  clear HB'
  go_wp2_with fail
  refine (one_walk ⟨2, 0, y⟩ ⟨0, x⟩ ⟨by simp, by simp, HY.out⟩ ⟨by simp, HX.out⟩ _).mono ?_
  rw [H8.out]
  rintro e v8 ⟨rfl, hB⟩
  have HB' : Hid (Below w.heap.size w v8) := by
    show Below _ _ _
    first | exact below_trans HB.out hB | exact below_trans (below_trans HB.out (below_alloc _ _)) hB | exact below_trans (below_trans HB.out (below_drewN _ 1)) hB | exact below_trans (below_trans (below_trans HB.out (below_drewN _ 1)) (below_drewN _ 1)) hB
  clear HB hB
  have HB := HB'
  clear HB'
  go_wp2_with fail
  refine (one_walk ⟨3, 0, 0⟩ ⟨0, x⟩ ⟨by simp, by simp, by simp⟩ ⟨by simp, HX.out⟩ _).mono ?_
  rw [H9.out]
  rintro e v9 ⟨rfl, hB⟩
  have HB' : Hid (Below w.heap.size w v9) := by
    show Below _ _ _
    first | exact below_trans HB.out hB | exact below_trans (below_trans HB.out (below_alloc _ _)) hB | exact below_trans (below_trans HB.out (below_drewN _ 1)) hB | exact below_trans (below_trans (below_trans HB.out (below_drewN _ 1)) (below_drewN _ 1)) hB
  clear HB hB
  have HB := HB'
  clear HB'
  go_wp2_with fail
  go_ret
  exact ⟨rfl, below_trans HB.out (below_alloc _ _)⟩

set_option linter.unusedVariables false in
set_option maxRecDepth 100000 in
set_option maxHeartbeats 1000000 in
theorem edges_zero_neg {x y : Nat} {lf mf : Int} {r7 r8 r9 : Rcd} {A I : Nat} (HX : Hid (x < 18446744073709551616)) (HY : Hid (y < 18446744073709551616)) (HA : Hid (A < 18446744073709551616)) (HI : Hid (I < 18446744073709551616)) (HC : Hid (canonW x = x)) (H1 : Hid (oneS ⟨4, 0, 0⟩ ⟨9, x⟩ = (1, ⟨9, A⟩))) (H2 : Hid (oneS ⟨4, 0, 0⟩ ⟨9, A⟩ = (1, ⟨9, x⟩))) (H3 : Hid (oneS ⟨5, 0, 0⟩ ⟨9, x⟩ = (1, ⟨9, A⟩))) (H4 : Hid (oneS ⟨5, 0, 0⟩ ⟨9, A⟩ = (1, ⟨9, A⟩))) (H5 : Hid (oneS ⟨8, 0, 0⟩ ⟨9, x⟩ = (1, ⟨9, I⟩))) (H6 : Hid (oneS ⟨8, 0, 0⟩ ⟨9, I⟩ = (1, ⟨9, x⟩))) (H7 : Hid (oneS ⟨1, 0, y⟩ ⟨0, x⟩ = (lf, r7))) (e7 : (lf == 1) = (FloatKind.f64.format.order x y == some .lt)) (e7' : (lf != 3) = true) (H8 : Hid (oneS ⟨2, 0, y⟩ ⟨0, x⟩ = (mf, r8))) (e8 : (mf == 1) = (FloatKind.f64.format.order x y == some .gt)) (e8' : (mf != 3) = true) (H9 : Hid (oneS ⟨3, 0, 0⟩ ⟨0, x⟩ = (1, r9))) (ox : FloatKind.f64.format.order x x = some .eq) (oi : FloatKind.f64.format.order I I = some .eq) (nAx : decide (A = x) = false) (oS : (FloatKind.f64.format.order A 0 == some .lt) = false) (ox0 : FloatKind.f64.format.order x 0 = some .eq) (hsub : ∀ w : World, (binOp .sub 29 (.float .f64 I) (.float .f64 I)).run Try.prog w = .ok (.float .f64 (nanQ I I w)) (w.drewN 1)) (hq : ∀ w : World, FloatKind.f64.format.order (nanQ I I w) 0 = none) (w : World) :
    Calls Try.prog 7 #[.float .f64 x, .float .f64 y] w fun e w' => e = .returned (.bool true) ∧ Below w.heap.size w w' := by
  go_enter Try.func7, Try.ntmps7
  go_wp2_with fail
  refine (awake_walk _).mono ?_
  rintro e v0 ⟨rfl, hB⟩
  have HB : Hid (Below w.heap.size w v0) := hB
  clear hB
  go_wp2_with fail
  refine (canon_walk HX.out _).mono ?_
  rw [HC.out]
  rintro e w' ⟨rfl, rfl⟩
  go_wp2_with fail
  refine (lstep_walk 4 0 HX.out (by omega) (by omega) _).mono ?_
  rw [H1.out]
  rintro e v1 ⟨rfl, hB⟩
  have HB' : Hid (Below w.heap.size w v1) := by
    show Below _ _ _
    first | exact below_trans HB.out hB | exact below_trans (below_trans HB.out (below_alloc _ _)) hB | exact below_trans (below_trans HB.out (below_drewN _ 1)) hB | exact below_trans (below_trans (below_trans HB.out (below_drewN _ 1)) (below_drewN _ 1)) hB
  clear HB hB
  have HB := HB'
  clear HB'
  go_wp2_with fail
  refine (lstep_walk 4 0 HA.out (by omega) (by omega) _).mono ?_
  rw [H2.out]
  rintro e v2 ⟨rfl, hB⟩
  have HB' : Hid (Below w.heap.size w v2) := by
    show Below _ _ _
    first | exact below_trans HB.out hB | exact below_trans (below_trans HB.out (below_alloc _ _)) hB | exact below_trans (below_trans HB.out (below_drewN _ 1)) hB | exact below_trans (below_trans (below_trans HB.out (below_drewN _ 1)) (below_drewN _ 1)) hB
  clear HB hB
  have HB := HB'
  clear HB'
  go_wp2_with fail
  refine (rsame_walk _ _ _).mono ?_
  rintro e w' ⟨rfl, rfl⟩
  go_wp2_with fail
  refine (rsame_walk _ _ _).mono ?_
  rintro e w' ⟨rfl, rfl⟩
  go_wp2_with fail
  refine (lstep_walk 5 0 HX.out (by omega) (by omega) _).mono ?_
  rw [H3.out]
  rintro e v3 ⟨rfl, hB⟩
  have HB' : Hid (Below w.heap.size w v3) := by
    show Below _ _ _
    first | exact below_trans HB.out hB | exact below_trans (below_trans HB.out (below_alloc _ _)) hB | exact below_trans (below_trans HB.out (below_drewN _ 1)) hB | exact below_trans (below_trans (below_trans HB.out (below_drewN _ 1)) (below_drewN _ 1)) hB
  clear HB hB
  have HB := HB'
  clear HB'
  go_wp2_with fail
  refine (lstep_walk 5 0 HA.out (by omega) (by omega) _).mono ?_
  rw [H4.out]
  rintro e v4 ⟨rfl, hB⟩
  have HB' : Hid (Below w.heap.size w v4) := by
    show Below _ _ _
    first | exact below_trans HB.out hB | exact below_trans (below_trans HB.out (below_alloc _ _)) hB | exact below_trans (below_trans HB.out (below_drewN _ 1)) hB | exact below_trans (below_trans (below_trans HB.out (below_drewN _ 1)) (below_drewN _ 1)) hB
  clear HB hB
  have HB := HB'
  clear HB'
  go_wp2_with fail
  refine (rsame_walk _ _ _).mono ?_
  rintro e w' ⟨rfl, rfl⟩
  go_wp2_with fail
  refine (rsame_walk _ _ _).mono ?_
  rintro e w' ⟨rfl, rfl⟩
  go_wp2_with fail
  refine (rsame_walk _ _ _).mono ?_
  rintro e w' ⟨rfl, rfl⟩
  go_wp2_with fail
  refine (lstep_walk 8 0 HX.out (by omega) (by omega) _).mono ?_
  rw [H5.out]
  rintro e v5 ⟨rfl, hB⟩
  have HB' : Hid (Below w.heap.size w v5) := by
    show Below _ _ _
    first | exact below_trans HB.out hB | exact below_trans (below_trans HB.out (below_alloc _ _)) hB | exact below_trans (below_trans HB.out (below_drewN _ 1)) hB | exact below_trans (below_trans (below_trans HB.out (below_drewN _ 1)) (below_drewN _ 1)) hB
  clear HB hB
  have HB := HB'
  clear HB'
  go_wp2_with fail
  refine (lstep_walk 8 0 HI.out (by omega) (by omega) _).mono ?_
  rw [H6.out]
  rintro e v6 ⟨rfl, hB⟩
  have HB' : Hid (Below w.heap.size w v6) := by
    show Below _ _ _
    first | exact below_trans HB.out hB | exact below_trans (below_trans HB.out (below_alloc _ _)) hB | exact below_trans (below_trans HB.out (below_drewN _ 1)) hB | exact below_trans (below_trans (below_trans HB.out (below_drewN _ 1)) (below_drewN _ 1)) hB
  clear HB hB
  have HB := HB'
  clear HB'
  go_wp2_with fail
  refine (rsame_walk _ _ _).mono ?_
  rintro e w' ⟨rfl, rfl⟩
  go_wp2_with fail
  refine (one_walk ⟨1, 0, y⟩ ⟨0, x⟩ ⟨by simp, by simp, HY.out⟩ ⟨by simp, HX.out⟩ _).mono ?_
  rw [H7.out]
  rintro e v7 ⟨rfl, hB⟩
  have HB' : Hid (Below w.heap.size w v7) := by
    show Below _ _ _
    first | exact below_trans HB.out hB | exact below_trans (below_trans HB.out (below_alloc _ _)) hB | exact below_trans (below_trans HB.out (below_drewN _ 1)) hB | exact below_trans (below_trans (below_trans HB.out (below_drewN _ 1)) (below_drewN _ 1)) hB
  clear HB hB
  have HB := HB'
  clear HB'
  go_wp2_with fail
  refine (one_walk ⟨2, 0, y⟩ ⟨0, x⟩ ⟨by simp, by simp, HY.out⟩ ⟨by simp, HX.out⟩ _).mono ?_
  rw [H8.out]
  rintro e v8 ⟨rfl, hB⟩
  have HB' : Hid (Below w.heap.size w v8) := by
    show Below _ _ _
    first | exact below_trans HB.out hB | exact below_trans (below_trans HB.out (below_alloc _ _)) hB | exact below_trans (below_trans HB.out (below_drewN _ 1)) hB | exact below_trans (below_trans (below_trans HB.out (below_drewN _ 1)) (below_drewN _ 1)) hB
  clear HB hB
  have HB := HB'
  clear HB'
  go_wp2_with fail
  refine (one_walk ⟨3, 0, 0⟩ ⟨0, x⟩ ⟨by simp, by simp, by simp⟩ ⟨by simp, HX.out⟩ _).mono ?_
  rw [H9.out]
  rintro e v9 ⟨rfl, hB⟩
  have HB' : Hid (Below w.heap.size w v9) := by
    show Below _ _ _
    first | exact below_trans HB.out hB | exact below_trans (below_trans HB.out (below_alloc _ _)) hB | exact below_trans (below_trans HB.out (below_drewN _ 1)) hB | exact below_trans (below_trans (below_trans HB.out (below_drewN _ 1)) (below_drewN _ 1)) hB
  clear HB hB
  have HB := HB'
  clear HB'
  go_wp2_with fail
  go_ret
  exact ⟨rfl, below_trans HB.out (below_alloc _ _)⟩

set_option linter.unusedVariables false in
set_option maxRecDepth 100000 in
set_option maxHeartbeats 1000000 in
theorem edges_inf_pos {x y : Nat} {lf mf : Int} {r7 r8 r9 : Rcd} {A I : Nat} (HX : Hid (x < 18446744073709551616)) (HY : Hid (y < 18446744073709551616)) (HA : Hid (A < 18446744073709551616)) (HI : Hid (I < 18446744073709551616)) (HC : Hid (canonW x = x)) (H1 : Hid (oneS ⟨4, 0, 0⟩ ⟨9, x⟩ = (1, ⟨9, A⟩))) (H2 : Hid (oneS ⟨4, 0, 0⟩ ⟨9, A⟩ = (1, ⟨9, x⟩))) (H3 : Hid (oneS ⟨5, 0, 0⟩ ⟨9, x⟩ = (1, ⟨9, x⟩))) (H4 : Hid (oneS ⟨5, 0, 0⟩ ⟨9, A⟩ = (1, ⟨9, x⟩))) (H5 : Hid (oneS ⟨8, 0, 0⟩ ⟨9, x⟩ = (1, ⟨9, I⟩))) (H6 : Hid (oneS ⟨8, 0, 0⟩ ⟨9, I⟩ = (1, ⟨9, x⟩))) (H7 : Hid (oneS ⟨1, 0, y⟩ ⟨0, x⟩ = (lf, r7))) (e7 : (lf == 1) = (FloatKind.f64.format.order x y == some .lt)) (e7' : (lf != 3) = true) (H8 : Hid (oneS ⟨2, 0, y⟩ ⟨0, x⟩ = (mf, r8))) (e8 : (mf == 1) = (FloatKind.f64.format.order x y == some .gt)) (e8' : (mf != 3) = true) (H9 : Hid (oneS ⟨3, 0, 0⟩ ⟨0, x⟩ = (1, r9))) (ox : FloatKind.f64.format.order x x = some .eq) (oi : FloatKind.f64.format.order I I = some .eq) (nAx : decide (A = x) = false) (oS : (FloatKind.f64.format.order x 0 == some .lt) = false) (ox0 : FloatKind.f64.format.order x 0 = some .gt) (hsub : ∀ w : World, (binOp .sub 29 (.float .f64 x) (.float .f64 x)).run Try.prog w = .ok (.float .f64 (nanQ x x w)) (w.drewN 1)) (hq : ∀ w : World, FloatKind.f64.format.order (nanQ x x w) 0 = none) (hsubi : ∀ w : World, (binOp .sub 29 (.float .f64 I) (.float .f64 I)).run Try.prog w = .ok (.float .f64 0) w) (zz : FloatKind.f64.format.order 0 0 = some .eq) (w : World) :
    Calls Try.prog 7 #[.float .f64 x, .float .f64 y] w fun e w' => e = .returned (.bool true) ∧ Below w.heap.size w w' := by
  go_enter Try.func7, Try.ntmps7
  go_wp2_with fail
  refine (awake_walk _).mono ?_
  rintro e v0 ⟨rfl, hB⟩
  have HB : Hid (Below w.heap.size w v0) := hB
  clear hB
  go_wp2_with fail
  refine (canon_walk HX.out _).mono ?_
  rw [HC.out]
  rintro e w' ⟨rfl, rfl⟩
  go_wp2_with fail
  refine (lstep_walk 4 0 HX.out (by omega) (by omega) _).mono ?_
  rw [H1.out]
  rintro e v1 ⟨rfl, hB⟩
  have HB' : Hid (Below w.heap.size w v1) := by
    show Below _ _ _
    first | exact below_trans HB.out hB | exact below_trans (below_trans HB.out (below_alloc _ _)) hB | exact below_trans (below_trans HB.out (below_drewN _ 1)) hB | exact below_trans (below_trans (below_trans HB.out (below_drewN _ 1)) (below_drewN _ 1)) hB
  clear HB hB
  have HB := HB'
  clear HB'
  go_wp2_with fail
  refine (lstep_walk 4 0 HA.out (by omega) (by omega) _).mono ?_
  rw [H2.out]
  rintro e v2 ⟨rfl, hB⟩
  have HB' : Hid (Below w.heap.size w v2) := by
    show Below _ _ _
    first | exact below_trans HB.out hB | exact below_trans (below_trans HB.out (below_alloc _ _)) hB | exact below_trans (below_trans HB.out (below_drewN _ 1)) hB | exact below_trans (below_trans (below_trans HB.out (below_drewN _ 1)) (below_drewN _ 1)) hB
  clear HB hB
  have HB := HB'
  clear HB'
  go_wp2_with fail
  refine (rsame_walk _ _ _).mono ?_
  rintro e w' ⟨rfl, rfl⟩
  go_wp2_with fail
  refine (rsame_walk _ _ _).mono ?_
  rintro e w' ⟨rfl, rfl⟩
  go_wp2_with fail
  refine (lstep_walk 5 0 HX.out (by omega) (by omega) _).mono ?_
  rw [H3.out]
  rintro e v3 ⟨rfl, hB⟩
  have HB' : Hid (Below w.heap.size w v3) := by
    show Below _ _ _
    first | exact below_trans HB.out hB | exact below_trans (below_trans HB.out (below_alloc _ _)) hB | exact below_trans (below_trans HB.out (below_drewN _ 1)) hB | exact below_trans (below_trans (below_trans HB.out (below_drewN _ 1)) (below_drewN _ 1)) hB
  clear HB hB
  have HB := HB'
  clear HB'
  go_wp2_with fail
  refine (lstep_walk 5 0 HA.out (by omega) (by omega) _).mono ?_
  rw [H4.out]
  rintro e v4 ⟨rfl, hB⟩
  have HB' : Hid (Below w.heap.size w v4) := by
    show Below _ _ _
    first | exact below_trans HB.out hB | exact below_trans (below_trans HB.out (below_alloc _ _)) hB | exact below_trans (below_trans HB.out (below_drewN _ 1)) hB | exact below_trans (below_trans (below_trans HB.out (below_drewN _ 1)) (below_drewN _ 1)) hB
  clear HB hB
  have HB := HB'
  clear HB'
  go_wp2_with fail
  refine (rsame_walk _ _ _).mono ?_
  rintro e w' ⟨rfl, rfl⟩
  go_wp2_with fail
  refine (rsame_walk _ _ _).mono ?_
  rintro e w' ⟨rfl, rfl⟩
  go_wp2_with fail
  refine (lstep_walk 8 0 HX.out (by omega) (by omega) _).mono ?_
  rw [H5.out]
  rintro e v5 ⟨rfl, hB⟩
  have HB' : Hid (Below w.heap.size w v5) := by
    show Below _ _ _
    first | exact below_trans HB.out hB | exact below_trans (below_trans HB.out (below_alloc _ _)) hB | exact below_trans (below_trans HB.out (below_drewN _ 1)) hB | exact below_trans (below_trans (below_trans HB.out (below_drewN _ 1)) (below_drewN _ 1)) hB
  clear HB hB
  have HB := HB'
  clear HB'
  go_wp2_with fail
  refine (lstep_walk 8 0 HI.out (by omega) (by omega) _).mono ?_
  rw [H6.out]
  rintro e v6 ⟨rfl, hB⟩
  have HB' : Hid (Below w.heap.size w v6) := by
    show Below _ _ _
    first | exact below_trans HB.out hB | exact below_trans (below_trans HB.out (below_alloc _ _)) hB | exact below_trans (below_trans HB.out (below_drewN _ 1)) hB | exact below_trans (below_trans (below_trans HB.out (below_drewN _ 1)) (below_drewN _ 1)) hB
  clear HB hB
  have HB := HB'
  clear HB'
  go_wp2_with fail
  refine (rsame_walk _ _ _).mono ?_
  rintro e w' ⟨rfl, rfl⟩
  go_wp2_with fail
  refine (one_walk ⟨1, 0, y⟩ ⟨0, x⟩ ⟨by simp, by simp, HY.out⟩ ⟨by simp, HX.out⟩ _).mono ?_
  rw [H7.out]
  rintro e v7 ⟨rfl, hB⟩
  have HB' : Hid (Below w.heap.size w v7) := by
    show Below _ _ _
    first | exact below_trans HB.out hB | exact below_trans (below_trans HB.out (below_alloc _ _)) hB | exact below_trans (below_trans HB.out (below_drewN _ 1)) hB | exact below_trans (below_trans (below_trans HB.out (below_drewN _ 1)) (below_drewN _ 1)) hB
  clear HB hB
  have HB := HB'
  clear HB'
  go_wp2_with fail
  refine (one_walk ⟨2, 0, y⟩ ⟨0, x⟩ ⟨by simp, by simp, HY.out⟩ ⟨by simp, HX.out⟩ _).mono ?_
  rw [H8.out]
  rintro e v8 ⟨rfl, hB⟩
  have HB' : Hid (Below w.heap.size w v8) := by
    show Below _ _ _
    first | exact below_trans HB.out hB | exact below_trans (below_trans HB.out (below_alloc _ _)) hB | exact below_trans (below_trans HB.out (below_drewN _ 1)) hB | exact below_trans (below_trans (below_trans HB.out (below_drewN _ 1)) (below_drewN _ 1)) hB
  clear HB hB
  have HB := HB'
  clear HB'
  go_wp2_with fail
  refine (one_walk ⟨3, 0, 0⟩ ⟨0, x⟩ ⟨by simp, by simp, by simp⟩ ⟨by simp, HX.out⟩ _).mono ?_
  rw [H9.out]
  rintro e v9 ⟨rfl, hB⟩
  have HB' : Hid (Below w.heap.size w v9) := by
    show Below _ _ _
    first | exact below_trans HB.out hB | exact below_trans (below_trans HB.out (below_alloc _ _)) hB | exact below_trans (below_trans HB.out (below_drewN _ 1)) hB | exact below_trans (below_trans (below_trans HB.out (below_drewN _ 1)) (below_drewN _ 1)) hB
  clear HB hB
  have HB := HB'
  clear HB'
  go_wp2_with fail
  go_ret
  exact ⟨rfl, below_trans HB.out (below_alloc _ _)⟩

set_option linter.unusedVariables false in
set_option maxRecDepth 100000 in
set_option maxHeartbeats 1000000 in
theorem edges_inf_neg {x y : Nat} {lf mf : Int} {r7 r8 r9 : Rcd} {A I : Nat} (HX : Hid (x < 18446744073709551616)) (HY : Hid (y < 18446744073709551616)) (HA : Hid (A < 18446744073709551616)) (HI : Hid (I < 18446744073709551616)) (HC : Hid (canonW x = x)) (H1 : Hid (oneS ⟨4, 0, 0⟩ ⟨9, x⟩ = (1, ⟨9, A⟩))) (H2 : Hid (oneS ⟨4, 0, 0⟩ ⟨9, A⟩ = (1, ⟨9, x⟩))) (H3 : Hid (oneS ⟨5, 0, 0⟩ ⟨9, x⟩ = (1, ⟨9, A⟩))) (H4 : Hid (oneS ⟨5, 0, 0⟩ ⟨9, A⟩ = (1, ⟨9, A⟩))) (H5 : Hid (oneS ⟨8, 0, 0⟩ ⟨9, x⟩ = (1, ⟨9, I⟩))) (H6 : Hid (oneS ⟨8, 0, 0⟩ ⟨9, I⟩ = (1, ⟨9, x⟩))) (H7 : Hid (oneS ⟨1, 0, y⟩ ⟨0, x⟩ = (lf, r7))) (e7 : (lf == 1) = (FloatKind.f64.format.order x y == some .lt)) (e7' : (lf != 3) = true) (H8 : Hid (oneS ⟨2, 0, y⟩ ⟨0, x⟩ = (mf, r8))) (e8 : (mf == 1) = (FloatKind.f64.format.order x y == some .gt)) (e8' : (mf != 3) = true) (H9 : Hid (oneS ⟨3, 0, 0⟩ ⟨0, x⟩ = (1, r9))) (ox : FloatKind.f64.format.order x x = some .eq) (oi : FloatKind.f64.format.order I I = some .eq) (nAx : decide (A = x) = false) (oS : (FloatKind.f64.format.order A 0 == some .lt) = false) (ox0 : FloatKind.f64.format.order x 0 = some .lt) (hsub : ∀ w : World, (binOp .sub 29 (.float .f64 x) (.float .f64 x)).run Try.prog w = .ok (.float .f64 (nanQ x x w)) (w.drewN 1)) (hq : ∀ w : World, FloatKind.f64.format.order (nanQ x x w) 0 = none) (hsubi : ∀ w : World, (binOp .sub 29 (.float .f64 I) (.float .f64 I)).run Try.prog w = .ok (.float .f64 0) w) (zz : FloatKind.f64.format.order 0 0 = some .eq) (w : World) :
    Calls Try.prog 7 #[.float .f64 x, .float .f64 y] w fun e w' => e = .returned (.bool true) ∧ Below w.heap.size w w' := by
  go_enter Try.func7, Try.ntmps7
  go_wp2_with fail
  refine (awake_walk _).mono ?_
  rintro e v0 ⟨rfl, hB⟩
  have HB : Hid (Below w.heap.size w v0) := hB
  clear hB
  go_wp2_with fail
  refine (canon_walk HX.out _).mono ?_
  rw [HC.out]
  rintro e w' ⟨rfl, rfl⟩
  go_wp2_with fail
  refine (lstep_walk 4 0 HX.out (by omega) (by omega) _).mono ?_
  rw [H1.out]
  rintro e v1 ⟨rfl, hB⟩
  have HB' : Hid (Below w.heap.size w v1) := by
    show Below _ _ _
    first | exact below_trans HB.out hB | exact below_trans (below_trans HB.out (below_alloc _ _)) hB | exact below_trans (below_trans HB.out (below_drewN _ 1)) hB | exact below_trans (below_trans (below_trans HB.out (below_drewN _ 1)) (below_drewN _ 1)) hB
  clear HB hB
  have HB := HB'
  clear HB'
  go_wp2_with fail
  refine (lstep_walk 4 0 HA.out (by omega) (by omega) _).mono ?_
  rw [H2.out]
  rintro e v2 ⟨rfl, hB⟩
  have HB' : Hid (Below w.heap.size w v2) := by
    show Below _ _ _
    first | exact below_trans HB.out hB | exact below_trans (below_trans HB.out (below_alloc _ _)) hB | exact below_trans (below_trans HB.out (below_drewN _ 1)) hB | exact below_trans (below_trans (below_trans HB.out (below_drewN _ 1)) (below_drewN _ 1)) hB
  clear HB hB
  have HB := HB'
  clear HB'
  go_wp2_with fail
  refine (rsame_walk _ _ _).mono ?_
  rintro e w' ⟨rfl, rfl⟩
  go_wp2_with fail
  refine (rsame_walk _ _ _).mono ?_
  rintro e w' ⟨rfl, rfl⟩
  go_wp2_with fail
  refine (lstep_walk 5 0 HX.out (by omega) (by omega) _).mono ?_
  rw [H3.out]
  rintro e v3 ⟨rfl, hB⟩
  have HB' : Hid (Below w.heap.size w v3) := by
    show Below _ _ _
    first | exact below_trans HB.out hB | exact below_trans (below_trans HB.out (below_alloc _ _)) hB | exact below_trans (below_trans HB.out (below_drewN _ 1)) hB | exact below_trans (below_trans (below_trans HB.out (below_drewN _ 1)) (below_drewN _ 1)) hB
  clear HB hB
  have HB := HB'
  clear HB'
  go_wp2_with fail
  refine (lstep_walk 5 0 HA.out (by omega) (by omega) _).mono ?_
  rw [H4.out]
  rintro e v4 ⟨rfl, hB⟩
  have HB' : Hid (Below w.heap.size w v4) := by
    show Below _ _ _
    first | exact below_trans HB.out hB | exact below_trans (below_trans HB.out (below_alloc _ _)) hB | exact below_trans (below_trans HB.out (below_drewN _ 1)) hB | exact below_trans (below_trans (below_trans HB.out (below_drewN _ 1)) (below_drewN _ 1)) hB
  clear HB hB
  have HB := HB'
  clear HB'
  go_wp2_with fail
  refine (rsame_walk _ _ _).mono ?_
  rintro e w' ⟨rfl, rfl⟩
  go_wp2_with fail
  refine (rsame_walk _ _ _).mono ?_
  rintro e w' ⟨rfl, rfl⟩
  go_wp2_with fail
  refine (rsame_walk _ _ _).mono ?_
  rintro e w' ⟨rfl, rfl⟩
  go_wp2_with fail
  refine (lstep_walk 8 0 HX.out (by omega) (by omega) _).mono ?_
  rw [H5.out]
  rintro e v5 ⟨rfl, hB⟩
  have HB' : Hid (Below w.heap.size w v5) := by
    show Below _ _ _
    first | exact below_trans HB.out hB | exact below_trans (below_trans HB.out (below_alloc _ _)) hB | exact below_trans (below_trans HB.out (below_drewN _ 1)) hB | exact below_trans (below_trans (below_trans HB.out (below_drewN _ 1)) (below_drewN _ 1)) hB
  clear HB hB
  have HB := HB'
  clear HB'
  go_wp2_with fail
  refine (lstep_walk 8 0 HI.out (by omega) (by omega) _).mono ?_
  rw [H6.out]
  rintro e v6 ⟨rfl, hB⟩
  have HB' : Hid (Below w.heap.size w v6) := by
    show Below _ _ _
    first | exact below_trans HB.out hB | exact below_trans (below_trans HB.out (below_alloc _ _)) hB | exact below_trans (below_trans HB.out (below_drewN _ 1)) hB | exact below_trans (below_trans (below_trans HB.out (below_drewN _ 1)) (below_drewN _ 1)) hB
  clear HB hB
  have HB := HB'
  clear HB'
  go_wp2_with fail
  refine (rsame_walk _ _ _).mono ?_
  rintro e w' ⟨rfl, rfl⟩
  go_wp2_with fail
  refine (one_walk ⟨1, 0, y⟩ ⟨0, x⟩ ⟨by simp, by simp, HY.out⟩ ⟨by simp, HX.out⟩ _).mono ?_
  rw [H7.out]
  rintro e v7 ⟨rfl, hB⟩
  have HB' : Hid (Below w.heap.size w v7) := by
    show Below _ _ _
    first | exact below_trans HB.out hB | exact below_trans (below_trans HB.out (below_alloc _ _)) hB | exact below_trans (below_trans HB.out (below_drewN _ 1)) hB | exact below_trans (below_trans (below_trans HB.out (below_drewN _ 1)) (below_drewN _ 1)) hB
  clear HB hB
  have HB := HB'
  clear HB'
  go_wp2_with fail
  refine (one_walk ⟨2, 0, y⟩ ⟨0, x⟩ ⟨by simp, by simp, HY.out⟩ ⟨by simp, HX.out⟩ _).mono ?_
  rw [H8.out]
  rintro e v8 ⟨rfl, hB⟩
  have HB' : Hid (Below w.heap.size w v8) := by
    show Below _ _ _
    first | exact below_trans HB.out hB | exact below_trans (below_trans HB.out (below_alloc _ _)) hB | exact below_trans (below_trans HB.out (below_drewN _ 1)) hB | exact below_trans (below_trans (below_trans HB.out (below_drewN _ 1)) (below_drewN _ 1)) hB
  clear HB hB
  have HB := HB'
  clear HB'
  go_wp2_with fail
  refine (one_walk ⟨3, 0, 0⟩ ⟨0, x⟩ ⟨by simp, by simp, by simp⟩ ⟨by simp, HX.out⟩ _).mono ?_
  rw [H9.out]
  rintro e v9 ⟨rfl, hB⟩
  have HB' : Hid (Below w.heap.size w v9) := by
    show Below _ _ _
    first | exact below_trans HB.out hB | exact below_trans (below_trans HB.out (below_alloc _ _)) hB | exact below_trans (below_trans HB.out (below_drewN _ 1)) hB | exact below_trans (below_trans (below_trans HB.out (below_drewN _ 1)) (below_drewN _ 1)) hB
  clear HB hB
  have HB := HB'
  clear HB'
  go_wp2_with fail
  go_ret
  exact ⟨rfl, below_trans HB.out (below_alloc _ _)⟩

set_option linter.unusedVariables false in
set_option maxRecDepth 100000 in
set_option maxHeartbeats 1000000 in
theorem edges_fin_pos {x y : Nat} {lf mf : Int} {r7 r8 r9 : Rcd} {A I J : Nat} (HX : Hid (x < 18446744073709551616)) (HY : Hid (y < 18446744073709551616)) (HA : Hid (A < 18446744073709551616)) (HI : Hid (I < 18446744073709551616)) (HC : Hid (canonW x = x)) (H1 : Hid (oneS ⟨4, 0, 0⟩ ⟨9, x⟩ = (1, ⟨9, A⟩))) (H2 : Hid (oneS ⟨4, 0, 0⟩ ⟨9, A⟩ = (1, ⟨9, x⟩))) (H3 : Hid (oneS ⟨5, 0, 0⟩ ⟨9, x⟩ = (1, ⟨9, x⟩))) (H4 : Hid (oneS ⟨5, 0, 0⟩ ⟨9, A⟩ = (1, ⟨9, x⟩))) (H5 : Hid (oneS ⟨8, 0, 0⟩ ⟨9, x⟩ = (1, ⟨9, I⟩))) (H6 : Hid (oneS ⟨8, 0, 0⟩ ⟨9, I⟩ = (1, ⟨9, J⟩))) (H7 : Hid (oneS ⟨1, 0, y⟩ ⟨0, x⟩ = (lf, r7))) (e7 : (lf == 1) = (FloatKind.f64.format.order x y == some .lt)) (e7' : (lf != 3) = true) (H8 : Hid (oneS ⟨2, 0, y⟩ ⟨0, x⟩ = (mf, r8))) (e8 : (mf == 1) = (FloatKind.f64.format.order x y == some .gt)) (e8' : (mf != 3) = true) (H9 : Hid (oneS ⟨3, 0, 0⟩ ⟨0, x⟩ = (1, r9))) (ox : FloatKind.f64.format.order x x = some .eq) (oi : FloatKind.f64.format.order I I = some .eq) (nAx : decide (A = x) = false) (oS : (FloatKind.f64.format.order x 0 == some .lt) = false) (ox0 : FloatKind.f64.format.order x 0 = some .gt) (hsub : ∀ w : World, (binOp .sub 29 (.float .f64 x) (.float .f64 x)).run Try.prog w = .ok (.float .f64 0) w) (zz : FloatKind.f64.format.order 0 0 = some .eq) (w : World) :
    Calls Try.prog 7 #[.float .f64 x, .float .f64 y] w fun e w' => e = .returned (.bool true) ∧ Below w.heap.size w w' := by
  go_enter Try.func7, Try.ntmps7
  go_wp2_with fail
  refine (awake_walk _).mono ?_
  rintro e v0 ⟨rfl, hB⟩
  have HB : Hid (Below w.heap.size w v0) := hB
  clear hB
  go_wp2_with fail
  refine (canon_walk HX.out _).mono ?_
  rw [HC.out]
  rintro e w' ⟨rfl, rfl⟩
  go_wp2_with fail
  refine (lstep_walk 4 0 HX.out (by omega) (by omega) _).mono ?_
  rw [H1.out]
  rintro e v1 ⟨rfl, hB⟩
  have HB' : Hid (Below w.heap.size w v1) := by
    show Below _ _ _
    first | exact below_trans HB.out hB | exact below_trans (below_trans HB.out (below_alloc _ _)) hB | exact below_trans (below_trans HB.out (below_drewN _ 1)) hB | exact below_trans (below_trans (below_trans HB.out (below_drewN _ 1)) (below_drewN _ 1)) hB
  clear HB hB
  have HB := HB'
  clear HB'
  go_wp2_with fail
  refine (lstep_walk 4 0 HA.out (by omega) (by omega) _).mono ?_
  rw [H2.out]
  rintro e v2 ⟨rfl, hB⟩
  have HB' : Hid (Below w.heap.size w v2) := by
    show Below _ _ _
    first | exact below_trans HB.out hB | exact below_trans (below_trans HB.out (below_alloc _ _)) hB | exact below_trans (below_trans HB.out (below_drewN _ 1)) hB | exact below_trans (below_trans (below_trans HB.out (below_drewN _ 1)) (below_drewN _ 1)) hB
  clear HB hB
  have HB := HB'
  clear HB'
  go_wp2_with fail
  refine (rsame_walk _ _ _).mono ?_
  rintro e w' ⟨rfl, rfl⟩
  go_wp2_with fail
  refine (rsame_walk _ _ _).mono ?_
  rintro e w' ⟨rfl, rfl⟩
  go_wp2_with fail
  refine (lstep_walk 5 0 HX.out (by omega) (by omega) _).mono ?_
  rw [H3.out]
  rintro e v3 ⟨rfl, hB⟩
  have HB' : Hid (Below w.heap.size w v3) := by
    show Below _ _ _
    first | exact below_trans HB.out hB | exact below_trans (below_trans HB.out (below_alloc _ _)) hB | exact below_trans (below_trans HB.out (below_drewN _ 1)) hB | exact below_trans (below_trans (below_trans HB.out (below_drewN _ 1)) (below_drewN _ 1)) hB
  clear HB hB
  have HB := HB'
  clear HB'
  go_wp2_with fail
  refine (lstep_walk 5 0 HA.out (by omega) (by omega) _).mono ?_
  rw [H4.out]
  rintro e v4 ⟨rfl, hB⟩
  have HB' : Hid (Below w.heap.size w v4) := by
    show Below _ _ _
    first | exact below_trans HB.out hB | exact below_trans (below_trans HB.out (below_alloc _ _)) hB | exact below_trans (below_trans HB.out (below_drewN _ 1)) hB | exact below_trans (below_trans (below_trans HB.out (below_drewN _ 1)) (below_drewN _ 1)) hB
  clear HB hB
  have HB := HB'
  clear HB'
  go_wp2_with fail
  refine (rsame_walk _ _ _).mono ?_
  rintro e w' ⟨rfl, rfl⟩
  go_wp2_with fail
  refine (rsame_walk _ _ _).mono ?_
  rintro e w' ⟨rfl, rfl⟩
  go_wp2_with fail
  refine (lstep_walk 8 0 HX.out (by omega) (by omega) _).mono ?_
  rw [H5.out]
  rintro e v5 ⟨rfl, hB⟩
  have HB' : Hid (Below w.heap.size w v5) := by
    show Below _ _ _
    first | exact below_trans HB.out hB | exact below_trans (below_trans HB.out (below_alloc _ _)) hB | exact below_trans (below_trans HB.out (below_drewN _ 1)) hB | exact below_trans (below_trans (below_trans HB.out (below_drewN _ 1)) (below_drewN _ 1)) hB
  clear HB hB
  have HB := HB'
  clear HB'
  go_wp2_with fail
  refine (lstep_walk 8 0 HI.out (by omega) (by omega) _).mono ?_
  rw [H6.out]
  rintro e v6 ⟨rfl, hB⟩
  have HB' : Hid (Below w.heap.size w v6) := by
    show Below _ _ _
    first | exact below_trans HB.out hB | exact below_trans (below_trans HB.out (below_alloc _ _)) hB | exact below_trans (below_trans HB.out (below_drewN _ 1)) hB | exact below_trans (below_trans (below_trans HB.out (below_drewN _ 1)) (below_drewN _ 1)) hB
  clear HB hB
  have HB := HB'
  clear HB'
  go_wp2_with fail
  refine (one_walk ⟨1, 0, y⟩ ⟨0, x⟩ ⟨by simp, by simp, HY.out⟩ ⟨by simp, HX.out⟩ _).mono ?_
  rw [H7.out]
  rintro e v7 ⟨rfl, hB⟩
  have HB' : Hid (Below w.heap.size w v7) := by
    show Below _ _ _
    first | exact below_trans HB.out hB | exact below_trans (below_trans HB.out (below_alloc _ _)) hB | exact below_trans (below_trans HB.out (below_drewN _ 1)) hB | exact below_trans (below_trans (below_trans HB.out (below_drewN _ 1)) (below_drewN _ 1)) hB
  clear HB hB
  have HB := HB'
  clear HB'
  go_wp2_with fail
  refine (one_walk ⟨2, 0, y⟩ ⟨0, x⟩ ⟨by simp, by simp, HY.out⟩ ⟨by simp, HX.out⟩ _).mono ?_
  rw [H8.out]
  rintro e v8 ⟨rfl, hB⟩
  have HB' : Hid (Below w.heap.size w v8) := by
    show Below _ _ _
    first | exact below_trans HB.out hB | exact below_trans (below_trans HB.out (below_alloc _ _)) hB | exact below_trans (below_trans HB.out (below_drewN _ 1)) hB | exact below_trans (below_trans (below_trans HB.out (below_drewN _ 1)) (below_drewN _ 1)) hB
  clear HB hB
  have HB := HB'
  clear HB'
  go_wp2_with fail
  refine (one_walk ⟨3, 0, 0⟩ ⟨0, x⟩ ⟨by simp, by simp, by simp⟩ ⟨by simp, HX.out⟩ _).mono ?_
  rw [H9.out]
  rintro e v9 ⟨rfl, hB⟩
  have HB' : Hid (Below w.heap.size w v9) := by
    show Below _ _ _
    first | exact below_trans HB.out hB | exact below_trans (below_trans HB.out (below_alloc _ _)) hB | exact below_trans (below_trans HB.out (below_drewN _ 1)) hB | exact below_trans (below_trans (below_trans HB.out (below_drewN _ 1)) (below_drewN _ 1)) hB
  clear HB hB
  have HB := HB'
  clear HB'
  go_wp2_with fail
  go_ret
  exact ⟨rfl, below_trans HB.out (below_alloc _ _)⟩

set_option linter.unusedVariables false in
set_option maxRecDepth 100000 in
set_option maxHeartbeats 1000000 in
theorem edges_fin_neg {x y : Nat} {lf mf : Int} {r7 r8 r9 : Rcd} {A I J : Nat} (HX : Hid (x < 18446744073709551616)) (HY : Hid (y < 18446744073709551616)) (HA : Hid (A < 18446744073709551616)) (HI : Hid (I < 18446744073709551616)) (HC : Hid (canonW x = x)) (H1 : Hid (oneS ⟨4, 0, 0⟩ ⟨9, x⟩ = (1, ⟨9, A⟩))) (H2 : Hid (oneS ⟨4, 0, 0⟩ ⟨9, A⟩ = (1, ⟨9, x⟩))) (H3 : Hid (oneS ⟨5, 0, 0⟩ ⟨9, x⟩ = (1, ⟨9, A⟩))) (H4 : Hid (oneS ⟨5, 0, 0⟩ ⟨9, A⟩ = (1, ⟨9, A⟩))) (H5 : Hid (oneS ⟨8, 0, 0⟩ ⟨9, x⟩ = (1, ⟨9, I⟩))) (H6 : Hid (oneS ⟨8, 0, 0⟩ ⟨9, I⟩ = (1, ⟨9, J⟩))) (H7 : Hid (oneS ⟨1, 0, y⟩ ⟨0, x⟩ = (lf, r7))) (e7 : (lf == 1) = (FloatKind.f64.format.order x y == some .lt)) (e7' : (lf != 3) = true) (H8 : Hid (oneS ⟨2, 0, y⟩ ⟨0, x⟩ = (mf, r8))) (e8 : (mf == 1) = (FloatKind.f64.format.order x y == some .gt)) (e8' : (mf != 3) = true) (H9 : Hid (oneS ⟨3, 0, 0⟩ ⟨0, x⟩ = (1, r9))) (ox : FloatKind.f64.format.order x x = some .eq) (oi : FloatKind.f64.format.order I I = some .eq) (nAx : decide (A = x) = false) (oS : (FloatKind.f64.format.order A 0 == some .lt) = false) (ox0 : FloatKind.f64.format.order x 0 = some .lt) (hsub : ∀ w : World, (binOp .sub 29 (.float .f64 x) (.float .f64 x)).run Try.prog w = .ok (.float .f64 0) w) (zz : FloatKind.f64.format.order 0 0 = some .eq) (w : World) :
    Calls Try.prog 7 #[.float .f64 x, .float .f64 y] w fun e w' => e = .returned (.bool true) ∧ Below w.heap.size w w' := by
  go_enter Try.func7, Try.ntmps7
  go_wp2_with fail
  refine (awake_walk _).mono ?_
  rintro e v0 ⟨rfl, hB⟩
  have HB : Hid (Below w.heap.size w v0) := hB
  clear hB
  go_wp2_with fail
  refine (canon_walk HX.out _).mono ?_
  rw [HC.out]
  rintro e w' ⟨rfl, rfl⟩
  go_wp2_with fail
  refine (lstep_walk 4 0 HX.out (by omega) (by omega) _).mono ?_
  rw [H1.out]
  rintro e v1 ⟨rfl, hB⟩
  have HB' : Hid (Below w.heap.size w v1) := by
    show Below _ _ _
    first | exact below_trans HB.out hB | exact below_trans (below_trans HB.out (below_alloc _ _)) hB | exact below_trans (below_trans HB.out (below_drewN _ 1)) hB | exact below_trans (below_trans (below_trans HB.out (below_drewN _ 1)) (below_drewN _ 1)) hB
  clear HB hB
  have HB := HB'
  clear HB'
  go_wp2_with fail
  refine (lstep_walk 4 0 HA.out (by omega) (by omega) _).mono ?_
  rw [H2.out]
  rintro e v2 ⟨rfl, hB⟩
  have HB' : Hid (Below w.heap.size w v2) := by
    show Below _ _ _
    first | exact below_trans HB.out hB | exact below_trans (below_trans HB.out (below_alloc _ _)) hB | exact below_trans (below_trans HB.out (below_drewN _ 1)) hB | exact below_trans (below_trans (below_trans HB.out (below_drewN _ 1)) (below_drewN _ 1)) hB
  clear HB hB
  have HB := HB'
  clear HB'
  go_wp2_with fail
  refine (rsame_walk _ _ _).mono ?_
  rintro e w' ⟨rfl, rfl⟩
  go_wp2_with fail
  refine (rsame_walk _ _ _).mono ?_
  rintro e w' ⟨rfl, rfl⟩
  go_wp2_with fail
  refine (lstep_walk 5 0 HX.out (by omega) (by omega) _).mono ?_
  rw [H3.out]
  rintro e v3 ⟨rfl, hB⟩
  have HB' : Hid (Below w.heap.size w v3) := by
    show Below _ _ _
    first | exact below_trans HB.out hB | exact below_trans (below_trans HB.out (below_alloc _ _)) hB | exact below_trans (below_trans HB.out (below_drewN _ 1)) hB | exact below_trans (below_trans (below_trans HB.out (below_drewN _ 1)) (below_drewN _ 1)) hB
  clear HB hB
  have HB := HB'
  clear HB'
  go_wp2_with fail
  refine (lstep_walk 5 0 HA.out (by omega) (by omega) _).mono ?_
  rw [H4.out]
  rintro e v4 ⟨rfl, hB⟩
  have HB' : Hid (Below w.heap.size w v4) := by
    show Below _ _ _
    first | exact below_trans HB.out hB | exact below_trans (below_trans HB.out (below_alloc _ _)) hB | exact below_trans (below_trans HB.out (below_drewN _ 1)) hB | exact below_trans (below_trans (below_trans HB.out (below_drewN _ 1)) (below_drewN _ 1)) hB
  clear HB hB
  have HB := HB'
  clear HB'
  go_wp2_with fail
  refine (rsame_walk _ _ _).mono ?_
  rintro e w' ⟨rfl, rfl⟩
  go_wp2_with fail
  refine (rsame_walk _ _ _).mono ?_
  rintro e w' ⟨rfl, rfl⟩
  go_wp2_with fail
  refine (rsame_walk _ _ _).mono ?_
  rintro e w' ⟨rfl, rfl⟩
  go_wp2_with fail
  refine (lstep_walk 8 0 HX.out (by omega) (by omega) _).mono ?_
  rw [H5.out]
  rintro e v5 ⟨rfl, hB⟩
  have HB' : Hid (Below w.heap.size w v5) := by
    show Below _ _ _
    first | exact below_trans HB.out hB | exact below_trans (below_trans HB.out (below_alloc _ _)) hB | exact below_trans (below_trans HB.out (below_drewN _ 1)) hB | exact below_trans (below_trans (below_trans HB.out (below_drewN _ 1)) (below_drewN _ 1)) hB
  clear HB hB
  have HB := HB'
  clear HB'
  go_wp2_with fail
  refine (lstep_walk 8 0 HI.out (by omega) (by omega) _).mono ?_
  rw [H6.out]
  rintro e v6 ⟨rfl, hB⟩
  have HB' : Hid (Below w.heap.size w v6) := by
    show Below _ _ _
    first | exact below_trans HB.out hB | exact below_trans (below_trans HB.out (below_alloc _ _)) hB | exact below_trans (below_trans HB.out (below_drewN _ 1)) hB | exact below_trans (below_trans (below_trans HB.out (below_drewN _ 1)) (below_drewN _ 1)) hB
  clear HB hB
  have HB := HB'
  clear HB'
  go_wp2_with fail
  refine (one_walk ⟨1, 0, y⟩ ⟨0, x⟩ ⟨by simp, by simp, HY.out⟩ ⟨by simp, HX.out⟩ _).mono ?_
  rw [H7.out]
  rintro e v7 ⟨rfl, hB⟩
  have HB' : Hid (Below w.heap.size w v7) := by
    show Below _ _ _
    first | exact below_trans HB.out hB | exact below_trans (below_trans HB.out (below_alloc _ _)) hB | exact below_trans (below_trans HB.out (below_drewN _ 1)) hB | exact below_trans (below_trans (below_trans HB.out (below_drewN _ 1)) (below_drewN _ 1)) hB
  clear HB hB
  have HB := HB'
  clear HB'
  go_wp2_with fail
  refine (one_walk ⟨2, 0, y⟩ ⟨0, x⟩ ⟨by simp, by simp, HY.out⟩ ⟨by simp, HX.out⟩ _).mono ?_
  rw [H8.out]
  rintro e v8 ⟨rfl, hB⟩
  have HB' : Hid (Below w.heap.size w v8) := by
    show Below _ _ _
    first | exact below_trans HB.out hB | exact below_trans (below_trans HB.out (below_alloc _ _)) hB | exact below_trans (below_trans HB.out (below_drewN _ 1)) hB | exact below_trans (below_trans (below_trans HB.out (below_drewN _ 1)) (below_drewN _ 1)) hB
  clear HB hB
  have HB := HB'
  clear HB'
  go_wp2_with fail
  refine (one_walk ⟨3, 0, 0⟩ ⟨0, x⟩ ⟨by simp, by simp, by simp⟩ ⟨by simp, HX.out⟩ _).mono ?_
  rw [H9.out]
  rintro e v9 ⟨rfl, hB⟩
  have HB' : Hid (Below w.heap.size w v9) := by
    show Below _ _ _
    first | exact below_trans HB.out hB | exact below_trans (below_trans HB.out (below_alloc _ _)) hB | exact below_trans (below_trans HB.out (below_drewN _ 1)) hB | exact below_trans (below_trans (below_trans HB.out (below_drewN _ 1)) (below_drewN _ 1)) hB
  clear HB hB
  have HB := HB'
  clear HB'
  go_wp2_with fail
  go_ret
  exact ⟨rfl, below_trans HB.out (below_alloc _ _)⟩

theorem Hid.mk {p : Prop} (h : p) : Hid p := h

theorem opsedges_walk {x y : Nat} (hx : x < 18446744073709551616) (hy : y < 18446744073709551616) (w : World) :
    Calls Try.prog 7 #[.float .f64 x, .float .f64 y] w fun e w' => e = .returned (.bool true) ∧ Below w.heap.size w w' := by
  obtain ⟨lf, r7, H7, e7, e7'⟩ := one_less hx y
  obtain ⟨mf, r8, H8, e8, e8'⟩ := one_more hx y
  cases hn : nanB x
  · obtain ⟨r9, H9⟩ := one_real hn
    have hc := canon_num hn
    have lA := negW_lt hx
    have nA : nanB (negW x) = false := by rw [nan_negW hx]; exact hn
    have H1 := one_neg_num (k := 9) hx hn
    have H2 := one_neg_num (k := 9) lA nA
    rw [negW_negW] at H2
    have H3 := one_abs_num (k := 9) hn
    have H4 := one_abs_num (k := 9) nA
    rw [rung_negW hx] at H4
    obtain ⟨I, hI, nI, lI, sI⟩ := inv_some hx hn
    have H5 := one_inv_num (k := 9) hn nI hI
    obtain ⟨J, hJ, nJ, _, _⟩ := inv_some lI nI
    have H6 := one_inv_num (k := 9) nI nJ hJ
    have ox := order_self_num hx hn
    have oi := order_self_num lI nI
    have nAx := negW_ne hx
    have oS := rung_nlt0 hn
    have hr := nan_f hn
    obtain ⟨z1, z2, z3⟩ := order0 hx hn
    by_cases h0 : rung x = 0
    · have eI : I = Ieee.double.word (negB x) 9218868437227405312 := by
        have := inv_zero hx h0
        rw [hI] at this; exact Option.some.inj this
      have rI' : rung I = 9218868437227405312 := by rw [eI]; exact rung_word _ (by omega)
      have eJ : J = x := by
        have := inv_inf lI rI'
        rw [hJ, sI] at this
        rw [Option.some.inj this]
        have := word_self hx
        rw [h0] at this; exact this
      rw [eJ] at H6
      have hsub : ∀ w : World, (binOp .sub 29 (.float .f64 I) (.float .f64 I)).run Try.prog w = .ok (.float .f64 (nanQ I I w)) (w.drewN 1) := fun w => run_sub_nan Try.prog _ (sub_inf lI rI') w
      cases hs : negB x
      · rw [rung_pos hs hx] at H3 H4 oS
        exact edges_zero_pos (Hid.mk hx) (Hid.mk hy) (Hid.mk lA) (Hid.mk lI) (Hid.mk hc) (Hid.mk H1) (Hid.mk H2) (Hid.mk H3) (Hid.mk H4) (Hid.mk H5) (Hid.mk H6) (Hid.mk H7) e7 e7' (Hid.mk H8) e8 e8' (Hid.mk H9) ox oi nAx oS (z1 h0) hsub (fun w => nanQ_order I I w 0) w
      · rw [rung_neg hs hx] at H3 H4 oS
        exact edges_zero_neg (Hid.mk hx) (Hid.mk hy) (Hid.mk lA) (Hid.mk lI) (Hid.mk hc) (Hid.mk H1) (Hid.mk H2) (Hid.mk H3) (Hid.mk H4) (Hid.mk H5) (Hid.mk H6) (Hid.mk H7) e7 e7' (Hid.mk H8) e8 e8' (Hid.mk H9) ox oi nAx oS (z1 h0) hsub (fun w => nanQ_order I I w 0) w
    · by_cases hi : rung x = 9218868437227405312
      · have eI : I = Ieee.double.word (negB x) 0 := by
          have := inv_inf hx hi
          rw [hI] at this; exact Option.some.inj this
        have rI' : rung I = 0 := by rw [eI]; exact rung_word _ (by omega)
        have eJ : J = x := by
          have := inv_zero lI rI'
          rw [hJ, sI] at this
          rw [Option.some.inj this]
          have := word_self hx
          rw [hi] at this; exact this
        rw [eJ] at H6
        have hsub : ∀ w : World, (binOp .sub 29 (.float .f64 x) (.float .f64 x)).run Try.prog w = .ok (.float .f64 (nanQ x x w)) (w.drewN 1) := fun w => run_sub_nan Try.prog _ (sub_inf hx hi) w
        have hsubi : ∀ w : World, (binOp .sub 29 (.float .f64 I) (.float .f64 I)).run Try.prog w = .ok (.float .f64 0) w := fun w => run_sub_num Try.prog _ (sub_self lI (by omega)) w
        cases hs : negB x
        · rw [rung_pos hs hx] at H3 H4 oS
          exact edges_inf_pos (Hid.mk hx) (Hid.mk hy) (Hid.mk lA) (Hid.mk lI) (Hid.mk hc) (Hid.mk H1) (Hid.mk H2) (Hid.mk H3) (Hid.mk H4) (Hid.mk H5) (Hid.mk H6) (Hid.mk H7) e7 e7' (Hid.mk H8) e8 e8' (Hid.mk H9) ox oi nAx oS (z3 h0 hs) hsub (fun w => nanQ_order x x w 0) hsubi zz0 w
        · rw [rung_neg hs hx] at H3 H4 oS
          exact edges_inf_neg (Hid.mk hx) (Hid.mk hy) (Hid.mk lA) (Hid.mk lI) (Hid.mk hc) (Hid.mk H1) (Hid.mk H2) (Hid.mk H3) (Hid.mk H4) (Hid.mk H5) (Hid.mk H6) (Hid.mk H7) e7 e7' (Hid.mk H8) e8 e8' (Hid.mk H9) ox oi nAx oS (z2 h0 hs) hsub (fun w => nanQ_order x x w 0) hsubi zz0 w
      · have hsub : ∀ w : World, (binOp .sub 29 (.float .f64 x) (.float .f64 x)).run Try.prog w = .ok (.float .f64 0) w := fun w => run_sub_num Try.prog _ (sub_self hx (by omega)) w
        cases hs : negB x
        · rw [rung_pos hs hx] at H3 H4 oS
          exact edges_fin_pos (Hid.mk hx) (Hid.mk hy) (Hid.mk lA) (Hid.mk lI) (Hid.mk hc) (Hid.mk H1) (Hid.mk H2) (Hid.mk H3) (Hid.mk H4) (Hid.mk H5) (Hid.mk H6) (Hid.mk H7) e7 e7' (Hid.mk H8) e8 e8' (Hid.mk H9) ox oi nAx oS (z3 h0 hs) hsub zz0 w
        · rw [rung_neg hs hx] at H3 H4 oS
          exact edges_fin_neg (Hid.mk hx) (Hid.mk hy) (Hid.mk lA) (Hid.mk lI) (Hid.mk hc) (Hid.mk H1) (Hid.mk H2) (Hid.mk H3) (Hid.mk H4) (Hid.mk H5) (Hid.mk H6) (Hid.mk H7) e7 e7' (Hid.mk H8) e8 e8' (Hid.mk H9) ox oi nAx oS (z2 h0 hs) hsub zz0 w
  · obtain ⟨r9, H9⟩ := one_unreal hn
    have qn : nanB 9221120237041090561 = true := by decide
    have hsub : ∀ w : World, (binOp .sub 29 (.float .f64 x) (.float .f64 x)).run Try.prog w = .ok (.float .f64 (nanQ x x w)) (w.drewN 1) := fun w => run_sub_nan Try.prog _ (sub_nan hx hn) w
    exact edges_nan (Hid.mk hx) (Hid.mk hy) (Hid.mk (by omega)) (Hid.mk (by omega)) (Hid.mk (canon_nan hn)) (Hid.mk (one_neg_nan hn)) (Hid.mk (one_neg_nan qn)) (Hid.mk (one_abs_nan hn)) (Hid.mk (one_abs_nan qn)) (Hid.mk (one_inv_nan hn)) (Hid.mk (one_inv_nan qn))
      (Hid.mk H7) e7 e7' (Hid.mk H8) e8 e8' (Hid.mk H9) (order_nan_left hx hn) (order_nan_left hx hn) (order_nan_left hx hn) (order_nan_left (by omega) qn) (order_nan_left (by omega) qn) hsub (fun w => nanQ_order x x w 0) w
end Go.Proofs.Ytkpfjoklbindjaa
