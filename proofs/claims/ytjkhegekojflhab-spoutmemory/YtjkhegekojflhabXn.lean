/- The reference's One, kind by kind. -/
import Derived.Test.YtjkhegekojflhabXf
import Derived.Test.YtjkhegekojflhabXm
import Derived.Test.YtjkhegekojflhabR3
import Derived.Test.YtjkhegekojflhabR6
namespace Go.Proofs.Ytjkhegekojflhab
open Ieee Go.RowKit
attribute [local go_sem] run_store_float

theorem rturned_walk {x : Nat} (hx : x < 18446744073709551616) (w : World) :
    Calls Try.prog 59 #[.float .f64 x] w fun e w' => e = .returned (.float .f64 (negW x)) ∧ w' = w := by
  have hb : bits .xor .u64 (x : Int) 9223372036854775808 = ((negW x : Nat) : Int) := by
    rw [negW_eq]; exact bits_xor_u64_nat x 9223372036854775808 hx (by omega)
  go_enter Try.func59, Try.ntmps59
  go_wp2_with fail
  refine (bits_walk _ _).mono ?_
  rintro e w' ⟨rfl, rfl⟩
  go_wp2_with fail
  refine (from_walk (negW x) _).mono ?_
  rintro e w' ⟨rfl, rfl⟩
  go_wp2_with fail
  go_ret
  exact ⟨rfl, rfl⟩

theorem rsized_walk {x : Nat} (hx : x < 18446744073709551616) (w : World) :
    Calls Try.prog 60 #[.float .f64 x] w fun e w' => e = .returned (.float .f64 (rung x)) ∧ w' = w := by
  have hb : bits .andNot .u64 (x : Int) 9223372036854775808 = ((rung x : Nat) : Int) := by
    have h := u64_andNot_nat x 9223372036854775808 hx (by omega)
    rw [show ((9223372036854775808 : Nat) : Int) = 9223372036854775808 from rfl] at h
    rw [h]
    exact congrArg _ (Nat.and_two_pow_sub_one_eq_mod x 63)
  go_enter Try.func60, Try.ntmps60
  go_wp2_with fail
  refine (bits_walk _ _).mono ?_
  rintro e w' ⟨rfl, rfl⟩
  go_wp2_with fail
  refine (from_walk (rung x) _).mono ?_
  rintro e w' ⟨rfl, rfl⟩
  go_wp2_with fail
  go_ret
  exact ⟨rfl, rfl⟩

theorem rside_walk {x : Nat} (hx : x < 18446744073709551616) (w : World) :
    Calls Try.prog 66 #[.float .f64 x] w fun e w' => e = .returned (.int .u64 (sideN x)) ∧ w' = w := by
  cases hn : nanB x
  · rcases order_cases (c := 0) hx (show 0 < 18446744073709551616 by omega) hn (by decide) (by decide) with ⟨h, ho⟩ | ⟨h, ho⟩ | ⟨h, ho⟩
    all_goals
      go_enter Try.func66, Try.ntmps66
      go_wp2
      go_ret
      exact ⟨ret_int (by unfold sideN; rw [hn]; simp only [Bool.false_eq_true, if_false]; split <;> (try split) <;> omega), rfl⟩
  · have ho : FloatKind.f64.format.order x 0 = none := order_nan_left hx hn
    go_enter Try.func66, Try.ntmps66
    go_wp2
    go_ret
    exact ⟨ret_int (by unfold sideN; rw [hn]; rfl), rfl⟩

theorem rper_walk {n d : Int} (h0 : ¬ d = 0) (w : World) :
    Calls Try.prog 65 #[.int .i64 n, .int .i64 d] w fun e w' => e = .returned (.int .i64 (perI n d)) ∧ w' = w := by
  by_cases h1 : d = -1
  · subst h1
    go_enter Try.func65, Try.ntmps65
    go_wp2
    go_ret
    exact ⟨ret_int (by unfold perI; rw [show n.tdiv (-1) = -n by rw [Int.tdiv_neg, Int.tdiv_one]]), rfl⟩
  · have b1 : (d == -1) = false := by simpa using h1
    go_enter Try.func65, Try.ntmps65
    go_wp2
    go_ret
    exact ⟨rfl, rfl⟩

theorem rof_walk (n : Int) (w : World) :
    Calls Try.prog 64 #[.int .i64 n] w fun e w' => e = .returned (.float .f64 (ofW n)) ∧ w' = w := by
  go_enter Try.func64, Try.ntmps64
  go_wp2
  go_ret
  exact ⟨rfl, rfl⟩

set_option linter.unusedSimpArgs false in
set_option linter.unusedVariables false in
set_option maxRecDepth 100000 in
theorem rone_1_keep (N : Int) (X : Nat) (k : Nat) {x : Nat} (hx : x < 18446744073709551616) (hb : isB ⟨1, N, X⟩ = true) (h : (FloatKind.f64.format.order (canonW x) X == some .lt) = true) (w : World) :
    Calls Try.prog 50 #[.agg #[.int .i64 1, .int .i64 N, .float .f64 X], .agg #[.int .u64 k, .float .f64 x]] w fun e w' =>
      e = .returned (.tuple #[.agg #[.int .u64 k, .float .f64 (canonW x)], .int .i64 1]) ∧ Below w.heap.size w w' := by
  have HX : Hid (x < 18446744073709551616) := hx
  have HC : Hid (canonW x < 18446744073709551616) := canon_lt hx
  have HI : Hid (isB ⟨1, N, X⟩ = true) := hb
  have hcc := canon_canon x
  clear hx hb
  go_enter Try.func50, Try.ntmps50
  go_wp2_with fail
  generalize hw1 : ((w.alloc (Obj.cells #[Value.int IntKind.i64 1, Value.int IntKind.i64 N, Value.float FloatKind.f64 X] 55)).alloc (Obj.cells #[Value.int IntKind.u64 k, Value.float FloatKind.f64 x] 40)).alloc (Obj.cells #[Value.int IntKind.u64 0, Value.float FloatKind.f64 0] 40) = w1
  obtain ⟨HS, HB, o0, o1, o2, R1, R2⟩ := step_start hw1
  clear hw1
  refine (rstep_walk ⟨1, N, X⟩ _).mono ?_
  rw [HI.out]
  rintro e w2 ⟨rfl, hB⟩
  rw [← hB.cell (p := ⟨w.heap.size, 0, none⟩) (cell_lt o0)] at o0
  rw [← hB.cell (p := ⟨w.heap.size, 1, none⟩) (cell_lt o1)] at o1
  rw [← hB.cell (p := ⟨w.heap.size, 2, none⟩) (cell_lt o2)] at o2
  obtain ⟨c0, c1, z0, z1⟩ := R1.below hB (cell_lt R1.c0)
  obtain ⟨d0, d1, y0, y1⟩ := R2.below hB (cell_lt R2.c0)
  have HB2 : Hid (Below w.heap.size w w2) := below_trans HB.out hB
  clear hB R1 R2
  go_wp2_with fail
  refine (rcanon_walk HX.out _).mono ?_
  rintro e w' ⟨rfl, rfl⟩
  go_wp2_with fail
  refine (rcanon_walk HC.out _).mono ?_
  rintro e w' ⟨rfl, rfl⟩
  go_wp2_with fail
  refine bodyPost_ret (v := .tuple #[.agg #[.int .u64 k, .float .f64 (canonW x)], .int .i64 1]) (by simp [results, Try.results50, go_sem, c0, c1, z0, z1, d0, d1, y0, y1]) rfl ⟨rfl, ?_⟩
  exact (HB2.out.setCell (p := ⟨w.heap.size + 1 + 1, 0, none⟩) (by simp only; omega) _).setCell (p := ⟨w.heap.size + 1 + 1, 1, none⟩) (by simp only; omega) _

set_option linter.unusedSimpArgs false in
set_option linter.unusedVariables false in
set_option maxRecDepth 100000 in
theorem rone_1_drop (N : Int) (X : Nat) (k : Nat) {x : Nat} (hx : x < 18446744073709551616) (hb : isB ⟨1, N, X⟩ = true) (h : (FloatKind.f64.format.order (canonW x) X == some .lt) = false) (w : World) :
    Calls Try.prog 50 #[.agg #[.int .i64 1, .int .i64 N, .float .f64 X], .agg #[.int .u64 k, .float .f64 x]] w fun e w' =>
      e = .returned (.tuple #[.agg #[.int .u64 0, .float .f64 0], .int .i64 2]) ∧ Below w.heap.size w w' := by
  have HX : Hid (x < 18446744073709551616) := hx
  have HC : Hid (canonW x < 18446744073709551616) := canon_lt hx
  have HI : Hid (isB ⟨1, N, X⟩ = true) := hb
  clear hx hb
  go_enter Try.func50, Try.ntmps50
  go_wp2_with fail
  generalize hw1 : ((w.alloc (Obj.cells #[Value.int IntKind.i64 1, Value.int IntKind.i64 N, Value.float FloatKind.f64 X] 55)).alloc (Obj.cells #[Value.int IntKind.u64 k, Value.float FloatKind.f64 x] 40)).alloc (Obj.cells #[Value.int IntKind.u64 0, Value.float FloatKind.f64 0] 40) = w1
  obtain ⟨HS, HB, o0, o1, o2, R1, R2⟩ := step_start hw1
  clear hw1
  refine (rstep_walk ⟨1, N, X⟩ _).mono ?_
  rw [HI.out]
  rintro e w2 ⟨rfl, hB⟩
  rw [← hB.cell (p := ⟨w.heap.size, 0, none⟩) (cell_lt o0)] at o0
  rw [← hB.cell (p := ⟨w.heap.size, 1, none⟩) (cell_lt o1)] at o1
  rw [← hB.cell (p := ⟨w.heap.size, 2, none⟩) (cell_lt o2)] at o2
  obtain ⟨c0, c1, z0, z1⟩ := R1.below hB (cell_lt R1.c0)
  obtain ⟨d0, d1, y0, y1⟩ := R2.below hB (cell_lt R2.c0)
  have HB2 : Hid (Below w.heap.size w w2) := below_trans HB.out hB
  clear hB R1 R2
  go_wp2_with fail
  refine (rcanon_walk HX.out _).mono ?_
  rintro e w' ⟨rfl, rfl⟩
  go_wp2_with fail
  refine bodyPost_ret (v := .tuple #[.agg #[.int .u64 0, .float .f64 0], .int .i64 2]) (by simp [results, Try.results50, go_sem, c0, c1, z0, z1, d0, d1, y0, y1]) rfl ⟨rfl, ?_⟩
  exact (HB2.out.setCell (p := ⟨w.heap.size + 1 + 1, 0, none⟩) (by simp only; omega) _).setCell (p := ⟨w.heap.size + 1 + 1, 1, none⟩) (by simp only; omega) _

set_option linter.unusedSimpArgs false in
set_option linter.unusedVariables false in
set_option maxRecDepth 100000 in
theorem rone_2_keep (N : Int) (X : Nat) (k : Nat) {x : Nat} (hx : x < 18446744073709551616) (hb : isB ⟨2, N, X⟩ = true) (h : (FloatKind.f64.format.order (canonW x) X == some .gt) = true) (w : World) :
    Calls Try.prog 50 #[.agg #[.int .i64 2, .int .i64 N, .float .f64 X], .agg #[.int .u64 k, .float .f64 x]] w fun e w' =>
      e = .returned (.tuple #[.agg #[.int .u64 k, .float .f64 (canonW x)], .int .i64 1]) ∧ Below w.heap.size w w' := by
  have HX : Hid (x < 18446744073709551616) := hx
  have HC : Hid (canonW x < 18446744073709551616) := canon_lt hx
  have HI : Hid (isB ⟨2, N, X⟩ = true) := hb
  have hcc := canon_canon x
  clear hx hb
  go_enter Try.func50, Try.ntmps50
  go_wp2_with fail
  generalize hw1 : ((w.alloc (Obj.cells #[Value.int IntKind.i64 2, Value.int IntKind.i64 N, Value.float FloatKind.f64 X] 55)).alloc (Obj.cells #[Value.int IntKind.u64 k, Value.float FloatKind.f64 x] 40)).alloc (Obj.cells #[Value.int IntKind.u64 0, Value.float FloatKind.f64 0] 40) = w1
  obtain ⟨HS, HB, o0, o1, o2, R1, R2⟩ := step_start hw1
  clear hw1
  refine (rstep_walk ⟨2, N, X⟩ _).mono ?_
  rw [HI.out]
  rintro e w2 ⟨rfl, hB⟩
  rw [← hB.cell (p := ⟨w.heap.size, 0, none⟩) (cell_lt o0)] at o0
  rw [← hB.cell (p := ⟨w.heap.size, 1, none⟩) (cell_lt o1)] at o1
  rw [← hB.cell (p := ⟨w.heap.size, 2, none⟩) (cell_lt o2)] at o2
  obtain ⟨c0, c1, z0, z1⟩ := R1.below hB (cell_lt R1.c0)
  obtain ⟨d0, d1, y0, y1⟩ := R2.below hB (cell_lt R2.c0)
  have HB2 : Hid (Below w.heap.size w w2) := below_trans HB.out hB
  clear hB R1 R2
  go_wp2_with fail
  refine (rcanon_walk HX.out _).mono ?_
  rintro e w' ⟨rfl, rfl⟩
  go_wp2_with fail
  refine (rcanon_walk HC.out _).mono ?_
  rintro e w' ⟨rfl, rfl⟩
  go_wp2_with fail
  refine bodyPost_ret (v := .tuple #[.agg #[.int .u64 k, .float .f64 (canonW x)], .int .i64 1]) (by simp [results, Try.results50, go_sem, c0, c1, z0, z1, d0, d1, y0, y1]) rfl ⟨rfl, ?_⟩
  exact (HB2.out.setCell (p := ⟨w.heap.size + 1 + 1, 0, none⟩) (by simp only; omega) _).setCell (p := ⟨w.heap.size + 1 + 1, 1, none⟩) (by simp only; omega) _

set_option linter.unusedSimpArgs false in
set_option linter.unusedVariables false in
set_option maxRecDepth 100000 in
theorem rone_2_drop (N : Int) (X : Nat) (k : Nat) {x : Nat} (hx : x < 18446744073709551616) (hb : isB ⟨2, N, X⟩ = true) (h : (FloatKind.f64.format.order (canonW x) X == some .gt) = false) (w : World) :
    Calls Try.prog 50 #[.agg #[.int .i64 2, .int .i64 N, .float .f64 X], .agg #[.int .u64 k, .float .f64 x]] w fun e w' =>
      e = .returned (.tuple #[.agg #[.int .u64 0, .float .f64 0], .int .i64 2]) ∧ Below w.heap.size w w' := by
  have HX : Hid (x < 18446744073709551616) := hx
  have HC : Hid (canonW x < 18446744073709551616) := canon_lt hx
  have HI : Hid (isB ⟨2, N, X⟩ = true) := hb
  clear hx hb
  go_enter Try.func50, Try.ntmps50
  go_wp2_with fail
  generalize hw1 : ((w.alloc (Obj.cells #[Value.int IntKind.i64 2, Value.int IntKind.i64 N, Value.float FloatKind.f64 X] 55)).alloc (Obj.cells #[Value.int IntKind.u64 k, Value.float FloatKind.f64 x] 40)).alloc (Obj.cells #[Value.int IntKind.u64 0, Value.float FloatKind.f64 0] 40) = w1
  obtain ⟨HS, HB, o0, o1, o2, R1, R2⟩ := step_start hw1
  clear hw1
  refine (rstep_walk ⟨2, N, X⟩ _).mono ?_
  rw [HI.out]
  rintro e w2 ⟨rfl, hB⟩
  rw [← hB.cell (p := ⟨w.heap.size, 0, none⟩) (cell_lt o0)] at o0
  rw [← hB.cell (p := ⟨w.heap.size, 1, none⟩) (cell_lt o1)] at o1
  rw [← hB.cell (p := ⟨w.heap.size, 2, none⟩) (cell_lt o2)] at o2
  obtain ⟨c0, c1, z0, z1⟩ := R1.below hB (cell_lt R1.c0)
  obtain ⟨d0, d1, y0, y1⟩ := R2.below hB (cell_lt R2.c0)
  have HB2 : Hid (Below w.heap.size w w2) := below_trans HB.out hB
  clear hB R1 R2
  go_wp2_with fail
  refine (rcanon_walk HX.out _).mono ?_
  rintro e w' ⟨rfl, rfl⟩
  go_wp2_with fail
  refine bodyPost_ret (v := .tuple #[.agg #[.int .u64 0, .float .f64 0], .int .i64 2]) (by simp [results, Try.results50, go_sem, c0, c1, z0, z1, d0, d1, y0, y1]) rfl ⟨rfl, ?_⟩
  exact (HB2.out.setCell (p := ⟨w.heap.size + 1 + 1, 0, none⟩) (by simp only; omega) _).setCell (p := ⟨w.heap.size + 1 + 1, 1, none⟩) (by simp only; omega) _

set_option linter.unusedSimpArgs false in
set_option linter.unusedVariables false in
set_option maxRecDepth 100000 in
theorem rone_3_keep (N : Int) (X : Nat) (k : Nat) {x : Nat} (hx : x < 18446744073709551616) (hb : isB ⟨3, N, X⟩ = true) (h : nanB x = false) (w : World) :
    Calls Try.prog 50 #[.agg #[.int .i64 3, .int .i64 N, .float .f64 X], .agg #[.int .u64 k, .float .f64 x]] w fun e w' =>
      e = .returned (.tuple #[.agg #[.int .u64 k, .float .f64 (canonW x)], .int .i64 1]) ∧ Below w.heap.size w w' := by
  have HX : Hid (x < 18446744073709551616) := hx
  have HC : Hid (canonW x < 18446744073709551616) := canon_lt hx
  have HI : Hid (isB ⟨3, N, X⟩ = true) := hb
  have hcc := canon_canon x
  have h1 : (FloatKind.f64.format.order (canonW x) (canonW x) != some .eq) = false := by rw [show (FloatKind.f64.format.order (canonW x) (canonW x) != some .eq) = nanB (canonW x) from order_self (canon_lt hx), nan_canon]; exact h
  clear hx hb
  go_enter Try.func50, Try.ntmps50
  go_wp2_with fail
  generalize hw1 : ((w.alloc (Obj.cells #[Value.int IntKind.i64 3, Value.int IntKind.i64 N, Value.float FloatKind.f64 X] 55)).alloc (Obj.cells #[Value.int IntKind.u64 k, Value.float FloatKind.f64 x] 40)).alloc (Obj.cells #[Value.int IntKind.u64 0, Value.float FloatKind.f64 0] 40) = w1
  obtain ⟨HS, HB, o0, o1, o2, R1, R2⟩ := step_start hw1
  clear hw1
  refine (rstep_walk ⟨3, N, X⟩ _).mono ?_
  rw [HI.out]
  rintro e w2 ⟨rfl, hB⟩
  rw [← hB.cell (p := ⟨w.heap.size, 0, none⟩) (cell_lt o0)] at o0
  rw [← hB.cell (p := ⟨w.heap.size, 1, none⟩) (cell_lt o1)] at o1
  rw [← hB.cell (p := ⟨w.heap.size, 2, none⟩) (cell_lt o2)] at o2
  obtain ⟨c0, c1, z0, z1⟩ := R1.below hB (cell_lt R1.c0)
  obtain ⟨d0, d1, y0, y1⟩ := R2.below hB (cell_lt R2.c0)
  have HB2 : Hid (Below w.heap.size w w2) := below_trans HB.out hB
  clear hB R1 R2
  go_wp2_with fail
  refine (rcanon_walk HX.out _).mono ?_
  rintro e w' ⟨rfl, rfl⟩
  go_wp2_with fail
  refine (rcanon_walk HC.out _).mono ?_
  rintro e w' ⟨rfl, rfl⟩
  go_wp2_with fail
  refine bodyPost_ret (v := .tuple #[.agg #[.int .u64 k, .float .f64 (canonW x)], .int .i64 1]) (by simp [results, Try.results50, go_sem, c0, c1, z0, z1, d0, d1, y0, y1]) rfl ⟨rfl, ?_⟩
  exact (HB2.out.setCell (p := ⟨w.heap.size + 1 + 1, 0, none⟩) (by simp only; omega) _).setCell (p := ⟨w.heap.size + 1 + 1, 1, none⟩) (by simp only; omega) _

set_option linter.unusedSimpArgs false in
set_option linter.unusedVariables false in
set_option maxRecDepth 100000 in
theorem rone_3_drop (N : Int) (X : Nat) (k : Nat) {x : Nat} (hx : x < 18446744073709551616) (hb : isB ⟨3, N, X⟩ = true) (h : nanB x = true) (w : World) :
    Calls Try.prog 50 #[.agg #[.int .i64 3, .int .i64 N, .float .f64 X], .agg #[.int .u64 k, .float .f64 x]] w fun e w' =>
      e = .returned (.tuple #[.agg #[.int .u64 0, .float .f64 0], .int .i64 2]) ∧ Below w.heap.size w w' := by
  have HX : Hid (x < 18446744073709551616) := hx
  have HC : Hid (canonW x < 18446744073709551616) := canon_lt hx
  have HI : Hid (isB ⟨3, N, X⟩ = true) := hb
  have h1 : (FloatKind.f64.format.order (canonW x) (canonW x) != some .eq) = true := by rw [show (FloatKind.f64.format.order (canonW x) (canonW x) != some .eq) = nanB (canonW x) from order_self (canon_lt hx), nan_canon]; exact h
  clear hx hb
  go_enter Try.func50, Try.ntmps50
  go_wp2_with fail
  generalize hw1 : ((w.alloc (Obj.cells #[Value.int IntKind.i64 3, Value.int IntKind.i64 N, Value.float FloatKind.f64 X] 55)).alloc (Obj.cells #[Value.int IntKind.u64 k, Value.float FloatKind.f64 x] 40)).alloc (Obj.cells #[Value.int IntKind.u64 0, Value.float FloatKind.f64 0] 40) = w1
  obtain ⟨HS, HB, o0, o1, o2, R1, R2⟩ := step_start hw1
  clear hw1
  refine (rstep_walk ⟨3, N, X⟩ _).mono ?_
  rw [HI.out]
  rintro e w2 ⟨rfl, hB⟩
  rw [← hB.cell (p := ⟨w.heap.size, 0, none⟩) (cell_lt o0)] at o0
  rw [← hB.cell (p := ⟨w.heap.size, 1, none⟩) (cell_lt o1)] at o1
  rw [← hB.cell (p := ⟨w.heap.size, 2, none⟩) (cell_lt o2)] at o2
  obtain ⟨c0, c1, z0, z1⟩ := R1.below hB (cell_lt R1.c0)
  obtain ⟨d0, d1, y0, y1⟩ := R2.below hB (cell_lt R2.c0)
  have HB2 : Hid (Below w.heap.size w w2) := below_trans HB.out hB
  clear hB R1 R2
  go_wp2_with fail
  refine (rcanon_walk HX.out _).mono ?_
  rintro e w' ⟨rfl, rfl⟩
  go_wp2_with fail
  refine bodyPost_ret (v := .tuple #[.agg #[.int .u64 0, .float .f64 0], .int .i64 2]) (by simp [results, Try.results50, go_sem, c0, c1, z0, z1, d0, d1, y0, y1]) rfl ⟨rfl, ?_⟩
  exact (HB2.out.setCell (p := ⟨w.heap.size + 1 + 1, 0, none⟩) (by simp only; omega) _).setCell (p := ⟨w.heap.size + 1 + 1, 1, none⟩) (by simp only; omega) _

set_option linter.unusedSimpArgs false in
set_option linter.unusedVariables false in
set_option maxRecDepth 100000 in
theorem rone_4 (N : Int) (X : Nat) (k : Nat) {x : Nat} (hx : x < 18446744073709551616) (hb : isB ⟨4, N, X⟩ = true) (w : World) :
    Calls Try.prog 50 #[.agg #[.int .i64 4, .int .i64 N, .float .f64 X], .agg #[.int .u64 k, .float .f64 x]] w fun e w' =>
      e = .returned (.tuple #[.agg #[.int .u64 k, .float .f64 (canonW (negW (canonW x)))], .int .i64 1]) ∧ Below w.heap.size w w' := by
  have HX : Hid (x < 18446744073709551616) := hx
  have HC : Hid (canonW x < 18446744073709551616) := canon_lt hx
  have HI : Hid (isB ⟨4, N, X⟩ = true) := hb
  clear hx hb
  go_enter Try.func50, Try.ntmps50
  go_wp2_with fail
  generalize hw1 : ((w.alloc (Obj.cells #[Value.int IntKind.i64 4, Value.int IntKind.i64 N, Value.float FloatKind.f64 X] 55)).alloc (Obj.cells #[Value.int IntKind.u64 k, Value.float FloatKind.f64 x] 40)).alloc (Obj.cells #[Value.int IntKind.u64 0, Value.float FloatKind.f64 0] 40) = w1
  obtain ⟨HS, HB, o0, o1, o2, R1, R2⟩ := step_start hw1
  clear hw1
  refine (rstep_walk ⟨4, N, X⟩ _).mono ?_
  rw [HI.out]
  rintro e w2 ⟨rfl, hB⟩
  rw [← hB.cell (p := ⟨w.heap.size, 0, none⟩) (cell_lt o0)] at o0
  rw [← hB.cell (p := ⟨w.heap.size, 1, none⟩) (cell_lt o1)] at o1
  rw [← hB.cell (p := ⟨w.heap.size, 2, none⟩) (cell_lt o2)] at o2
  obtain ⟨c0, c1, z0, z1⟩ := R1.below hB (cell_lt R1.c0)
  obtain ⟨d0, d1, y0, y1⟩ := R2.below hB (cell_lt R2.c0)
  have HB2 : Hid (Below w.heap.size w w2) := below_trans HB.out hB
  clear hB R1 R2
  go_wp2_with fail
  refine (rcanon_walk HX.out _).mono ?_
  rintro e w' ⟨rfl, rfl⟩
  go_wp2_with fail
  refine (rturned_walk HC.out _).mono ?_
  rintro e w' ⟨rfl, rfl⟩
  go_wp2_with fail
  refine (rcanon_walk (negW_lt HC.out) _).mono ?_
  rintro e w' ⟨rfl, rfl⟩
  go_wp2_with fail
  refine bodyPost_ret (v := .tuple #[.agg #[.int .u64 k, .float .f64 (canonW (negW (canonW x)))], .int .i64 1]) (by simp [results, Try.results50, go_sem, c0, c1, z0, z1, d0, d1, y0, y1]) rfl ⟨rfl, ?_⟩
  exact (HB2.out.setCell (p := ⟨w.heap.size + 1 + 1, 0, none⟩) (by simp only; omega) _).setCell (p := ⟨w.heap.size + 1 + 1, 1, none⟩) (by simp only; omega) _

set_option linter.unusedSimpArgs false in
set_option linter.unusedVariables false in
set_option maxRecDepth 100000 in
theorem rone_5 (N : Int) (X : Nat) (k : Nat) {x : Nat} (hx : x < 18446744073709551616) (hb : isB ⟨5, N, X⟩ = true) (w : World) :
    Calls Try.prog 50 #[.agg #[.int .i64 5, .int .i64 N, .float .f64 X], .agg #[.int .u64 k, .float .f64 x]] w fun e w' =>
      e = .returned (.tuple #[.agg #[.int .u64 k, .float .f64 (canonW (rung (canonW x)))], .int .i64 1]) ∧ Below w.heap.size w w' := by
  have HX : Hid (x < 18446744073709551616) := hx
  have HC : Hid (canonW x < 18446744073709551616) := canon_lt hx
  have HI : Hid (isB ⟨5, N, X⟩ = true) := hb
  clear hx hb
  go_enter Try.func50, Try.ntmps50
  go_wp2_with fail
  generalize hw1 : ((w.alloc (Obj.cells #[Value.int IntKind.i64 5, Value.int IntKind.i64 N, Value.float FloatKind.f64 X] 55)).alloc (Obj.cells #[Value.int IntKind.u64 k, Value.float FloatKind.f64 x] 40)).alloc (Obj.cells #[Value.int IntKind.u64 0, Value.float FloatKind.f64 0] 40) = w1
  obtain ⟨HS, HB, o0, o1, o2, R1, R2⟩ := step_start hw1
  clear hw1
  refine (rstep_walk ⟨5, N, X⟩ _).mono ?_
  rw [HI.out]
  rintro e w2 ⟨rfl, hB⟩
  rw [← hB.cell (p := ⟨w.heap.size, 0, none⟩) (cell_lt o0)] at o0
  rw [← hB.cell (p := ⟨w.heap.size, 1, none⟩) (cell_lt o1)] at o1
  rw [← hB.cell (p := ⟨w.heap.size, 2, none⟩) (cell_lt o2)] at o2
  obtain ⟨c0, c1, z0, z1⟩ := R1.below hB (cell_lt R1.c0)
  obtain ⟨d0, d1, y0, y1⟩ := R2.below hB (cell_lt R2.c0)
  have HB2 : Hid (Below w.heap.size w w2) := below_trans HB.out hB
  clear hB R1 R2
  go_wp2_with fail
  refine (rcanon_walk HX.out _).mono ?_
  rintro e w' ⟨rfl, rfl⟩
  go_wp2_with fail
  refine (rsized_walk HC.out _).mono ?_
  rintro e w' ⟨rfl, rfl⟩
  go_wp2_with fail
  refine (rcanon_walk (by have := rung_lt (canonW x); omega) _).mono ?_
  rintro e w' ⟨rfl, rfl⟩
  go_wp2_with fail
  refine bodyPost_ret (v := .tuple #[.agg #[.int .u64 k, .float .f64 (canonW (rung (canonW x)))], .int .i64 1]) (by simp [results, Try.results50, go_sem, c0, c1, z0, z1, d0, d1, y0, y1]) rfl ⟨rfl, ?_⟩
  exact (HB2.out.setCell (p := ⟨w.heap.size + 1 + 1, 0, none⟩) (by simp only; omega) _).setCell (p := ⟨w.heap.size + 1 + 1, 1, none⟩) (by simp only; omega) _

set_option linter.unusedSimpArgs false in
set_option linter.unusedVariables false in
set_option maxRecDepth 100000 in
theorem rone_6 (N : Int) (X : Nat) (k : Nat) {x : Nat} (hx : x < 18446744073709551616) (hb : isB ⟨6, N, X⟩ = true) (w : World) :
    Calls Try.prog 50 #[.agg #[.int .i64 6, .int .i64 N, .float .f64 X], .agg #[.int .u64 k, .float .f64 x]] w fun e w' =>
      e = .returned (.tuple #[.agg #[.int .u64 k, .float .f64 (canonW (floorW (canonW x)))], .int .i64 1]) ∧ Below w.heap.size w w' := by
  have HX : Hid (x < 18446744073709551616) := hx
  have HC : Hid (canonW x < 18446744073709551616) := canon_lt hx
  have HI : Hid (isB ⟨6, N, X⟩ = true) := hb
  clear hx hb
  go_enter Try.func50, Try.ntmps50
  go_wp2_with fail
  generalize hw1 : ((w.alloc (Obj.cells #[Value.int IntKind.i64 6, Value.int IntKind.i64 N, Value.float FloatKind.f64 X] 55)).alloc (Obj.cells #[Value.int IntKind.u64 k, Value.float FloatKind.f64 x] 40)).alloc (Obj.cells #[Value.int IntKind.u64 0, Value.float FloatKind.f64 0] 40) = w1
  obtain ⟨HS, HB, o0, o1, o2, R1, R2⟩ := step_start hw1
  clear hw1
  refine (rstep_walk ⟨6, N, X⟩ _).mono ?_
  rw [HI.out]
  rintro e w2 ⟨rfl, hB⟩
  rw [← hB.cell (p := ⟨w.heap.size, 0, none⟩) (cell_lt o0)] at o0
  rw [← hB.cell (p := ⟨w.heap.size, 1, none⟩) (cell_lt o1)] at o1
  rw [← hB.cell (p := ⟨w.heap.size, 2, none⟩) (cell_lt o2)] at o2
  obtain ⟨c0, c1, z0, z1⟩ := R1.below hB (cell_lt R1.c0)
  obtain ⟨d0, d1, y0, y1⟩ := R2.below hB (cell_lt R2.c0)
  have HB2 : Hid (Below w.heap.size w w2) := below_trans HB.out hB
  clear hB R1 R2
  go_wp2_with fail
  refine (rcanon_walk HX.out _).mono ?_
  rintro e w' ⟨rfl, rfl⟩
  go_wp2_with fail
  refine (rfloor_walk HC.out _).mono ?_
  rintro e w' ⟨rfl, rfl⟩
  go_wp2_with fail
  refine (rcanon_walk (floorW_lt HC.out) _).mono ?_
  rintro e w' ⟨rfl, rfl⟩
  go_wp2_with fail
  refine bodyPost_ret (v := .tuple #[.agg #[.int .u64 k, .float .f64 (canonW (floorW (canonW x)))], .int .i64 1]) (by simp [results, Try.results50, go_sem, c0, c1, z0, z1, d0, d1, y0, y1]) rfl ⟨rfl, ?_⟩
  exact (HB2.out.setCell (p := ⟨w.heap.size + 1 + 1, 0, none⟩) (by simp only; omega) _).setCell (p := ⟨w.heap.size + 1 + 1, 1, none⟩) (by simp only; omega) _

set_option linter.unusedSimpArgs false in
set_option linter.unusedVariables false in
set_option maxRecDepth 100000 in
theorem rone_7 (N : Int) (X : Nat) (k : Nat) {x : Nat} (hx : x < 18446744073709551616) (hb : isB ⟨7, N, X⟩ = true) (w : World) :
    Calls Try.prog 50 #[.agg #[.int .i64 7, .int .i64 N, .float .f64 X], .agg #[.int .u64 k, .float .f64 x]] w fun e w' =>
      e = .returned (.tuple #[.agg #[.int .u64 k, .float .f64 (canonW (scaleR (canonW x) N))], .int .i64 1]) ∧ Below w.heap.size w w' := by
  have HX : Hid (x < 18446744073709551616) := hx
  have HC : Hid (canonW x < 18446744073709551616) := canon_lt hx
  have HI : Hid (isB ⟨7, N, X⟩ = true) := hb
  clear hx hb
  go_enter Try.func50, Try.ntmps50
  go_wp2_with fail
  generalize hw1 : ((w.alloc (Obj.cells #[Value.int IntKind.i64 7, Value.int IntKind.i64 N, Value.float FloatKind.f64 X] 55)).alloc (Obj.cells #[Value.int IntKind.u64 k, Value.float FloatKind.f64 x] 40)).alloc (Obj.cells #[Value.int IntKind.u64 0, Value.float FloatKind.f64 0] 40) = w1
  obtain ⟨HS, HB, o0, o1, o2, R1, R2⟩ := step_start hw1
  clear hw1
  refine (rstep_walk ⟨7, N, X⟩ _).mono ?_
  rw [HI.out]
  rintro e w2 ⟨rfl, hB⟩
  rw [← hB.cell (p := ⟨w.heap.size, 0, none⟩) (cell_lt o0)] at o0
  rw [← hB.cell (p := ⟨w.heap.size, 1, none⟩) (cell_lt o1)] at o1
  rw [← hB.cell (p := ⟨w.heap.size, 2, none⟩) (cell_lt o2)] at o2
  obtain ⟨c0, c1, z0, z1⟩ := R1.below hB (cell_lt R1.c0)
  obtain ⟨d0, d1, y0, y1⟩ := R2.below hB (cell_lt R2.c0)
  have HB2 : Hid (Below w.heap.size w w2) := below_trans HB.out hB
  clear hB R1 R2
  go_wp2_with fail
  refine (rcanon_walk HX.out _).mono ?_
  rintro e w' ⟨rfl, rfl⟩
  go_wp2_with fail
  refine (rscale_walk N HC.out _).mono ?_
  rintro e w' ⟨rfl, rfl⟩
  go_wp2_with fail
  refine (rcanon_walk (scaleR_lt _ HC.out) _).mono ?_
  rintro e w' ⟨rfl, rfl⟩
  go_wp2_with fail
  refine bodyPost_ret (v := .tuple #[.agg #[.int .u64 k, .float .f64 (canonW (scaleR (canonW x) N))], .int .i64 1]) (by simp [results, Try.results50, go_sem, c0, c1, z0, z1, d0, d1, y0, y1]) rfl ⟨rfl, ?_⟩
  exact (HB2.out.setCell (p := ⟨w.heap.size + 1 + 1, 0, none⟩) (by simp only; omega) _).setCell (p := ⟨w.heap.size + 1 + 1, 1, none⟩) (by simp only; omega) _

set_option linter.unusedSimpArgs false in
set_option linter.unusedVariables false in
set_option maxRecDepth 100000 in
theorem rone_8_num (N : Int) (X : Nat) (k : Nat) {x : Nat} (hx : x < 18446744073709551616) (hb : isB ⟨8, N, X⟩ = true) {I : Nat} (hI : Ieee.double.div 4607182418800017408 (canonW x) = some I) (lI : I < 18446744073709551616) (w : World) :
    Calls Try.prog 50 #[.agg #[.int .i64 8, .int .i64 N, .float .f64 X], .agg #[.int .u64 k, .float .f64 x]] w fun e w' =>
      e = .returned (.tuple #[.agg #[.int .u64 k, .float .f64 (canonW (invW (canonW x)))], .int .i64 1]) ∧ Below w.heap.size w w' := by
  have HX : Hid (x < 18446744073709551616) := hx
  have HC : Hid (canonW x < 18446744073709551616) := canon_lt hx
  have HI : Hid (isB ⟨8, N, X⟩ = true) := hb
  have hr : ∀ w : World, (binOp .quo 38 (.float .f64 4607182418800017408) (.float .f64 (canonW x))).run Try.prog w = .ok (.float .f64 I) w := fun w => run_quo_num Try.prog _ hI w
  have HE : Hid (invW (canonW x) = I) := invW_num hI
  clear hI
  clear hx hb
  go_enter Try.func50, Try.ntmps50
  go_wp2_with fail
  generalize hw1 : ((w.alloc (Obj.cells #[Value.int IntKind.i64 8, Value.int IntKind.i64 N, Value.float FloatKind.f64 X] 55)).alloc (Obj.cells #[Value.int IntKind.u64 k, Value.float FloatKind.f64 x] 40)).alloc (Obj.cells #[Value.int IntKind.u64 0, Value.float FloatKind.f64 0] 40) = w1
  obtain ⟨HS, HB, o0, o1, o2, R1, R2⟩ := step_start hw1
  clear hw1
  refine (rstep_walk ⟨8, N, X⟩ _).mono ?_
  rw [HI.out]
  rintro e w2 ⟨rfl, hB⟩
  rw [← hB.cell (p := ⟨w.heap.size, 0, none⟩) (cell_lt o0)] at o0
  rw [← hB.cell (p := ⟨w.heap.size, 1, none⟩) (cell_lt o1)] at o1
  rw [← hB.cell (p := ⟨w.heap.size, 2, none⟩) (cell_lt o2)] at o2
  obtain ⟨c0, c1, z0, z1⟩ := R1.below hB (cell_lt R1.c0)
  obtain ⟨d0, d1, y0, y1⟩ := R2.below hB (cell_lt R2.c0)
  have HB2 : Hid (Below w.heap.size w w2) := below_trans HB.out hB
  clear hB R1 R2
  go_wp2_with fail
  refine (rcanon_walk HX.out _).mono ?_
  rintro e w' ⟨rfl, rfl⟩
  go_wp2_with fail
  refine (rcanon_walk lI _).mono ?_
  rintro e w' ⟨rfl, rfl⟩
  go_wp2_with fail
  refine bodyPost_ret (v := .tuple #[.agg #[.int .u64 k, .float .f64 (canonW I)], .int .i64 1]) (by simp [results, Try.results50, go_sem, c0, c1, z0, z1, d0, d1, y0, y1]) rfl ⟨by rw [HE.out], ?_⟩
  exact (HB2.out.setCell (p := ⟨w.heap.size + 1 + 1, 0, none⟩) (by simp only; omega) _).setCell (p := ⟨w.heap.size + 1 + 1, 1, none⟩) (by simp only; omega) _

set_option linter.unusedSimpArgs false in
set_option linter.unusedVariables false in
set_option maxRecDepth 100000 in
theorem rone_8_nan (N : Int) (X : Nat) (k : Nat) {x : Nat} (hx : x < 18446744073709551616) (hb : isB ⟨8, N, X⟩ = true) (hI : Ieee.double.div 4607182418800017408 (canonW x) = none) (w : World) :
    Calls Try.prog 50 #[.agg #[.int .i64 8, .int .i64 N, .float .f64 X], .agg #[.int .u64 k, .float .f64 x]] w fun e w' =>
      e = .returned (.tuple #[.agg #[.int .u64 k, .float .f64 (canonW (invW (canonW x)))], .int .i64 1]) ∧ Below w.heap.size w w' := by
  have HX : Hid (x < 18446744073709551616) := hx
  have HC : Hid (canonW x < 18446744073709551616) := canon_lt hx
  have HI : Hid (isB ⟨8, N, X⟩ = true) := hb
  have hr : ∀ w : World, (binOp .quo 38 (.float .f64 4607182418800017408) (.float .f64 (canonW x))).run Try.prog w = .ok (.float .f64 (nanQ 4607182418800017408 (canonW x) w)) (w.drewN 1) := fun w => run_quo_nan Try.prog _ hI w
  have HE : Hid (canonW (invW (canonW x)) = 9221120237041090561) := by show _ = _; rw [invW_nan hI]; decide
  clear hI
  clear hx hb
  go_enter Try.func50, Try.ntmps50
  go_wp2_with fail
  generalize hw1 : ((w.alloc (Obj.cells #[Value.int IntKind.i64 8, Value.int IntKind.i64 N, Value.float FloatKind.f64 X] 55)).alloc (Obj.cells #[Value.int IntKind.u64 k, Value.float FloatKind.f64 x] 40)).alloc (Obj.cells #[Value.int IntKind.u64 0, Value.float FloatKind.f64 0] 40) = w1
  obtain ⟨HS, HB, o0, o1, o2, R1, R2⟩ := step_start hw1
  clear hw1
  refine (rstep_walk ⟨8, N, X⟩ _).mono ?_
  rw [HI.out]
  rintro e w2 ⟨rfl, hB⟩
  rw [← hB.cell (p := ⟨w.heap.size, 0, none⟩) (cell_lt o0)] at o0
  rw [← hB.cell (p := ⟨w.heap.size, 1, none⟩) (cell_lt o1)] at o1
  rw [← hB.cell (p := ⟨w.heap.size, 2, none⟩) (cell_lt o2)] at o2
  obtain ⟨c0, c1, z0, z1⟩ := R1.below hB (cell_lt R1.c0)
  obtain ⟨d0, d1, y0, y1⟩ := R2.below hB (cell_lt R2.c0)
  have HB2 : Hid (Below w.heap.size w w2) := below_trans HB.out hB
  clear hB R1 R2
  go_wp2_with fail
  refine (rcanon_walk HX.out _).mono ?_
  rintro e w' ⟨rfl, rfl⟩
  go_wp2_with fail
  refine (rcanon_walk (nanQ_nan _ _ _).2 _).mono ?_
  rw [canon_nan (nanQ_nan _ _ _).1]
  rintro e w' ⟨rfl, rfl⟩
  go_wp2_with fail
  refine bodyPost_ret (v := .tuple #[.agg #[.int .u64 k, .float .f64 9221120237041090561], .int .i64 1]) (by simp [results, Try.results50, go_sem, c0, c1, z0, z1, d0, d1, y0, y1]) rfl ⟨by rw [HE.out], ?_⟩
  exact ((below_trans HB2.out (below_drewN _ 1)).setCell (p := ⟨w.heap.size + 1 + 1, 0, none⟩) (by simp only; omega) _).setCell (p := ⟨w.heap.size + 1 + 1, 1, none⟩) (by simp only; omega) _

set_option linter.unusedSimpArgs false in
set_option linter.unusedVariables false in
set_option maxRecDepth 100000 in
theorem rone_9_keep (N : Int) (X : Nat) (k : Nat) {x : Nat} (hx : x < 18446744073709551616) (hb : isB ⟨9, N, X⟩ = true) (h : rung (canonW x) < 9218868437227405312) (w : World) :
    Calls Try.prog 50 #[.agg #[.int .i64 9, .int .i64 N, .float .f64 X], .agg #[.int .u64 k, .float .f64 x]] w fun e w' =>
      e = .returned (.tuple #[.agg #[.int .u64 k, .float .f64 (canonW x)], .int .i64 1]) ∧ Below w.heap.size w w' := by
  have HX : Hid (x < 18446744073709551616) := hx
  have HC : Hid (canonW x < 18446744073709551616) := canon_lt hx
  have HI : Hid (isB ⟨9, N, X⟩ = true) := hb
  have hcc := canon_canon x
  have hsub : ∀ w : World, (binOp .sub 38 (.float .f64 (canonW x)) (.float .f64 (canonW x))).run Try.prog w = .ok (.float .f64 0) w := fun w => run_sub_num Try.prog _ (sub_self (canon_lt hx) h) w
  have zz := zz0
  clear h
  clear hx hb
  go_enter Try.func50, Try.ntmps50
  go_wp2_with fail
  generalize hw1 : ((w.alloc (Obj.cells #[Value.int IntKind.i64 9, Value.int IntKind.i64 N, Value.float FloatKind.f64 X] 55)).alloc (Obj.cells #[Value.int IntKind.u64 k, Value.float FloatKind.f64 x] 40)).alloc (Obj.cells #[Value.int IntKind.u64 0, Value.float FloatKind.f64 0] 40) = w1
  obtain ⟨HS, HB, o0, o1, o2, R1, R2⟩ := step_start hw1
  clear hw1
  refine (rstep_walk ⟨9, N, X⟩ _).mono ?_
  rw [HI.out]
  rintro e w2 ⟨rfl, hB⟩
  rw [← hB.cell (p := ⟨w.heap.size, 0, none⟩) (cell_lt o0)] at o0
  rw [← hB.cell (p := ⟨w.heap.size, 1, none⟩) (cell_lt o1)] at o1
  rw [← hB.cell (p := ⟨w.heap.size, 2, none⟩) (cell_lt o2)] at o2
  obtain ⟨c0, c1, z0, z1⟩ := R1.below hB (cell_lt R1.c0)
  obtain ⟨d0, d1, y0, y1⟩ := R2.below hB (cell_lt R2.c0)
  have HB2 : Hid (Below w.heap.size w w2) := below_trans HB.out hB
  clear hB R1 R2
  go_wp2_with fail
  refine (rcanon_walk HX.out _).mono ?_
  rintro e w' ⟨rfl, rfl⟩
  go_wp2_with fail
  refine (rcanon_walk HC.out _).mono ?_
  rintro e w' ⟨rfl, rfl⟩
  go_wp2_with fail
  refine bodyPost_ret (v := .tuple #[.agg #[.int .u64 k, .float .f64 (canonW x)], .int .i64 1]) (by simp [results, Try.results50, go_sem, c0, c1, z0, z1, d0, d1, y0, y1]) rfl ⟨rfl, ?_⟩
  exact (HB2.out.setCell (p := ⟨w.heap.size + 1 + 1, 0, none⟩) (by simp only; omega) _).setCell (p := ⟨w.heap.size + 1 + 1, 1, none⟩) (by simp only; omega) _

set_option linter.unusedSimpArgs false in
set_option linter.unusedVariables false in
set_option maxRecDepth 100000 in
theorem rone_9_trap (N : Int) (X : Nat) (k : Nat) {x : Nat} (hx : x < 18446744073709551616) (hb : isB ⟨9, N, X⟩ = true) (hs : FloatKind.f64.format.sub (canonW x) (canonW x) = none) (w : World) :
    Calls Try.prog 50 #[.agg #[.int .i64 9, .int .i64 N, .float .f64 X], .agg #[.int .u64 k, .float .f64 x]] w fun e w' =>
      e = .returned (.tuple #[.agg #[.int .u64 0, .float .f64 0], .int .i64 3]) ∧ Below w.heap.size w w' := by
  have HX : Hid (x < 18446744073709551616) := hx
  have HC : Hid (canonW x < 18446744073709551616) := canon_lt hx
  have HI : Hid (isB ⟨9, N, X⟩ = true) := hb
  have hsub : ∀ w : World, (binOp .sub 38 (.float .f64 (canonW x)) (.float .f64 (canonW x))).run Try.prog w = .ok (.float .f64 (nanQ (canonW x) (canonW x) w)) (w.drewN 1) := fun w => run_sub_nan Try.prog _ hs w
  have hq : ∀ w : World, FloatKind.f64.format.order (nanQ (canonW x) (canonW x) w) 0 = none := fun w => nanQ_order _ _ w 0
  clear hs
  clear hx hb
  go_enter Try.func50, Try.ntmps50
  go_wp2_with fail
  generalize hw1 : ((w.alloc (Obj.cells #[Value.int IntKind.i64 9, Value.int IntKind.i64 N, Value.float FloatKind.f64 X] 55)).alloc (Obj.cells #[Value.int IntKind.u64 k, Value.float FloatKind.f64 x] 40)).alloc (Obj.cells #[Value.int IntKind.u64 0, Value.float FloatKind.f64 0] 40) = w1
  obtain ⟨HS, HB, o0, o1, o2, R1, R2⟩ := step_start hw1
  clear hw1
  refine (rstep_walk ⟨9, N, X⟩ _).mono ?_
  rw [HI.out]
  rintro e w2 ⟨rfl, hB⟩
  rw [← hB.cell (p := ⟨w.heap.size, 0, none⟩) (cell_lt o0)] at o0
  rw [← hB.cell (p := ⟨w.heap.size, 1, none⟩) (cell_lt o1)] at o1
  rw [← hB.cell (p := ⟨w.heap.size, 2, none⟩) (cell_lt o2)] at o2
  obtain ⟨c0, c1, z0, z1⟩ := R1.below hB (cell_lt R1.c0)
  obtain ⟨d0, d1, y0, y1⟩ := R2.below hB (cell_lt R2.c0)
  have HB2 : Hid (Below w.heap.size w w2) := below_trans HB.out hB
  clear hB R1 R2
  go_wp2_with fail
  refine (rcanon_walk HX.out _).mono ?_
  rintro e w' ⟨rfl, rfl⟩
  go_wp2_with fail
  refine bodyPost_ret (v := .tuple #[.agg #[.int .u64 0, .float .f64 0], .int .i64 3]) (by simp [results, Try.results50, go_sem, c0, c1, z0, z1, d0, d1, y0, y1]) rfl ⟨rfl, ?_⟩
  exact ((below_trans HB2.out (below_drewN _ 1)).setCell (p := ⟨w.heap.size + 1 + 1, 0, none⟩) (by simp only; omega) _).setCell (p := ⟨w.heap.size + 1 + 1, 1, none⟩) (by simp only; omega) _

set_option linter.unusedSimpArgs false in
set_option linter.unusedVariables false in
set_option maxRecDepth 100000 in
theorem rone_10_keep (N : Int) (X : Nat) (k : Nat) {x : Nat} (hx : x < 18446744073709551616) (hb : isB ⟨10, N, X⟩ = true) (h : ¬ wholeI (canonW x) = 0) (w : World) :
    Calls Try.prog 50 #[.agg #[.int .i64 10, .int .i64 N, .float .f64 X], .agg #[.int .u64 k, .float .f64 x]] w fun e w' =>
      e = .returned (.tuple #[.agg #[.int .u64 k, .float .f64 (canonW (ofW (perI N (wholeI (canonW x)))))], .int .i64 1]) ∧ Below w.heap.size w w' := by
  have HX : Hid (x < 18446744073709551616) := hx
  have HC : Hid (canonW x < 18446744073709551616) := canon_lt hx
  have HI : Hid (isB ⟨10, N, X⟩ = true) := hb
  have b0 : (wholeI (canonW x) == 0) = false := by simpa using h
  have HH : Hid (¬ wholeI (canonW x) = 0) := h
  clear h
  clear hx hb
  go_enter Try.func50, Try.ntmps50
  go_wp2_with fail
  generalize hw1 : ((w.alloc (Obj.cells #[Value.int IntKind.i64 10, Value.int IntKind.i64 N, Value.float FloatKind.f64 X] 55)).alloc (Obj.cells #[Value.int IntKind.u64 k, Value.float FloatKind.f64 x] 40)).alloc (Obj.cells #[Value.int IntKind.u64 0, Value.float FloatKind.f64 0] 40) = w1
  obtain ⟨HS, HB, o0, o1, o2, R1, R2⟩ := step_start hw1
  clear hw1
  refine (rstep_walk ⟨10, N, X⟩ _).mono ?_
  rw [HI.out]
  rintro e w2 ⟨rfl, hB⟩
  rw [← hB.cell (p := ⟨w.heap.size, 0, none⟩) (cell_lt o0)] at o0
  rw [← hB.cell (p := ⟨w.heap.size, 1, none⟩) (cell_lt o1)] at o1
  rw [← hB.cell (p := ⟨w.heap.size, 2, none⟩) (cell_lt o2)] at o2
  obtain ⟨c0, c1, z0, z1⟩ := R1.below hB (cell_lt R1.c0)
  obtain ⟨d0, d1, y0, y1⟩ := R2.below hB (cell_lt R2.c0)
  have HB2 : Hid (Below w.heap.size w w2) := below_trans HB.out hB
  clear hB R1 R2
  go_wp2_with fail
  refine (rcanon_walk HX.out _).mono ?_
  rintro e w' ⟨rfl, rfl⟩
  go_wp2_with fail
  refine (rwhole_walk HC.out _).mono ?_
  rintro e w' ⟨rfl, rfl⟩
  go_wp2_with fail
  refine (rper_walk HH.out _).mono ?_
  rintro e w' ⟨rfl, rfl⟩
  go_wp2_with fail
  refine (rof_walk _ _).mono ?_
  rintro e w' ⟨rfl, rfl⟩
  go_wp2_with fail
  refine (rcanon_walk (of_lt _) _).mono ?_
  rintro e w' ⟨rfl, rfl⟩
  go_wp2_with fail
  refine bodyPost_ret (v := .tuple #[.agg #[.int .u64 k, .float .f64 (canonW (ofW (perI N (wholeI (canonW x)))))], .int .i64 1]) (by simp [results, Try.results50, go_sem, c0, c1, z0, z1, d0, d1, y0, y1]) rfl ⟨rfl, ?_⟩
  exact (HB2.out.setCell (p := ⟨w.heap.size + 1 + 1, 0, none⟩) (by simp only; omega) _).setCell (p := ⟨w.heap.size + 1 + 1, 1, none⟩) (by simp only; omega) _

set_option linter.unusedSimpArgs false in
set_option linter.unusedVariables false in
set_option maxRecDepth 100000 in
theorem rone_10_trap (N : Int) (X : Nat) (k : Nat) {x : Nat} (hx : x < 18446744073709551616) (hb : isB ⟨10, N, X⟩ = true) (h : wholeI (canonW x) = 0) (w : World) :
    Calls Try.prog 50 #[.agg #[.int .i64 10, .int .i64 N, .float .f64 X], .agg #[.int .u64 k, .float .f64 x]] w fun e w' =>
      e = .returned (.tuple #[.agg #[.int .u64 0, .float .f64 0], .int .i64 3]) ∧ Below w.heap.size w w' := by
  have HX : Hid (x < 18446744073709551616) := hx
  have HC : Hid (canonW x < 18446744073709551616) := canon_lt hx
  have HI : Hid (isB ⟨10, N, X⟩ = true) := hb
  have HH : Hid (wholeI (canonW x) = 0) := h
  clear h
  clear hx hb
  go_enter Try.func50, Try.ntmps50
  go_wp2_with fail
  generalize hw1 : ((w.alloc (Obj.cells #[Value.int IntKind.i64 10, Value.int IntKind.i64 N, Value.float FloatKind.f64 X] 55)).alloc (Obj.cells #[Value.int IntKind.u64 k, Value.float FloatKind.f64 x] 40)).alloc (Obj.cells #[Value.int IntKind.u64 0, Value.float FloatKind.f64 0] 40) = w1
  obtain ⟨HS, HB, o0, o1, o2, R1, R2⟩ := step_start hw1
  clear hw1
  refine (rstep_walk ⟨10, N, X⟩ _).mono ?_
  rw [HI.out]
  rintro e w2 ⟨rfl, hB⟩
  rw [← hB.cell (p := ⟨w.heap.size, 0, none⟩) (cell_lt o0)] at o0
  rw [← hB.cell (p := ⟨w.heap.size, 1, none⟩) (cell_lt o1)] at o1
  rw [← hB.cell (p := ⟨w.heap.size, 2, none⟩) (cell_lt o2)] at o2
  obtain ⟨c0, c1, z0, z1⟩ := R1.below hB (cell_lt R1.c0)
  obtain ⟨d0, d1, y0, y1⟩ := R2.below hB (cell_lt R2.c0)
  have HB2 : Hid (Below w.heap.size w w2) := below_trans HB.out hB
  clear hB R1 R2
  go_wp2_with fail
  refine (rcanon_walk HX.out _).mono ?_
  rintro e w' ⟨rfl, rfl⟩
  go_wp2_with fail
  refine (rwhole_walk HC.out _).mono ?_
  rw [HH.out]
  rintro e w' ⟨rfl, rfl⟩
  go_wp2_with fail
  refine bodyPost_ret (v := .tuple #[.agg #[.int .u64 0, .float .f64 0], .int .i64 3]) (by simp [results, Try.results50, go_sem, c0, c1, z0, z1, d0, d1, y0, y1]) rfl ⟨rfl, ?_⟩
  exact (HB2.out.setCell (p := ⟨w.heap.size + 1 + 1, 0, none⟩) (by simp only; omega) _).setCell (p := ⟨w.heap.size + 1 + 1, 1, none⟩) (by simp only; omega) _

set_option linter.unusedSimpArgs false in
set_option linter.unusedVariables false in
set_option maxRecDepth 100000 in
theorem rone_11 (N : Int) (X : Nat) (k : Nat) {x : Nat} (hx : x < 18446744073709551616) (hb : isB ⟨11, N, X⟩ = true) (n1 : 1 ≤ N) (n2 : N < 9223372036854775808) (w : World) :
    Calls Try.prog 50 #[.agg #[.int .i64 11, .int .i64 N, .float .f64 X], .agg #[.int .u64 k, .float .f64 x]] w fun e w' =>
      e = .returned (.tuple #[.agg #[.int .u64 ((k % N.toNat : Nat) : Int), .float .f64 (canonW x)], .int .i64 1]) ∧ Below w.heap.size w w' := by
  have HX : Hid (x < 18446744073709551616) := hx
  have HC : Hid (canonW x < 18446744073709551616) := canon_lt hx
  have HI : Hid (isB ⟨11, N, X⟩ = true) := hb
  have hcc := canon_canon x
  have HE : Hid (((k % N.toNat : Nat) : Int) = (k : Int) % N) := by
    show _ = _
    rw [Int.natCast_emod, Int.toNat_of_nonneg (by omega)]
  have e1 : IntKind.u64.wrap N = N := by simp [IntKind.wrap_u64]; omega
  have e2 : ¬ N = 0 := by omega
  clear hx hb
  go_enter Try.func50, Try.ntmps50
  go_wp2_with fail
  generalize hw1 : ((w.alloc (Obj.cells #[Value.int IntKind.i64 11, Value.int IntKind.i64 N, Value.float FloatKind.f64 X] 55)).alloc (Obj.cells #[Value.int IntKind.u64 k, Value.float FloatKind.f64 x] 40)).alloc (Obj.cells #[Value.int IntKind.u64 0, Value.float FloatKind.f64 0] 40) = w1
  obtain ⟨HS, HB, o0, o1, o2, R1, R2⟩ := step_start hw1
  clear hw1
  refine (rstep_walk ⟨11, N, X⟩ _).mono ?_
  rw [HI.out]
  rintro e w2 ⟨rfl, hB⟩
  rw [← hB.cell (p := ⟨w.heap.size, 0, none⟩) (cell_lt o0)] at o0
  rw [← hB.cell (p := ⟨w.heap.size, 1, none⟩) (cell_lt o1)] at o1
  rw [← hB.cell (p := ⟨w.heap.size, 2, none⟩) (cell_lt o2)] at o2
  obtain ⟨c0, c1, z0, z1⟩ := R1.below hB (cell_lt R1.c0)
  obtain ⟨d0, d1, y0, y1⟩ := R2.below hB (cell_lt R2.c0)
  have HB2 : Hid (Below w.heap.size w w2) := below_trans HB.out hB
  clear hB R1 R2
  go_wp2_with fail
  refine (rcanon_walk HX.out _).mono ?_
  rintro e w' ⟨rfl, rfl⟩
  go_wp2_with fail
  refine (rcanon_walk HC.out _).mono ?_
  rintro e w' ⟨rfl, rfl⟩
  go_wp2_with fail
  refine bodyPost_ret (v := .tuple #[.agg #[.int .u64 ((k : Int) % N), .float .f64 (canonW x)], .int .i64 1]) (by simp [results, Try.results50, go_sem, c0, c1, z0, z1, d0, d1, y0, y1]) rfl ⟨by rw [HE.out], ?_⟩
  exact (HB2.out.setCell (p := ⟨w.heap.size + 1 + 1, 0, none⟩) (by simp only; omega) _).setCell (p := ⟨w.heap.size + 1 + 1, 1, none⟩) (by simp only; omega) _

set_option linter.unusedSimpArgs false in
set_option linter.unusedVariables false in
set_option maxRecDepth 100000 in
theorem rone_12 (N : Int) (X : Nat) (k : Nat) {x : Nat} (hx : x < 18446744073709551616) (hb : isB ⟨12, N, X⟩ = true) (w : World) :
    Calls Try.prog 50 #[.agg #[.int .i64 12, .int .i64 N, .float .f64 X], .agg #[.int .u64 k, .float .f64 x]] w fun e w' =>
      e = .returned (.tuple #[.agg #[.int .u64 ((k % 4611686018427387904 * 4 + sideN (canonW x) : Nat) : Int), .float .f64 (canonW x)], .int .i64 1]) ∧ Below w.heap.size w w' := by
  have HX : Hid (x < 18446744073709551616) := hx
  have HC : Hid (canonW x < 18446744073709551616) := canon_lt hx
  have HI : Hid (isB ⟨12, N, X⟩ = true) := hb
  have hcc := canon_canon x
  have HE : Hid (((k % 4611686018427387904 * 4 + sideN (canonW x) : Nat) : Int) = IntKind.u64.wrap ((k : Int) % 4611686018427387904 * 4 + (sideN (canonW x) : Int))) := by
    have h1 := side_lt (canonW x)
    have h2 := Nat.mod_lt k (show 4611686018427387904 > 0 by omega)
    show _ = _
    rw [IntKind.wrap_u64]; omega
  clear hx hb
  go_enter Try.func50, Try.ntmps50
  go_wp2_with fail
  generalize hw1 : ((w.alloc (Obj.cells #[Value.int IntKind.i64 12, Value.int IntKind.i64 N, Value.float FloatKind.f64 X] 55)).alloc (Obj.cells #[Value.int IntKind.u64 k, Value.float FloatKind.f64 x] 40)).alloc (Obj.cells #[Value.int IntKind.u64 0, Value.float FloatKind.f64 0] 40) = w1
  obtain ⟨HS, HB, o0, o1, o2, R1, R2⟩ := step_start hw1
  clear hw1
  refine (rstep_walk ⟨12, N, X⟩ _).mono ?_
  rw [HI.out]
  rintro e w2 ⟨rfl, hB⟩
  rw [← hB.cell (p := ⟨w.heap.size, 0, none⟩) (cell_lt o0)] at o0
  rw [← hB.cell (p := ⟨w.heap.size, 1, none⟩) (cell_lt o1)] at o1
  rw [← hB.cell (p := ⟨w.heap.size, 2, none⟩) (cell_lt o2)] at o2
  obtain ⟨c0, c1, z0, z1⟩ := R1.below hB (cell_lt R1.c0)
  obtain ⟨d0, d1, y0, y1⟩ := R2.below hB (cell_lt R2.c0)
  have HB2 : Hid (Below w.heap.size w w2) := below_trans HB.out hB
  clear hB R1 R2
  go_wp2_with fail
  refine (rcanon_walk HX.out _).mono ?_
  rintro e w' ⟨rfl, rfl⟩
  go_wp2_with fail
  refine (rside_walk HC.out _).mono ?_
  rintro e w' ⟨rfl, rfl⟩
  go_wp2_with fail
  refine (rcanon_walk HC.out _).mono ?_
  rintro e w' ⟨rfl, rfl⟩
  go_wp2_with fail
  refine bodyPost_ret (v := .tuple #[.agg #[.int .u64 (IntKind.u64.wrap ((k : Int) % 4611686018427387904 * 4 + (sideN (canonW x) : Int))), .float .f64 (canonW x)], .int .i64 1]) (by simp [results, Try.results50, go_sem, c0, c1, z0, z1, d0, d1, y0, y1]) rfl ⟨by rw [HE.out], ?_⟩
  exact (HB2.out.setCell (p := ⟨w.heap.size + 1 + 1, 0, none⟩) (by simp only; omega) _).setCell (p := ⟨w.heap.size + 1 + 1, 1, none⟩) (by simp only; omega) _
end Go.Proofs.Ytjkhegekojflhab
