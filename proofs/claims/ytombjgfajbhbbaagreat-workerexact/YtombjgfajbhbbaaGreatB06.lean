/- A step whatever its kind: kept, dropped, trapped. Slices of steps. -/
import Derived.Test.YtombjgfajbhbbaaGreatB05
set_option maxRecDepth 100000
set_option maxHeartbeats 16000000
namespace Go.Proofs.YtombjgfajbhbbaaGreat
open Go.RowKit
section
open Ieee Go.RowKit

attribute [local go_sem] run_store_float
theorem class_nan' (x : Nat) : classI x = 5 ↔ nanB x = true := by
 unfold classI
 cases h : nanB x
 ·simp only [Bool.false_eq_true, if_false, iff_false]
  split <;> (try split) <;> (try split) <;> omega
 ·simp
structure RB (w : World) (b : Nat) (k : Nat) (x : Nat) : Prop where
 c0 : w.cell? ⟨b, 0, none⟩ = some (.int .u64 k)
 c1 : w.cell? ⟨b, 1, none⟩ = some (.float .f64 x)
 z0 : w.frozen? ⟨b, 0, none⟩ = false
 z1 : w.frozen? ⟨b, 1, none⟩ = false
theorem RB.below {w w' : World} {b k x B : Nat} (h : RB w b k x) (hb : Below B w w') (hl : b < B) : RB w' b k x :=
 ⟨by rw [hb.cell (p := ⟨b, 0, none⟩) hl]; exact h.c0, by rw [hb.cell (p := ⟨b, 1, none⟩) hl]; exact h.c1, by rw [hb.frozen (p := ⟨b, 0, none⟩) hl]; exact h.z0, by rw [hb.frozen (p := ⟨b, 1, none⟩) hl]; exact h.z1⟩
theorem step_start {w w1 : World} {K N : Int} {X k x : Nat}
  (h : ((w.alloc (Obj.cells #[Value.int IntKind.i64 K, Value.int IntKind.i64 N, Value.float FloatKind.f64 X] 80)).alloc (Obj.cells #[Value.int IntKind.u64 k, Value.float FloatKind.f64 x] 43)).alloc (Obj.cells #[Value.int IntKind.u64 0, Value.float FloatKind.f64 0] 43) = w1) :
  Hid (w1.heap.size = w.heap.size + 1 + 1 + 1) ∧ Hid (Below w.heap.size w w1) ∧ w1.cell? ⟨w.heap.size, 0, none⟩ = some (.int .i64 K) ∧ w1.cell? ⟨w.heap.size, 1, none⟩ = some (.int .i64 N) ∧ w1.cell? ⟨w.heap.size, 2, none⟩ = some (.float .f64 X) ∧
   RB w1 (w.heap.size + 1) k x ∧ RB w1 (w.heap.size + 1 + 1) 0 0 := by
 subst h;refine ⟨by simp [Hid, go_sem], ?_, ?_, ?_, ?_, ⟨?_, ?_, ?_, ?_⟩, ⟨?_, ?_, ?_, ?_⟩⟩
 ·exact ((below_alloc _ _).alloc (by simp [go_sem]) _).alloc (by simp [go_sem]; omega) _
 all_goals simp [go_sem]
set_option linter.unusedSimpArgs false in
theorem step_1 (N : Int) (X : Nat) (k : Nat) {x : Nat} (w : World) :
  Calls Tryz.prog 109 #[.agg #[.int .i64 1, .int .i64 N, .float .f64 X], .agg #[.int .u64 k, .float .f64 x]] w fun e w' => e = .returned (.tuple #[.agg #[.int .u64 k, .float .f64 x], .bool (ltB x X)]) ∧ Below w.heap.size w w' := by
 go_in;go_wp2_with fail;generalize hw1 : ((w.alloc (Obj.cells #[Value.int IntKind.i64 1, Value.int IntKind.i64 N, Value.float FloatKind.f64 X] 80)).alloc (Obj.cells #[Value.int IntKind.u64 k, Value.float FloatKind.f64 x] 43)).alloc (Obj.cells #[Value.int IntKind.u64 0, Value.float FloatKind.f64 0] 43) = w1;obtain ⟨HS, HB, o0, o1, o2, R1, R2⟩ := step_start hw1;clear hw1;obtain ⟨c0, c1, z0, z1⟩ := R1;obtain ⟨d0, d1, y0, y1⟩ := R2;go_region;go_wp2_with fail;refine bodyPost_ret (v := .tuple #[.agg #[.int .u64 k, .float .f64 x], .bool (ltB x X)]) (by simp [results, Tryz.results109, go_sem, Act.put, c0, c1, z0, z1, d0, d1, y0, y1, ltB, gtB]) rfl ⟨rfl, ?_⟩;exact ((HB.out.setCell (p := ⟨w.heap.size + 1 + 1, 0, none⟩) (by simp only; omega) _).setCell (p := ⟨w.heap.size + 1 + 1, 1, none⟩) (by simp only; omega) _).drew
set_option linter.unusedSimpArgs false in
theorem step_2 (N : Int) (X : Nat) (k : Nat) {x : Nat} (w : World) :
  Calls Tryz.prog 109 #[.agg #[.int .i64 2, .int .i64 N, .float .f64 X], .agg #[.int .u64 k, .float .f64 x]] w fun e w' => e = .returned (.tuple #[.agg #[.int .u64 k, .float .f64 x], .bool (gtB x X)]) ∧ Below w.heap.size w w' := by
 go_in;go_wp2_with fail;generalize hw1 : ((w.alloc (Obj.cells #[Value.int IntKind.i64 2, Value.int IntKind.i64 N, Value.float FloatKind.f64 X] 80)).alloc (Obj.cells #[Value.int IntKind.u64 k, Value.float FloatKind.f64 x] 43)).alloc (Obj.cells #[Value.int IntKind.u64 0, Value.float FloatKind.f64 0] 43) = w1;obtain ⟨HS, HB, o0, o1, o2, R1, R2⟩ := step_start hw1;clear hw1;obtain ⟨c0, c1, z0, z1⟩ := R1;obtain ⟨d0, d1, y0, y1⟩ := R2;go_region;go_wp2_with fail;refine bodyPost_ret (v := .tuple #[.agg #[.int .u64 k, .float .f64 x], .bool (gtB x X)]) (by simp [results, Tryz.results109, go_sem, Act.put, c0, c1, z0, z1, d0, d1, y0, y1, ltB, gtB]) rfl ⟨rfl, ?_⟩;exact ((HB.out.setCell (p := ⟨w.heap.size + 1 + 1, 0, none⟩) (by simp only; omega) _).setCell (p := ⟨w.heap.size + 1 + 1, 1, none⟩) (by simp only; omega) _).drew
set_option linter.unusedSimpArgs false in
theorem step_3 (N : Int) (X : Nat) (k : Nat) {x : Nat} (hx : x < 18446744073709551616) (w : World) :
  Calls Tryz.prog 109 #[.agg #[.int .i64 3, .int .i64 N, .float .f64 X], .agg #[.int .u64 k, .float .f64 x]] w fun e w' => e = .returned (.tuple #[.agg #[.int .u64 k, .float .f64 x], .bool (!nanB x)]) ∧ Below w.heap.size w w' := by
 have h5 : (classI x != 5) = !nanB x := by
  have := class_nan' x
  cases h : nanB x
  ·rw [h] at this; simp at this; simpa using this
  ·rw [h] at this; simp at this; simpa using this
 go_in;go_wp2_with fail;generalize hw1 : ((w.alloc (Obj.cells #[Value.int IntKind.i64 3, Value.int IntKind.i64 N, Value.float FloatKind.f64 X] 80)).alloc (Obj.cells #[Value.int IntKind.u64 k, Value.float FloatKind.f64 x] 43)).alloc (Obj.cells #[Value.int IntKind.u64 0, Value.float FloatKind.f64 0] 43) = w1;obtain ⟨HS, HB, o0, o1, o2, R1, R2⟩ := step_start hw1;clear hw1;obtain ⟨c0, c1, z0, z1⟩ := R1;obtain ⟨d0, d1, y0, y1⟩ := R2;go_region_with ((go_at_call 131; refine (class_walk hx _).mono ?_; rintro e w' ⟨rfl, rfl⟩))
 all_goals
  go_wp2_with fail;refine bodyPost_ret (v := .tuple #[.agg #[.int .u64 k, .float .f64 x], .bool (!nanB x)]) (by simp [results, Tryz.results109, go_sem, Act.put, c0, c1, z0, z1, d0, d1, y0, y1, ltB, gtB]) rfl ⟨rfl, ?_⟩;exact ((HB.out.setCell (p := ⟨w.heap.size + 1 + 1, 0, none⟩) (by simp only; omega) _).setCell (p := ⟨w.heap.size + 1 + 1, 1, none⟩) (by simp only; omega) _).drew
set_option linter.unusedSimpArgs false in
theorem step_4 (N : Int) (X : Nat) (k : Nat) {x : Nat} (hx : x < 18446744073709551616) (w : World) :
  Calls Tryz.prog 109 #[.agg #[.int .i64 4, .int .i64 N, .float .f64 X], .agg #[.int .u64 k, .float .f64 x]] w fun e w' => e = .returned (.tuple #[.agg #[.int .u64 k, .float .f64 (canonW (negW x))], .bool true]) ∧ Below w.heap.size w w' := by
 go_in;go_wp2_with fail;generalize hw1 : ((w.alloc (Obj.cells #[Value.int IntKind.i64 4, Value.int IntKind.i64 N, Value.float FloatKind.f64 X] 80)).alloc (Obj.cells #[Value.int IntKind.u64 k, Value.float FloatKind.f64 x] 43)).alloc (Obj.cells #[Value.int IntKind.u64 0, Value.float FloatKind.f64 0] 43) = w1;obtain ⟨HS, HB, o0, o1, o2, R1, R2⟩ := step_start hw1;clear hw1;obtain ⟨c0, c1, z0, z1⟩ := R1;obtain ⟨d0, d1, y0, y1⟩ := R2;refine (turn_neg N X hx _).mono ?_;rintro e w2 ⟨y, rfl, hy, hyc, hB⟩;have hl : w.heap.size + 1 + 1 < w1.heap.size := by rw [HS.out]; omega
 obtain ⟨c0, c1, z0, z1⟩ := (RB.mk c0 c1 z0 z1).below hB (by omega);obtain ⟨d0, d1, y0, y1⟩ := (RB.mk d0 d1 y0 y1).below hB hl;have HB2 := hidH (below_trans HB.out hB);clear hB;go_wp2_with fail;refine (canon_walk hy _).mono ?_;rintro e w' ⟨rfl, rfl⟩;go_wp2_with fail;refine bodyPost_ret (v := .tuple #[.agg #[.int .u64 k, .float .f64 (canonW (negW x))], .bool true]) (by simp [results, Tryz.results109, go_sem, Act.put, c0, c1, z0, z1, d0, d1, y0, y1, ltB, gtB]) rfl ⟨rfl, ?_⟩;exact ((HB2.out.setCell (p := ⟨w.heap.size + 1, 1, none⟩) (by simp only; omega) _).setCell (p := ⟨w.heap.size + 1 + 1, 0, none⟩) (by simp only; omega) _).setCell (p := ⟨w.heap.size + 1 + 1, 1, none⟩) (by simp only; omega) _
set_option linter.unusedSimpArgs false in
theorem step_5 (N : Int) (X : Nat) (k : Nat) {x : Nat} (hx : x < 18446744073709551616) (w : World) :
  Calls Tryz.prog 109 #[.agg #[.int .i64 5, .int .i64 N, .float .f64 X], .agg #[.int .u64 k, .float .f64 x]] w fun e w' => e = .returned (.tuple #[.agg #[.int .u64 k, .float .f64 (canonW (rung x))], .bool true]) ∧ Below w.heap.size w w' := by
 go_in;go_wp2_with fail;generalize hw1 : ((w.alloc (Obj.cells #[Value.int IntKind.i64 5, Value.int IntKind.i64 N, Value.float FloatKind.f64 X] 80)).alloc (Obj.cells #[Value.int IntKind.u64 k, Value.float FloatKind.f64 x] 43)).alloc (Obj.cells #[Value.int IntKind.u64 0, Value.float FloatKind.f64 0] 43) = w1;obtain ⟨HS, HB, o0, o1, o2, R1, R2⟩ := step_start hw1;clear hw1;obtain ⟨c0, c1, z0, z1⟩ := R1;obtain ⟨d0, d1, y0, y1⟩ := R2;refine (turn_abs N X hx _).mono ?_;rintro e w2 ⟨y, rfl, hy, hyc, hB⟩;have hl : w.heap.size + 1 + 1 < w1.heap.size := by rw [HS.out]; omega
 obtain ⟨c0, c1, z0, z1⟩ := (RB.mk c0 c1 z0 z1).below hB (by omega);obtain ⟨d0, d1, y0, y1⟩ := (RB.mk d0 d1 y0 y1).below hB hl;have HB2 := hidH (below_trans HB.out hB);clear hB;go_wp2_with fail;refine (canon_walk hy _).mono ?_;rintro e w' ⟨rfl, rfl⟩;go_wp2_with fail;refine bodyPost_ret (v := .tuple #[.agg #[.int .u64 k, .float .f64 (canonW (rung x))], .bool true]) (by simp [results, Tryz.results109, go_sem, Act.put, c0, c1, z0, z1, d0, d1, y0, y1, ltB, gtB]) rfl ⟨rfl, ?_⟩;exact ((HB2.out.setCell (p := ⟨w.heap.size + 1, 1, none⟩) (by simp only; omega) _).setCell (p := ⟨w.heap.size + 1 + 1, 0, none⟩) (by simp only; omega) _).setCell (p := ⟨w.heap.size + 1 + 1, 1, none⟩) (by simp only; omega) _
set_option linter.unusedSimpArgs false in
theorem step_6 (N : Int) (X : Nat) (k : Nat) {x : Nat} (hx : x < 18446744073709551616) (w : World) :
  Calls Tryz.prog 109 #[.agg #[.int .i64 6, .int .i64 N, .float .f64 X], .agg #[.int .u64 k, .float .f64 x]] w fun e w' => e = .returned (.tuple #[.agg #[.int .u64 k, .float .f64 (canonW (floorW x))], .bool true]) ∧ Below w.heap.size w w' := by
 go_in;go_wp2_with fail;generalize hw1 : ((w.alloc (Obj.cells #[Value.int IntKind.i64 6, Value.int IntKind.i64 N, Value.float FloatKind.f64 X] 80)).alloc (Obj.cells #[Value.int IntKind.u64 k, Value.float FloatKind.f64 x] 43)).alloc (Obj.cells #[Value.int IntKind.u64 0, Value.float FloatKind.f64 0] 43) = w1;obtain ⟨HS, HB, o0, o1, o2, R1, R2⟩ := step_start hw1;clear hw1;obtain ⟨c0, c1, z0, z1⟩ := R1;obtain ⟨d0, d1, y0, y1⟩ := R2;refine (turn_floor N X hx _).mono ?_;rintro e w2 ⟨y, rfl, hy, hyc, hB⟩;have hl : w.heap.size + 1 + 1 < w1.heap.size := by rw [HS.out]; omega
 obtain ⟨c0, c1, z0, z1⟩ := (RB.mk c0 c1 z0 z1).below hB (by omega);obtain ⟨d0, d1, y0, y1⟩ := (RB.mk d0 d1 y0 y1).below hB hl;have HB2 := hidH (below_trans HB.out hB);clear hB;go_wp2_with fail;refine (canon_walk hy _).mono ?_;rintro e w' ⟨rfl, rfl⟩;go_wp2_with fail;refine bodyPost_ret (v := .tuple #[.agg #[.int .u64 k, .float .f64 (canonW (floorW x))], .bool true]) (by simp [results, Tryz.results109, go_sem, Act.put, c0, c1, z0, z1, d0, d1, y0, y1, ltB, gtB]) rfl ⟨rfl, ?_⟩;exact ((HB2.out.setCell (p := ⟨w.heap.size + 1, 1, none⟩) (by simp only; omega) _).setCell (p := ⟨w.heap.size + 1 + 1, 0, none⟩) (by simp only; omega) _).setCell (p := ⟨w.heap.size + 1 + 1, 1, none⟩) (by simp only; omega) _
set_option linter.unusedSimpArgs false in
theorem step_7 (N : Int) (X : Nat) (k : Nat) {x : Nat} (hx : x < 18446744073709551616) (w : World) :
  Calls Tryz.prog 109 #[.agg #[.int .i64 7, .int .i64 N, .float .f64 X], .agg #[.int .u64 k, .float .f64 x]] w fun e w' => e = .returned (.tuple #[.agg #[.int .u64 k, .float .f64 (canonW (scaleR x N))], .bool true]) ∧ Below w.heap.size w w' := by
 go_in;go_wp2_with fail;generalize hw1 : ((w.alloc (Obj.cells #[Value.int IntKind.i64 7, Value.int IntKind.i64 N, Value.float FloatKind.f64 X] 80)).alloc (Obj.cells #[Value.int IntKind.u64 k, Value.float FloatKind.f64 x] 43)).alloc (Obj.cells #[Value.int IntKind.u64 0, Value.float FloatKind.f64 0] 43) = w1;obtain ⟨HS, HB, o0, o1, o2, R1, R2⟩ := step_start hw1;clear hw1;obtain ⟨c0, c1, z0, z1⟩ := R1;obtain ⟨d0, d1, y0, y1⟩ := R2;refine (turn_scale N X hx _).mono ?_;rintro e w2 ⟨y, rfl, hy, hyc, hB⟩;have hl : w.heap.size + 1 + 1 < w1.heap.size := by rw [HS.out]; omega
 obtain ⟨c0, c1, z0, z1⟩ := (RB.mk c0 c1 z0 z1).below hB (by omega);obtain ⟨d0, d1, y0, y1⟩ := (RB.mk d0 d1 y0 y1).below hB hl;have HB2 := hidH (below_trans HB.out hB);clear hB;go_wp2_with fail;refine (canon_walk hy _).mono ?_;rintro e w' ⟨rfl, rfl⟩;go_wp2_with fail;refine bodyPost_ret (v := .tuple #[.agg #[.int .u64 k, .float .f64 (canonW (scaleR x N))], .bool true]) (by simp [results, Tryz.results109, go_sem, Act.put, c0, c1, z0, z1, d0, d1, y0, y1, ltB, gtB]) rfl ⟨rfl, ?_⟩;exact ((HB2.out.setCell (p := ⟨w.heap.size + 1, 1, none⟩) (by simp only; omega) _).setCell (p := ⟨w.heap.size + 1 + 1, 0, none⟩) (by simp only; omega) _).setCell (p := ⟨w.heap.size + 1 + 1, 1, none⟩) (by simp only; omega) _
set_option linter.unusedSimpArgs false in
theorem step_8 (N : Int) (X : Nat) (k : Nat) {x : Nat} (hx : x < 18446744073709551616) (w : World) :
  Calls Tryz.prog 109 #[.agg #[.int .i64 8, .int .i64 N, .float .f64 X], .agg #[.int .u64 k, .float .f64 x]] w fun e w' => e = .returned (.tuple #[.agg #[.int .u64 k, .float .f64 (canonW (invW x))], .bool true]) ∧ Below w.heap.size w w' := by
 go_in;go_wp2_with fail;generalize hw1 : ((w.alloc (Obj.cells #[Value.int IntKind.i64 8, Value.int IntKind.i64 N, Value.float FloatKind.f64 X] 80)).alloc (Obj.cells #[Value.int IntKind.u64 k, Value.float FloatKind.f64 x] 43)).alloc (Obj.cells #[Value.int IntKind.u64 0, Value.float FloatKind.f64 0] 43) = w1;obtain ⟨HS, HB, o0, o1, o2, R1, R2⟩ := step_start hw1;clear hw1;obtain ⟨c0, c1, z0, z1⟩ := R1;obtain ⟨d0, d1, y0, y1⟩ := R2;refine (turn_inv N X hx _).mono ?_;rintro e w2 ⟨y, rfl, hy, hyc, hB⟩;have hl : w.heap.size + 1 + 1 < w1.heap.size := by rw [HS.out]; omega
 obtain ⟨c0, c1, z0, z1⟩ := (RB.mk c0 c1 z0 z1).below hB (by omega);obtain ⟨d0, d1, y0, y1⟩ := (RB.mk d0 d1 y0 y1).below hB hl;have HB2 := hidH (below_trans HB.out hB);clear hB;go_wp2_with fail;refine (canon_walk hy _).mono ?_;rintro e w' ⟨rfl, rfl⟩;go_wp2_with fail;refine bodyPost_ret (v := .tuple #[.agg #[.int .u64 k, .float .f64 (canonW (invW x))], .bool true]) (by simp [results, Tryz.results109, go_sem, Act.put, c0, c1, z0, z1, d0, d1, y0, y1, ltB, gtB]) rfl ⟨rfl, ?_⟩;exact ((HB2.out.setCell (p := ⟨w.heap.size + 1, 1, none⟩) (by simp only; omega) _).setCell (p := ⟨w.heap.size + 1 + 1, 0, none⟩) (by simp only; omega) _).setCell (p := ⟨w.heap.size + 1 + 1, 1, none⟩) (by simp only; omega) _
set_option linter.unusedSimpArgs false in
theorem step_10 (N : Int) (X : Nat) (k : Nat) {x : Nat} (hx : x < 18446744073709551616) (h0 : ¬ wholeI x = 0) (w : World) :
  Calls Tryz.prog 109 #[.agg #[.int .i64 10, .int .i64 N, .float .f64 X], .agg #[.int .u64 k, .float .f64 x]] w fun e w' => e = .returned (.tuple #[.agg #[.int .u64 k, .float .f64 (canonW (ofW (perI N (wholeI x))))], .bool true]) ∧ Below w.heap.size w w' := by
 go_in;go_wp2_with fail;generalize hw1 : ((w.alloc (Obj.cells #[Value.int IntKind.i64 10, Value.int IntKind.i64 N, Value.float FloatKind.f64 X] 80)).alloc (Obj.cells #[Value.int IntKind.u64 k, Value.float FloatKind.f64 x] 43)).alloc (Obj.cells #[Value.int IntKind.u64 0, Value.float FloatKind.f64 0] 43) = w1;obtain ⟨HS, HB, o0, o1, o2, R1, R2⟩ := step_start hw1;clear hw1;obtain ⟨c0, c1, z0, z1⟩ := R1;obtain ⟨d0, d1, y0, y1⟩ := R2;refine (turn_per N X hx h0 _).mono ?_;rintro e w2 ⟨y, rfl, hy, hyc, hB⟩;have hl : w.heap.size + 1 + 1 < w1.heap.size := by rw [HS.out]; omega
 obtain ⟨c0, c1, z0, z1⟩ := (RB.mk c0 c1 z0 z1).below hB (by omega);obtain ⟨d0, d1, y0, y1⟩ := (RB.mk d0 d1 y0 y1).below hB hl;have HB2 := hidH (below_trans HB.out hB);clear hB;go_wp2_with fail;refine (canon_walk hy _).mono ?_;rintro e w' ⟨rfl, rfl⟩;go_wp2_with fail;refine bodyPost_ret (v := .tuple #[.agg #[.int .u64 k, .float .f64 (canonW (ofW (perI N (wholeI x))))], .bool true]) (by simp [results, Tryz.results109, go_sem, Act.put, c0, c1, z0, z1, d0, d1, y0, y1, ltB, gtB]) rfl ⟨rfl, ?_⟩;exact ((HB2.out.setCell (p := ⟨w.heap.size + 1, 1, none⟩) (by simp only; omega) _).setCell (p := ⟨w.heap.size + 1 + 1, 0, none⟩) (by simp only; omega) _).setCell (p := ⟨w.heap.size + 1 + 1, 1, none⟩) (by simp only; omega) _
set_option linter.unusedSimpArgs false in
theorem step_9 (N : Int) (X : Nat) (k : Nat) {x : Nat} (hx : x < 18446744073709551616) (h0 : rung x < 9218868437227405312) (w : World) :
  Calls Tryz.prog 109 #[.agg #[.int .i64 9, .int .i64 N, .float .f64 X], .agg #[.int .u64 k, .float .f64 x]] w fun e w' => e = .returned (.tuple #[.agg #[.int .u64 k, .float .f64 x], .bool true]) ∧ Below w.heap.size w w' := by
 have HQ := hidH h0;clear h0;go_in;go_wp2_with fail;generalize hw1 : ((w.alloc (Obj.cells #[Value.int IntKind.i64 9, Value.int IntKind.i64 N, Value.float FloatKind.f64 X] 80)).alloc (Obj.cells #[Value.int IntKind.u64 k, Value.float FloatKind.f64 x] 43)).alloc (Obj.cells #[Value.int IntKind.u64 0, Value.float FloatKind.f64 0] 43) = w1;obtain ⟨HS, HB, o0, o1, o2, R1, R2⟩ := step_start hw1;clear hw1;obtain ⟨c0, c1, z0, z1⟩ := R1;obtain ⟨d0, d1, y0, y1⟩ := R2;refine (need_ok hx HQ.out _).mono ?_;rintro e w2 ⟨rfl, rfl⟩;go_wp2_with fail;refine bodyPost_ret (v := .tuple #[.agg #[.int .u64 k, .float .f64 x], .bool true]) (by simp [results, Tryz.results109, go_sem, Act.put, c0, c1, z0, z1, d0, d1, y0, y1, ltB, gtB]) rfl ⟨rfl, ?_⟩;exact ((HB.out.setCell (p := ⟨w.heap.size + 1 + 1, 0, none⟩) (by simp only; omega) _).setCell (p := ⟨w.heap.size + 1 + 1, 1, none⟩) (by simp only; omega) _)
set_option linter.unusedSimpArgs false in
theorem step_9_trap (N : Int) (X : Nat) (k : Nat) {x : Nat} (hx : x < 18446744073709551616) (h0 : 9218868437227405312 ≤ rung x) (w : World) :
  Calls Tryz.prog 109 #[.agg #[.int .i64 9, .int .i64 N, .float .f64 X], .agg #[.int .u64 k, .float .f64 x]] w fun e w' => (∃ u pv, e = .panicked [{ v := .iface u pv, recovered := false }]) ∧ Below w.heap.size w w' := by
 have HQ := hidH h0;clear h0;go_in;go_wp2_with fail;generalize hw1 : ((w.alloc (Obj.cells #[Value.int IntKind.i64 9, Value.int IntKind.i64 N, Value.float FloatKind.f64 X] 80)).alloc (Obj.cells #[Value.int IntKind.u64 k, Value.float FloatKind.f64 x] 43)).alloc (Obj.cells #[Value.int IntKind.u64 0, Value.float FloatKind.f64 0] 43) = w1;obtain ⟨HS, HB, o0, o1, o2, R1, R2⟩ := step_start hw1;clear hw1;obtain ⟨c0, c1, z0, z1⟩ := R1;obtain ⟨d0, d1, y0, y1⟩ := R2;refine (need_trap hx HQ.out _).mono ?_;rintro e w2 ⟨⟨u, pv, rfl⟩, rfl⟩;go_wp2_with fail;exact ⟨rfl, ⟨_, _, rfl⟩, HB.out⟩
set_option linter.unusedSimpArgs false in
theorem step_10_trap (N : Int) (X : Nat) (k : Nat) {x : Nat} (hx : x < 18446744073709551616) (h0 : wholeI x = 0) (w : World) :
  Calls Tryz.prog 109 #[.agg #[.int .i64 10, .int .i64 N, .float .f64 X], .agg #[.int .u64 k, .float .f64 x]] w fun e w' => (∃ u pv, e = .panicked [{ v := .iface u pv, recovered := false }]) ∧ Below w.heap.size w w' := by
 go_in;go_wp2_with fail;generalize hw1 : ((w.alloc (Obj.cells #[Value.int IntKind.i64 10, Value.int IntKind.i64 N, Value.float FloatKind.f64 X] 80)).alloc (Obj.cells #[Value.int IntKind.u64 k, Value.float FloatKind.f64 x] 43)).alloc (Obj.cells #[Value.int IntKind.u64 0, Value.float FloatKind.f64 0] 43) = w1;obtain ⟨HS, HB, o0, o1, o2, R1, R2⟩ := step_start hw1;clear hw1;obtain ⟨c0, c1, z0, z1⟩ := R1;obtain ⟨d0, d1, y0, y1⟩ := R2;refine (turn_per_trap N X hx h0 _).mono ?_;rintro e w2 ⟨⟨u, pv, rfl⟩, hB⟩;go_wp2_with fail;exact ⟨rfl, ⟨_, _, rfl⟩, below_trans HB.out hB⟩
set_option linter.unusedSimpArgs false in
theorem step_11 (N : Int) (X : Nat) (k : Nat) {x : Nat} (n1 : 1 ≤ N) (n2 : N < 9223372036854775808) (w : World) :
  Calls Tryz.prog 109 #[.agg #[.int .i64 11, .int .i64 N, .float .f64 X], .agg #[.int .u64 k, .float .f64 x]] w fun e w' => e = .returned (.tuple #[.agg #[.int .u64 ((k % N.toNat : Nat) : Int), .float .f64 x], .bool true]) ∧ Below w.heap.size w w' := by
 have HE : Hid (((k % N.toNat : Nat) : Int) = (k : Int) % N) := by
  show _ = _;rw [Int.natCast_emod, Int.toNat_of_nonneg (by omega)]
 have e1 : IntKind.u64.wrap N = N := by simp [IntKind.wrap_u64]; omega
 have e2 : ¬ N = 0 := by omega
 go_in;go_wp2_with fail;refine bodyPost_ret (v := .tuple #[.agg #[.int .u64 ((k : Int) % N), .float .f64 x], .bool true]) (by simp [results, Tryz.results109, go_sem]) rfl ⟨by rw [HE.out], ?_⟩;exact ((below_alloc _ _).alloc (by simp [go_sem]) _).alloc (by simp [go_sem]; omega) _
set_option linter.unusedSimpArgs false in
theorem step_12 (N : Int) (X : Nat) (k : Nat) {x : Nat} (hx : x < 18446744073709551616) (w : World) :
  Calls Tryz.prog 109 #[.agg #[.int .i64 12, .int .i64 N, .float .f64 X], .agg #[.int .u64 k, .float .f64 x]] w fun e w' => e = .returned (.tuple #[.agg #[.int .u64 ((k % 4611686018427387904 * 4 + sideN x : Nat) : Int), .float .f64 x], .bool true]) ∧ Below w.heap.size w w' := by
 have HE : Hid (((k % 4611686018427387904 * 4 + sideN x : Nat) : Int) = IntKind.u64.wrap ((k : Int) % 4611686018427387904 * 4 + (sideN x : Int))) := by
  have h1 := side_lt x;have h2 := Nat.mod_lt k (show 4611686018427387904 > 0 by omega);show _ = _;rw [IntKind.wrap_u64]; omega
 go_in;go_wp2_with fail;generalize hw1 : ((w.alloc (Obj.cells #[Value.int IntKind.i64 12, Value.int IntKind.i64 N, Value.float FloatKind.f64 X] 80)).alloc (Obj.cells #[Value.int IntKind.u64 k, Value.float FloatKind.f64 x] 43)).alloc (Obj.cells #[Value.int IntKind.u64 0, Value.float FloatKind.f64 0] 43) = w1;obtain ⟨HS, HB, o0, o1, o2, R1, R2⟩ := step_start hw1;clear hw1;obtain ⟨c0, c1, z0, z1⟩ := R1;obtain ⟨d0, d1, y0, y1⟩ := R2;go_region_with ((go_at_call 133; refine (side_walk hx _).mono ?_; rintro e w' ⟨rfl, rfl⟩))
 all_goals
  go_wp2_with fail;refine bodyPost_ret (v := .tuple #[.agg #[.int .u64 (IntKind.u64.wrap ((k : Int) % 4611686018427387904 * 4 + (sideN x : Int))), .float .f64 x], .bool true]) (by simp [results, Tryz.results109, go_sem, Act.put, c0, c1, z0, z1, d0, d1, y0, y1]) rfl ⟨by rw [HE.out], ?_⟩;exact (((HB.out.setCell (p := ⟨w.heap.size + 1, 0, none⟩) (by simp only; omega) _).setCell (p := ⟨w.heap.size + 1 + 1, 0, none⟩) (by simp only; omega) _).setCell (p := ⟨w.heap.size + 1 + 1, 1, none⟩) (by simp only; omega) _).drew
end
section
open Ieee Go.RowKit

theorem isB_kind {o : Stp} (h : isB o = true) : o.K = 1 ∨ o.K = 2 ∨ o.K = 3 ∨ o.K = 4 ∨ o.K = 5 ∨ o.K = 6 ∨ (o.K = 7 ∧ -2200 ≤ o.N ∧ o.N ≤ 2200) ∨ o.K = 8 ∨ o.K = 9 ∨ o.K = 10 ∨ (o.K = 11 ∧ 1 ≤ o.N) ∨ o.K = 12 := by
 unfold isB at h
 split at h
 ·simp at h; omega
 split at h
 ·simp at h; omega
 ·simp at h; omega
theorem step_kept (o : Stp) (r : Rcd) (ho : o.ok) (hr : r.ok) (hb : isB o = true) (hf : fateI o r.x = 1) (w : World) :
  Calls Tryz.prog 109 #[.agg #[.int .i64 o.K, .int .i64 o.N, .float .f64 o.X], .agg #[.int .u64 r.k, .float .f64 r.x]] w fun e w' =>
   e = .returned (.tuple #[.agg #[.int .u64 (nextR o r).k, .float .f64 (nextR o r).x], .bool true]) ∧ Below w.heap.size w w' := by
 have hk := isB_kind hb;obtain ⟨K, N, X⟩ := o;obtain ⟨k, x⟩ := r;obtain ⟨_, ⟨_, hN⟩, _⟩ := ho;obtain ⟨_, hx⟩ := hr;simp only at *;rcases hk with rfl | rfl | rfl | rfl | rfl | rfl | ⟨rfl, _⟩ | rfl | rfl | rfl | ⟨rfl, h1⟩ | rfl
 ·rw [show nextR ⟨1, N, X⟩ ⟨k, x⟩ = ⟨k, x⟩ by simp [nextR]];refine (step_1 N X k w).mono ?_;rintro e w' ⟨rfl, hB⟩;refine ⟨?_, hB⟩
  cases h : ltB x X
  ·simp [fateI, h] at hf
  ·rfl
 ·rw [show nextR ⟨2, N, X⟩ ⟨k, x⟩ = ⟨k, x⟩ by simp [nextR]];refine (step_2 N X k w).mono ?_;rintro e w' ⟨rfl, hB⟩;refine ⟨?_, hB⟩
  cases h : gtB x X
  ·simp [fateI, h] at hf
  ·rfl
 ·rw [show nextR ⟨3, N, X⟩ ⟨k, x⟩ = ⟨k, x⟩ by simp [nextR]];refine (step_3 N X k hx w).mono ?_;rintro e w' ⟨rfl, hB⟩;refine ⟨?_, hB⟩
  cases h : nanB x
  ·rfl
  ·simp [fateI, h] at hf
 ·rw [show nextR ⟨4, N, X⟩ ⟨k, x⟩ = ⟨k, canonW (negW x)⟩ by simp [nextR, turnW]];exact step_4 N X k hx w
 ·rw [show nextR ⟨5, N, X⟩ ⟨k, x⟩ = ⟨k, canonW (rung x)⟩ by simp [nextR, turnW]];exact step_5 N X k hx w
 ·rw [show nextR ⟨6, N, X⟩ ⟨k, x⟩ = ⟨k, canonW (floorW x)⟩ by simp [nextR, turnW]];exact step_6 N X k hx w
 ·rw [show nextR ⟨7, N, X⟩ ⟨k, x⟩ = ⟨k, canonW (scaleR x N)⟩ by simp [nextR, turnW]];exact step_7 N X k hx w
 ·rw [show nextR ⟨8, N, X⟩ ⟨k, x⟩ = ⟨k, canonW (invW x)⟩ by simp [nextR, turnW]];exact step_8 N X k hx w
 ·rw [show nextR ⟨9, N, X⟩ ⟨k, x⟩ = ⟨k, x⟩ by simp [nextR]];refine step_9 N X k hx ?_ w;by_cases h : 9218868437227405312 ≤ rung x
  ·simp [fateI, h] at hf
  ·omega
 ·rw [show nextR ⟨10, N, X⟩ ⟨k, x⟩ = ⟨k, canonW (ofW (perI N (wholeI x)))⟩ by simp [nextR, turnW]];refine step_10 N X k hx ?_ w;intro h;simp [fateI, h] at hf
 ·rw [show nextR ⟨11, N, X⟩ ⟨k, x⟩ = ⟨k % N.toNat, x⟩ by simp [nextR]];exact step_11 N X k h1 hN w
 ·rw [show nextR ⟨12, N, X⟩ ⟨k, x⟩ = ⟨k % 4611686018427387904 * 4 + sideN x, x⟩ by simp [nextR]];exact step_12 N X k hx w
theorem step_dropped (o : Stp) (r : Rcd) (hr : r.ok) (hb : isB o = true) (hf : fateI o r.x = 2) (w : World) :
  Calls Tryz.prog 109 #[.agg #[.int .i64 o.K, .int .i64 o.N, .float .f64 o.X], .agg #[.int .u64 r.k, .float .f64 r.x]] w fun e w' =>
   e = .returned (.tuple #[.agg #[.int .u64 r.k, .float .f64 r.x], .bool false]) ∧ Below w.heap.size w w' := by
 have hk := isB_kind hb;obtain ⟨K, N, X⟩ := o;obtain ⟨k, x⟩ := r;obtain ⟨_, hx⟩ := hr;simp only at *;rcases hk with rfl | rfl | rfl | rfl | rfl | rfl | ⟨rfl, _⟩ | rfl | rfl | rfl | ⟨rfl, h1⟩ | rfl
 ·refine (step_1 N X k w).mono ?_;rintro e w' ⟨rfl, hB⟩;refine ⟨?_, hB⟩
  cases h : ltB x X
  ·rfl
  ·simp [fateI, h] at hf
 ·refine (step_2 N X k w).mono ?_;rintro e w' ⟨rfl, hB⟩;refine ⟨?_, hB⟩
  cases h : gtB x X
  ·rfl
  ·simp [fateI, h] at hf
 ·refine (step_3 N X k hx w).mono ?_;rintro e w' ⟨rfl, hB⟩;refine ⟨?_, hB⟩
  cases h : nanB x
  ·simp [fateI, h] at hf
  ·rfl
 all_goals (exfalso; revert hf; simp [fateI])
 all_goals (split <;> simp)
theorem step_trapped (o : Stp) (r : Rcd) (hr : r.ok) (hb : isB o = true) (hf : fateI o r.x = 3) (w : World) :
  Calls Tryz.prog 109 #[.agg #[.int .i64 o.K, .int .i64 o.N, .float .f64 o.X], .agg #[.int .u64 r.k, .float .f64 r.x]] w fun e w' =>
   (∃ u pv, e = .panicked [{ v := .iface u pv, recovered := false }]) ∧ Below w.heap.size w w' := by
 have hk := isB_kind hb;obtain ⟨K, N, X⟩ := o;obtain ⟨k, x⟩ := r;obtain ⟨_, hx⟩ := hr;simp only at *;rcases hk with rfl | rfl | rfl | rfl | rfl | rfl | ⟨rfl, _⟩ | rfl | rfl | rfl | ⟨rfl, h1⟩ | rfl;rotate_left 8
 ·refine step_9_trap N X k hx ?_ w;by_cases h : 9218868437227405312 ≤ rung x
  ·exact h
  ·simp [fateI, h] at hf
 ·refine step_10_trap N X k hx ?_ w;by_cases h : wholeI x = 0
  ·exact h
  ·simp [fateI, h] at hf
 all_goals (exfalso; revert hf; simp [fateI])
 all_goals (split <;> simp)
theorem fate_cases (o : Stp) (x : Nat) : fateI o x = 1 ∨ fateI o x = 2 ∨ fateI o x = 3 := by
 unfold fateI
 repeat' split
 all_goals omega
def Ol (w : World) (ao : Option Addr) (l : List Stp) : Prop :=
 ∀ i, (h : i < l.length) → ∃ b off, ao = some ⟨b, off, none⟩ ∧ w.cell? ⟨b, off + i * 3, none⟩ = some (.int .i64 l[i].K) ∧ w.cell? ⟨b, off + i * 3 + 1, none⟩ = some (.int .i64 l[i].N) ∧ w.cell? ⟨b, off + i * 3 + 2, none⟩ = some (.float .f64 l[i].X)
def Ov (w : World) (v : Value) (l : List Stp) : Prop :=
 (∃ ao cap, v = .slice ao l.length cap ∧ l.length ≤ cap ∧ cap ≤ maxLen ∧ (ao = none → cap = 0) ∧ Ol w ao l) ∧ ∀ o ∈ l, o.ok
theorem Ol.below {w w' : World} {ao : Option Addr} {l : List Stp} (h : Ol w ao l) (hb : Below w.heap.size w w') : Ol w' ao l := by
 intro i hi;obtain ⟨b, off, e, h0, h1, h2⟩ := h i hi;exact ⟨b, off, e, by rw [hb.cell (p := ⟨b, off + i * 3, none⟩) (cell_lt h0)]; exact h0, by rw [hb.cell (p := ⟨b, off + i * 3 + 1, none⟩) (cell_lt h1)]; exact h1, by rw [hb.cell (p := ⟨b, off + i * 3 + 2, none⟩) (cell_lt h2)]; exact h2⟩
theorem Ov.below {w w' : World} {v : Value} {l : List Stp} (h : Ov w v l) (hb : Below w.heap.size w w') : Ov w' v l := by
 obtain ⟨⟨ao, cap, e, h1, h2, h3, h4⟩, h5⟩ := h;exact ⟨⟨ao, cap, e, h1, h2, h3, h4.below hb⟩, h5⟩
end
end Go.Proofs.YtombjgfajbhbbaaGreat
