/- Contracts of a step, kind by kind. -/
import Derived.Test.YtopjedgknbbgkaaGreatM04
namespace Go.Proofs.YtopjedgknbbgkaaGreat

open Ieee Go.RowKit

attribute [local go_sem] run_store_float


theorem class_nan' (x : Nat) : classI x = 5 ↔ nanB x = true := by
  unfold classI
  cases h : nanB x
  · simp only [Bool.false_eq_true, if_false, iff_false]
    split <;> (try split) <;> (try split) <;> omega
  · simp


/-- What a block of a record's two cells is in a world. -/
structure RB (w : World) (b : Nat) (k : Nat) (x : Nat) : Prop where
  c0 : w.cell? ⟨b, 0, none⟩ = some (.int .u64 k)
  c1 : w.cell? ⟨b, 1, none⟩ = some (.float .f64 x)
  z0 : w.frozen? ⟨b, 0, none⟩ = false
  z1 : w.frozen? ⟨b, 1, none⟩ = false


theorem RB.below {w w' : World} {b k x B : Nat} (h : RB w b k x) (hb : Below B w w') (hl : b < B) : RB w' b k x :=
  ⟨by rw [hb.cell (p := ⟨b, 0, none⟩) hl]; exact h.c0, by rw [hb.cell (p := ⟨b, 1, none⟩) hl]; exact h.c1, by rw [hb.frozen (p := ⟨b, 0, none⟩) hl]; exact h.z0, by rw [hb.frozen (p := ⟨b, 1, none⟩) hl]; exact h.z1⟩


/-- Behind the start of a step: its own step, its own record, its answer's record. -/
theorem step_start {w w1 : World} {K N : Int} {X k x : Nat}
    (h : ((w.alloc (Obj.cells #[Value.int IntKind.i64 K, Value.int IntKind.i64 N, Value.float FloatKind.f64 X] 72)).alloc (Obj.cells #[Value.int IntKind.u64 k, Value.float FloatKind.f64 x] 53)).alloc (Obj.cells #[Value.int IntKind.u64 0, Value.float FloatKind.f64 0] 53) = w1) :
    Hid (w1.heap.size = w.heap.size + 1 + 1 + 1) ∧ Hid (Below w.heap.size w w1) ∧ w1.cell? ⟨w.heap.size, 0, none⟩ = some (.int .i64 K) ∧ w1.cell? ⟨w.heap.size, 1, none⟩ = some (.int .i64 N) ∧ w1.cell? ⟨w.heap.size, 2, none⟩ = some (.float .f64 X) ∧
      RB w1 (w.heap.size + 1) k x ∧ RB w1 (w.heap.size + 1 + 1) 0 0 := by
  subst h
  refine ⟨by simp [Hid, go_sem], ?_, ?_, ?_, ?_, ⟨?_, ?_, ?_, ?_⟩, ⟨?_, ?_, ?_, ?_⟩⟩
  · exact ((below_alloc _ _).alloc (by simp [go_sem]) _).alloc (by simp [go_sem]; omega) _
  all_goals simp [go_sem]


set_option linter.unusedSimpArgs false in
theorem step_1 (N : Int) (X : Nat) (k : Nat) {x : Nat} (w : World) :
    Calls Tryz.prog 78 #[.agg #[.int .i64 1, .int .i64 N, .float .f64 X], .agg #[.int .u64 k, .float .f64 x]] w fun e w' => e = .returned (.tuple #[.agg #[.int .u64 k, .float .f64 x], .bool (ltB x X)]) ∧ Below w.heap.size w w' := by
  go_enter Tryz.func78, Tryz.ntmps78
  go_wp2_with fail
  generalize hw1 : ((w.alloc (Obj.cells #[Value.int IntKind.i64 1, Value.int IntKind.i64 N, Value.float FloatKind.f64 X] 72)).alloc (Obj.cells #[Value.int IntKind.u64 k, Value.float FloatKind.f64 x] 53)).alloc (Obj.cells #[Value.int IntKind.u64 0, Value.float FloatKind.f64 0] 53) = w1
  obtain ⟨HS, HB, o0, o1, o2, R1, R2⟩ := step_start hw1
  clear hw1
  obtain ⟨c0, c1, z0, z1⟩ := R1
  obtain ⟨d0, d1, y0, y1⟩ := R2
  go_region
  go_wp2_with fail
  refine bodyPost_ret (v := .tuple #[.agg #[.int .u64 k, .float .f64 x], .bool (ltB x X)]) (by simp [results, Tryz.results78, go_sem, Act.put, c0, c1, z0, z1, d0, d1, y0, y1, ltB, gtB]) rfl ⟨rfl, ?_⟩
  exact ((HB.out.setCell (p := ⟨w.heap.size + 1 + 1, 0, none⟩) (by simp only; omega) _).setCell (p := ⟨w.heap.size + 1 + 1, 1, none⟩) (by simp only; omega) _).drew


set_option linter.unusedSimpArgs false in
theorem step_2 (N : Int) (X : Nat) (k : Nat) {x : Nat} (w : World) :
    Calls Tryz.prog 78 #[.agg #[.int .i64 2, .int .i64 N, .float .f64 X], .agg #[.int .u64 k, .float .f64 x]] w fun e w' => e = .returned (.tuple #[.agg #[.int .u64 k, .float .f64 x], .bool (gtB x X)]) ∧ Below w.heap.size w w' := by
  go_enter Tryz.func78, Tryz.ntmps78
  go_wp2_with fail
  generalize hw1 : ((w.alloc (Obj.cells #[Value.int IntKind.i64 2, Value.int IntKind.i64 N, Value.float FloatKind.f64 X] 72)).alloc (Obj.cells #[Value.int IntKind.u64 k, Value.float FloatKind.f64 x] 53)).alloc (Obj.cells #[Value.int IntKind.u64 0, Value.float FloatKind.f64 0] 53) = w1
  obtain ⟨HS, HB, o0, o1, o2, R1, R2⟩ := step_start hw1
  clear hw1
  obtain ⟨c0, c1, z0, z1⟩ := R1
  obtain ⟨d0, d1, y0, y1⟩ := R2
  go_region
  go_wp2_with fail
  refine bodyPost_ret (v := .tuple #[.agg #[.int .u64 k, .float .f64 x], .bool (gtB x X)]) (by simp [results, Tryz.results78, go_sem, Act.put, c0, c1, z0, z1, d0, d1, y0, y1, ltB, gtB]) rfl ⟨rfl, ?_⟩
  exact ((HB.out.setCell (p := ⟨w.heap.size + 1 + 1, 0, none⟩) (by simp only; omega) _).setCell (p := ⟨w.heap.size + 1 + 1, 1, none⟩) (by simp only; omega) _).drew


set_option linter.unusedSimpArgs false in
theorem step_3 (N : Int) (X : Nat) (k : Nat) {x : Nat} (hx : x < 18446744073709551616) (w : World) :
    Calls Tryz.prog 78 #[.agg #[.int .i64 3, .int .i64 N, .float .f64 X], .agg #[.int .u64 k, .float .f64 x]] w fun e w' => e = .returned (.tuple #[.agg #[.int .u64 k, .float .f64 x], .bool (!nanB x)]) ∧ Below w.heap.size w w' := by
  have h5 : (classI x != 5) = !nanB x := by
    have := class_nan' x
    cases h : nanB x
    · rw [h] at this; simp at this; simpa using this
    · rw [h] at this; simp at this; simpa using this
  go_enter Tryz.func78, Tryz.ntmps78
  go_wp2_with fail
  generalize hw1 : ((w.alloc (Obj.cells #[Value.int IntKind.i64 3, Value.int IntKind.i64 N, Value.float FloatKind.f64 X] 72)).alloc (Obj.cells #[Value.int IntKind.u64 k, Value.float FloatKind.f64 x] 53)).alloc (Obj.cells #[Value.int IntKind.u64 0, Value.float FloatKind.f64 0] 53) = w1
  obtain ⟨HS, HB, o0, o1, o2, R1, R2⟩ := step_start hw1
  clear hw1
  obtain ⟨c0, c1, z0, z1⟩ := R1
  obtain ⟨d0, d1, y0, y1⟩ := R2
  go_region_with ((go_at_call 97; refine (class_walk hx _).mono ?_; rintro e w' ⟨rfl, rfl⟩))
  all_goals
    go_wp2_with fail
    refine bodyPost_ret (v := .tuple #[.agg #[.int .u64 k, .float .f64 x], .bool (!nanB x)]) (by simp [results, Tryz.results78, go_sem, Act.put, c0, c1, z0, z1, d0, d1, y0, y1, ltB, gtB]) rfl ⟨rfl, ?_⟩
    exact ((HB.out.setCell (p := ⟨w.heap.size + 1 + 1, 0, none⟩) (by simp only; omega) _).setCell (p := ⟨w.heap.size + 1 + 1, 1, none⟩) (by simp only; omega) _).drew


set_option linter.unusedSimpArgs false in
theorem step_4 (N : Int) (X : Nat) (k : Nat) {x : Nat} (hx : x < 18446744073709551616) (w : World) :
    Calls Tryz.prog 78 #[.agg #[.int .i64 4, .int .i64 N, .float .f64 X], .agg #[.int .u64 k, .float .f64 x]] w fun e w' => e = .returned (.tuple #[.agg #[.int .u64 k, .float .f64 (canonW (negW x))], .bool true]) ∧ Below w.heap.size w w' := by
  go_enter Tryz.func78, Tryz.ntmps78
  go_wp2_with fail
  generalize hw1 : ((w.alloc (Obj.cells #[Value.int IntKind.i64 4, Value.int IntKind.i64 N, Value.float FloatKind.f64 X] 72)).alloc (Obj.cells #[Value.int IntKind.u64 k, Value.float FloatKind.f64 x] 53)).alloc (Obj.cells #[Value.int IntKind.u64 0, Value.float FloatKind.f64 0] 53) = w1
  obtain ⟨HS, HB, o0, o1, o2, R1, R2⟩ := step_start hw1
  clear hw1
  obtain ⟨c0, c1, z0, z1⟩ := R1
  obtain ⟨d0, d1, y0, y1⟩ := R2
  refine (turn_neg N X hx _).mono ?_
  rintro e w2 ⟨y, rfl, hy, hyc, hB⟩
  have hl : w.heap.size + 1 + 1 < w1.heap.size := by rw [HS.out]; omega
  obtain ⟨c0, c1, z0, z1⟩ := (RB.mk c0 c1 z0 z1).below hB (by omega)
  obtain ⟨d0, d1, y0, y1⟩ := (RB.mk d0 d1 y0 y1).below hB hl
  have HB2 : Hid (Below w.heap.size w w2) := below_trans HB.out hB
  clear hB
  go_wp2_with fail
  refine (canon_walk hy _).mono ?_
  rintro e w' ⟨rfl, rfl⟩
  go_wp2_with fail
  refine bodyPost_ret (v := .tuple #[.agg #[.int .u64 k, .float .f64 (canonW (negW x))], .bool true]) (by simp [results, Tryz.results78, go_sem, Act.put, c0, c1, z0, z1, d0, d1, y0, y1, ltB, gtB]) rfl ⟨rfl, ?_⟩
  exact ((HB2.out.setCell (p := ⟨w.heap.size + 1, 1, none⟩) (by simp only; omega) _).setCell (p := ⟨w.heap.size + 1 + 1, 0, none⟩) (by simp only; omega) _).setCell (p := ⟨w.heap.size + 1 + 1, 1, none⟩) (by simp only; omega) _


set_option linter.unusedSimpArgs false in
theorem step_5 (N : Int) (X : Nat) (k : Nat) {x : Nat} (hx : x < 18446744073709551616) (w : World) :
    Calls Tryz.prog 78 #[.agg #[.int .i64 5, .int .i64 N, .float .f64 X], .agg #[.int .u64 k, .float .f64 x]] w fun e w' => e = .returned (.tuple #[.agg #[.int .u64 k, .float .f64 (canonW (rung x))], .bool true]) ∧ Below w.heap.size w w' := by
  go_enter Tryz.func78, Tryz.ntmps78
  go_wp2_with fail
  generalize hw1 : ((w.alloc (Obj.cells #[Value.int IntKind.i64 5, Value.int IntKind.i64 N, Value.float FloatKind.f64 X] 72)).alloc (Obj.cells #[Value.int IntKind.u64 k, Value.float FloatKind.f64 x] 53)).alloc (Obj.cells #[Value.int IntKind.u64 0, Value.float FloatKind.f64 0] 53) = w1
  obtain ⟨HS, HB, o0, o1, o2, R1, R2⟩ := step_start hw1
  clear hw1
  obtain ⟨c0, c1, z0, z1⟩ := R1
  obtain ⟨d0, d1, y0, y1⟩ := R2
  refine (turn_abs N X hx _).mono ?_
  rintro e w2 ⟨y, rfl, hy, hyc, hB⟩
  have hl : w.heap.size + 1 + 1 < w1.heap.size := by rw [HS.out]; omega
  obtain ⟨c0, c1, z0, z1⟩ := (RB.mk c0 c1 z0 z1).below hB (by omega)
  obtain ⟨d0, d1, y0, y1⟩ := (RB.mk d0 d1 y0 y1).below hB hl
  have HB2 : Hid (Below w.heap.size w w2) := below_trans HB.out hB
  clear hB
  go_wp2_with fail
  refine (canon_walk hy _).mono ?_
  rintro e w' ⟨rfl, rfl⟩
  go_wp2_with fail
  refine bodyPost_ret (v := .tuple #[.agg #[.int .u64 k, .float .f64 (canonW (rung x))], .bool true]) (by simp [results, Tryz.results78, go_sem, Act.put, c0, c1, z0, z1, d0, d1, y0, y1, ltB, gtB]) rfl ⟨rfl, ?_⟩
  exact ((HB2.out.setCell (p := ⟨w.heap.size + 1, 1, none⟩) (by simp only; omega) _).setCell (p := ⟨w.heap.size + 1 + 1, 0, none⟩) (by simp only; omega) _).setCell (p := ⟨w.heap.size + 1 + 1, 1, none⟩) (by simp only; omega) _


set_option linter.unusedSimpArgs false in
theorem step_6 (N : Int) (X : Nat) (k : Nat) {x : Nat} (hx : x < 18446744073709551616) (w : World) :
    Calls Tryz.prog 78 #[.agg #[.int .i64 6, .int .i64 N, .float .f64 X], .agg #[.int .u64 k, .float .f64 x]] w fun e w' => e = .returned (.tuple #[.agg #[.int .u64 k, .float .f64 (canonW (floorW x))], .bool true]) ∧ Below w.heap.size w w' := by
  go_enter Tryz.func78, Tryz.ntmps78
  go_wp2_with fail
  generalize hw1 : ((w.alloc (Obj.cells #[Value.int IntKind.i64 6, Value.int IntKind.i64 N, Value.float FloatKind.f64 X] 72)).alloc (Obj.cells #[Value.int IntKind.u64 k, Value.float FloatKind.f64 x] 53)).alloc (Obj.cells #[Value.int IntKind.u64 0, Value.float FloatKind.f64 0] 53) = w1
  obtain ⟨HS, HB, o0, o1, o2, R1, R2⟩ := step_start hw1
  clear hw1
  obtain ⟨c0, c1, z0, z1⟩ := R1
  obtain ⟨d0, d1, y0, y1⟩ := R2
  refine (turn_floor N X hx _).mono ?_
  rintro e w2 ⟨y, rfl, hy, hyc, hB⟩
  have hl : w.heap.size + 1 + 1 < w1.heap.size := by rw [HS.out]; omega
  obtain ⟨c0, c1, z0, z1⟩ := (RB.mk c0 c1 z0 z1).below hB (by omega)
  obtain ⟨d0, d1, y0, y1⟩ := (RB.mk d0 d1 y0 y1).below hB hl
  have HB2 : Hid (Below w.heap.size w w2) := below_trans HB.out hB
  clear hB
  go_wp2_with fail
  refine (canon_walk hy _).mono ?_
  rintro e w' ⟨rfl, rfl⟩
  go_wp2_with fail
  refine bodyPost_ret (v := .tuple #[.agg #[.int .u64 k, .float .f64 (canonW (floorW x))], .bool true]) (by simp [results, Tryz.results78, go_sem, Act.put, c0, c1, z0, z1, d0, d1, y0, y1, ltB, gtB]) rfl ⟨rfl, ?_⟩
  exact ((HB2.out.setCell (p := ⟨w.heap.size + 1, 1, none⟩) (by simp only; omega) _).setCell (p := ⟨w.heap.size + 1 + 1, 0, none⟩) (by simp only; omega) _).setCell (p := ⟨w.heap.size + 1 + 1, 1, none⟩) (by simp only; omega) _


set_option linter.unusedSimpArgs false in
theorem step_7 (N : Int) (X : Nat) (k : Nat) {x : Nat} (hx : x < 18446744073709551616) (w : World) :
    Calls Tryz.prog 78 #[.agg #[.int .i64 7, .int .i64 N, .float .f64 X], .agg #[.int .u64 k, .float .f64 x]] w fun e w' => e = .returned (.tuple #[.agg #[.int .u64 k, .float .f64 (canonW (scaleR x N))], .bool true]) ∧ Below w.heap.size w w' := by
  go_enter Tryz.func78, Tryz.ntmps78
  go_wp2_with fail
  generalize hw1 : ((w.alloc (Obj.cells #[Value.int IntKind.i64 7, Value.int IntKind.i64 N, Value.float FloatKind.f64 X] 72)).alloc (Obj.cells #[Value.int IntKind.u64 k, Value.float FloatKind.f64 x] 53)).alloc (Obj.cells #[Value.int IntKind.u64 0, Value.float FloatKind.f64 0] 53) = w1
  obtain ⟨HS, HB, o0, o1, o2, R1, R2⟩ := step_start hw1
  clear hw1
  obtain ⟨c0, c1, z0, z1⟩ := R1
  obtain ⟨d0, d1, y0, y1⟩ := R2
  refine (turn_scale N X hx _).mono ?_
  rintro e w2 ⟨y, rfl, hy, hyc, hB⟩
  have hl : w.heap.size + 1 + 1 < w1.heap.size := by rw [HS.out]; omega
  obtain ⟨c0, c1, z0, z1⟩ := (RB.mk c0 c1 z0 z1).below hB (by omega)
  obtain ⟨d0, d1, y0, y1⟩ := (RB.mk d0 d1 y0 y1).below hB hl
  have HB2 : Hid (Below w.heap.size w w2) := below_trans HB.out hB
  clear hB
  go_wp2_with fail
  refine (canon_walk hy _).mono ?_
  rintro e w' ⟨rfl, rfl⟩
  go_wp2_with fail
  refine bodyPost_ret (v := .tuple #[.agg #[.int .u64 k, .float .f64 (canonW (scaleR x N))], .bool true]) (by simp [results, Tryz.results78, go_sem, Act.put, c0, c1, z0, z1, d0, d1, y0, y1, ltB, gtB]) rfl ⟨rfl, ?_⟩
  exact ((HB2.out.setCell (p := ⟨w.heap.size + 1, 1, none⟩) (by simp only; omega) _).setCell (p := ⟨w.heap.size + 1 + 1, 0, none⟩) (by simp only; omega) _).setCell (p := ⟨w.heap.size + 1 + 1, 1, none⟩) (by simp only; omega) _


set_option linter.unusedSimpArgs false in
theorem step_8 (N : Int) (X : Nat) (k : Nat) {x : Nat} (hx : x < 18446744073709551616) (w : World) :
    Calls Tryz.prog 78 #[.agg #[.int .i64 8, .int .i64 N, .float .f64 X], .agg #[.int .u64 k, .float .f64 x]] w fun e w' => e = .returned (.tuple #[.agg #[.int .u64 k, .float .f64 (canonW (invW x))], .bool true]) ∧ Below w.heap.size w w' := by
  go_enter Tryz.func78, Tryz.ntmps78
  go_wp2_with fail
  generalize hw1 : ((w.alloc (Obj.cells #[Value.int IntKind.i64 8, Value.int IntKind.i64 N, Value.float FloatKind.f64 X] 72)).alloc (Obj.cells #[Value.int IntKind.u64 k, Value.float FloatKind.f64 x] 53)).alloc (Obj.cells #[Value.int IntKind.u64 0, Value.float FloatKind.f64 0] 53) = w1
  obtain ⟨HS, HB, o0, o1, o2, R1, R2⟩ := step_start hw1
  clear hw1
  obtain ⟨c0, c1, z0, z1⟩ := R1
  obtain ⟨d0, d1, y0, y1⟩ := R2
  refine (turn_inv N X hx _).mono ?_
  rintro e w2 ⟨y, rfl, hy, hyc, hB⟩
  have hl : w.heap.size + 1 + 1 < w1.heap.size := by rw [HS.out]; omega
  obtain ⟨c0, c1, z0, z1⟩ := (RB.mk c0 c1 z0 z1).below hB (by omega)
  obtain ⟨d0, d1, y0, y1⟩ := (RB.mk d0 d1 y0 y1).below hB hl
  have HB2 : Hid (Below w.heap.size w w2) := below_trans HB.out hB
  clear hB
  go_wp2_with fail
  refine (canon_walk hy _).mono ?_
  rintro e w' ⟨rfl, rfl⟩
  go_wp2_with fail
  refine bodyPost_ret (v := .tuple #[.agg #[.int .u64 k, .float .f64 (canonW (invW x))], .bool true]) (by simp [results, Tryz.results78, go_sem, Act.put, c0, c1, z0, z1, d0, d1, y0, y1, ltB, gtB]) rfl ⟨rfl, ?_⟩
  exact ((HB2.out.setCell (p := ⟨w.heap.size + 1, 1, none⟩) (by simp only; omega) _).setCell (p := ⟨w.heap.size + 1 + 1, 0, none⟩) (by simp only; omega) _).setCell (p := ⟨w.heap.size + 1 + 1, 1, none⟩) (by simp only; omega) _


set_option linter.unusedSimpArgs false in
theorem step_10 (N : Int) (X : Nat) (k : Nat) {x : Nat} (hx : x < 18446744073709551616) (h0 : ¬ wholeI x = 0) (w : World) :
    Calls Tryz.prog 78 #[.agg #[.int .i64 10, .int .i64 N, .float .f64 X], .agg #[.int .u64 k, .float .f64 x]] w fun e w' => e = .returned (.tuple #[.agg #[.int .u64 k, .float .f64 (canonW (ofW (perI N (wholeI x))))], .bool true]) ∧ Below w.heap.size w w' := by
  go_enter Tryz.func78, Tryz.ntmps78
  go_wp2_with fail
  generalize hw1 : ((w.alloc (Obj.cells #[Value.int IntKind.i64 10, Value.int IntKind.i64 N, Value.float FloatKind.f64 X] 72)).alloc (Obj.cells #[Value.int IntKind.u64 k, Value.float FloatKind.f64 x] 53)).alloc (Obj.cells #[Value.int IntKind.u64 0, Value.float FloatKind.f64 0] 53) = w1
  obtain ⟨HS, HB, o0, o1, o2, R1, R2⟩ := step_start hw1
  clear hw1
  obtain ⟨c0, c1, z0, z1⟩ := R1
  obtain ⟨d0, d1, y0, y1⟩ := R2
  refine (turn_per N X hx h0 _).mono ?_
  rintro e w2 ⟨y, rfl, hy, hyc, hB⟩
  have hl : w.heap.size + 1 + 1 < w1.heap.size := by rw [HS.out]; omega
  obtain ⟨c0, c1, z0, z1⟩ := (RB.mk c0 c1 z0 z1).below hB (by omega)
  obtain ⟨d0, d1, y0, y1⟩ := (RB.mk d0 d1 y0 y1).below hB hl
  have HB2 : Hid (Below w.heap.size w w2) := below_trans HB.out hB
  clear hB
  go_wp2_with fail
  refine (canon_walk hy _).mono ?_
  rintro e w' ⟨rfl, rfl⟩
  go_wp2_with fail
  refine bodyPost_ret (v := .tuple #[.agg #[.int .u64 k, .float .f64 (canonW (ofW (perI N (wholeI x))))], .bool true]) (by simp [results, Tryz.results78, go_sem, Act.put, c0, c1, z0, z1, d0, d1, y0, y1, ltB, gtB]) rfl ⟨rfl, ?_⟩
  exact ((HB2.out.setCell (p := ⟨w.heap.size + 1, 1, none⟩) (by simp only; omega) _).setCell (p := ⟨w.heap.size + 1 + 1, 0, none⟩) (by simp only; omega) _).setCell (p := ⟨w.heap.size + 1 + 1, 1, none⟩) (by simp only; omega) _


set_option linter.unusedSimpArgs false in
theorem step_9 (N : Int) (X : Nat) (k : Nat) {x : Nat} (hx : x < 18446744073709551616) (h0 : rung x < 9218868437227405312) (w : World) :
    Calls Tryz.prog 78 #[.agg #[.int .i64 9, .int .i64 N, .float .f64 X], .agg #[.int .u64 k, .float .f64 x]] w fun e w' => e = .returned (.tuple #[.agg #[.int .u64 k, .float .f64 x], .bool true]) ∧ Below w.heap.size w w' := by
  have HQ : Hid (rung x < 9218868437227405312) := h0
  clear h0
  go_enter Tryz.func78, Tryz.ntmps78
  go_wp2_with fail
  generalize hw1 : ((w.alloc (Obj.cells #[Value.int IntKind.i64 9, Value.int IntKind.i64 N, Value.float FloatKind.f64 X] 72)).alloc (Obj.cells #[Value.int IntKind.u64 k, Value.float FloatKind.f64 x] 53)).alloc (Obj.cells #[Value.int IntKind.u64 0, Value.float FloatKind.f64 0] 53) = w1
  obtain ⟨HS, HB, o0, o1, o2, R1, R2⟩ := step_start hw1
  clear hw1
  obtain ⟨c0, c1, z0, z1⟩ := R1
  obtain ⟨d0, d1, y0, y1⟩ := R2
  refine (need_ok hx HQ.out _).mono ?_
  rintro e w2 ⟨rfl, rfl⟩
  go_wp2_with fail
  refine bodyPost_ret (v := .tuple #[.agg #[.int .u64 k, .float .f64 x], .bool true]) (by simp [results, Tryz.results78, go_sem, Act.put, c0, c1, z0, z1, d0, d1, y0, y1, ltB, gtB]) rfl ⟨rfl, ?_⟩
  exact ((HB.out.setCell (p := ⟨w.heap.size + 1 + 1, 0, none⟩) (by simp only; omega) _).setCell (p := ⟨w.heap.size + 1 + 1, 1, none⟩) (by simp only; omega) _)


set_option linter.unusedSimpArgs false in
theorem step_9_trap (N : Int) (X : Nat) (k : Nat) {x : Nat} (hx : x < 18446744073709551616) (h0 : 9218868437227405312 ≤ rung x) (w : World) :
    Calls Tryz.prog 78 #[.agg #[.int .i64 9, .int .i64 N, .float .f64 X], .agg #[.int .u64 k, .float .f64 x]] w fun e w' => (∃ u pv, e = .panicked [{ v := .iface u pv, recovered := false }]) ∧ Below w.heap.size w w' := by
  have HQ : Hid (9218868437227405312 ≤ rung x) := h0
  clear h0
  go_enter Tryz.func78, Tryz.ntmps78
  go_wp2_with fail
  generalize hw1 : ((w.alloc (Obj.cells #[Value.int IntKind.i64 9, Value.int IntKind.i64 N, Value.float FloatKind.f64 X] 72)).alloc (Obj.cells #[Value.int IntKind.u64 k, Value.float FloatKind.f64 x] 53)).alloc (Obj.cells #[Value.int IntKind.u64 0, Value.float FloatKind.f64 0] 53) = w1
  obtain ⟨HS, HB, o0, o1, o2, R1, R2⟩ := step_start hw1
  clear hw1
  obtain ⟨c0, c1, z0, z1⟩ := R1
  obtain ⟨d0, d1, y0, y1⟩ := R2
  refine (need_trap hx HQ.out _).mono ?_
  rintro e w2 ⟨⟨u, pv, rfl⟩, rfl⟩
  go_wp2_with fail
  exact ⟨rfl, ⟨_, _, rfl⟩, HB.out⟩


set_option linter.unusedSimpArgs false in
theorem step_10_trap (N : Int) (X : Nat) (k : Nat) {x : Nat} (hx : x < 18446744073709551616) (h0 : wholeI x = 0) (w : World) :
    Calls Tryz.prog 78 #[.agg #[.int .i64 10, .int .i64 N, .float .f64 X], .agg #[.int .u64 k, .float .f64 x]] w fun e w' => (∃ u pv, e = .panicked [{ v := .iface u pv, recovered := false }]) ∧ Below w.heap.size w w' := by
  go_enter Tryz.func78, Tryz.ntmps78
  go_wp2_with fail
  generalize hw1 : ((w.alloc (Obj.cells #[Value.int IntKind.i64 10, Value.int IntKind.i64 N, Value.float FloatKind.f64 X] 72)).alloc (Obj.cells #[Value.int IntKind.u64 k, Value.float FloatKind.f64 x] 53)).alloc (Obj.cells #[Value.int IntKind.u64 0, Value.float FloatKind.f64 0] 53) = w1
  obtain ⟨HS, HB, o0, o1, o2, R1, R2⟩ := step_start hw1
  clear hw1
  obtain ⟨c0, c1, z0, z1⟩ := R1
  obtain ⟨d0, d1, y0, y1⟩ := R2
  refine (turn_per_trap N X hx h0 _).mono ?_
  rintro e w2 ⟨⟨u, pv, rfl⟩, hB⟩
  go_wp2_with fail
  exact ⟨rfl, ⟨_, _, rfl⟩, below_trans HB.out hB⟩


set_option linter.unusedSimpArgs false in
theorem step_11 (N : Int) (X : Nat) (k : Nat) {x : Nat} (n1 : 1 ≤ N) (n2 : N < 9223372036854775808) (w : World) :
    Calls Tryz.prog 78 #[.agg #[.int .i64 11, .int .i64 N, .float .f64 X], .agg #[.int .u64 k, .float .f64 x]] w fun e w' => e = .returned (.tuple #[.agg #[.int .u64 ((k % N.toNat : Nat) : Int), .float .f64 x], .bool true]) ∧ Below w.heap.size w w' := by
  have HE : Hid (((k % N.toNat : Nat) : Int) = (k : Int) % N) := by
    show _ = _
    rw [Int.natCast_emod, Int.toNat_of_nonneg (by omega)]
  have e1 : IntKind.u64.wrap N = N := by simp [IntKind.wrap_u64]; omega
  have e2 : ¬ N = 0 := by omega
  go_enter Tryz.func78, Tryz.ntmps78
  go_wp2_with fail
  refine bodyPost_ret (v := .tuple #[.agg #[.int .u64 ((k : Int) % N), .float .f64 x], .bool true]) (by simp [results, Tryz.results78, go_sem]) rfl ⟨by rw [HE.out], ?_⟩
  exact ((below_alloc _ _).alloc (by simp [go_sem]) _).alloc (by simp [go_sem]; omega) _


set_option linter.unusedSimpArgs false in
theorem step_12 (N : Int) (X : Nat) (k : Nat) {x : Nat} (hx : x < 18446744073709551616) (w : World) :
    Calls Tryz.prog 78 #[.agg #[.int .i64 12, .int .i64 N, .float .f64 X], .agg #[.int .u64 k, .float .f64 x]] w fun e w' => e = .returned (.tuple #[.agg #[.int .u64 ((k % 4611686018427387904 * 4 + sideN x : Nat) : Int), .float .f64 x], .bool true]) ∧ Below w.heap.size w w' := by
  have HE : Hid (((k % 4611686018427387904 * 4 + sideN x : Nat) : Int) = IntKind.u64.wrap ((k : Int) % 4611686018427387904 * 4 + (sideN x : Int))) := by
    have h1 := side_lt x
    have h2 := Nat.mod_lt k (show 4611686018427387904 > 0 by omega)
    show _ = _
    rw [IntKind.wrap_u64]; omega
  go_enter Tryz.func78, Tryz.ntmps78
  go_wp2_with fail
  generalize hw1 : ((w.alloc (Obj.cells #[Value.int IntKind.i64 12, Value.int IntKind.i64 N, Value.float FloatKind.f64 X] 72)).alloc (Obj.cells #[Value.int IntKind.u64 k, Value.float FloatKind.f64 x] 53)).alloc (Obj.cells #[Value.int IntKind.u64 0, Value.float FloatKind.f64 0] 53) = w1
  obtain ⟨HS, HB, o0, o1, o2, R1, R2⟩ := step_start hw1
  clear hw1
  obtain ⟨c0, c1, z0, z1⟩ := R1
  obtain ⟨d0, d1, y0, y1⟩ := R2
  go_region_with ((go_at_call 99; refine (side_walk hx _).mono ?_; rintro e w' ⟨rfl, rfl⟩))
  all_goals
    go_wp2_with fail
    refine bodyPost_ret (v := .tuple #[.agg #[.int .u64 (IntKind.u64.wrap ((k : Int) % 4611686018427387904 * 4 + (sideN x : Int))), .float .f64 x], .bool true]) (by simp [results, Tryz.results78, go_sem, Act.put, c0, c1, z0, z1, d0, d1, y0, y1]) rfl ⟨by rw [HE.out], ?_⟩
    exact (((HB.out.setCell (p := ⟨w.heap.size + 1, 0, none⟩) (by simp only; omega) _).setCell (p := ⟨w.heap.size + 1 + 1, 0, none⟩) (by simp only; omega) _).setCell (p := ⟨w.heap.size + 1 + 1, 1, none⟩) (by simp only; omega) _).drew
end Go.Proofs.YtopjedgknbbgkaaGreat
