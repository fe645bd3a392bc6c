/- Contracts of a step, kind by kind. -/
import Derived.Test.YtofkhgokfdpdiaaGreatB01
import Derived.Test.YtofkhgokfdpdiaaGreatB03
import Derived.Test.YtofkhgokfdpdiaaGreatB04
import Derived.WalkKit
import Derived.ProofKit
import Derived.Deep.Draws
import Derived.WalkLawsBesides
import Derived.BigQuiet
import Derived.Deep.QuietTactic
import Derived.Deep.RegionWith
set_option maxRecDepth 100000
set_option maxHeartbeats 16000000
namespace Go.Proofs.YtofkhgokfdpdiaaGreat
section
open Ieee Go.RowKit

attribute [local go_sem] run_bits run_frombits unary_negW
theorem run_store_float {P : Program} {w : World} {a : Addr} {m : Mode} (k : FloatKind) (x : Nat) : (store a (.float k x) m).run P w = stored P w a (.float k x) m := run_store P w a _ m rfl
attribute [local go_sem] run_store_float
theorem isStep_walk (o : Stp) (w : World) :
  Calls Tryz.prog 216 #[.agg #[.int .i64 o.K, .int .i64 o.N, .float .f64 o.X]] w fun e w' => e = .returned (.bool (isB o)) ∧ Below w.heap.size w w' := by
 obtain ⟨K, N, X⟩ := o
 by_cases h7 : K = 7
 ·subst h7
  go_in
  go_wp2
  all_goals (go_ret; exact ⟨ret_bool (by rw [Bool.eq_iff_iff]; unfold isB; simp <;> omega), below_alloc _ _⟩)
 ·by_cases h11 : K = 11
  ·subst h11
   go_in
   go_wp2
   all_goals (go_ret; exact ⟨ret_bool (by rw [Bool.eq_iff_iff]; unfold isB; simp <;> omega), below_alloc _ _⟩)
  ·have b7 : (K == 7) = false := by simpa using h7
   have b11 : (K == 11) = false := by simpa using h11
   go_in
   go_wp2
   all_goals (go_ret; exact ⟨ret_bool (by rw [Bool.eq_iff_iff]; unfold isB; simp [h7, h11] <;> omega), below_alloc _ _⟩)
theorem side_walk {x : Nat} (hx : x < 18446744073709551616) (w : World) :
  Calls Tryz.prog 259 #[.float .f64 x] w fun e w' => e = .returned (.int .u64 (sideN x)) ∧ w' = w := by
 cases hn : nanB x
 ·rcases order_cases (c := 0) hx (show 0 < 18446744073709551616 by omega) hn (by decide) (by decide) with ⟨h, ho⟩ | ⟨h, ho⟩ | ⟨h, ho⟩
  all_goals
   go_in
   go_wp2
   go_ret
   exact ⟨ret_int (by unfold sideN; rw [hn]; simp only [Bool.false_eq_true, if_false]; split <;> (try split) <;> omega), rfl⟩
 ·have ho : FloatKind.f64.format.order x 0 = none := order_nan_left hx hn
  go_in
  go_wp2
  go_ret
  exact ⟨ret_int (by unfold sideN; rw [hn]; rfl), rfl⟩
theorem class_big (x : Nat) : (classI x = 5 ∨ classI x = 4) ↔ 9218868437227405312 ≤ rung x := by
 unfold classI
 cases h : nanB x
 ·have := nan_f h
  simp only [Bool.false_eq_true, if_false]
  split <;> (try split) <;> (try split) <;> omega
 ·have := nan_t h
  simp; omega
theorem need_ok {x : Nat} (hx : x < 18446744073709551616) (h : rung x < 9218868437227405312) (w : World) :
  Calls Tryz.prog 258 #[.float .f64 x] w fun e w' => e = .returned (.tuple #[]) ∧ w' = w := by
 have hc := mt (class_big x).1 (by omega)
 have h5 : (classI x == 5) = false := by simp; omega
 have h4 : (classI x == 4) = false := by simp; omega
 clear hc h
 go_in
 go_wp2_with fail
 refine (class_walk hx _).mono ?_
 rintro e w' ⟨rfl, rfl⟩
 go_wp2_with fail
 go_end0
 exact ⟨rfl, rfl⟩
theorem need_trap {x : Nat} (hx : x < 18446744073709551616) (h : 9218868437227405312 ≤ rung x) (w : World) :
  Calls Tryz.prog 258 #[.float .f64 x] w fun e w' => (∃ u pv, e = .panicked [{ v := .iface u pv, recovered := false }]) ∧ w' = w := by
 have hc := (class_big x).2 h
 clear h
 rcases hc with h5 | h4
 ·have b5 : (classI x == 5) = true := by simpa using h5
  clear h5
  go_in
  go_wp2_with fail
  refine (class_walk hx _).mono ?_
  rintro e w' ⟨rfl, rfl⟩
  go_wp2_with fail
  exact ⟨rfl, ⟨_, _, rfl⟩, rfl⟩
 ·have b4 : (classI x == 4) = true := by simpa using h4
  have b5 : (classI x == 5) = false := by simp; omega
  clear h4
  go_in
  go_wp2_with fail
  refine (class_walk hx _).mono ?_
  rintro e w' ⟨rfl, rfl⟩
  go_wp2_with fail
  exact ⟨rfl, ⟨_, _, rfl⟩, rfl⟩
theorem turn_neg (N : Int) (X : Nat) {x : Nat} (hx : x < 18446744073709551616) (w : World) :
  Calls Tryz.prog 260 #[.agg #[.int .i64 4, .int .i64 N, .float .f64 X], .float .f64 x] w fun e w' => ∃ y, e = .returned (.float .f64 y) ∧ y < 18446744073709551616 ∧ canonW y = canonW (negW x) ∧ Below w.heap.size w w' := by
 go_in
 go_wp2_with fail
 go_ret
 exact ⟨_, rfl, negW_lt hx, rfl, below_alloc _ _⟩
theorem turn_abs (N : Int) (X : Nat) {x : Nat} (hx : x < 18446744073709551616) (w : World) :
  Calls Tryz.prog 260 #[.agg #[.int .i64 5, .int .i64 N, .float .f64 X], .float .f64 x] w fun e w' => ∃ y, e = .returned (.float .f64 y) ∧ y < 18446744073709551616 ∧ canonW y = canonW (rung x) ∧ Below w.heap.size w w' := by
 go_in
 go_wp2_with fail
 refine (abs_walk hx _).mono ?_
 rintro e w' ⟨rfl, rfl⟩
 go_wp2_with fail
 go_ret
 exact ⟨_, rfl, by have := rung_lt x; omega, rfl, below_alloc _ _⟩
theorem floorW_lt {x : Nat} (hx : x < 18446744073709551616) : floorW x < 18446744073709551616 := by
 cases h : nanB x
 ·exact (floorW_nan hx h).2
 ·unfold floorW; rw [h]; simp
theorem turn_floor (N : Int) (X : Nat) {x : Nat} (hx : x < 18446744073709551616) (w : World) :
  Calls Tryz.prog 260 #[.agg #[.int .i64 6, .int .i64 N, .float .f64 X], .float .f64 x] w fun e w' => ∃ y, e = .returned (.float .f64 y) ∧ y < 18446744073709551616 ∧ canonW y = canonW (floorW x) ∧ Below w.heap.size w w' := by
 go_in
 go_wp2_with fail
 refine (floor_walk hx _).mono ?_
 rintro e w' ⟨rfl, n, rfl⟩
 go_wp2_with fail
 go_ret
 exact ⟨_, rfl, floorW_lt hx, rfl, below_trans (below_alloc _ _) (below_drewN _ _)⟩
theorem turn_scale (N : Int) (X : Nat) {x : Nat} (hx : x < 18446744073709551616) (w : World) :
  Calls Tryz.prog 260 #[.agg #[.int .i64 7, .int .i64 N, .float .f64 X], .float .f64 x] w fun e w' => ∃ y, e = .returned (.float .f64 y) ∧ y < 18446744073709551616 ∧ canonW y = canonW (scaleR x N) ∧ Below w.heap.size w w' := by
 go_in
 go_wp2_with fail
 refine (scale_walk N hx _).mono ?_
 rintro e w' ⟨rfl, rfl⟩
 go_wp2_with fail
 go_ret
 exact ⟨_, rfl, scaleR_lt _ hx, rfl, below_alloc _ _⟩
def nanQ (a b : Nat) (w : World) : Nat := (Question.nanBits .f64 a b).cut (w.tape w.drawn (.nanBits .f64 a b))
theorem nanQ_nan (a b : Nat) (w : World) : nanB (nanQ a b w) = true ∧ nanQ a b w < 18446744073709551616 := by
 unfold nanQ
 generalize w.tape w.drawn (.nanBits .f64 a b) = t
 have e : (Question.nanBits .f64 a b).cut t = (t % 2) * 9223372036854775808 + 9218868437227405312 + 1 + (t / 2) % 4503599627370495 := rfl
 rw [e]
 have h1 : t % 2 < 2 := Nat.mod_lt _ (by omega)
 have h2 : (t / 2) % 4503599627370495 < 4503599627370495 := Nat.mod_lt _ (by omega)
 generalize t % 2 = a at *
 generalize (t / 2) % 4503599627370495 = b at *
 refine ⟨?_, by omega⟩
 unfold nanB rung
 rw [decide_eq_true_eq]
 omega
theorem run_quo_nan (P : Program) {a x : Nat} (t : TypeId) (h : FloatKind.f64.format.div a x = none) (w : World) :
  (binOp .quo t (.float .f64 a) (.float .f64 x)).run P w = .ok (.float .f64 (nanQ a x w)) (w.drewN 1) := by
 simp [binOp, Op.floatArith, h, Question.forced]
 exact ⟨rfl, rfl⟩
theorem run_quo_num (P : Program) {a x r : Nat} (t : TypeId) (h : FloatKind.f64.format.div a x = some r) (w : World) :
  (binOp .quo t (.float .f64 a) (.float .f64 x)).run P w = .ok (.float .f64 r) w := run_float_arith _ _ _ _ _ _ _ h
theorem turn_inv (N : Int) (X : Nat) {x : Nat} (hx : x < 18446744073709551616) (w : World) :
  Calls Tryz.prog 260 #[.agg #[.int .i64 8, .int .i64 N, .float .f64 X], .float .f64 x] w fun e w' => ∃ y, e = .returned (.float .f64 y) ∧ y < 18446744073709551616 ∧ canonW y = canonW (invW x) ∧ Below w.heap.size w w' := by
 cases hn : nanB x
 ·obtain ⟨r, h1, _, h3, _⟩ := inv_some hx hn
  have hr : ∀ w : World, (binOp .quo 79 (.float .f64 4607182418800017408) (.float .f64 x)).run Tryz.prog w = .ok (.float .f64 r) w := fun w => run_quo_num Tryz.prog _ h1 w
  have HE : Hid (invW x = r) := invW_num h1
  clear h1
  go_in
  go_wp2_with fail
  go_ret
  exact ⟨_, rfl, h3, by rw [HE.out], below_alloc _ _⟩
 ·have h1 := inv_nan hx hn
  have hr : ∀ w : World, (binOp .quo 79 (.float .f64 4607182418800017408) (.float .f64 x)).run Tryz.prog w = .ok (.float .f64 (nanQ 4607182418800017408 x w)) (w.drewN 1) := fun w => run_quo_nan Tryz.prog _ h1 w
  have HE : Hid (invW x = 9221120237041090561) := invW_nan h1
  clear h1
  go_in
  go_wp2_with fail
  go_ret
  exact ⟨_, rfl, (nanQ_nan _ _ _).2, by rw [HE.out, canon_nan (nanQ_nan _ _ _).1]; rfl, below_trans (below_alloc _ _) (below_drewN _ 1)⟩
end
section
open Ieee Go.RowKit

theorem of_walk' (n : Int) (w : World) :
  Calls Tryz.prog 295 #[.int .i64 n] w fun e w' => e = .returned (.float .f64 (ofW n)) ∧ w' = w := of_walk n w
theorem turn_per (N : Int) (X : Nat) {x : Nat} (hx : x < 18446744073709551616) (h0 : ¬ wholeI x = 0) (w : World) :
  Calls Tryz.prog 260 #[.agg #[.int .i64 10, .int .i64 N, .float .f64 X], .float .f64 x] w fun e w' => ∃ y, e = .returned (.float .f64 y) ∧ y < 18446744073709551616 ∧ canonW y = canonW (ofW (perI N (wholeI x))) ∧ Below w.heap.size w w' := by
 go_in
 go_wp2_with fail
 generalize hw1 : w.alloc (Obj.cells #[Value.int IntKind.i64 10, Value.int IntKind.i64 N, Value.float FloatKind.f64 X] 138) = w1
 have hc : w1.cell? ⟨w.heap.size, 1, none⟩ = some (.int .i64 N) := by rw [← hw1]; simp [go_sem]
 have hB : Below w.heap.size w w1 := by rw [← hw1]; exact below_alloc _ _
 clear hw1
 go_quiet ((first | (go_at_call 104; exact Calls.quiet_of_same (whole_walk hx _)) | (go_at_call 295; exact Calls.quiet_of_same (of_walk' _ _))))
 go_wp2_with fail
 go_ret
 exact ⟨_, rfl, of_lt _, rfl, below_trans hB (below_drewN _ _)⟩
theorem turn_per_trap (N : Int) (X : Nat) {x : Nat} (hx : x < 18446744073709551616) (h0 : wholeI x = 0) (w : World) :
  Calls Tryz.prog 260 #[.agg #[.int .i64 10, .int .i64 N, .float .f64 X], .float .f64 x] w fun e w' => (∃ u pv, e = .panicked [{ v := .iface u pv, recovered := false }]) ∧ Below w.heap.size w w' := by
 go_in
 go_wp2_with fail
 refine wp_region_any (by kernel_rfl) ?_
 change wpAny _ _ _ _ _ _ _ (World.drew _)
 refine wpAny_take (i := 0) (v := ?_) rfl (by kernel_rfl) (by kernel_rfl) (by kernel_rfl) (fun _ _ _ h => h) (Or.inl ⟨by rfl, ?_⟩) ?_
 rotate_left
 ·intro w; go_simp; all_goals (with_reducible rfl)
 refine wpAny_take (i := 2) (v := ?_) rfl (by kernel_rfl) (by kernel_rfl) (by kernel_rfl) (fun _ _ _ h => h) (Or.inl ⟨by rfl, ?_⟩) ?_
 rotate_left
 ·intro w; go_simp; all_goals (with_reducible rfl)
 refine wpAny_ready (rs := [1, 3]) (by kernel_rfl) (by simp) ?_
 refine AllReady.cons rfl (fun K hK => ?_) ?_
 ·go_simp
  refine hK _ _ ?_
  clear hK K
  refine wpAny_ready (rs := [3]) (by kernel_rfl) (by simp) ?_
  refine AllReady.cons rfl (fun K hK => ?_) AllReady.nil
  go_simp
  go_wp2_with ((go_at_call 104; refine (whole_walk hx _).mono ?_; rintro e w' ⟨rfl, rfl⟩))
  refine wpAny_ready (rs := [4]) (by kernel_rfl) (by simp) ?_
  refine AllReady.cons rfl (fun K hK => ?_) AllReady.nil
  go_simp
  exact ⟨rfl, ⟨_, _, rfl⟩, (below_alloc _ _).drew⟩
 ·refine AllReady.cons rfl (fun K hK => ?_) AllReady.nil
  go_simp
  go_wp2_with ((go_at_call 104; refine (whole_walk hx _).mono ?_; rintro e w' ⟨rfl, rfl⟩))
  refine wpAny_ready (rs := [1]) (by kernel_rfl) (by simp) ?_
  refine AllReady.cons rfl (fun K hK => ?_) AllReady.nil
  go_simp
  refine hK _ _ ?_
  clear hK K
  refine wpAny_ready (rs := [4]) (by kernel_rfl) (by simp) ?_
  refine AllReady.cons rfl (fun K hK => ?_) AllReady.nil
  go_simp
  exact ⟨rfl, ⟨_, _, rfl⟩, (below_alloc _ _).drew⟩
end
section
open Ieee Go.RowKit

attribute [local go_sem] run_store_float
theorem class_nan' (x : Nat) : classI x = 5 ↔ nanB x = true := by
 unfold classI
 cases h : nanB x
 ·simp only [Bool.false_eq_true, if_false, iff_false]
  split <;> (try split) <;> (try split) <;> omega
 ·simp
structure RB (w : World) (b : Nat) (k : Nat) (x : Nat) : Prop where
 c0 : w.cell? ⟨b, 0, none⟩ = some (.int .u64 k)
 c1 : w.cell? ⟨b, 1, none⟩ = some (.float .f64 x)
 z0 : w.frozen? ⟨b, 0, none⟩ = false
 z1 : w.frozen? ⟨b, 1, none⟩ = false
theorem RB.below {w w' : World} {b k x B : Nat} (h : RB w b k x) (hb : Below B w w') (hl : b < B) : RB w' b k x :=
 ⟨by rw [hb.cell (p := ⟨b, 0, none⟩) hl]; exact h.c0, by rw [hb.cell (p := ⟨b, 1, none⟩) hl]; exact h.c1, by rw [hb.frozen (p := ⟨b, 0, none⟩) hl]; exact h.z0, by rw [hb.frozen (p := ⟨b, 1, none⟩) hl]; exact h.z1⟩
theorem step_start {w w1 : World} {K N : Int} {X k x : Nat}
  (h : ((w.alloc (Obj.cells #[Value.int IntKind.i64 K, Value.int IntKind.i64 N, Value.float FloatKind.f64 X] 138)).alloc (Obj.cells #[Value.int IntKind.u64 k, Value.float FloatKind.f64 x] 81)).alloc (Obj.cells #[Value.int IntKind.u64 0, Value.float FloatKind.f64 0] 81) = w1) :
  Hid (w1.heap.size = w.heap.size + 1 + 1 + 1) ∧ Hid (Below w.heap.size w w1) ∧ w1.cell? ⟨w.heap.size, 0, none⟩ = some (.int .i64 K) ∧ w1.cell? ⟨w.heap.size, 1, none⟩ = some (.int .i64 N) ∧ w1.cell? ⟨w.heap.size, 2, none⟩ = some (.float .f64 X) ∧
   RB w1 (w.heap.size + 1) k x ∧ RB w1 (w.heap.size + 1 + 1) 0 0 := by
 subst h
 refine ⟨by simp [Hid, go_sem], ?_, ?_, ?_, ?_, ⟨?_, ?_, ?_, ?_⟩, ⟨?_, ?_, ?_, ?_⟩⟩
 ·exact ((below_alloc _ _).alloc (by simp [go_sem]) _).alloc (by simp [go_sem]; omega) _
 all_goals simp [go_sem]
set_option linter.unusedSimpArgs false in
theorem step_1 (N : Int) (X : Nat) (k : Nat) {x : Nat} (w : World) :
  Calls Tryz.prog 218 #[.agg #[.int .i64 1, .int .i64 N, .float .f64 X], .agg #[.int .u64 k, .float .f64 x]] w fun e w' => e = .returned (.tuple #[.agg #[.int .u64 k, .float .f64 x], .bool (ltB x X)]) ∧ Below w.heap.size w w' := by
 go_in
 go_wp2_with fail
 generalize hw1 : ((w.alloc (Obj.cells #[Value.int IntKind.i64 1, Value.int IntKind.i64 N, Value.float FloatKind.f64 X] 138)).alloc (Obj.cells #[Value.int IntKind.u64 k, Value.float FloatKind.f64 x] 81)).alloc (Obj.cells #[Value.int IntKind.u64 0, Value.float FloatKind.f64 0] 81) = w1
 obtain ⟨HS, HB, o0, o1, o2, R1, R2⟩ := step_start hw1
 clear hw1
 obtain ⟨c0, c1, z0, z1⟩ := R1
 obtain ⟨d0, d1, y0, y1⟩ := R2
 go_region
 go_wp2_with fail
 refine bodyPost_ret (v := .tuple #[.agg #[.int .u64 k, .float .f64 x], .bool (ltB x X)]) (by simp [results, Tryz.results218, go_sem, Act.put, c0, c1, z0, z1, d0, d1, y0, y1, ltB, gtB]) rfl ⟨rfl, ?_⟩
 exact ((HB.out.setCell (p := ⟨w.heap.size + 1 + 1, 0, none⟩) (by simp only; omega) _).setCell (p := ⟨w.heap.size + 1 + 1, 1, none⟩) (by simp only; omega) _).drew
set_option linter.unusedSimpArgs false in
theorem step_2 (N : Int) (X : Nat) (k : Nat) {x : Nat} (w : World) :
  Calls Tryz.prog 218 #[.agg #[.int .i64 2, .int .i64 N, .float .f64 X], .agg #[.int .u64 k, .float .f64 x]] w fun e w' => e = .returned (.tuple #[.agg #[.int .u64 k, .float .f64 x], .bool (gtB x X)]) ∧ Below w.heap.size w w' := by
 go_in
 go_wp2_with fail
 generalize hw1 : ((w.alloc (Obj.cells #[Value.int IntKind.i64 2, Value.int IntKind.i64 N, Value.float FloatKind.f64 X] 138)).alloc (Obj.cells #[Value.int IntKind.u64 k, Value.float FloatKind.f64 x] 81)).alloc (Obj.cells #[Value.int IntKind.u64 0, Value.float FloatKind.f64 0] 81) = w1
 obtain ⟨HS, HB, o0, o1, o2, R1, R2⟩ := step_start hw1
 clear hw1
 obtain ⟨c0, c1, z0, z1⟩ := R1
 obtain ⟨d0, d1, y0, y1⟩ := R2
 go_region
 go_wp2_with fail
 refine bodyPost_ret (v := .tuple #[.agg #[.int .u64 k, .float .f64 x], .bool (gtB x X)]) (by simp [results, Tryz.results218, go_sem, Act.put, c0, c1, z0, z1, d0, d1, y0, y1, ltB, gtB]) rfl ⟨rfl, ?_⟩
 exact ((HB.out.setCell (p := ⟨w.heap.size + 1 + 1, 0, none⟩) (by simp only; omega) _).setCell (p := ⟨w.heap.size + 1 + 1, 1, none⟩) (by simp only; omega) _).drew
set_option linter.unusedSimpArgs false in
theorem step_3 (N : Int) (X : Nat) (k : Nat) {x : Nat} (hx : x < 18446744073709551616) (w : World) :
  Calls Tryz.prog 218 #[.agg #[.int .i64 3, .int .i64 N, .float .f64 X], .agg #[.int .u64 k, .float .f64 x]] w fun e w' => e = .returned (.tuple #[.agg #[.int .u64 k, .float .f64 x], .bool (!nanB x)]) ∧ Below w.heap.size w w' := by
 have h5 : (classI x != 5) = !nanB x := by
  have := class_nan' x
  cases h : nanB x
  ·rw [h] at this; simp at this; simpa using this
  ·rw [h] at this; simp at this; simpa using this
 go_in
 go_wp2_with fail
 generalize hw1 : ((w.alloc (Obj.cells #[Value.int IntKind.i64 3, Value.int IntKind.i64 N, Value.float FloatKind.f64 X] 138)).alloc (Obj.cells #[Value.int IntKind.u64 k, Value.float FloatKind.f64 x] 81)).alloc (Obj.cells #[Value.int IntKind.u64 0, Value.float FloatKind.f64 0] 81) = w1
 obtain ⟨HS, HB, o0, o1, o2, R1, R2⟩ := step_start hw1
 clear hw1
 obtain ⟨c0, c1, z0, z1⟩ := R1
 obtain ⟨d0, d1, y0, y1⟩ := R2
 go_region_with ((go_at_call 257; refine (class_walk hx _).mono ?_; rintro e w' ⟨rfl, rfl⟩))
 all_goals
  go_wp2_with fail
  refine bodyPost_ret (v := .tuple #[.agg #[.int .u64 k, .float .f64 x], .bool (!nanB x)]) (by simp [results, Tryz.results218, go_sem, Act.put, c0, c1, z0, z1, d0, d1, y0, y1, ltB, gtB]) rfl ⟨rfl, ?_⟩
  exact ((HB.out.setCell (p := ⟨w.heap.size + 1 + 1, 0, none⟩) (by simp only; omega) _).setCell (p := ⟨w.heap.size + 1 + 1, 1, none⟩) (by simp only; omega) _).drew
set_option linter.unusedSimpArgs false in
theorem step_4 (N : Int) (X : Nat) (k : Nat) {x : Nat} (hx : x < 18446744073709551616) (w : World) :
  Calls Tryz.prog 218 #[.agg #[.int .i64 4, .int .i64 N, .float .f64 X], .agg #[.int .u64 k, .float .f64 x]] w fun e w' => e = .returned (.tuple #[.agg #[.int .u64 k, .float .f64 (canonW (negW x))], .bool true]) ∧ Below w.heap.size w w' := by
 go_in
 go_wp2_with fail
 generalize hw1 : ((w.alloc (Obj.cells #[Value.int IntKind.i64 4, Value.int IntKind.i64 N, Value.float FloatKind.f64 X] 138)).alloc (Obj.cells #[Value.int IntKind.u64 k, Value.float FloatKind.f64 x] 81)).alloc (Obj.cells #[Value.int IntKind.u64 0, Value.float FloatKind.f64 0] 81) = w1
 obtain ⟨HS, HB, o0, o1, o2, R1, R2⟩ := step_start hw1
 clear hw1
 obtain ⟨c0, c1, z0, z1⟩ := R1
 obtain ⟨d0, d1, y0, y1⟩ := R2
 refine (turn_neg N X hx _).mono ?_
 rintro e w2 ⟨y, rfl, hy, hyc, hB⟩
 have hl : w.heap.size + 1 + 1 < w1.heap.size := by rw [HS.out]; omega
 obtain ⟨c0, c1, z0, z1⟩ := (RB.mk c0 c1 z0 z1).below hB (by omega)
 obtain ⟨d0, d1, y0, y1⟩ := (RB.mk d0 d1 y0 y1).below hB hl
 have HB2 : Hid (Below w.heap.size w w2) := below_trans HB.out hB
 clear hB
 go_wp2_with fail
 refine (canon_walk hy _).mono ?_
 rintro e w' ⟨rfl, rfl⟩
 go_wp2_with fail
 refine bodyPost_ret (v := .tuple #[.agg #[.int .u64 k, .float .f64 (canonW (negW x))], .bool true]) (by simp [results, Tryz.results218, go_sem, Act.put, c0, c1, z0, z1, d0, d1, y0, y1, ltB, gtB]) rfl ⟨rfl, ?_⟩
 exact ((HB2.out.setCell (p := ⟨w.heap.size + 1, 1, none⟩) (by simp only; omega) _).setCell (p := ⟨w.heap.size + 1 + 1, 0, none⟩) (by simp only; omega) _).setCell (p := ⟨w.heap.size + 1 + 1, 1, none⟩) (by simp only; omega) _
set_option linter.unusedSimpArgs false in
theorem step_5 (N : Int) (X : Nat) (k : Nat) {x : Nat} (hx : x < 18446744073709551616) (w : World) :
  Calls Tryz.prog 218 #[.agg #[.int .i64 5, .int .i64 N, .float .f64 X], .agg #[.int .u64 k, .float .f64 x]] w fun e w' => e = .returned (.tuple #[.agg #[.int .u64 k, .float .f64 (canonW (rung x))], .bool true]) ∧ Below w.heap.size w w' := by
 go_in
 go_wp2_with fail
 generalize hw1 : ((w.alloc (Obj.cells #[Value.int IntKind.i64 5, Value.int IntKind.i64 N, Value.float FloatKind.f64 X] 138)).alloc (Obj.cells #[Value.int IntKind.u64 k, Value.float FloatKind.f64 x] 81)).alloc (Obj.cells #[Value.int IntKind.u64 0, Value.float FloatKind.f64 0] 81) = w1
 obtain ⟨HS, HB, o0, o1, o2, R1, R2⟩ := step_start hw1
 clear hw1
 obtain ⟨c0, c1, z0, z1⟩ := R1
 obtain ⟨d0, d1, y0, y1⟩ := R2
 refine (turn_abs N X hx _).mono ?_
 rintro e w2 ⟨y, rfl, hy, hyc, hB⟩
 have hl : w.heap.size + 1 + 1 < w1.heap.size := by rw [HS.out]; omega
 obtain ⟨c0, c1, z0, z1⟩ := (RB.mk c0 c1 z0 z1).below hB (by omega)
 obtain ⟨d0, d1, y0, y1⟩ := (RB.mk d0 d1 y0 y1).below hB hl
 have HB2 : Hid (Below w.heap.size w w2) := below_trans HB.out hB
 clear hB
 go_wp2_with fail
 refine (canon_walk hy _).mono ?_
 rintro e w' ⟨rfl, rfl⟩
 go_wp2_with fail
 refine bodyPost_ret (v := .tuple #[.agg #[.int .u64 k, .float .f64 (canonW (rung x))], .bool true]) (by simp [results, Tryz.results218, go_sem, Act.put, c0, c1, z0, z1, d0, d1, y0, y1, ltB, gtB]) rfl ⟨rfl, ?_⟩
 exact ((HB2.out.setCell (p := ⟨w.heap.size + 1, 1, none⟩) (by simp only; omega) _).setCell (p := ⟨w.heap.size + 1 + 1, 0, none⟩) (by simp only; omega) _).setCell (p := ⟨w.heap.size + 1 + 1, 1, none⟩) (by simp only; omega) _
set_option linter.unusedSimpArgs false in
theorem step_6 (N : Int) (X : Nat) (k : Nat) {x : Nat} (hx : x < 18446744073709551616) (w : World) :
  Calls Tryz.prog 218 #[.agg #[.int .i64 6, .int .i64 N, .float .f64 X], .agg #[.int .u64 k, .float .f64 x]] w fun e w' => e = .returned (.tuple #[.agg #[.int .u64 k, .float .f64 (canonW (floorW x))], .bool true]) ∧ Below w.heap.size w w' := by
 go_in
 go_wp2_with fail
 generalize hw1 : ((w.alloc (Obj.cells #[Value.int IntKind.i64 6, Value.int IntKind.i64 N, Value.float FloatKind.f64 X] 138)).alloc (Obj.cells #[Value.int IntKind.u64 k, Value.float FloatKind.f64 x] 81)).alloc (Obj.cells #[Value.int IntKind.u64 0, Value.float FloatKind.f64 0] 81) = w1
 obtain ⟨HS, HB, o0, o1, o2, R1, R2⟩ := step_start hw1
 clear hw1
 obtain ⟨c0, c1, z0, z1⟩ := R1
 obtain ⟨d0, d1, y0, y1⟩ := R2
 refine (turn_floor N X hx _).mono ?_
 rintro e w2 ⟨y, rfl, hy, hyc, hB⟩
 have hl : w.heap.size + 1 + 1 < w1.heap.size := by rw [HS.out]; omega
 obtain ⟨c0, c1, z0, z1⟩ := (RB.mk c0 c1 z0 z1).below hB (by omega)
 obtain ⟨d0, d1, y0, y1⟩ := (RB.mk d0 d1 y0 y1).below hB hl
 have HB2 : Hid (Below w.heap.size w w2) := below_trans HB.out hB
 clear hB
 go_wp2_with fail
 refine (canon_walk hy _).mono ?_
 rintro e w' ⟨rfl, rfl⟩
 go_wp2_with fail
 refine bodyPost_ret (v := .tuple #[.agg #[.int .u64 k, .float .f64 (canonW (floorW x))], .bool true]) (by simp [results, Tryz.results218, go_sem, Act.put, c0, c1, z0, z1, d0, d1, y0, y1, ltB, gtB]) rfl ⟨rfl, ?_⟩
 exact ((HB2.out.setCell (p := ⟨w.heap.size + 1, 1, none⟩) (by simp only; omega) _).setCell (p := ⟨w.heap.size + 1 + 1, 0, none⟩) (by simp only; omega) _).setCell (p := ⟨w.heap.size + 1 + 1, 1, none⟩) (by simp only; omega) _
set_option linter.unusedSimpArgs false in
theorem step_7 (N : Int) (X : Nat) (k : Nat) {x : Nat} (hx : x < 18446744073709551616) (w : World) :
  Calls Tryz.prog 218 #[.agg #[.int .i64 7, .int .i64 N, .float .f64 X], .agg #[.int .u64 k, .float .f64 x]] w fun e w' => e = .returned (.tuple #[.agg #[.int .u64 k, .float .f64 (canonW (scaleR x N))], .bool true]) ∧ Below w.heap.size w w' := by
 go_in
 go_wp2_with fail
 generalize hw1 : ((w.alloc (Obj.cells #[Value.int IntKind.i64 7, Value.int IntKind.i64 N, Value.float FloatKind.f64 X] 138)).alloc (Obj.cells #[Value.int IntKind.u64 k, Value.float FloatKind.f64 x] 81)).alloc (Obj.cells #[Value.int IntKind.u64 0, Value.float FloatKind.f64 0] 81) = w1
 obtain ⟨HS, HB, o0, o1, o2, R1, R2⟩ := step_start hw1
 clear hw1
 obtain ⟨c0, c1, z0, z1⟩ := R1
 obtain ⟨d0, d1, y0, y1⟩ := R2
 refine (turn_scale N X hx _).mono ?_
 rintro e w2 ⟨y, rfl, hy, hyc, hB⟩
 have hl : w.heap.size + 1 + 1 < w1.heap.size := by rw [HS.out]; omega
 obtain ⟨c0, c1, z0, z1⟩ := (RB.mk c0 c1 z0 z1).below hB (by omega)
 obtain ⟨d0, d1, y0, y1⟩ := (RB.mk d0 d1 y0 y1).below hB hl
 have HB2 : Hid (Below w.heap.size w w2) := below_trans HB.out hB
 clear hB
 go_wp2_with fail
 refine (canon_walk hy _).mono ?_
 rintro e w' ⟨rfl, rfl⟩
 go_wp2_with fail
 refine bodyPost_ret (v := .tuple #[.agg #[.int .u64 k, .float .f64 (canonW (scaleR x N))], .bool true]) (by simp [results, Tryz.results218, go_sem, Act.put, c0, c1, z0, z1, d0, d1, y0, y1, ltB, gtB]) rfl ⟨rfl, ?_⟩
 exact ((HB2.out.setCell (p := ⟨w.heap.size + 1, 1, none⟩) (by simp only; omega) _).setCell (p := ⟨w.heap.size + 1 + 1, 0, none⟩) (by simp only; omega) _).setCell (p := ⟨w.heap.size + 1 + 1, 1, none⟩) (by simp only; omega) _
set_option linter.unusedSimpArgs false in
theorem step_8 (N : Int) (X : Nat) (k : Nat) {x : Nat} (hx : x < 18446744073709551616) (w : World) :
  Calls Tryz.prog 218 #[.agg #[.int .i64 8, .int .i64 N, .float .f64 X], .agg #[.int .u64 k, .float .f64 x]] w fun e w' => e = .returned (.tuple #[.agg #[.int .u64 k, .float .f64 (canonW (invW x))], .bool true]) ∧ Below w.heap.size w w' := by
 go_in
 go_wp2_with fail
 generalize hw1 : ((w.alloc (Obj.cells #[Value.int IntKind.i64 8, Value.int IntKind.i64 N, Value.float FloatKind.f64 X] 138)).alloc (Obj.cells #[Value.int IntKind.u64 k, Value.float FloatKind.f64 x] 81)).alloc (Obj.cells #[Value.int IntKind.u64 0, Value.float FloatKind.f64 0] 81) = w1
 obtain ⟨HS, HB, o0, o1, o2, R1, R2⟩ := step_start hw1
 clear hw1
 obtain ⟨c0, c1, z0, z1⟩ := R1
 obtain ⟨d0, d1, y0, y1⟩ := R2
 refine (turn_inv N X hx _).mono ?_
 rintro e w2 ⟨y, rfl, hy, hyc, hB⟩
 have hl : w.heap.size + 1 + 1 < w1.heap.size := by rw [HS.out]; omega
 obtain ⟨c0, c1, z0, z1⟩ := (RB.mk c0 c1 z0 z1).below hB (by omega)
 obtain ⟨d0, d1, y0, y1⟩ := (RB.mk d0 d1 y0 y1).below hB hl
 have HB2 : Hid (Below w.heap.size w w2) := below_trans HB.out hB
 clear hB
 go_wp2_with fail
 refine (canon_walk hy _).mono ?_
 rintro e w' ⟨rfl, rfl⟩
 go_wp2_with fail
 refine bodyPost_ret (v := .tuple #[.agg #[.int .u64 k, .float .f64 (canonW (invW x))], .bool true]) (by simp [results, Tryz.results218, go_sem, Act.put, c0, c1, z0, z1, d0, d1, y0, y1, ltB, gtB]) rfl ⟨rfl, ?_⟩
 exact ((HB2.out.setCell (p := ⟨w.heap.size + 1, 1, none⟩) (by simp only; omega) _).setCell (p := ⟨w.heap.size + 1 + 1, 0, none⟩) (by simp only; omega) _).setCell (p := ⟨w.heap.size + 1 + 1, 1, none⟩) (by simp only; omega) _
set_option linter.unusedSimpArgs false in
theorem step_10 (N : Int) (X : Nat) (k : Nat) {x : Nat} (hx : x < 18446744073709551616) (h0 : ¬ wholeI x = 0) (w : World) :
  Calls Tryz.prog 218 #[.agg #[.int .i64 10, .int .i64 N, .float .f64 X], .agg #[.int .u64 k, .float .f64 x]] w fun e w' => e = .returned (.tuple #[.agg #[.int .u64 k, .float .f64 (canonW (ofW (perI N (wholeI x))))], .bool true]) ∧ Below w.heap.size w w' := by
 go_in
 go_wp2_with fail
 generalize hw1 : ((w.alloc (Obj.cells #[Value.int IntKind.i64 10, Value.int IntKind.i64 N, Value.float FloatKind.f64 X] 138)).alloc (Obj.cells #[Value.int IntKind.u64 k, Value.float FloatKind.f64 x] 81)).alloc (Obj.cells #[Value.int IntKind.u64 0, Value.float FloatKind.f64 0] 81) = w1
 obtain ⟨HS, HB, o0, o1, o2, R1, R2⟩ := step_start hw1
 clear hw1
 obtain ⟨c0, c1, z0, z1⟩ := R1
 obtain ⟨d0, d1, y0, y1⟩ := R2
 refine (turn_per N X hx h0 _).mono ?_
 rintro e w2 ⟨y, rfl, hy, hyc, hB⟩
 have hl : w.heap.size + 1 + 1 < w1.heap.size := by rw [HS.out]; omega
 obtain ⟨c0, c1, z0, z1⟩ := (RB.mk c0 c1 z0 z1).below hB (by omega)
 obtain ⟨d0, d1, y0, y1⟩ := (RB.mk d0 d1 y0 y1).below hB hl
 have HB2 : Hid (Below w.heap.size w w2) := below_trans HB.out hB
 clear hB
 go_wp2_with fail
 refine (canon_walk hy _).mono ?_
 rintro e w' ⟨rfl, rfl⟩
 go_wp2_with fail
 refine bodyPost_ret (v := .tuple #[.agg #[.int .u64 k, .float .f64 (canonW (ofW (perI N (wholeI x))))], .bool true]) (by simp [results, Tryz.results218, go_sem, Act.put, c0, c1, z0, z1, d0, d1, y0, y1, ltB, gtB]) rfl ⟨rfl, ?_⟩
 exact ((HB2.out.setCell (p := ⟨w.heap.size + 1, 1, none⟩) (by simp only; omega) _).setCell (p := ⟨w.heap.size + 1 + 1, 0, none⟩) (by simp only; omega) _).setCell (p := ⟨w.heap.size + 1 + 1, 1, none⟩) (by simp only; omega) _
set_option linter.unusedSimpArgs false in
theorem step_9 (N : Int) (X : Nat) (k : Nat) {x : Nat} (hx : x < 18446744073709551616) (h0 : rung x < 9218868437227405312) (w : World) :
  Calls Tryz.prog 218 #[.agg #[.int .i64 9, .int .i64 N, .float .f64 X], .agg #[.int .u64 k, .float .f64 x]] w fun e w' => e = .returned (.tuple #[.agg #[.int .u64 k, .float .f64 x], .bool true]) ∧ Below w.heap.size w w' := by
 have HQ : Hid (rung x < 9218868437227405312) := h0
 clear h0
 go_in
 go_wp2_with fail
 generalize hw1 : ((w.alloc (Obj.cells #[Value.int IntKind.i64 9, Value.int IntKind.i64 N, Value.float FloatKind.f64 X] 138)).alloc (Obj.cells #[Value.int IntKind.u64 k, Value.float FloatKind.f64 x] 81)).alloc (Obj.cells #[Value.int IntKind.u64 0, Value.float FloatKind.f64 0] 81) = w1
 obtain ⟨HS, HB, o0, o1, o2, R1, R2⟩ := step_start hw1
 clear hw1
 obtain ⟨c0, c1, z0, z1⟩ := R1
 obtain ⟨d0, d1, y0, y1⟩ := R2
 refine (need_ok hx HQ.out _).mono ?_
 rintro e w2 ⟨rfl, rfl⟩
 go_wp2_with fail
 refine bodyPost_ret (v := .tuple #[.agg #[.int .u64 k, .float .f64 x], .bool true]) (by simp [results, Tryz.results218, go_sem, Act.put, c0, c1, z0, z1, d0, d1, y0, y1, ltB, gtB]) rfl ⟨rfl, ?_⟩
 exact ((HB.out.setCell (p := ⟨w.heap.size + 1 + 1, 0, none⟩) (by simp only; omega) _).setCell (p := ⟨w.heap.size + 1 + 1, 1, none⟩) (by simp only; omega) _)
set_option linter.unusedSimpArgs false in
theorem step_9_trap (N : Int) (X : Nat) (k : Nat) {x : Nat} (hx : x < 18446744073709551616) (h0 : 9218868437227405312 ≤ rung x) (w : World) :
  Calls Tryz.prog 218 #[.agg #[.int .i64 9, .int .i64 N, .float .f64 X], .agg #[.int .u64 k, .float .f64 x]] w fun e w' => (∃ u pv, e = .panicked [{ v := .iface u pv, recovered := false }]) ∧ Below w.heap.size w w' := by
 have HQ : Hid (9218868437227405312 ≤ rung x) := h0
 clear h0
 go_in
 go_wp2_with fail
 generalize hw1 : ((w.alloc (Obj.cells #[Value.int IntKind.i64 9, Value.int IntKind.i64 N, Value.float FloatKind.f64 X] 138)).alloc (Obj.cells #[Value.int IntKind.u64 k, Value.float FloatKind.f64 x] 81)).alloc (Obj.cells #[Value.int IntKind.u64 0, Value.float FloatKind.f64 0] 81) = w1
 obtain ⟨HS, HB, o0, o1, o2, R1, R2⟩ := step_start hw1
 clear hw1
 obtain ⟨c0, c1, z0, z1⟩ := R1
 obtain ⟨d0, d1, y0, y1⟩ := R2
 refine (need_trap hx HQ.out _).mono ?_
 rintro e w2 ⟨⟨u, pv, rfl⟩, rfl⟩
 go_wp2_with fail
 exact ⟨rfl, ⟨_, _, rfl⟩, HB.out⟩
set_option linter.unusedSimpArgs false in
theorem step_10_trap (N : Int) (X : Nat) (k : Nat) {x : Nat} (hx : x < 18446744073709551616) (h0 : wholeI x = 0) (w : World) :
  Calls Tryz.prog 218 #[.agg #[.int .i64 10, .int .i64 N, .float .f64 X], .agg #[.int .u64 k, .float .f64 x]] w fun e w' => (∃ u pv, e = .panicked [{ v := .iface u pv, recovered := false }]) ∧ Below w.heap.size w w' := by
 go_in
 go_wp2_with fail
 generalize hw1 : ((w.alloc (Obj.cells #[Value.int IntKind.i64 10, Value.int IntKind.i64 N, Value.float FloatKind.f64 X] 138)).alloc (Obj.cells #[Value.int IntKind.u64 k, Value.float FloatKind.f64 x] 81)).alloc (Obj.cells #[Value.int IntKind.u64 0, Value.float FloatKind.f64 0] 81) = w1
 obtain ⟨HS, HB, o0, o1, o2, R1, R2⟩ := step_start hw1
 clear hw1
 obtain ⟨c0, c1, z0, z1⟩ := R1
 obtain ⟨d0, d1, y0, y1⟩ := R2
 refine (turn_per_trap N X hx h0 _).mono ?_
 rintro e w2 ⟨⟨u, pv, rfl⟩, hB⟩
 go_wp2_with fail
 exact ⟨rfl, ⟨_, _, rfl⟩, below_trans HB.out hB⟩
set_option linter.unusedSimpArgs false in
theorem step_11 (N : Int) (X : Nat) (k : Nat) {x : Nat} (n1 : 1 ≤ N) (n2 : N < 9223372036854775808) (w : World) :
  Calls Tryz.prog 218 #[.agg #[.int .i64 11, .int .i64 N, .float .f64 X], .agg #[.int .u64 k, .float .f64 x]] w fun e w' => e = .returned (.tuple #[.agg #[.int .u64 ((k % N.toNat : Nat) : Int), .float .f64 x], .bool true]) ∧ Below w.heap.size w w' := by
 have HE : Hid (((k % N.toNat : Nat) : Int) = (k : Int) % N) := by
  show _ = _
  rw [Int.natCast_emod, Int.toNat_of_nonneg (by omega)]
 have e1 : IntKind.u64.wrap N = N := by simp [IntKind.wrap_u64]; omega
 have e2 : ¬ N = 0 := by omega
 go_in
 go_wp2_with fail
 refine bodyPost_ret (v := .tuple #[.agg #[.int .u64 ((k : Int) % N), .float .f64 x], .bool true]) (by simp [results, Tryz.results218, go_sem]) rfl ⟨by rw [HE.out], ?_⟩
 exact ((below_alloc _ _).alloc (by simp [go_sem]) _).alloc (by simp [go_sem]; omega) _
set_option linter.unusedSimpArgs false in
theorem step_12 (N : Int) (X : Nat) (k : Nat) {x : Nat} (hx : x < 18446744073709551616) (w : World) :
  Calls Tryz.prog 218 #[.agg #[.int .i64 12, .int .i64 N, .float .f64 X], .agg #[.int .u64 k, .float .f64 x]] w fun e w' => e = .returned (.tuple #[.agg #[.int .u64 ((k % 4611686018427387904 * 4 + sideN x : Nat) : Int), .float .f64 x], .bool true]) ∧ Below w.heap.size w w' := by
 have HE : Hid (((k % 4611686018427387904 * 4 + sideN x : Nat) : Int) = IntKind.u64.wrap ((k : Int) % 4611686018427387904 * 4 + (sideN x : Int))) := by
  have h1 := side_lt x
  have h2 := Nat.mod_lt k (show 4611686018427387904 > 0 by omega)
  show _ = _
  rw [IntKind.wrap_u64]; omega
 go_in
 go_wp2_with fail
 generalize hw1 : ((w.alloc (Obj.cells #[Value.int IntKind.i64 12, Value.int IntKind.i64 N, Value.float FloatKind.f64 X] 138)).alloc (Obj.cells #[Value.int IntKind.u64 k, Value.float FloatKind.f64 x] 81)).alloc (Obj.cells #[Value.int IntKind.u64 0, Value.float FloatKind.f64 0] 81) = w1
 obtain ⟨HS, HB, o0, o1, o2, R1, R2⟩ := step_start hw1
 clear hw1
 obtain ⟨c0, c1, z0, z1⟩ := R1
 obtain ⟨d0, d1, y0, y1⟩ := R2
 go_region_with ((go_at_call 259; refine (side_walk hx _).mono ?_; rintro e w' ⟨rfl, rfl⟩))
 all_goals
  go_wp2_with fail
  refine bodyPost_ret (v := .tuple #[.agg #[.int .u64 (IntKind.u64.wrap ((k : Int) % 4611686018427387904 * 4 + (sideN x : Int))), .float .f64 x], .bool true]) (by simp [results, Tryz.results218, go_sem, Act.put, c0, c1, z0, z1, d0, d1, y0, y1]) rfl ⟨by rw [HE.out], ?_⟩
  exact (((HB.out.setCell (p := ⟨w.heap.size + 1, 0, none⟩) (by simp only; omega) _).setCell (p := ⟨w.heap.size + 1 + 1, 0, none⟩) (by simp only; omega) _).setCell (p := ⟨w.heap.size + 1 + 1, 1, none⟩) (by simp only; omega) _).drew
end
end Go.Proofs.YtofkhgokfdpdiaaGreat
