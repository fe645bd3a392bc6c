/- Contracts of the functions that a step is made of: isStep, side, needFinite, turn. -/
import Derived.Test.YtjkhegekojflhabXa
import Derived.WalkKit
import Derived.ProofKit
import Derived.Deep.Draws
import Derived.WalkLawsBesides
namespace Go.Proofs.Ytjkhegekojflhab
open Ieee Go.RowKit

attribute [local go_sem] run_bits run_frombits unary_negW

/-- A float laid into a cell. -/
theorem run_store_float {P : Program} {w : World} {a : Addr} {m : Mode} (k : FloatKind) (x : Nat) : (store a (.float k x) m).run P w = stored P w a (.float k x) m := run_store P w a _ m rfl
attribute [local go_sem] run_store_float

theorem cell_lt {w : World} {a : Addr} {u : Value} (h : w.cell? a = some u) : a.block < w.heap.size := World.block_lt_of_cell? w a h
theorem below_alloc (w : World) (o : Obj) : Below w.heap.size w (w.alloc o) := (Below.refl _ _).alloc (Nat.le_refl _) o
theorem below_trans {w w1 w2 : World} (h : Below w.heap.size w w1) (k : Below w1.heap.size w1 w2) : Below w.heap.size w w2 :=
  h.trans (k.mono h.size)
theorem below_drewN (w : World) (n : Nat) : Below w.heap.size w (w.drewN n) := ⟨rfl, rfl, rfl, Nat.le_refl _, fun _ _ => rfl⟩
theorem below_same (w : World) : Below w.heap.size w w := Below.refl _ _

theorem isStep_walk (o : Stp) (w : World) :
    Calls Try.prog 40 #[.agg #[.int .i64 o.K, .int .i64 o.N, .float .f64 o.X]] w fun e w' => e = .returned (.bool (isB o)) ∧ Below w.heap.size w w' := by
  obtain ⟨K, N, X⟩ := o
  by_cases h7 : K = 7
  · subst h7
    go_enter Try.func40, Try.ntmps40
    go_wp2
    all_goals (go_ret; exact ⟨ret_bool (by rw [Bool.eq_iff_iff]; unfold isB; simp <;> omega), below_alloc _ _⟩)
  · by_cases h11 : K = 11
    · subst h11
      go_enter Try.func40, Try.ntmps40
      go_wp2
      all_goals (go_ret; exact ⟨ret_bool (by rw [Bool.eq_iff_iff]; unfold isB; simp <;> omega), below_alloc _ _⟩)
    · have b7 : (K == 7) = false := by simpa using h7
      have b11 : (K == 11) = false := by simpa using h11
      go_enter Try.func40, Try.ntmps40
      go_wp2
      all_goals (go_ret; exact ⟨ret_bool (by rw [Bool.eq_iff_iff]; unfold isB; simp [h7, h11] <;> omega), below_alloc _ _⟩)

theorem key_zero {x : Nat} : key x = 0 ↔ rung x = 0 := by unfold key; split <;> omega
theorem side_walk {x : Nat} (hx : x < 18446744073709551616) (w : World) :
    Calls Try.prog 55 #[.float .f64 x] w fun e w' => e = .returned (.int .u64 (sideN x)) ∧ w' = w := by
  cases hn : nanB x
  · rcases order_cases (c := 0) hx (show 0 < 18446744073709551616 by omega) hn (by decide) (by decide) with ⟨h, ho⟩ | ⟨h, ho⟩ | ⟨h, ho⟩
    all_goals
      go_enter Try.func55, Try.ntmps55
      go_wp2
      go_ret
      exact ⟨ret_int (by unfold sideN; rw [hn]; simp only [Bool.false_eq_true, if_false]; split <;> (try split) <;> omega), rfl⟩
  · have ho : FloatKind.f64.format.order x 0 = none := order_nan_left hx hn
    go_enter Try.func55, Try.ntmps55
    go_wp2
    go_ret
    exact ⟨ret_int (by unfold sideN; rw [hn]; rfl), rfl⟩

theorem class_big (x : Nat) : (classI x = 5 ∨ classI x = 4) ↔ 9218868437227405312 ≤ rung x := by
  unfold classI
  cases h : nanB x
  · have := nan_f h
    simp only [Bool.false_eq_true, if_false]
    split <;> (try split) <;> (try split) <;> omega
  · have := nan_t h
    simp; omega

theorem need_ok {x : Nat} (hx : x < 18446744073709551616) (h : rung x < 9218868437227405312) (w : World) :
    Calls Try.prog 54 #[.float .f64 x] w fun e w' => e = .returned (.tuple #[]) ∧ w' = w := by
  have hc := mt (class_big x).1 (by omega)
  have h5 : (classI x == 5) = false := by simp; omega
  have h4 : (classI x == 4) = false := by simp; omega
  clear hc h
  go_enter Try.func54, Try.ntmps54
  go_wp2_with fail
  refine (class_walk hx _).mono ?_
  rintro e w' ⟨rfl, rfl⟩
  go_wp2_with fail
  go_end0
  exact ⟨rfl, rfl⟩

theorem need_trap {x : Nat} (hx : x < 18446744073709551616) (h : 9218868437227405312 ≤ rung x) (w : World) :
    Calls Try.prog 54 #[.float .f64 x] w fun e w' => (∃ u pv, e = .panicked [{ v := .iface u pv, recovered := false }]) ∧ w' = w := by
  have hc := (class_big x).2 h
  clear h
  rcases hc with h5 | h4
  · have b5 : (classI x == 5) = true := by simpa using h5
    clear h5
    go_enter Try.func54, Try.ntmps54
    go_wp2_with fail
    refine (class_walk hx _).mono ?_
    rintro e w' ⟨rfl, rfl⟩
    go_wp2_with fail
    exact ⟨rfl, ⟨_, _, rfl⟩, rfl⟩
  · have b4 : (classI x == 4) = true := by simpa using h4
    have b5 : (classI x == 5) = false := by simp; omega
    clear h4
    go_enter Try.func54, Try.ntmps54
    go_wp2_with fail
    refine (class_walk hx _).mono ?_
    rintro e w' ⟨rfl, rfl⟩
    go_wp2_with fail
    exact ⟨rfl, ⟨_, _, rfl⟩, rfl⟩

theorem turn_neg (N : Int) (X : Nat) {x : Nat} (hx : x < 18446744073709551616) (w : World) :
    Calls Try.prog 56 #[.agg #[.int .i64 4, .int .i64 N, .float .f64 X], .float .f64 x] w fun e w' => ∃ y, e = .returned (.float .f64 y) ∧ y < 18446744073709551616 ∧ canonW y = canonW (negW x) ∧ Below w.heap.size w w' := by
  go_enter Try.func56, Try.ntmps56
  go_wp2_with fail
  go_ret
  exact ⟨_, rfl, negW_lt hx, rfl, below_alloc _ _⟩

theorem turn_abs (N : Int) (X : Nat) {x : Nat} (hx : x < 18446744073709551616) (w : World) :
    Calls Try.prog 56 #[.agg #[.int .i64 5, .int .i64 N, .float .f64 X], .float .f64 x] w fun e w' => ∃ y, e = .returned (.float .f64 y) ∧ y < 18446744073709551616 ∧ canonW y = canonW (rung x) ∧ Below w.heap.size w w' := by
  go_enter Try.func56, Try.ntmps56
  go_wp2_with fail
  refine (abs_walk hx _).mono ?_
  rintro e w' ⟨rfl, rfl⟩
  go_wp2_with fail
  go_ret
  exact ⟨_, rfl, by have := rung_lt x; omega, rfl, below_alloc _ _⟩

theorem floorW_lt {x : Nat} (hx : x < 18446744073709551616) : floorW x < 18446744073709551616 := by
  cases h : nanB x
  · exact (floorW_nan hx h).2
  · unfold floorW; rw [h]; simp

theorem turn_floor (N : Int) (X : Nat) {x : Nat} (hx : x < 18446744073709551616) (w : World) :
    Calls Try.prog 56 #[.agg #[.int .i64 6, .int .i64 N, .float .f64 X], .float .f64 x] w fun e w' => ∃ y, e = .returned (.float .f64 y) ∧ y < 18446744073709551616 ∧ canonW y = canonW (floorW x) ∧ Below w.heap.size w w' := by
  go_enter Try.func56, Try.ntmps56
  go_wp2_with fail
  refine (floor_walk hx _).mono ?_
  rintro e w' ⟨rfl, n, rfl⟩
  go_wp2_with fail
  go_ret
  exact ⟨_, rfl, floorW_lt hx, rfl, below_trans (below_alloc _ _) (below_drewN _ _)⟩

theorem turn_scale (N : Int) (X : Nat) {x : Nat} (hx : x < 18446744073709551616) (w : World) :
    Calls Try.prog 56 #[.agg #[.int .i64 7, .int .i64 N, .float .f64 X], .float .f64 x] w fun e w' => ∃ y, e = .returned (.float .f64 y) ∧ y < 18446744073709551616 ∧ canonW y = canonW (scaleR x N) ∧ Below w.heap.size w w' := by
  go_enter Try.func56, Try.ntmps56
  go_wp2_with fail
  refine (scale_walk N hx _).mono ?_
  rintro e w' ⟨rfl, rfl⟩
  go_wp2_with fail
  go_ret
  exact ⟨_, rfl, scaleR_lt _ hx, rfl, below_alloc _ _⟩

/-- The bits that the tape gives where a by b has no answer. -/
def nanQ (a b : Nat) (w : World) : Nat := (Question.nanBits .f64 a b).cut (w.tape w.drawn (.nanBits .f64 a b))
theorem nanQ_nan (a b : Nat) (w : World) : nanB (nanQ a b w) = true ∧ nanQ a b w < 18446744073709551616 := by
  unfold nanQ
  generalize w.tape w.drawn (.nanBits .f64 a b) = t
  have e : (Question.nanBits .f64 a b).cut t = (t % 2) * 9223372036854775808 + 9218868437227405312 + 1 + (t / 2) % 4503599627370495 := rfl
  rw [e]
  have h1 : t % 2 < 2 := Nat.mod_lt _ (by omega)
  have h2 : (t / 2) % 4503599627370495 < 4503599627370495 := Nat.mod_lt _ (by omega)
  generalize t % 2 = a at *
  generalize (t / 2) % 4503599627370495 = b at *
  refine ⟨?_, by omega⟩
  unfold nanB rung
  rw [decide_eq_true_eq]
  omega
theorem run_quo_nan (P : Program) {a x : Nat} (t : TypeId) (h : FloatKind.f64.format.div a x = none) (w : World) :
    (binOp .quo t (.float .f64 a) (.float .f64 x)).run P w = .ok (.float .f64 (nanQ a x w)) (w.drewN 1) := by
  simp [binOp, Op.floatArith, h, Question.forced]
  exact ⟨rfl, rfl⟩
theorem run_quo_num (P : Program) {a x r : Nat} (t : TypeId) (h : FloatKind.f64.format.div a x = some r) (w : World) :
    (binOp .quo t (.float .f64 a) (.float .f64 x)).run P w = .ok (.float .f64 r) w := run_float_arith _ _ _ _ _ _ _ h

theorem turn_inv (N : Int) (X : Nat) {x : Nat} (hx : x < 18446744073709551616) (w : World) :
    Calls Try.prog 56 #[.agg #[.int .i64 8, .int .i64 N, .float .f64 X], .float .f64 x] w fun e w' => ∃ y, e = .returned (.float .f64 y) ∧ y < 18446744073709551616 ∧ canonW y = canonW (invW x) ∧ Below w.heap.size w w' := by
  cases hn : nanB x
  · obtain ⟨r, h1, _, h3, _⟩ := inv_some hx hn
    have hr : ∀ w : World, (binOp .quo 38 (.float .f64 4607182418800017408) (.float .f64 x)).run Try.prog w = .ok (.float .f64 r) w := fun w => run_quo_num Try.prog _ h1 w
    have HE : Hid (invW x = r) := invW_num h1
    clear h1
    go_enter Try.func56, Try.ntmps56
    go_wp2_with fail
    go_ret
    exact ⟨_, rfl, h3, by rw [HE.out], below_alloc _ _⟩
  · have h1 := inv_nan hx hn
    have hr : ∀ w : World, (binOp .quo 38 (.float .f64 4607182418800017408) (.float .f64 x)).run Try.prog w = .ok (.float .f64 (nanQ 4607182418800017408 x w)) (w.drewN 1) := fun w => run_quo_nan Try.prog _ h1 w
    have HE : Hid (invW x = 9221120237041090561) := invW_nan h1
    clear h1
    go_enter Try.func56, Try.ntmps56
    go_wp2_with fail
    go_ret
    exact ⟨_, rfl, (nanQ_nan _ _ _).2, by rw [HE.out, canon_nan (nanQ_nan _ _ _).1]; rfl, below_trans (below_alloc _ _) (below_drewN _ 1)⟩

end Go.Proofs.Ytjkhegekojflhab
