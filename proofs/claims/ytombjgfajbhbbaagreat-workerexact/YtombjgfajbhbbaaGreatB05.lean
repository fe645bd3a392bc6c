/- OpPer's turn. -/
import Derived.Test.YtombjgfajbhbbaaGreatB04
import Derived.BigQuiet
import Derived.Deep.QuietTactic
import Derived.Deep.RegionWith
set_option maxRecDepth 100000
set_option maxHeartbeats 16000000
namespace Go.Proofs.YtombjgfajbhbbaaGreat
open Go.RowKit
section
open Ieee

structure Stp where
 K : Int
 N : Int
 X : Nat
structure Rcd where
 k : Nat
 x : Nat
def Stp.ok (o : Stp) : Prop := (-9223372036854775808 ≤ o.K ∧ o.K < 9223372036854775808) ∧ (-9223372036854775808 ≤ o.N ∧ o.N < 9223372036854775808) ∧ o.X < 18446744073709551616
def Rcd.ok (r : Rcd) : Prop := r.k < 18446744073709551616 ∧ r.x < 18446744073709551616
def isB (o : Stp) : Bool := if o.K = 7 then decide (-2200 ≤ o.N ∧ o.N ≤ 2200) else if o.K = 11 then decide (1 ≤ o.N) else decide (1 ≤ o.K ∧ o.K ≤ 12)
def checkB (l : List Stp) : Bool := decide (l.length ≤ 8) && l.all isB
def negW (x : Nat) : Nat := Op.negFloat .f64 x
theorem unary_negW (x : Nat) : Op.unary .neg (.float .f64 x) = pure (.float .f64 (negW x)) := rfl
def invW (x : Nat) : Nat := (Ieee.double.div 4607182418800017408 x).getD 9221120237041090561
def sideN (x : Nat) : Nat := if nanB x then 3 else if key x < 0 then 0 else if key x = 0 then 1 else 2
def perI (n w : Int) : Int := RowKit.wrap64 (n.tdiv w)
def turnW (o : Stp) (x : Nat) : Nat :=
 if o.K = 4 then negW x else if o.K = 5 then rung x else if o.K = 6 then floorW x else if o.K = 7 then scaleR x o.N else if o.K = 8 then invW x else if o.K = 10 then ofW (perI o.N (wholeI x)) else x
def ltB (x y : Nat) : Bool := FloatKind.f64.format.order x y == some .lt
def gtB (x y : Nat) : Bool := FloatKind.f64.format.order x y == some .gt
def fateI (o : Stp) (x : Nat) : Int :=
 if o.K = 1 then (if ltB x o.X then 1 else 2) else if o.K = 2 then (if gtB x o.X then 1 else 2) else if o.K = 3 then (if nanB x then 2 else 1)
 else if o.K = 9 then (if 9218868437227405312 ≤ rung x then 3 else 1) else if o.K = 10 then (if wholeI x = 0 then 3 else 1) else 1
def nextR (o : Stp) (r : Rcd) : Rcd :=
 if o.K = 11 then ⟨r.k % o.N.toNat, r.x⟩ else if o.K = 12 then ⟨r.k % 4611686018427387904 * 4 + sideN r.x, r.x⟩
 else if o.K = 1 ∨ o.K = 2 ∨ o.K = 3 ∨ o.K = 9 then r else ⟨r.k, canonW (turnW o r.x)⟩
def zeroR : Rcd := ⟨0, 0⟩
def canR (r : Rcd) : Rcd := ⟨r.k, canonW r.x⟩
def goS : List Stp → Rcd → Int × Rcd
 | [], r => (1, r)
 | o :: l, r => if fateI o r.x = 1 then goS l (nextR o r) else (fateI o r.x, zeroR)
theorem goS_keep {o : Stp} {l : List Stp} {r : Rcd} (h : fateI o r.x = 1) : goS (o :: l) r = goS l (nextR o r) := if_pos h
theorem goS_stop {o : Stp} {l : List Stp} {r : Rcd} (h : ¬ fateI o r.x = 1) : goS (o :: l) r = (fateI o r.x, zeroR) := if_neg h
def runS (l : List Stp) (r : Rcd) : Int × Rcd := if checkB l then goS l (canR r) else (0, zeroR)
def oneS (o : Stp) (r : Rcd) : Int × Rcd := runS [o] r
theorem canon_canon (x : Nat) : canonW (canonW x) = canonW x := by
 cases h : nanB x
 ·have : canonW x = x := by unfold canonW; rw [h]; rfl
  rw [this, this]
 ·have : canonW x = 9221120237041090561 := by unfold canonW; rw [h]; rfl
  rw [this]; decide
theorem canon_num {x : Nat} (h : nanB x = false) : canonW x = x := by unfold canonW; rw [h]; rfl
theorem canon_nan {x : Nat} (h : nanB x = true) : canonW x = 9221120237041090561 := by unfold canonW; rw [h]; rfl
theorem nan_canon (x : Nat) : nanB (canonW x) = nanB x := by
 cases h : nanB x
 ·rw [canon_num h, h]
 ·rw [canon_nan h]; decide
theorem negW_eq (x : Nat) : negW x = x ^^^ 9223372036854775808 := rfl
theorem xor63_lo {y : Nat} (hy : y < 2 ^ 63) : y ^^^ 2 ^ 63 = 2 ^ 63 + y := by
 have e : 2 ^ 63 + y = 2 ^ 63 ||| y := by
  have := Nat.two_pow_add_eq_or_of_lt hy 1;rwa [Nat.mul_one] at this
 rw [e];apply Nat.eq_of_testBit_eq;intro i;rw [Nat.testBit_xor, Nat.testBit_or, Nat.testBit_two_pow];by_cases hi : 63 = i
 ·subst hi;rw [Nat.testBit_lt_two_pow hy]; rfl
 ·rw [decide_eq_false hi]; simp
theorem negW_cases {x : Nat} (hx : x < 18446744073709551616) : negW x = if negB x then x - 9223372036854775808 else x + 9223372036854775808 := by
 rw [negW_eq, show (9223372036854775808 : Nat) = 2 ^ 63 from rfl]
 cases h : negB x
 ·have h' := neg_f h;rw [xor63_lo h'];simp; omega
 ·have h' := neg_t h;obtain ⟨y, hyx⟩ : ∃ y, x = 2 ^ 63 + y := ⟨x - 9223372036854775808, by omega⟩;have hy' : y < 2 ^ 63 := by omega
  subst hyx;rw [← xor63_lo hy', Nat.xor_assoc, Nat.xor_self, Nat.xor_zero, xor63_lo hy'];simp
theorem negW_lt {x : Nat} (hx : x < 18446744073709551616) : negW x < 18446744073709551616 := by
 rw [negW_cases hx]; cases h : negB x
 ·have := neg_f h; simp; omega
 ·simp; omega
theorem scaleR_lt {x : Nat} (n : Int) (hx : x < 18446744073709551616) : scaleR x n < 18446744073709551616 := by
 rw [← ldW_canon]; exact canon_lt (ldW_lt hx)
theorem read_one : Ieee.double.read 4607182418800017408 = .number false 4503599627370496 (-52) := by decide
theorem inv_nan {x : Nat} (hx : x < 18446744073709551616) (h : nanB x = true) : Ieee.double.div 4607182418800017408 x = none := by
 unfold Format.div;rw [read_one, read_nan hx (nan_t h)]; rfl
theorem inv_inf {x : Nat} (hx : x < 18446744073709551616) (h : rung x = 9218868437227405312) : Ieee.double.div 4607182418800017408 x = some (Ieee.double.word (negB x) 0) := by
 unfold Format.div;rw [read_one, read_inf hx h];show some (Ieee.double.nearest (false ^^ negB x) 0 0) = _;rw [nearest_zero, Bool.false_xor]
theorem inv_zero {x : Nat} (hx : x < 18446744073709551616) (h : rung x = 0) : Ieee.double.div 4607182418800017408 x = some (Ieee.double.word (negB x) 9218868437227405312) := by
 unfold Format.div;rw [read_one, read_num hx (by omega), h, show mag 0 = 0 from rfl];unfold Datum.quotient;simp only [if_pos, Bool.false_xor];rw [if_neg (by omega)];simp only [Option.map_some];show some (Ieee.double.word (negB x) Ieee.double.infRung) = _;rw [ir]
theorem inv_some {x : Nat} (hx : x < 18446744073709551616) (h : nanB x = false) :
  ∃ r, Ieee.double.div 4607182418800017408 x = some r ∧ nanB r = false ∧ r < 18446744073709551616 ∧ negB r = negB x := by
 have hr := nan_f h;by_cases h1 : rung x = 9218868437227405312
 ·refine ⟨_, inv_inf hx h1, ?_, word_lt64 _ (by omega), neg_word _ (by omega)⟩;unfold nanB; rw [rung_word _ (by omega)]; rfl
 by_cases h0 : rung x = 0
 ·refine ⟨_, inv_zero hx h0, ?_, word_lt64 _ (by omega), neg_word _ (by omega)⟩;unfold nanB; rw [rung_word _ (by omega)]; rfl
 ·have hm := mag_ne h0;unfold Format.div;rw [read_one, read_num hx (by omega)];unfold Datum.quotient;simp only;rw [if_neg hm, Bool.false_xor];exact ⟨_, rfl, nearest_nan _ _ _, nearest_lt64 _ _ _, nearest_neg _ _ _⟩
theorem invW_num {x r : Nat} (h : Ieee.double.div 4607182418800017408 x = some r) : invW x = r := by unfold invW; rw [h]; rfl
theorem invW_nan {x : Nat} (h : Ieee.double.div 4607182418800017408 x = none) : invW x = 9221120237041090561 := by unfold invW; rw [h]; rfl
theorem side_lt (x : Nat) : sideN x < 4 := by unfold sideN; split <;> (try split) <;> (try split) <;> omega
theorem turnW_lt (o : Stp) {x : Nat} (hx : x < 18446744073709551616) : canonW (turnW o x) < 18446744073709551616 := by
 apply canon_lt;unfold turnW
 split
 ·exact negW_lt hx
 split
 ·have := rung_lt x; omega
 split
 ·cases h : nanB x
  ·exact (floorW_nan hx h).2
  ·unfold floorW; rw [h]; simp
 split
 ·exact scaleR_lt _ hx
 split
 ·cases h : nanB x
  ·obtain ⟨r, e1, _, e3, _⟩ := inv_some hx h;rw [invW_num e1]; exact e3
  ·rw [invW_nan (inv_nan hx h)]; omega
 split
 ·exact of_lt _
 ·exact hx
theorem nextR_ok {o : Stp} {r : Rcd} (hr : r.ok) : (nextR o r).ok := by
 obtain ⟨h1, h2⟩ := hr;unfold nextR
 split
 ·exact ⟨Nat.lt_of_le_of_lt (Nat.mod_le _ _) h1, h2⟩
 split
 ·refine ⟨?_, h2⟩;have := side_lt r.x;have := Nat.mod_lt r.k (show 4611686018427387904 > 0 by omega);simp only; omega
 split
 ·exact ⟨h1, h2⟩
 ·exact ⟨h1, turnW_lt o h2⟩
theorem nextR_can {o : Stp} {r : Rcd} (h : canonW r.x = r.x) : canonW (nextR o r).x = (nextR o r).x := by
 unfold nextR
 split
 ·exact h
 split
 ·exact h
 split
 ·exact h
 ·exact canon_canon _
theorem canR_ok {r : Rcd} (hr : r.ok) : (canR r).ok := ⟨hr.1, canon_lt hr.2⟩
theorem zeroR_ok : zeroR.ok := ⟨by decide, by decide⟩
theorem goS_ok (l : List Stp) : ∀ {r : Rcd}, r.ok → (goS l r).2.ok := by
 induction l with
 | nil => intro r h; exact h
 | cons o l ih =>
  intro r h;simp only [goS]
  split
  ·exact ih (nextR_ok h)
  ·exact zeroR_ok
theorem runS_ok (l : List Stp) {r : Rcd} (h : r.ok) : (runS l r).2.ok := by
 unfold runS; split
 ·exact goS_ok l (canR_ok h)
 ·exact zeroR_ok
theorem canR_can {r : Rcd} (h : canonW r.x = r.x) : canR r = r := by unfold canR; rw [h]
end
section
open Ieee Go.RowKit

attribute [local go_sem] run_bits run_frombits unary_negW
theorem run_store_float {P : Program} {w : World} {a : Addr} {m : Mode} (k : FloatKind) (x : Nat) : (store a (.float k x) m).run P w = stored P w a (.float k x) m := run_store P w a _ m rfl
attribute [local go_sem] run_store_float
theorem isStep_walk (o : Stp) (w : World) :
  Calls Tryz.prog 58 #[.agg #[.int .i64 o.K, .int .i64 o.N, .float .f64 o.X]] w fun e w' => e = .returned (.bool (isB o)) ∧ Below w.heap.size w w' := by
 obtain ⟨K, N, X⟩ := o;by_cases h7 : K = 7
 ·subst h7;go_in;go_wp2;all_goals (go_ret; exact ⟨ret_bool (by rw [Bool.eq_iff_iff]; unfold isB; simp <;> omega), below_alloc _ _⟩)
 ·by_cases h11 : K = 11
  ·subst h11;go_in;go_wp2;all_goals (go_ret; exact ⟨ret_bool (by rw [Bool.eq_iff_iff]; unfold isB; simp <;> omega), below_alloc _ _⟩)
  ·have b7 : (K == 7) = false := by simpa using h7
   have b11 : (K == 11) = false := by simpa using h11
   go_in;go_wp2;all_goals (go_ret; exact ⟨ret_bool (by rw [Bool.eq_iff_iff]; unfold isB; simp [h7, h11] <;> omega), below_alloc _ _⟩)
theorem side_walk {x : Nat} (hx : x < 18446744073709551616) (w : World) :
  Calls Tryz.prog 133 #[.float .f64 x] w fun e w' => e = .returned (.int .u64 (sideN x)) ∧ w' = w := by
 cases hn : nanB x
 ·rcases order_cases (c := 0) hx (show 0 < 18446744073709551616 by omega) hn (by decide) (by decide) with ⟨h, ho⟩ | ⟨h, ho⟩ | ⟨h, ho⟩
  all_goals
   go_in;go_wp2;go_ret;exact ⟨ret_int (by unfold sideN; rw [hn]; simp only [Bool.false_eq_true, if_false]; split <;> (try split) <;> omega), rfl⟩
 ·have ho : FloatKind.f64.format.order x 0 = none := order_nan_left hx hn;go_in;go_wp2;go_ret;exact ⟨ret_int (by unfold sideN; rw [hn]; rfl), rfl⟩
theorem class_big (x : Nat) : (classI x = 5 ∨ classI x = 4) ↔ 9218868437227405312 ≤ rung x := by
 unfold classI
 cases h : nanB x
 ·have := nan_f h;simp only [Bool.false_eq_true, if_false]
  split <;> (try split) <;> (try split) <;> omega
 ·have := nan_t h;simp; omega
theorem need_ok {x : Nat} (hx : x < 18446744073709551616) (h : rung x < 9218868437227405312) (w : World) :
  Calls Tryz.prog 132 #[.float .f64 x] w fun e w' => e = .returned (.tuple #[]) ∧ w' = w := by
 have hc := mt (class_big x).1 (by omega);have h5 : (classI x == 5) = false := by simp; omega
 have h4 : (classI x == 4) = false := by simp; omega
 clear hc h;go_in;go_wp2_with fail;refine (class_walk hx _).mono ?_;rintro e w' ⟨rfl, rfl⟩;go_wp2_with fail;go_end0;exact ⟨rfl, rfl⟩
theorem need_trap {x : Nat} (hx : x < 18446744073709551616) (h : 9218868437227405312 ≤ rung x) (w : World) :
  Calls Tryz.prog 132 #[.float .f64 x] w fun e w' => (∃ u pv, e = .panicked [{ v := .iface u pv, recovered := false }]) ∧ w' = w := by
 have hc := (class_big x).2 h;clear h;rcases hc with h5 | h4
 ·have b5 : (classI x == 5) = true := by simpa using h5
  clear h5;go_in;go_wp2_with fail;refine (class_walk hx _).mono ?_;rintro e w' ⟨rfl, rfl⟩;go_wp2_with fail;exact ⟨rfl, ⟨_, _, rfl⟩, rfl⟩
 ·have b4 : (classI x == 4) = true := by simpa using h4
  have b5 : (classI x == 5) = false := by simp; omega
  clear h4;go_in;go_wp2_with fail;refine (class_walk hx _).mono ?_;rintro e w' ⟨rfl, rfl⟩;go_wp2_with fail;exact ⟨rfl, ⟨_, _, rfl⟩, rfl⟩
theorem turn_neg (N : Int) (X : Nat) {x : Nat} (hx : x < 18446744073709551616) (w : World) :
  Calls Tryz.prog 134 #[.agg #[.int .i64 4, .int .i64 N, .float .f64 X], .float .f64 x] w fun e w' => ∃ y, e = .returned (.float .f64 y) ∧ y < 18446744073709551616 ∧ canonW y = canonW (negW x) ∧ Below w.heap.size w w' := by
 go_in;go_wp2_with fail;go_ret;exact ⟨_, rfl, negW_lt hx, rfl, below_alloc _ _⟩
theorem turn_abs (N : Int) (X : Nat) {x : Nat} (hx : x < 18446744073709551616) (w : World) :
  Calls Tryz.prog 134 #[.agg #[.int .i64 5, .int .i64 N, .float .f64 X], .float .f64 x] w fun e w' => ∃ y, e = .returned (.float .f64 y) ∧ y < 18446744073709551616 ∧ canonW y = canonW (rung x) ∧ Below w.heap.size w w' := by
 go_in;go_wp2_with fail;refine (abs_walk hx _).mono ?_;rintro e w' ⟨rfl, rfl⟩;go_wp2_with fail;go_ret;exact ⟨_, rfl, by have := rung_lt x; omega, rfl, below_alloc _ _⟩
theorem floorW_lt {x : Nat} (hx : x < 18446744073709551616) : floorW x < 18446744073709551616 := by
 cases h : nanB x
 ·exact (floorW_nan hx h).2
 ·unfold floorW; rw [h]; simp
theorem turn_floor (N : Int) (X : Nat) {x : Nat} (hx : x < 18446744073709551616) (w : World) :
  Calls Tryz.prog 134 #[.agg #[.int .i64 6, .int .i64 N, .float .f64 X], .float .f64 x] w fun e w' => ∃ y, e = .returned (.float .f64 y) ∧ y < 18446744073709551616 ∧ canonW y = canonW (floorW x) ∧ Below w.heap.size w w' := by
 go_in;go_wp2_with fail;refine (floor_walk hx _).mono ?_;rintro e w' ⟨rfl, n, rfl⟩;go_wp2_with fail;go_ret;exact ⟨_, rfl, floorW_lt hx, rfl, below_trans (below_alloc _ _) (below_drewN _ _)⟩
theorem turn_scale (N : Int) (X : Nat) {x : Nat} (hx : x < 18446744073709551616) (w : World) :
  Calls Tryz.prog 134 #[.agg #[.int .i64 7, .int .i64 N, .float .f64 X], .float .f64 x] w fun e w' => ∃ y, e = .returned (.float .f64 y) ∧ y < 18446744073709551616 ∧ canonW y = canonW (scaleR x N) ∧ Below w.heap.size w w' := by
 go_in;go_wp2_with fail;refine (scale_walk N hx _).mono ?_;rintro e w' ⟨rfl, rfl⟩;go_wp2_with fail;go_ret;exact ⟨_, rfl, scaleR_lt _ hx, rfl, below_alloc _ _⟩
def nanQ (a b : Nat) (w : World) : Nat := (Question.nanBits .f64 a b).cut (w.tape w.drawn (.nanBits .f64 a b))
theorem nanQ_nan (a b : Nat) (w : World) : nanB (nanQ a b w) = true ∧ nanQ a b w < 18446744073709551616 := by
 unfold nanQ;generalize w.tape w.drawn (.nanBits .f64 a b) = t;have e : (Question.nanBits .f64 a b).cut t = (t % 2) * 9223372036854775808 + 9218868437227405312 + 1 + (t / 2) % 4503599627370495 := rfl;rw [e];have h1 : t % 2 < 2 := Nat.mod_lt _ (by omega);have h2 : (t / 2) % 4503599627370495 < 4503599627370495 := Nat.mod_lt _ (by omega);generalize t % 2 = a at *;generalize (t / 2) % 4503599627370495 = b at *;refine ⟨?_, by omega⟩;unfold nanB rung;rw [decide_eq_true_eq];omega
theorem run_quo_nan (P : Program) {a x : Nat} (t : TypeId) (h : FloatKind.f64.format.div a x = none) (w : World) :
  (binOp .quo t (.float .f64 a) (.float .f64 x)).run P w = .ok (.float .f64 (nanQ a x w)) (w.drewN 1) := by
 simp [binOp, Op.floatArith, h, Question.forced];exact ⟨rfl, rfl⟩
theorem run_quo_num (P : Program) {a x r : Nat} (t : TypeId) (h : FloatKind.f64.format.div a x = some r) (w : World) :
  (binOp .quo t (.float .f64 a) (.float .f64 x)).run P w = .ok (.float .f64 r) w := run_float_arith _ _ _ _ _ _ _ h
theorem turn_inv (N : Int) (X : Nat) {x : Nat} (hx : x < 18446744073709551616) (w : World) :
  Calls Tryz.prog 134 #[.agg #[.int .i64 8, .int .i64 N, .float .f64 X], .float .f64 x] w fun e w' => ∃ y, e = .returned (.float .f64 y) ∧ y < 18446744073709551616 ∧ canonW y = canonW (invW x) ∧ Below w.heap.size w w' := by
 cases hn : nanB x
 ·obtain ⟨r, h1, _, h3, _⟩ := inv_some hx hn;have hr : ∀ w : World, (binOp .quo 41 (.float .f64 4607182418800017408) (.float .f64 x)).run Tryz.prog w = .ok (.float .f64 r) w := fun w => run_quo_num Tryz.prog _ h1 w;have HE : Hid (invW x = r) := invW_num h1;clear h1;go_in;go_wp2_with fail;go_ret;exact ⟨_, rfl, h3, by rw [HE.out], below_alloc _ _⟩
 ·have h1 := inv_nan hx hn;have hr : ∀ w : World, (binOp .quo 41 (.float .f64 4607182418800017408) (.float .f64 x)).run Tryz.prog w = .ok (.float .f64 (nanQ 4607182418800017408 x w)) (w.drewN 1) := fun w => run_quo_nan Tryz.prog _ h1 w;have HE : Hid (invW x = 9221120237041090561) := invW_nan h1;clear h1;go_in;go_wp2_with fail;go_ret;exact ⟨_, rfl, (nanQ_nan _ _ _).2, by rw [HE.out, canon_nan (nanQ_nan _ _ _).1]; rfl, below_trans (below_alloc _ _) (below_drewN _ 1)⟩
end
section
open Ieee Go.RowKit

theorem of_walk' (n : Int) (w : World) :
  Calls Tryz.prog 170 #[.int .i64 n] w fun e w' => e = .returned (.float .f64 (ofW n)) ∧ w' = w := of_walk n w
theorem turn_per (N : Int) (X : Nat) {x : Nat} (hx : x < 18446744073709551616) (h0 : ¬ wholeI x = 0) (w : World) :
  Calls Tryz.prog 134 #[.agg #[.int .i64 10, .int .i64 N, .float .f64 X], .float .f64 x] w fun e w' => ∃ y, e = .returned (.float .f64 y) ∧ y < 18446744073709551616 ∧ canonW y = canonW (ofW (perI N (wholeI x))) ∧ Below w.heap.size w w' := by
 go_in;go_wp2_with fail;generalize hw1 : w.alloc (Obj.cells #[Value.int IntKind.i64 10, Value.int IntKind.i64 N, Value.float FloatKind.f64 X] 80) = w1;have hc : w1.cell? ⟨w.heap.size, 1, none⟩ = some (.int .i64 N) := by rw [← hw1]; simp [go_sem]
 have hB : Below w.heap.size w w1 := by rw [← hw1]; exact below_alloc _ _
 clear hw1;go_quiet ((first | (go_at_call 158; exact Calls.quiet_of_same (whole_walk hx _)) | (go_at_call 170; exact Calls.quiet_of_same (of_walk' _ _))));go_wp2_with fail;go_ret;exact ⟨_, rfl, of_lt _, rfl, below_trans hB (below_drewN _ _)⟩
theorem turn_per_trap (N : Int) (X : Nat) {x : Nat} (hx : x < 18446744073709551616) (h0 : wholeI x = 0) (w : World) :
  Calls Tryz.prog 134 #[.agg #[.int .i64 10, .int .i64 N, .float .f64 X], .float .f64 x] w fun e w' => (∃ u pv, e = .panicked [{ v := .iface u pv, recovered := false }]) ∧ Below w.heap.size w w' := by
 go_in;go_wp2_with fail;refine wp_region_any (by kernel_rfl) ?_;change wpAny _ _ _ _ _ _ _ (World.drew _);refine wpAny_take (i := 0) (v := ?_) rfl (by kernel_rfl) (by kernel_rfl) (by kernel_rfl) (fun _ _ _ h => h) (Or.inl ⟨by rfl, ?_⟩) ?_;rotate_left
 ·intro w; go_simp; all_goals (with_reducible rfl)
 refine wpAny_take (i := 2) (v := ?_) rfl (by kernel_rfl) (by kernel_rfl) (by kernel_rfl) (fun _ _ _ h => h) (Or.inl ⟨by rfl, ?_⟩) ?_;rotate_left
 ·intro w; go_simp; all_goals (with_reducible rfl)
 refine wpAny_ready (rs := [1, 3]) (by kernel_rfl) (by simp) ?_;refine AllReady.cons rfl (fun K hK => ?_) ?_
 ·go_simp;refine hK _ _ ?_;clear hK K;refine wpAny_ready (rs := [3]) (by kernel_rfl) (by simp) ?_;refine AllReady.cons rfl (fun K hK => ?_) AllReady.nil;go_simp;go_wp2_with ((go_at_call 158; refine (whole_walk hx _).mono ?_; rintro e w' ⟨rfl, rfl⟩));refine wpAny_ready (rs := [4]) (by kernel_rfl) (by simp) ?_;refine AllReady.cons rfl (fun K hK => ?_) AllReady.nil;go_simp;exact ⟨rfl, ⟨_, _, rfl⟩, (below_alloc _ _).drew⟩
 ·refine AllReady.cons rfl (fun K hK => ?_) AllReady.nil;go_simp;go_wp2_with ((go_at_call 158; refine (whole_walk hx _).mono ?_; rintro e w' ⟨rfl, rfl⟩));refine wpAny_ready (rs := [1]) (by kernel_rfl) (by simp) ?_;refine AllReady.cons rfl (fun K hK => ?_) AllReady.nil;go_simp;refine hK _ _ ?_;clear hK K;refine wpAny_ready (rs := [4]) (by kernel_rfl) (by simp) ?_;refine AllReady.cons rfl (fun K hK => ?_) AllReady.nil;go_simp;exact ⟨rfl, ⟨_, _, rfl⟩, (below_alloc _ _).drew⟩
end
end Go.Proofs.YtombjgfajbhbbaaGreat
