/- The contract of the document's answer for Scale. -/
import Derived.Test.YtombjgfajbhbbaaGreatB16
set_option maxRecDepth 100000
set_option maxHeartbeats 16000000
namespace Go.Proofs.YtombjgfajbhbbaaGreat
open Go.RowKit
section
open Ieee Go.RowKit

theorem class_one (x : Nat) : classI x = 1 ↔ rung x = 0 := by
 unfold classI nanB;simp only [decide_eq_true_eq]
 (repeat' split) <;> omega
theorem floor_same {x : Nat} (hx : x < 18446744073709551616) (h : rung x = 0 ∨ 1075 ≤ eB x) : floorW x = canonW x := by
 obtain ⟨hp, hf⟩ := @rung_parts x
 cases hn : nanB x
 ·have hr := nan_f hn;have hc : canonW x = x := by unfold canonW; rw [hn]; rfl
  rw [hc];by_cases hi : rung x = 9218868437227405312
  ·unfold floorW;rw [hn, read_inf hx hi];simp only [Bool.false_eq_true, if_false, Datum.integral, Format.write, ir];rw [← hi]; exact word_self hx
  ·rcases h with h | h
   ·rw [floor_fk hx (by omega), h];have v0 : V 0 = 0 := by decide
    have hk : fk (negB x) 0 = 0 := by unfold fk; rw [wn_V, v0, Nat.zero_div, Nat.zero_mod]; simp
    rw [hk, nearest_zero, ← h]; exact word_self hx
   ·exact floor_big hx (by omega) (by omega)
 ·unfold floorW canonW; rw [hn]; rfl
theorem rfloor_same {x : Nat} (hx : x < 18446744073709551616) (h : rung x = 0 ∨ 1075 ≤ eB x) (w : World) :
  Calls Tryz.prog 139 #[.float .f64 x] w fun e w' => e = .returned (.float .f64 (canonW x)) ∧ w' = w := by
 by_cases z : rung x = 0
 ·have hc := (class_one x).2 z;clear h z;go_in;go_wp2_with fail;refine (parts_walk hx _).mono ?_;rintro e w' ⟨rfl, rfl⟩;go_wp2_with fail;refine (rclass_walk hx _).mono ?_;rintro e w' ⟨rfl, rfl⟩;go_wp2_with fail;refine (rcanon_walk hx _).mono ?_;rintro e w' ⟨rfl, rfl⟩;go_wp2_with fail;go_ret;exact ⟨rfl, rfl⟩
 ·have hc : (classI x == 1) = false := by rw [beq_eq_false_iff_ne]; exact fun k => z ((class_one x).1 k)
  have he : (1075 : Int) ≤ (eB x : Int) := by omega
  clear h z;go_in;go_wp2_with fail;refine (parts_walk hx _).mono ?_;rintro e w' ⟨rfl, rfl⟩;go_wp2_with fail;refine (rclass_walk hx _).mono ?_;rintro e w' ⟨rfl, rfl⟩;go_wp2_with fail;refine (rcanon_walk hx _).mono ?_;rintro e w' ⟨rfl, rfl⟩;go_wp2_with fail;go_ret;exact ⟨rfl, rfl⟩
theorem rfloor_stay {x : Nat} (hx : x < 18446744073709551616) (hc : (classI x == 1) = false) (he : decide ((1075 : Int) ≤ (eB x : Int)) = false) (ho : (FloatKind.f64.format.order (ofW (wholeI x)) x == some .gt) = false) (w : World) :
  Calls Tryz.prog 139 #[.float .f64 x] w fun e w' => e = .returned (.float .f64 (ofW (wholeI x))) ∧ w' = w := by
 have hof : floatOfInt .f64 (wholeI x) = ofW (wholeI x) := rfl;go_in;go_wp2_with fail;refine (parts_walk hx _).mono ?_;rintro e w' ⟨rfl, rfl⟩;go_wp2_with fail;refine (rclass_walk hx _).mono ?_;rintro e w' ⟨rfl, rfl⟩;go_wp2_with fail;refine (rwhole_walk hx _).mono ?_;rintro e w' ⟨rfl, rfl⟩;go_wp2_with fail;go_ret;exact ⟨rfl, rfl⟩
theorem rfloor_down {x : Nat} (hx : x < 18446744073709551616) (hc : (classI x == 1) = false) (he : decide ((1075 : Int) ≤ (eB x : Int)) = false) (ho : FloatKind.f64.format.order (ofW (wholeI x)) x = some .gt)
  (hs : FloatKind.f64.format.sub (ofW (wholeI x)) 4607182418800017408 = some (ofW (wholeI x - 1))) (w : World) :
  Calls Tryz.prog 139 #[.float .f64 x] w fun e w' => e = .returned (.float .f64 (ofW (wholeI x - 1))) ∧ w' = w := by
 have hof : floatOfInt .f64 (wholeI x) = ofW (wholeI x) := rfl;have hr : ∀ w : World, (binOp .sub 41 (.float .f64 (ofW (wholeI x))) (.float .f64 4607182418800017408)).run Tryz.prog w = .ok (.float .f64 (ofW (wholeI x - 1))) w := fun w => run_float_arith w .sub 41 .f64 _ _ _ hs;clear hs;go_in;go_wp2_with fail;refine (parts_walk hx _).mono ?_;rintro e w' ⟨rfl, rfl⟩;go_wp2_with fail;refine (rclass_walk hx _).mono ?_;rintro e w' ⟨rfl, rfl⟩;go_wp2_with fail;refine (rwhole_walk hx _).mono ?_;rintro e w' ⟨rfl, rfl⟩;go_wp2_with fail;go_ret;exact ⟨rfl, rfl⟩
theorem rfloor_walk {x : Nat} (hx : x < 18446744073709551616) (w : World) :
  Calls Tryz.prog 139 #[.float .f64 x] w fun e w' => e = .returned (.float .f64 (floorW x)) ∧ w' = w := by
 by_cases h : rung x = 0 ∨ 1075 ≤ eB x
 ·rw [floor_same hx h]; exact rfloor_same hx h w
 ·obtain ⟨hp, hf⟩ := @rung_parts x;have h0 : rung x ≠ 0 := fun k => h (.inl k);have h1 : ¬ 1075 ≤ eB x := fun k => h (.inr k);have hl : rung x < 4841369599423283200 := by omega
  have hn : nanB x = false := by unfold nanB; simp; omega
  have hc : (classI x == 1) = false := by rw [beq_eq_false_iff_ne]; exact fun k => h0 ((class_one x).1 k)
  have he : decide ((1075 : Int) ≤ (eB x : Int)) = false := by rw [decide_eq_false_iff_not]; omega
  obtain ⟨f1, f2⟩ := floor_int hx hl h0;obtain ⟨w1, w2⟩ := whole_int hn hl;obtain ⟨a1, a2, a3⟩ := whole_above hn hl;have oc := order_cases (of_lt (wholeI x)) hx (of_nan _) hn rfl;rw [f1];by_cases c : negB x = true ∧ V (rung x) % UU ≠ 0
  ·have hk := a1.2 c
   have ho : FloatKind.f64.format.order (ofW (wholeI x)) x = some .gt := by
    rcases oc with ⟨o, k⟩ | ⟨o, k⟩ | ⟨o, k⟩
    ·omega
    ·omega
    ·exact o
   have e : floorI x = wholeI x - 1 := by
    rw [w1]; unfold floorI fk;rw [c.1, if_pos rfl, if_pos rfl, if_pos ⟨rfl, c.2⟩]; omega
   rw [e];exact rfloor_down hx hc he ho (sub_one (by omega)) w
  ·have hk : ¬ key x < key (ofW (wholeI x)) := fun k => c (a1.1 k)
   have ho : (FloatKind.f64.format.order (ofW (wholeI x)) x == some .gt) = false := by
    rcases oc with ⟨o, k⟩ | ⟨o, k⟩ | ⟨o, k⟩
    ·rw [o]; rfl
    ·rw [o]; rfl
    ·omega
   have e : floorI x = wholeI x := by
    rw [w1]; unfold floorI fk
    cases sg : negB x
    ·rfl
    ·have : ¬ (true = true ∧ V (rung x) % UU ≠ 0) := fun k => c ⟨sg, k.2⟩;rw [if_pos rfl, if_pos rfl, if_neg this]; omega
   rw [e];exact rfloor_stay hx hc he ho w
end
section
open Ieee Go.RowKit

theorem class_two (x : Nat) : classI x = 2 ↔ 0 < rung x ∧ rung x < 4503599627370496 := by
 unfold classI nanB;simp only [decide_eq_true_eq]
 (repeat' split) <;> omega
theorem class_three (x : Nat) : classI x = 3 ↔ 4503599627370496 ≤ rung x ∧ rung x < 9218868437227405312 := by
 unfold classI nanB;simp only [decide_eq_true_eq]
 (repeat' split) <;> omega
theorem scale_stays {x : Nat} {n : Int} (h2 : ¬ classI x = 2) (h3 : ¬ classI x = 3) : scaleR x n = canonW x := by
 have hl := rung_lt x;rw [class_two] at h2; rw [class_three] at h3;unfold scaleR canonW
 cases hn : nanB x
 ·have := nan_f hn;simp only [Bool.false_eq_true, if_false];rw [if_pos (by omega)]
 ·rfl
theorem from_walkI (z : Int) (w : World) :
  Calls Tryz.prog 136 #[.int .u64 z] w fun e w' => e = .returned (.float .f64 z.toNat) ∧ w' = w := by
 have hr := run_frombits z;go_in;go_wp2_with fail;go_ret;exact ⟨rfl, rfl⟩
theorem rscale_same {x : Nat} (n : Int) (hx : x < 18446744073709551616) (h2 : (classI x != 2) = true) (h3 : (classI x != 3) = true) (w : World) :
  Calls Tryz.prog 140 #[.float .f64 x, .int .i64 n] w fun e w' => e = .returned (.float .f64 (canonW x)) ∧ w' = w := by
 go_in;go_wp2_with fail;refine (rclass_walk hx _).mono ?_;rintro e w' ⟨rfl, rfl⟩;go_wp2_with fail;refine (rcanon_walk hx _).mono ?_;rintro e w' ⟨rfl, rfl⟩;go_wp2_with fail;go_ret;exact ⟨rfl, rfl⟩
theorem sign_word {x : Nat} (hx : x < 18446744073709551616) {r : Nat} {z : Int} (hz : z = (x : Int) / 9223372036854775808 * 9223372036854775808 + r) : z.toNat = Ieee.double.word (negB x) r := by
 rw [word_add]
 cases sg : negB x
 ·have := neg_f sg; simp; omega
 ·have := neg_t sg; simp; omega
theorem sw_inf (s : Bool) (M : Nat) {e : Int} (h : 2047 ≤ e) : scaleW s M e = Ieee.double.word s 9218868437227405312 := by unfold scaleW; rw [if_pos h]
theorem sw_mid (s : Bool) (M : Nat) {e : Int} (h1 : 1 ≤ e) (h2 : e ≤ 2046) : scaleW s M e = Ieee.double.word s ((e - 1).toNat * 4503599627370496 + M) := by unfold scaleW; rw [if_neg (by omega), if_pos h1]
theorem sw_low (s : Bool) (M : Nat) {e : Int} (h1 : e ≤ 0) : scaleW s M e = Ieee.double.word s (rhe M (1 - e).toNat) := by unfold scaleW; rw [if_neg (by omega), if_neg (by omega)]
theorem sign_wrap {x : Nat} (hx : x < 18446744073709551616) {r : Nat} {z : Int} (hr : r < 9223372036854775808) (hz : z = IntKind.u64.wrap ((x : Int) / 9223372036854775808 * 9223372036854775808 + r)) : z.toNat = Ieee.double.word (negB x) r := by
 rw [IntKind.wrap_u64] at hz;exact sign_word hx (by omega)
theorem loop_short {f j k : Nat} (h0 : f ≠ 0) (hk : k = f * 2 ^ j) (hlt : k < 4503599627370496) : j < 52 := by
 by_cases c : j < 52
 ·exact c
 ·have h1 : 2 ^ 52 ≤ 2 ^ j := Nat.pow_le_pow_right (by omega) (by omega);have h2 : 1 * 2 ^ j ≤ f * 2 ^ j := Nat.mul_le_mul_right _ (by omega);omega
theorem loop_end {x j k : Nat} (hr : rung x = fB x) (h0 : fB x ≠ 0) (hf : fB x < 4503599627370496) (hk : k = fB x * 2 ^ j) (h1 : 4503599627370496 ≤ k) (h2 : k < 9007199254740992) :
  1 - (j : Int) = nE (rung x) ∧ k = nM (rung x) := by
 have hl : (fB x).log2 + j = 52 := by
  have e := log2_scale h0 j;rw [← hk, log2_norm h1 h2] at e;omega
 constructor
 ·unfold nE; rw [hr, if_pos hf]; omega
 ·unfold nM; rw [hr, if_pos hf, hk, show 52 - (fB x).log2 = j by omega]
set_option linter.unusedVariables false in
theorem rs3_A {x : Nat} (n : Int) (hx : x < 18446744073709551616) (w : World) (h3 : classI x = 3) (hE : ((eB x : Nat) : Int) = nE (rung x)) (hM : ((fB x : Nat) : Int) + 4503599627370496 = ((nM (rung x) : Nat) : Int)) (hf : fB x < 4503599627370496) (E1 : -51 ≤ nE (rung x)) (E2 : nE (rung x) ≤ 2046) (M2 : nM (rung x) < 9007199254740992)
  (c1 : 5000 < n) (t : 2047 ≤ nE (rung x) + 5000) :
  Calls Tryz.prog 140 #[.float .f64 x, .int .i64 n] w fun e w' => e = .returned (.float .f64 (Ieee.double.word (negB x) 9218868437227405312)) ∧ w' = w := by
 go_in;go_wp2_with fail;refine (rclass_walk hx _).mono ?_;rintro e w' ⟨rfl, rfl⟩;go_wp2_with fail;refine (parts_walk hx _).mono ?_;rintro e w' ⟨rfl, rfl⟩;go_wp2_with fail;refine (bits_walk x _).mono ?_;rintro e w' ⟨rfl, rfl⟩;go_wp2_with fail;refine (from_walkI _ _).mono ?_;rintro e w' ⟨rfl, rfl⟩;go_wp2_with fail;go_ret;exact ⟨ret_float (sign_word hx (by omega)), rfl⟩
set_option linter.unusedVariables false in
theorem rs3_B {x : Nat} (n : Int) (hx : x < 18446744073709551616) (w : World) (h3 : classI x = 3) (hE : ((eB x : Nat) : Int) = nE (rung x)) (hM : ((fB x : Nat) : Int) + 4503599627370496 = ((nM (rung x) : Nat) : Int)) (hf : fB x < 4503599627370496) (E1 : -51 ≤ nE (rung x)) (E2 : nE (rung x) ≤ 2046) (M2 : nM (rung x) < 9007199254740992)
  (c1 : decide (5000 < n) = false) (c2 : n < -5000) (t : decide (2047 ≤ nE (rung x) + -5000) = false) (t2 : decide (1 ≤ nE (rung x) + -5000) = false) (t4 : 54 < 1 - (nE (rung x) + -5000)) :
  Calls Tryz.prog 140 #[.float .f64 x, .int .i64 n] w fun e w' => e = .returned (.float .f64 (Ieee.double.word (negB x) 0)) ∧ w' = w := by
 go_in;go_wp2_with fail;refine (rclass_walk hx _).mono ?_;rintro e w' ⟨rfl, rfl⟩;go_wp2_with fail;refine (parts_walk hx _).mono ?_;rintro e w' ⟨rfl, rfl⟩;go_wp2_with fail;refine (bits_walk x _).mono ?_;rintro e w' ⟨rfl, rfl⟩;go_wp2_with fail;refine (from_walkI _ _).mono ?_;rintro e w' ⟨rfl, rfl⟩;go_wp2_with fail;go_ret;exact ⟨ret_float (sign_word hx (by omega)), rfl⟩
set_option linter.unusedVariables false in
theorem rs3_C1 {x : Nat} (n : Int) (hx : x < 18446744073709551616) (w : World) (h3 : classI x = 3) (hE : ((eB x : Nat) : Int) = nE (rung x)) (hM : ((fB x : Nat) : Int) + 4503599627370496 = ((nM (rung x) : Nat) : Int)) (hf : fB x < 4503599627370496) (E1 : -51 ≤ nE (rung x)) (E2 : nE (rung x) ≤ 2046) (M2 : nM (rung x) < 9007199254740992)
  (c1 : decide (5000 < n) = false) (c2 : decide (n < -5000) = false) (b1 : -5000 ≤ n) (b2 : n ≤ 5000) (t : 2047 ≤ nE (rung x) + n) :
  Calls Tryz.prog 140 #[.float .f64 x, .int .i64 n] w fun e w' => e = .returned (.float .f64 (Ieee.double.word (negB x) 9218868437227405312)) ∧ w' = w := by
 go_in;go_wp2_with fail;refine (rclass_walk hx _).mono ?_;rintro e w' ⟨rfl, rfl⟩;go_wp2_with fail;refine (parts_walk hx _).mono ?_;rintro e w' ⟨rfl, rfl⟩;go_wp2_with fail;refine (bits_walk x _).mono ?_;rintro e w' ⟨rfl, rfl⟩;go_wp2_with fail;refine (from_walkI _ _).mono ?_;rintro e w' ⟨rfl, rfl⟩;go_wp2_with fail;go_ret;exact ⟨ret_float (sign_word hx (by omega)), rfl⟩
set_option linter.unusedVariables false in
theorem rs3_C2 {x : Nat} (n : Int) (hx : x < 18446744073709551616) (w : World) (h3 : classI x = 3) (hE : ((eB x : Nat) : Int) = nE (rung x)) (hM : ((fB x : Nat) : Int) + 4503599627370496 = ((nM (rung x) : Nat) : Int)) (hf : fB x < 4503599627370496) (E1 : -51 ≤ nE (rung x)) (E2 : nE (rung x) ≤ 2046) (M2 : nM (rung x) < 9007199254740992)
  (c1 : decide (5000 < n) = false) (c2 : decide (n < -5000) = false) (b1 : -5000 ≤ n) (b2 : n ≤ 5000) (t : decide (2047 ≤ nE (rung x) + n) = false) (t2 : 1 ≤ nE (rung x) + n) (t3 : nE (rung x) + n ≤ 2046) :
  Calls Tryz.prog 140 #[.float .f64 x, .int .i64 n] w fun e w' => e = .returned (.float .f64 (Ieee.double.word (negB x) ((nE (rung x) + n - 1).toNat * 4503599627370496 + nM (rung x)))) ∧ w' = w := by
 go_in;go_wp2_with fail;refine (rclass_walk hx _).mono ?_;rintro e w' ⟨rfl, rfl⟩;go_wp2_with fail;refine (parts_walk hx _).mono ?_;rintro e w' ⟨rfl, rfl⟩;go_wp2_with fail;refine (bits_walk x _).mono ?_;rintro e w' ⟨rfl, rfl⟩;go_wp2_with fail;refine (from_walkI _ _).mono ?_;rintro e w' ⟨rfl, rfl⟩;go_wp2_with fail;go_ret;exact ⟨ret_float (sign_word hx (by omega)), rfl⟩
set_option linter.unusedVariables false in
theorem rs3_C3 {x : Nat} (n : Int) (hx : x < 18446744073709551616) (w : World) (h3 : classI x = 3) (hE : ((eB x : Nat) : Int) = nE (rung x)) (hM : ((fB x : Nat) : Int) + 4503599627370496 = ((nM (rung x) : Nat) : Int)) (hf : fB x < 4503599627370496) (E1 : -51 ≤ nE (rung x)) (E2 : nE (rung x) ≤ 2046) (M2 : nM (rung x) < 9007199254740992)
  (c1 : decide (5000 < n) = false) (c2 : decide (n < -5000) = false) (b1 : -5000 ≤ n) (b2 : n ≤ 5000) (t : decide (2047 ≤ nE (rung x) + n) = false) (t2 : decide (1 ≤ nE (rung x) + n) = false) (t3 : nE (rung x) + n ≤ 0) (t4 : 54 < 1 - (nE (rung x) + n)) :
  Calls Tryz.prog 140 #[.float .f64 x, .int .i64 n] w fun e w' => e = .returned (.float .f64 (Ieee.double.word (negB x) 0)) ∧ w' = w := by
 go_in;go_wp2_with fail;refine (rclass_walk hx _).mono ?_;rintro e w' ⟨rfl, rfl⟩;go_wp2_with fail;refine (parts_walk hx _).mono ?_;rintro e w' ⟨rfl, rfl⟩;go_wp2_with fail;refine (bits_walk x _).mono ?_;rintro e w' ⟨rfl, rfl⟩;go_wp2_with fail;refine (from_walkI _ _).mono ?_;rintro e w' ⟨rfl, rfl⟩;go_wp2_with fail;go_ret;exact ⟨ret_float (sign_word hx (by omega)), rfl⟩
set_option linter.unusedVariables false in
theorem rs3_U1 {x : Nat} (n : Int) (hx : x < 18446744073709551616) (w : World) (h3 : classI x = 3) (hE : ((eB x : Nat) : Int) = nE (rung x)) (hM : ((fB x : Nat) : Int) + 4503599627370496 = ((nM (rung x) : Nat) : Int)) (hf : fB x < 4503599627370496) (E1 : -51 ≤ nE (rung x)) (E2 : nE (rung x) ≤ 2046) (M2 : nM (rung x) < 9007199254740992)
  (c1 : decide (5000 < n) = false) (c2 : decide (n < -5000) = false) (b1 : -5000 ≤ n) (b2 : n ≤ 5000) (t : decide (2047 ≤ nE (rung x) + n) = false) (t2 : decide (1 ≤ nE (rung x) + n) = false) (t3 : nE (rung x) + n ≤ 0) (t4 : decide (54 < 1 - (nE (rung x) + n)) = false) (t5 : 1 - (nE (rung x) + n) ≤ 54) (Q P R Hf : Nat) (hq : ((nM (rung x) : Nat) : Int) / 2 ^ (1 - (nE (rung x) + n)).toNat = (Q : Int)) (hp : IntKind.u64.wrap ((Q : Int) * 2 ^ (1 - (nE (rung x) + n)).toNat) = (P : Int)) (hrr : IntKind.u64.wrap (((nM (rung x) : Nat) : Int) - (P : Int)) = (R : Int)) (hh : IntKind.u64.wrap (2 ^ ((1 - (nE (rung x) + n)).toNat - 1)) = (Hf : Int)) (q1 : Q < 9007199254740992) (q2 : R < 18446744073709551616) (q3 : Hf < 18446744073709551616) (u : (Hf : Int) < (R : Int)) :
  Calls Tryz.prog 140 #[.float .f64 x, .int .i64 n] w fun e w' => e = .returned (.float .f64 (Ieee.double.word (negB x) (Q + 1))) ∧ w' = w := by
 go_in;go_wp2_with fail;refine (rclass_walk hx _).mono ?_;rintro e w' ⟨rfl, rfl⟩;go_wp2_with fail;refine (parts_walk hx _).mono ?_;rintro e w' ⟨rfl, rfl⟩;go_wp2_with fail;refine (bits_walk x _).mono ?_;rintro e w' ⟨rfl, rfl⟩;go_wp2_with fail;refine (from_walkI _ _).mono ?_;rintro e w' ⟨rfl, rfl⟩;go_wp2_with fail;go_ret;exact ⟨ret_float (sign_wrap hx (by omega) (by first | rfl | (simp only [IntKind.wrap_u64]; omega))), rfl⟩
set_option linter.unusedVariables false in
theorem rs3_U2 {x : Nat} (n : Int) (hx : x < 18446744073709551616) (w : World) (h3 : classI x = 3) (hE : ((eB x : Nat) : Int) = nE (rung x)) (hM : ((fB x : Nat) : Int) + 4503599627370496 = ((nM (rung x) : Nat) : Int)) (hf : fB x < 4503599627370496) (E1 : -51 ≤ nE (rung x)) (E2 : nE (rung x) ≤ 2046) (M2 : nM (rung x) < 9007199254740992)
  (c1 : decide (5000 < n) = false) (c2 : decide (n < -5000) = false) (b1 : -5000 ≤ n) (b2 : n ≤ 5000) (t : decide (2047 ≤ nE (rung x) + n) = false) (t2 : decide (1 ≤ nE (rung x) + n) = false) (t3 : nE (rung x) + n ≤ 0) (t4 : decide (54 < 1 - (nE (rung x) + n)) = false) (t5 : 1 - (nE (rung x) + n) ≤ 54) (Q P Hf : Nat) (hq : ((nM (rung x) : Nat) : Int) / 2 ^ (1 - (nE (rung x) + n)).toNat = (Q : Int)) (hp : IntKind.u64.wrap ((Q : Int) * 2 ^ (1 - (nE (rung x) + n)).toNat) = (P : Int)) (hrr : IntKind.u64.wrap (((nM (rung x) : Nat) : Int) - (P : Int)) = (Hf : Int)) (hh : IntKind.u64.wrap (2 ^ ((1 - (nE (rung x) + n)).toNat - 1)) = (Hf : Int)) (q1 : Q < 9007199254740992) (q3 : Hf < 18446744073709551616) (u3 : ((Q : Int) % 2 == 1) = true) :
  Calls Tryz.prog 140 #[.float .f64 x, .int .i64 n] w fun e w' => e = .returned (.float .f64 (Ieee.double.word (negB x) (Q + 1))) ∧ w' = w := by
 go_in;go_wp2_with fail;refine (rclass_walk hx _).mono ?_;rintro e w' ⟨rfl, rfl⟩;go_wp2_with fail;refine (parts_walk hx _).mono ?_;rintro e w' ⟨rfl, rfl⟩;go_wp2_with fail;refine (bits_walk x _).mono ?_;rintro e w' ⟨rfl, rfl⟩;go_wp2_with fail;refine (from_walkI _ _).mono ?_;rintro e w' ⟨rfl, rfl⟩;go_wp2_with fail;go_ret;exact ⟨ret_float (sign_wrap hx (by omega) (by first | rfl | (simp only [IntKind.wrap_u64]; omega))), rfl⟩
set_option linter.unusedVariables false in
theorem rs3_U3 {x : Nat} (n : Int) (hx : x < 18446744073709551616) (w : World) (h3 : classI x = 3) (hE : ((eB x : Nat) : Int) = nE (rung x)) (hM : ((fB x : Nat) : Int) + 4503599627370496 = ((nM (rung x) : Nat) : Int)) (hf : fB x < 4503599627370496) (E1 : -51 ≤ nE (rung x)) (E2 : nE (rung x) ≤ 2046) (M2 : nM (rung x) < 9007199254740992)
  (c1 : decide (5000 < n) = false) (c2 : decide (n < -5000) = false) (b1 : -5000 ≤ n) (b2 : n ≤ 5000) (t : decide (2047 ≤ nE (rung x) + n) = false) (t2 : decide (1 ≤ nE (rung x) + n) = false) (t3 : nE (rung x) + n ≤ 0) (t4 : decide (54 < 1 - (nE (rung x) + n)) = false) (t5 : 1 - (nE (rung x) + n) ≤ 54) (Q P Hf : Nat) (hq : ((nM (rung x) : Nat) : Int) / 2 ^ (1 - (nE (rung x) + n)).toNat = (Q : Int)) (hp : IntKind.u64.wrap ((Q : Int) * 2 ^ (1 - (nE (rung x) + n)).toNat) = (P : Int)) (hrr : IntKind.u64.wrap (((nM (rung x) : Nat) : Int) - (P : Int)) = (Hf : Int)) (hh : IntKind.u64.wrap (2 ^ ((1 - (nE (rung x) + n)).toNat - 1)) = (Hf : Int)) (q1 : Q < 9007199254740992) (q3 : Hf < 18446744073709551616) (u3 : ((Q : Int) % 2 == 1) = false) :
  Calls Tryz.prog 140 #[.float .f64 x, .int .i64 n] w fun e w' => e = .returned (.float .f64 (Ieee.double.word (negB x) Q)) ∧ w' = w := by
 go_in;go_wp2_with fail;refine (rclass_walk hx _).mono ?_;rintro e w' ⟨rfl, rfl⟩;go_wp2_with fail;refine (parts_walk hx _).mono ?_;rintro e w' ⟨rfl, rfl⟩;go_wp2_with fail;refine (bits_walk x _).mono ?_;rintro e w' ⟨rfl, rfl⟩;go_wp2_with fail;refine (from_walkI _ _).mono ?_;rintro e w' ⟨rfl, rfl⟩;go_wp2_with fail;go_ret;exact ⟨ret_float (sign_wrap hx (by omega) (by first | rfl | (simp only [IntKind.wrap_u64]; omega))), rfl⟩
set_option linter.unusedVariables false in
theorem rs3_U4 {x : Nat} (n : Int) (hx : x < 18446744073709551616) (w : World) (h3 : classI x = 3) (hE : ((eB x : Nat) : Int) = nE (rung x)) (hM : ((fB x : Nat) : Int) + 4503599627370496 = ((nM (rung x) : Nat) : Int)) (hf : fB x < 4503599627370496) (E1 : -51 ≤ nE (rung x)) (E2 : nE (rung x) ≤ 2046) (M2 : nM (rung x) < 9007199254740992)
  (c1 : decide (5000 < n) = false) (c2 : decide (n < -5000) = false) (b1 : -5000 ≤ n) (b2 : n ≤ 5000) (t : decide (2047 ≤ nE (rung x) + n) = false) (t2 : decide (1 ≤ nE (rung x) + n) = false) (t3 : nE (rung x) + n ≤ 0) (t4 : decide (54 < 1 - (nE (rung x) + n)) = false) (t5 : 1 - (nE (rung x) + n) ≤ 54) (Q P R Hf : Nat) (hq : ((nM (rung x) : Nat) : Int) / 2 ^ (1 - (nE (rung x) + n)).toNat = (Q : Int)) (hp : IntKind.u64.wrap ((Q : Int) * 2 ^ (1 - (nE (rung x) + n)).toNat) = (P : Int)) (hrr : IntKind.u64.wrap (((nM (rung x) : Nat) : Int) - (P : Int)) = (R : Int)) (hh : IntKind.u64.wrap (2 ^ ((1 - (nE (rung x) + n)).toNat - 1)) = (Hf : Int)) (q1 : Q < 9007199254740992) (q2 : R < 18446744073709551616) (q3 : Hf < 18446744073709551616) (U : Hid (R < Hf)) :
  Calls Tryz.prog 140 #[.float .f64 x, .int .i64 n] w fun e w' => e = .returned (.float .f64 (Ieee.double.word (negB x) Q)) ∧ w' = w := by
 go_in;go_wp2_with fail;refine (rclass_walk hx _).mono ?_;rintro e w' ⟨rfl, rfl⟩;go_wp2_with fail;refine (parts_walk hx _).mono ?_;rintro e w' ⟨rfl, rfl⟩;go_wp2_with fail;refine (bits_walk x _).mono ?_;rintro e w' ⟨rfl, rfl⟩;go_wp2_with fail
 all_goals
  first
  | (exfalso; have := U.out; omega)
  | (exfalso; rename_i hq'; have := U.out; rw [beq_iff_eq] at hq'; omega)
  | (exfalso; rename_i hq'; have := U.out; have := hq'.1; rw [beq_iff_eq] at this; omega)
  | (refine (from_walkI _ _).mono ?_; rintro e w' ⟨rfl, rfl⟩; go_wp2_with fail; go_ret; exact ⟨ret_float (sign_wrap hx (by omega) (by first | rfl | (simp only [IntKind.wrap_u64]; omega))), rfl⟩)
end
end Go.Proofs.YtombjgfajbhbbaaGreat
