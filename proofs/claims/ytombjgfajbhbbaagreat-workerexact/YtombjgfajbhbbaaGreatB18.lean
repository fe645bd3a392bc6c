/- The contract of the document's answer for Scale, whole. -/
import Derived.Test.YtombjgfajbhbbaaGreatB17
set_option maxRecDepth 100000
set_option maxHeartbeats 16000000
namespace Go.Proofs.YtombjgfajbhbbaaGreat
open Go.RowKit
section
open Ieee Go.RowKit

set_option linter.unusedVariables false in
theorem rs2_A {x : Nat} (n : Int) (hx : x < 18446744073709551616) (w : World) (h2 : classI x = 2) (hr : rung x = fB x) (h0 : fB x ≠ 0) (hf : fB x < 4503599627370496) (E1 : -51 ≤ nE (rung x)) (E2 : nE (rung x) ≤ 2046) (M2 : nM (rung x) < 9007199254740992)
  (c1 : 5000 < n) (t : 2047 ≤ nE (rung x) + 5000) :
  Calls Tryz.prog 140 #[.float .f64 x, .int .i64 n] w fun e w' => e = .returned (.float .f64 (Ieee.double.word (negB x) 9218868437227405312)) ∧ w' = w := by
 have M3 : ((nM (rung x) : Nat) : Int) ≤ 9007199254740991 := by omega
 have HF := hidH hf;have F3 : ((fB x : Nat) : Int) ≤ 4503599627370495 := by omega
 have HR : Hid (rung x = fB x) := hr;clear hf M2 hr;go_in;go_wp2_with fail;refine (rclass_walk hx _).mono ?_;rintro e w' ⟨rfl, rfl⟩;go_wp2_with fail;refine (parts_walk hx _).mono ?_;rintro e w' ⟨rfl, rfl⟩;go_wp2_with fail;go_loop [6, 7] (fun e m => ∃ j k : Nat, j ≤ 52 ∧ e = .int .i64 (1 - (j : Int)) ∧ m = .int .u64 (k : Int) ∧ k < 9007199254740992 ∧ Hid (k = fB x * 2 ^ j)) (fun e _ => (intOf e + 60).toNat)
 case atStart => exact ⟨0, fB x, by omega, rfl, rfl, by have := HF.out; omega, by show _ = _; rw [Nat.pow_zero, Nat.mul_one]⟩
 case round =>
  obtain ⟨j, k, hj, rfl, rfl, hk, HK⟩ := hrel;by_cases hlt : k < 4503599627370496
  ·have hj2 : j < 52 := loop_short h0 HK.out hlt;have hlt' : (k : Int) < 4503599627370496 := by omega
   have HL := hidH hlt;clear hlt;go_wp2_with fail;go_round
   case rel => exact ⟨j + 1, k * 2, by omega, by go_num, by go_num, by have := HL.out; omega, by show _ = _; rw [HK.out, Nat.pow_succ, Nat.mul_assoc]⟩
   case measure => simp [intOf]; omega
  obtain ⟨hEj, hMj⟩ := loop_end HR.out h0 HF.out HK.out (by omega) hk;have hlt' : decide ((k : Int) < 4503599627370496) = false := by rw [decide_eq_false_iff_not]; omega
  subst hMj;clear HK hlt hk;go_wp2_with fail;refine (bits_walk x _).mono ?_;rintro e w' ⟨rfl, rfl⟩;go_wp2_with fail;refine (from_walkI _ _).mono ?_;rintro e w' ⟨rfl, rfl⟩;go_wp2_with fail;go_ret;exact ⟨ret_float (sign_word hx (by omega)), rfl⟩
set_option linter.unusedVariables false in
theorem rs2_B {x : Nat} (n : Int) (hx : x < 18446744073709551616) (w : World) (h2 : classI x = 2) (hr : rung x = fB x) (h0 : fB x ≠ 0) (hf : fB x < 4503599627370496) (E1 : -51 ≤ nE (rung x)) (E2 : nE (rung x) ≤ 2046) (M2 : nM (rung x) < 9007199254740992)
  (c1 : decide (5000 < n) = false) (c2 : n < -5000) (t : decide (2047 ≤ nE (rung x) + -5000) = false) (t2 : decide (1 ≤ nE (rung x) + -5000) = false) (t4 : 54 < 1 - (nE (rung x) + -5000)) :
  Calls Tryz.prog 140 #[.float .f64 x, .int .i64 n] w fun e w' => e = .returned (.float .f64 (Ieee.double.word (negB x) 0)) ∧ w' = w := by
 have M3 : ((nM (rung x) : Nat) : Int) ≤ 9007199254740991 := by omega
 have HF := hidH hf;have F3 : ((fB x : Nat) : Int) ≤ 4503599627370495 := by omega
 have HR : Hid (rung x = fB x) := hr;clear hf M2 hr;go_in;go_wp2_with fail;refine (rclass_walk hx _).mono ?_;rintro e w' ⟨rfl, rfl⟩;go_wp2_with fail;refine (parts_walk hx _).mono ?_;rintro e w' ⟨rfl, rfl⟩;go_wp2_with fail;go_loop [6, 7] (fun e m => ∃ j k : Nat, j ≤ 52 ∧ e = .int .i64 (1 - (j : Int)) ∧ m = .int .u64 (k : Int) ∧ k < 9007199254740992 ∧ Hid (k = fB x * 2 ^ j)) (fun e _ => (intOf e + 60).toNat)
 case atStart => exact ⟨0, fB x, by omega, rfl, rfl, by have := HF.out; omega, by show _ = _; rw [Nat.pow_zero, Nat.mul_one]⟩
 case round =>
  obtain ⟨j, k, hj, rfl, rfl, hk, HK⟩ := hrel;by_cases hlt : k < 4503599627370496
  ·have hj2 : j < 52 := loop_short h0 HK.out hlt;have hlt' : (k : Int) < 4503599627370496 := by omega
   have HL := hidH hlt;clear hlt;go_wp2_with fail;go_round
   case rel => exact ⟨j + 1, k * 2, by omega, by go_num, by go_num, by have := HL.out; omega, by show _ = _; rw [HK.out, Nat.pow_succ, Nat.mul_assoc]⟩
   case measure => simp [intOf]; omega
  obtain ⟨hEj, hMj⟩ := loop_end HR.out h0 HF.out HK.out (by omega) hk;have hlt' : decide ((k : Int) < 4503599627370496) = false := by rw [decide_eq_false_iff_not]; omega
  subst hMj;clear HK hlt hk;go_wp2_with fail;refine (bits_walk x _).mono ?_;rintro e w' ⟨rfl, rfl⟩;go_wp2_with fail;refine (from_walkI _ _).mono ?_;rintro e w' ⟨rfl, rfl⟩;go_wp2_with fail;go_ret;exact ⟨ret_float (sign_word hx (by omega)), rfl⟩
set_option linter.unusedVariables false in
theorem rs2_C1 {x : Nat} (n : Int) (hx : x < 18446744073709551616) (w : World) (h2 : classI x = 2) (hr : rung x = fB x) (h0 : fB x ≠ 0) (hf : fB x < 4503599627370496) (E1 : -51 ≤ nE (rung x)) (E2 : nE (rung x) ≤ 2046) (M2 : nM (rung x) < 9007199254740992)
  (c1 : decide (5000 < n) = false) (c2 : decide (n < -5000) = false) (b1 : -5000 ≤ n) (b2 : n ≤ 5000) (t : 2047 ≤ nE (rung x) + n) :
  Calls Tryz.prog 140 #[.float .f64 x, .int .i64 n] w fun e w' => e = .returned (.float .f64 (Ieee.double.word (negB x) 9218868437227405312)) ∧ w' = w := by
 have M3 : ((nM (rung x) : Nat) : Int) ≤ 9007199254740991 := by omega
 have HF := hidH hf;have F3 : ((fB x : Nat) : Int) ≤ 4503599627370495 := by omega
 have HR : Hid (rung x = fB x) := hr;clear hf M2 hr;go_in;go_wp2_with fail;refine (rclass_walk hx _).mono ?_;rintro e w' ⟨rfl, rfl⟩;go_wp2_with fail;refine (parts_walk hx _).mono ?_;rintro e w' ⟨rfl, rfl⟩;go_wp2_with fail;go_loop [6, 7] (fun e m => ∃ j k : Nat, j ≤ 52 ∧ e = .int .i64 (1 - (j : Int)) ∧ m = .int .u64 (k : Int) ∧ k < 9007199254740992 ∧ Hid (k = fB x * 2 ^ j)) (fun e _ => (intOf e + 60).toNat)
 case atStart => exact ⟨0, fB x, by omega, rfl, rfl, by have := HF.out; omega, by show _ = _; rw [Nat.pow_zero, Nat.mul_one]⟩
 case round =>
  obtain ⟨j, k, hj, rfl, rfl, hk, HK⟩ := hrel;by_cases hlt : k < 4503599627370496
  ·have hj2 : j < 52 := loop_short h0 HK.out hlt;have hlt' : (k : Int) < 4503599627370496 := by omega
   have HL := hidH hlt;clear hlt;go_wp2_with fail;go_round
   case rel => exact ⟨j + 1, k * 2, by omega, by go_num, by go_num, by have := HL.out; omega, by show _ = _; rw [HK.out, Nat.pow_succ, Nat.mul_assoc]⟩
   case measure => simp [intOf]; omega
  obtain ⟨hEj, hMj⟩ := loop_end HR.out h0 HF.out HK.out (by omega) hk;have hlt' : decide ((k : Int) < 4503599627370496) = false := by rw [decide_eq_false_iff_not]; omega
  subst hMj;clear HK hlt hk;go_wp2_with fail;refine (bits_walk x _).mono ?_;rintro e w' ⟨rfl, rfl⟩;go_wp2_with fail;refine (from_walkI _ _).mono ?_;rintro e w' ⟨rfl, rfl⟩;go_wp2_with fail;go_ret;exact ⟨ret_float (sign_word hx (by omega)), rfl⟩
set_option linter.unusedVariables false in
theorem rs2_C2 {x : Nat} (n : Int) (hx : x < 18446744073709551616) (w : World) (h2 : classI x = 2) (hr : rung x = fB x) (h0 : fB x ≠ 0) (hf : fB x < 4503599627370496) (E1 : -51 ≤ nE (rung x)) (E2 : nE (rung x) ≤ 2046) (M2 : nM (rung x) < 9007199254740992)
  (c1 : decide (5000 < n) = false) (c2 : decide (n < -5000) = false) (b1 : -5000 ≤ n) (b2 : n ≤ 5000) (t : decide (2047 ≤ nE (rung x) + n) = false) (t2 : 1 ≤ nE (rung x) + n) (t3 : nE (rung x) + n ≤ 2046) :
  Calls Tryz.prog 140 #[.float .f64 x, .int .i64 n] w fun e w' => e = .returned (.float .f64 (Ieee.double.word (negB x) ((nE (rung x) + n - 1).toNat * 4503599627370496 + nM (rung x)))) ∧ w' = w := by
 have M3 : ((nM (rung x) : Nat) : Int) ≤ 9007199254740991 := by omega
 have HF := hidH hf;have F3 : ((fB x : Nat) : Int) ≤ 4503599627370495 := by omega
 have HR : Hid (rung x = fB x) := hr;clear hf M2 hr;go_in;go_wp2_with fail;refine (rclass_walk hx _).mono ?_;rintro e w' ⟨rfl, rfl⟩;go_wp2_with fail;refine (parts_walk hx _).mono ?_;rintro e w' ⟨rfl, rfl⟩;go_wp2_with fail;go_loop [6, 7] (fun e m => ∃ j k : Nat, j ≤ 52 ∧ e = .int .i64 (1 - (j : Int)) ∧ m = .int .u64 (k : Int) ∧ k < 9007199254740992 ∧ Hid (k = fB x * 2 ^ j)) (fun e _ => (intOf e + 60).toNat)
 case atStart => exact ⟨0, fB x, by omega, rfl, rfl, by have := HF.out; omega, by show _ = _; rw [Nat.pow_zero, Nat.mul_one]⟩
 case round =>
  obtain ⟨j, k, hj, rfl, rfl, hk, HK⟩ := hrel;by_cases hlt : k < 4503599627370496
  ·have hj2 : j < 52 := loop_short h0 HK.out hlt;have hlt' : (k : Int) < 4503599627370496 := by omega
   have HL := hidH hlt;clear hlt;go_wp2_with fail;go_round
   case rel => exact ⟨j + 1, k * 2, by omega, by go_num, by go_num, by have := HL.out; omega, by show _ = _; rw [HK.out, Nat.pow_succ, Nat.mul_assoc]⟩
   case measure => simp [intOf]; omega
  obtain ⟨hEj, hMj⟩ := loop_end HR.out h0 HF.out HK.out (by omega) hk;have hlt' : decide ((k : Int) < 4503599627370496) = false := by rw [decide_eq_false_iff_not]; omega
  subst hMj;clear HK hlt hk;go_wp2_with fail;refine (bits_walk x _).mono ?_;rintro e w' ⟨rfl, rfl⟩;go_wp2_with fail;refine (from_walkI _ _).mono ?_;rintro e w' ⟨rfl, rfl⟩;go_wp2_with fail;go_ret;exact ⟨ret_float (sign_word hx (by omega)), rfl⟩
set_option linter.unusedVariables false in
theorem rs2_C3 {x : Nat} (n : Int) (hx : x < 18446744073709551616) (w : World) (h2 : classI x = 2) (hr : rung x = fB x) (h0 : fB x ≠ 0) (hf : fB x < 4503599627370496) (E1 : -51 ≤ nE (rung x)) (E2 : nE (rung x) ≤ 2046) (M2 : nM (rung x) < 9007199254740992)
  (c1 : decide (5000 < n) = false) (c2 : decide (n < -5000) = false) (b1 : -5000 ≤ n) (b2 : n ≤ 5000) (t : decide (2047 ≤ nE (rung x) + n) = false) (t2 : decide (1 ≤ nE (rung x) + n) = false) (t3 : nE (rung x) + n ≤ 0) (t4 : 54 < 1 - (nE (rung x) + n)) :
  Calls Tryz.prog 140 #[.float .f64 x, .int .i64 n] w fun e w' => e = .returned (.float .f64 (Ieee.double.word (negB x) 0)) ∧ w' = w := by
 have M3 : ((nM (rung x) : Nat) : Int) ≤ 9007199254740991 := by omega
 have HF := hidH hf;have F3 : ((fB x : Nat) : Int) ≤ 4503599627370495 := by omega
 have HR : Hid (rung x = fB x) := hr;clear hf M2 hr;go_in;go_wp2_with fail;refine (rclass_walk hx _).mono ?_;rintro e w' ⟨rfl, rfl⟩;go_wp2_with fail;refine (parts_walk hx _).mono ?_;rintro e w' ⟨rfl, rfl⟩;go_wp2_with fail;go_loop [6, 7] (fun e m => ∃ j k : Nat, j ≤ 52 ∧ e = .int .i64 (1 - (j : Int)) ∧ m = .int .u64 (k : Int) ∧ k < 9007199254740992 ∧ Hid (k = fB x * 2 ^ j)) (fun e _ => (intOf e + 60).toNat)
 case atStart => exact ⟨0, fB x, by omega, rfl, rfl, by have := HF.out; omega, by show _ = _; rw [Nat.pow_zero, Nat.mul_one]⟩
 case round =>
  obtain ⟨j, k, hj, rfl, rfl, hk, HK⟩ := hrel;by_cases hlt : k < 4503599627370496
  ·have hj2 : j < 52 := loop_short h0 HK.out hlt;have hlt' : (k : Int) < 4503599627370496 := by omega
   have HL := hidH hlt;clear hlt;go_wp2_with fail;go_round
   case rel => exact ⟨j + 1, k * 2, by omega, by go_num, by go_num, by have := HL.out; omega, by show _ = _; rw [HK.out, Nat.pow_succ, Nat.mul_assoc]⟩
   case measure => simp [intOf]; omega
  obtain ⟨hEj, hMj⟩ := loop_end HR.out h0 HF.out HK.out (by omega) hk;have hlt' : decide ((k : Int) < 4503599627370496) = false := by rw [decide_eq_false_iff_not]; omega
  subst hMj;clear HK hlt hk;go_wp2_with fail;refine (bits_walk x _).mono ?_;rintro e w' ⟨rfl, rfl⟩;go_wp2_with fail;refine (from_walkI _ _).mono ?_;rintro e w' ⟨rfl, rfl⟩;go_wp2_with fail;go_ret;exact ⟨ret_float (sign_word hx (by omega)), rfl⟩
set_option linter.unusedVariables false in
theorem rs2_U1 {x : Nat} (n : Int) (hx : x < 18446744073709551616) (w : World) (h2 : classI x = 2) (hr : rung x = fB x) (h0 : fB x ≠ 0) (hf : fB x < 4503599627370496) (E1 : -51 ≤ nE (rung x)) (E2 : nE (rung x) ≤ 2046) (M2 : nM (rung x) < 9007199254740992)
  (c1 : decide (5000 < n) = false) (c2 : decide (n < -5000) = false) (b1 : -5000 ≤ n) (b2 : n ≤ 5000) (t : decide (2047 ≤ nE (rung x) + n) = false) (t2 : decide (1 ≤ nE (rung x) + n) = false) (t3 : nE (rung x) + n ≤ 0) (t4 : decide (54 < 1 - (nE (rung x) + n)) = false) (t5 : 1 - (nE (rung x) + n) ≤ 54) (Q P R Hf : Nat) (hq : ((nM (rung x) : Nat) : Int) / 2 ^ (1 - (nE (rung x) + n)).toNat = (Q : Int)) (hp : IntKind.u64.wrap ((Q : Int) * 2 ^ (1 - (nE (rung x) + n)).toNat) = (P : Int)) (hrr : IntKind.u64.wrap (((nM (rung x) : Nat) : Int) - (P : Int)) = (R : Int)) (hh : IntKind.u64.wrap (2 ^ ((1 - (nE (rung x) + n)).toNat - 1)) = (Hf : Int)) (q1 : Q < 9007199254740992) (q2 : R < 18446744073709551616) (q3 : Hf < 18446744073709551616) (u : (Hf : Int) < (R : Int)) :
  Calls Tryz.prog 140 #[.float .f64 x, .int .i64 n] w fun e w' => e = .returned (.float .f64 (Ieee.double.word (negB x) (Q + 1))) ∧ w' = w := by
 have M3 : ((nM (rung x) : Nat) : Int) ≤ 9007199254740991 := by omega
 have HF := hidH hf;have F3 : ((fB x : Nat) : Int) ≤ 4503599627370495 := by omega
 have HR : Hid (rung x = fB x) := hr;clear hf M2 hr;go_in;go_wp2_with fail;refine (rclass_walk hx _).mono ?_;rintro e w' ⟨rfl, rfl⟩;go_wp2_with fail;refine (parts_walk hx _).mono ?_;rintro e w' ⟨rfl, rfl⟩;go_wp2_with fail;go_loop [6, 7] (fun e m => ∃ j k : Nat, j ≤ 52 ∧ e = .int .i64 (1 - (j : Int)) ∧ m = .int .u64 (k : Int) ∧ k < 9007199254740992 ∧ Hid (k = fB x * 2 ^ j)) (fun e _ => (intOf e + 60).toNat)
 case atStart => exact ⟨0, fB x, by omega, rfl, rfl, by have := HF.out; omega, by show _ = _; rw [Nat.pow_zero, Nat.mul_one]⟩
 case round =>
  obtain ⟨j, k, hj, rfl, rfl, hk, HK⟩ := hrel;by_cases hlt : k < 4503599627370496
  ·have hj2 : j < 52 := loop_short h0 HK.out hlt;have hlt' : (k : Int) < 4503599627370496 := by omega
   have HL := hidH hlt;clear hlt;go_wp2_with fail;go_round
   case rel => exact ⟨j + 1, k * 2, by omega, by go_num, by go_num, by have := HL.out; omega, by show _ = _; rw [HK.out, Nat.pow_succ, Nat.mul_assoc]⟩
   case measure => simp [intOf]; omega
  obtain ⟨hEj, hMj⟩ := loop_end HR.out h0 HF.out HK.out (by omega) hk;have hlt' : decide ((k : Int) < 4503599627370496) = false := by rw [decide_eq_false_iff_not]; omega
  subst hMj;clear HK hlt hk;go_wp2_with fail;refine (bits_walk x _).mono ?_;rintro e w' ⟨rfl, rfl⟩;go_wp2_with fail;refine (from_walkI _ _).mono ?_;rintro e w' ⟨rfl, rfl⟩;go_wp2_with fail;go_ret;exact ⟨ret_float (sign_wrap hx (by omega) (by first | rfl | (simp only [IntKind.wrap_u64]; omega))), rfl⟩
set_option linter.unusedVariables false in
theorem rs2_U2 {x : Nat} (n : Int) (hx : x < 18446744073709551616) (w : World) (h2 : classI x = 2) (hr : rung x = fB x) (h0 : fB x ≠ 0) (hf : fB x < 4503599627370496) (E1 : -51 ≤ nE (rung x)) (E2 : nE (rung x) ≤ 2046) (M2 : nM (rung x) < 9007199254740992)
  (c1 : decide (5000 < n) = false) (c2 : decide (n < -5000) = false) (b1 : -5000 ≤ n) (b2 : n ≤ 5000) (t : decide (2047 ≤ nE (rung x) + n) = false) (t2 : decide (1 ≤ nE (rung x) + n) = false) (t3 : nE (rung x) + n ≤ 0) (t4 : decide (54 < 1 - (nE (rung x) + n)) = false) (t5 : 1 - (nE (rung x) + n) ≤ 54) (Q P Hf : Nat) (hq : ((nM (rung x) : Nat) : Int) / 2 ^ (1 - (nE (rung x) + n)).toNat = (Q : Int)) (hp : IntKind.u64.wrap ((Q : Int) * 2 ^ (1 - (nE (rung x) + n)).toNat) = (P : Int)) (hrr : IntKind.u64.wrap (((nM (rung x) : Nat) : Int) - (P : Int)) = (Hf : Int)) (hh : IntKind.u64.wrap (2 ^ ((1 - (nE (rung x) + n)).toNat - 1)) = (Hf : Int)) (q1 : Q < 9007199254740992) (q3 : Hf < 18446744073709551616) (u3 : ((Q : Int) % 2 == 1) = true) :
  Calls Tryz.prog 140 #[.float .f64 x, .int .i64 n] w fun e w' => e = .returned (.float .f64 (Ieee.double.word (negB x) (Q + 1))) ∧ w' = w := by
 have M3 : ((nM (rung x) : Nat) : Int) ≤ 9007199254740991 := by omega
 have HF := hidH hf;have F3 : ((fB x : Nat) : Int) ≤ 4503599627370495 := by omega
 have HR : Hid (rung x = fB x) := hr;clear hf M2 hr;go_in;go_wp2_with fail;refine (rclass_walk hx _).mono ?_;rintro e w' ⟨rfl, rfl⟩;go_wp2_with fail;refine (parts_walk hx _).mono ?_;rintro e w' ⟨rfl, rfl⟩;go_wp2_with fail;go_loop [6, 7] (fun e m => ∃ j k : Nat, j ≤ 52 ∧ e = .int .i64 (1 - (j : Int)) ∧ m = .int .u64 (k : Int) ∧ k < 9007199254740992 ∧ Hid (k = fB x * 2 ^ j)) (fun e _ => (intOf e + 60).toNat)
 case atStart => exact ⟨0, fB x, by omega, rfl, rfl, by have := HF.out; omega, by show _ = _; rw [Nat.pow_zero, Nat.mul_one]⟩
 case round =>
  obtain ⟨j, k, hj, rfl, rfl, hk, HK⟩ := hrel;by_cases hlt : k < 4503599627370496
  ·have hj2 : j < 52 := loop_short h0 HK.out hlt;have hlt' : (k : Int) < 4503599627370496 := by omega
   have HL := hidH hlt;clear hlt;go_wp2_with fail;go_round
   case rel => exact ⟨j + 1, k * 2, by omega, by go_num, by go_num, by have := HL.out; omega, by show _ = _; rw [HK.out, Nat.pow_succ, Nat.mul_assoc]⟩
   case measure => simp [intOf]; omega
  obtain ⟨hEj, hMj⟩ := loop_end HR.out h0 HF.out HK.out (by omega) hk;have hlt' : decide ((k : Int) < 4503599627370496) = false := by rw [decide_eq_false_iff_not]; omega
  subst hMj;clear HK hlt hk;go_wp2_with fail;refine (bits_walk x _).mono ?_;rintro e w' ⟨rfl, rfl⟩;go_wp2_with fail;refine (from_walkI _ _).mono ?_;rintro e w' ⟨rfl, rfl⟩;go_wp2_with fail;go_ret;exact ⟨ret_float (sign_wrap hx (by omega) (by first | rfl | (simp only [IntKind.wrap_u64]; omega))), rfl⟩
set_option linter.unusedVariables false in
theorem rs2_U3 {x : Nat} (n : Int) (hx : x < 18446744073709551616) (w : World) (h2 : classI x = 2) (hr : rung x = fB x) (h0 : fB x ≠ 0) (hf : fB x < 4503599627370496) (E1 : -51 ≤ nE (rung x)) (E2 : nE (rung x) ≤ 2046) (M2 : nM (rung x) < 9007199254740992)
  (c1 : decide (5000 < n) = false) (c2 : decide (n < -5000) = false) (b1 : -5000 ≤ n) (b2 : n ≤ 5000) (t : decide (2047 ≤ nE (rung x) + n) = false) (t2 : decide (1 ≤ nE (rung x) + n) = false) (t3 : nE (rung x) + n ≤ 0) (t4 : decide (54 < 1 - (nE (rung x) + n)) = false) (t5 : 1 - (nE (rung x) + n) ≤ 54) (Q P Hf : Nat) (hq : ((nM (rung x) : Nat) : Int) / 2 ^ (1 - (nE (rung x) + n)).toNat = (Q : Int)) (hp : IntKind.u64.wrap ((Q : Int) * 2 ^ (1 - (nE (rung x) + n)).toNat) = (P : Int)) (hrr : IntKind.u64.wrap (((nM (rung x) : Nat) : Int) - (P : Int)) = (Hf : Int)) (hh : IntKind.u64.wrap (2 ^ ((1 - (nE (rung x) + n)).toNat - 1)) = (Hf : Int)) (q1 : Q < 9007199254740992) (q3 : Hf < 18446744073709551616) (u3 : ((Q : Int) % 2 == 1) = false) :
  Calls Tryz.prog 140 #[.float .f64 x, .int .i64 n] w fun e w' => e = .returned (.float .f64 (Ieee.double.word (negB x) Q)) ∧ w' = w := by
 have M3 : ((nM (rung x) : Nat) : Int) ≤ 9007199254740991 := by omega
 have HF := hidH hf;have F3 : ((fB x : Nat) : Int) ≤ 4503599627370495 := by omega
 have HR : Hid (rung x = fB x) := hr;clear hf M2 hr;go_in;go_wp2_with fail;refine (rclass_walk hx _).mono ?_;rintro e w' ⟨rfl, rfl⟩;go_wp2_with fail;refine (parts_walk hx _).mono ?_;rintro e w' ⟨rfl, rfl⟩;go_wp2_with fail;go_loop [6, 7] (fun e m => ∃ j k : Nat, j ≤ 52 ∧ e = .int .i64 (1 - (j : Int)) ∧ m = .int .u64 (k : Int) ∧ k < 9007199254740992 ∧ Hid (k = fB x * 2 ^ j)) (fun e _ => (intOf e + 60).toNat)
 case atStart => exact ⟨0, fB x, by omega, rfl, rfl, by have := HF.out; omega, by show _ = _; rw [Nat.pow_zero, Nat.mul_one]⟩
 case round =>
  obtain ⟨j, k, hj, rfl, rfl, hk, HK⟩ := hrel;by_cases hlt : k < 4503599627370496
  ·have hj2 : j < 52 := loop_short h0 HK.out hlt;have hlt' : (k : Int) < 4503599627370496 := by omega
   have HL := hidH hlt;clear hlt;go_wp2_with fail;go_round
   case rel => exact ⟨j + 1, k * 2, by omega, by go_num, by go_num, by have := HL.out; omega, by show _ = _; rw [HK.out, Nat.pow_succ, Nat.mul_assoc]⟩
   case measure => simp [intOf]; omega
  obtain ⟨hEj, hMj⟩ := loop_end HR.out h0 HF.out HK.out (by omega) hk;have hlt' : decide ((k : Int) < 4503599627370496) = false := by rw [decide_eq_false_iff_not]; omega
  subst hMj;clear HK hlt hk;go_wp2_with fail;refine (bits_walk x _).mono ?_;rintro e w' ⟨rfl, rfl⟩;go_wp2_with fail;refine (from_walkI _ _).mono ?_;rintro e w' ⟨rfl, rfl⟩;go_wp2_with fail;go_ret;exact ⟨ret_float (sign_wrap hx (by omega) (by first | rfl | (simp only [IntKind.wrap_u64]; omega))), rfl⟩
set_option linter.unusedVariables false in
theorem rs2_U4 {x : Nat} (n : Int) (hx : x < 18446744073709551616) (w : World) (h2 : classI x = 2) (hr : rung x = fB x) (h0 : fB x ≠ 0) (hf : fB x < 4503599627370496) (E1 : -51 ≤ nE (rung x)) (E2 : nE (rung x) ≤ 2046) (M2 : nM (rung x) < 9007199254740992)
  (c1 : decide (5000 < n) = false) (c2 : decide (n < -5000) = false) (b1 : -5000 ≤ n) (b2 : n ≤ 5000) (t : decide (2047 ≤ nE (rung x) + n) = false) (t2 : decide (1 ≤ nE (rung x) + n) = false) (t3 : nE (rung x) + n ≤ 0) (t4 : decide (54 < 1 - (nE (rung x) + n)) = false) (t5 : 1 - (nE (rung x) + n) ≤ 54) (Q P R Hf : Nat) (hq : ((nM (rung x) : Nat) : Int) / 2 ^ (1 - (nE (rung x) + n)).toNat = (Q : Int)) (hp : IntKind.u64.wrap ((Q : Int) * 2 ^ (1 - (nE (rung x) + n)).toNat) = (P : Int)) (hrr : IntKind.u64.wrap (((nM (rung x) : Nat) : Int) - (P : Int)) = (R : Int)) (hh : IntKind.u64.wrap (2 ^ ((1 - (nE (rung x) + n)).toNat - 1)) = (Hf : Int)) (q1 : Q < 9007199254740992) (q2 : R < 18446744073709551616) (q3 : Hf < 18446744073709551616) (U : Hid (R < Hf)) :
  Calls Tryz.prog 140 #[.float .f64 x, .int .i64 n] w fun e w' => e = .returned (.float .f64 (Ieee.double.word (negB x) Q)) ∧ w' = w := by
 have M3 : ((nM (rung x) : Nat) : Int) ≤ 9007199254740991 := by omega
 have HF := hidH hf;have F3 : ((fB x : Nat) : Int) ≤ 4503599627370495 := by omega
 have HR : Hid (rung x = fB x) := hr;clear hf M2 hr;go_in;go_wp2_with fail;refine (rclass_walk hx _).mono ?_;rintro e w' ⟨rfl, rfl⟩;go_wp2_with fail;refine (parts_walk hx _).mono ?_;rintro e w' ⟨rfl, rfl⟩;go_wp2_with fail;go_loop [6, 7] (fun e m => ∃ j k : Nat, j ≤ 52 ∧ e = .int .i64 (1 - (j : Int)) ∧ m = .int .u64 (k : Int) ∧ k < 9007199254740992 ∧ Hid (k = fB x * 2 ^ j)) (fun e _ => (intOf e + 60).toNat)
 case atStart => exact ⟨0, fB x, by omega, rfl, rfl, by have := HF.out; omega, by show _ = _; rw [Nat.pow_zero, Nat.mul_one]⟩
 case round =>
  obtain ⟨j, k, hj, rfl, rfl, hk, HK⟩ := hrel;by_cases hlt : k < 4503599627370496
  ·have hj2 : j < 52 := loop_short h0 HK.out hlt;have hlt' : (k : Int) < 4503599627370496 := by omega
   have HL := hidH hlt;clear hlt;go_wp2_with fail;go_round
   case rel => exact ⟨j + 1, k * 2, by omega, by go_num, by go_num, by have := HL.out; omega, by show _ = _; rw [HK.out, Nat.pow_succ, Nat.mul_assoc]⟩
   case measure => simp [intOf]; omega
  obtain ⟨hEj, hMj⟩ := loop_end HR.out h0 HF.out HK.out (by omega) hk;have hlt' : decide ((k : Int) < 4503599627370496) = false := by rw [decide_eq_false_iff_not]; omega
  subst hMj;clear HK hlt hk;go_wp2_with fail;refine (bits_walk x _).mono ?_;rintro e w' ⟨rfl, rfl⟩;clear M3 F3 hlt' HF HR h0 hEj h2;go_wp2_with fail
  all_goals
   first
   | (exfalso; have := U.out; omega)
   | (exfalso; rename_i hq'; have := U.out; rw [beq_iff_eq] at hq'; omega)
   | (exfalso; rename_i hq'; have := U.out; have := hq'.1; rw [beq_iff_eq] at this; omega)
   | (refine (from_walkI _ _).mono ?_; rintro e w' ⟨rfl, rfl⟩; go_wp2_with fail; go_ret; exact ⟨ret_float (sign_wrap hx (by omega) (by first | rfl | (simp only [IntKind.wrap_u64]; omega))), rfl⟩)
end
section
open Ieee Go.RowKit

theorem round_numbers (M d : Nat) (hd1 : 1 ≤ d) (hd2 : d ≤ 54) (hM : M < 9007199254740992) :
  ∃ Q P R Hf : Nat, (M : Int) / 2 ^ d = (Q : Int) ∧ IntKind.u64.wrap ((Q : Int) * 2 ^ d) = (P : Int) ∧ IntKind.u64.wrap ((M : Int) - (P : Int)) = (R : Int) ∧ IntKind.u64.wrap (2 ^ (d - 1)) = (Hf : Int) ∧
   Q < 9007199254740992 ∧ R < 18446744073709551616 ∧ Hf < 18446744073709551616 ∧ rhe M d = Q + (if Hf < R ∨ (R = Hf ∧ Q % 2 = 1) then 1 else 0) := by
 have hq : M / 2 ^ d ≤ M := Nat.div_le_self _ _;have hdm := Nat.div_add_mod M (2 ^ d);have hh : 2 ^ (d - 1) ≤ 2 ^ 53 := Nat.pow_le_pow_right (by omega) (by omega);have h2 : 2 ^ d = 2 * 2 ^ (d - 1) := by rw [Nat.mul_comm, ← Nat.pow_succ]; congr 1; omega
 have ec : (2 : Int) ^ d = ((2 ^ d : Nat) : Int) := by rw [Int.natCast_pow]; rfl
 have ec2 : (2 : Int) ^ (d - 1) = ((2 ^ (d - 1) : Nat) : Int) := by rw [Int.natCast_pow]; rfl
 refine ⟨M / 2 ^ d, M / 2 ^ d * 2 ^ d, M % 2 ^ d, 2 ^ (d - 1), ?_, ?_, ?_, ?_, by omega, ?_, by omega, ?_⟩
 ·rw [ec, ← Int.natCast_ediv]
 ·rw [ec, ← Int.natCast_mul, IntKind.wrap_u64];rw [Nat.mul_comm] at hdm; omega
 ·rw [IntKind.wrap_u64];rw [Nat.mul_comm] at hdm; omega
 ·rw [ec2, IntKind.wrap_u64]; omega
 ·rw [Nat.mul_comm] at hdm; omega
 ·unfold rhe;rw [h2];congr 1;by_cases c : 2 ^ (d - 1) < M % (2 * 2 ^ (d - 1)) ∨ M % (2 * 2 ^ (d - 1)) = 2 ^ (d - 1) ∧ M / (2 * 2 ^ (d - 1)) % 2 = 1
  ·rw [if_pos c, if_pos (by omega)]
  ·rw [if_neg c, if_neg (by omega)]
theorem nM_parts {x : Nat} (h : 4503599627370496 ≤ rung x) : ((eB x : Nat) : Int) = nE (rung x) ∧ ((fB x : Nat) : Int) + 4503599627370496 = ((nM (rung x) : Nat) : Int) := by
 obtain ⟨hp, hf⟩ := @rung_parts x;constructor
 ·unfold nE; rw [if_neg (by omega)]; omega
 ·unfold nM mag; rw [if_neg (by omega), if_neg (by omega)]; omega
theorem rscale_3 {x : Nat} (n : Int) (hx : x < 18446744073709551616) (w : World) (h3 : classI x = 3) (hE : ((eB x : Nat) : Int) = nE (rung x)) (hM : ((fB x : Nat) : Int) + 4503599627370496 = ((nM (rung x) : Nat) : Int)) (hf : fB x < 4503599627370496) (E1 : -51 ≤ nE (rung x)) (E2 : nE (rung x) ≤ 2046) (M2 : nM (rung x) < 9007199254740992) :
  Calls Tryz.prog 140 #[.float .f64 x, .int .i64 n] w fun e w' => e = .returned (.float .f64 (scaleW (negB x) (nM (rung x)) (nE (rung x) + n))) ∧ w' = w := by
 by_cases c1 : 5000 < n
 ·rw [sw_inf _ _ (by omega)];exact rs3_A n hx w h3 hE hM hf E1 E2 M2 c1 (by omega)
 have c1' : decide (5000 < n) = false := decide_eq_false c1;by_cases c2 : n < -5000
 ·rw [scale_far M2 (by omega)];exact rs3_B n hx w h3 hE hM hf E1 E2 M2 c1' c2 (by rw [decide_eq_false_iff_not]; omega) (by rw [decide_eq_false_iff_not]; omega) (by omega)
 have c2' : decide (n < -5000) = false := decide_eq_false c2;by_cases t : 2047 ≤ nE (rung x) + n
 ·rw [sw_inf _ _ t];exact rs3_C1 n hx w h3 hE hM hf E1 E2 M2 c1' c2' (by omega) (by omega) t
 have t' : decide (2047 ≤ nE (rung x) + n) = false := decide_eq_false t;by_cases t2 : 1 ≤ nE (rung x) + n
 ·rw [sw_mid _ _ t2 (by omega)];exact rs3_C2 n hx w h3 hE hM hf E1 E2 M2 c1' c2' (by omega) (by omega) t' t2 (by omega)
 have t2' : decide (1 ≤ nE (rung x) + n) = false := decide_eq_false t2;by_cases t4 : 54 < 1 - (nE (rung x) + n)
 ·rw [scale_far M2 (by omega)];exact rs3_C3 n hx w h3 hE hM hf E1 E2 M2 c1' c2' (by omega) (by omega) t' t2' (by omega) t4
 have t4' : decide (54 < 1 - (nE (rung x) + n)) = false := decide_eq_false t4;obtain ⟨Q, P, R, Hf, hq, hp, hrr, hh, q1, q2, q3, hrhe⟩ := round_numbers (nM (rung x)) (1 - (nE (rung x) + n)).toNat (by omega) (by omega) M2;rw [sw_low _ _ (by omega), hrhe];by_cases u : Hf < R
 ·rw [if_pos (.inl u)];exact rs3_U1 n hx w h3 hE hM hf E1 E2 M2 c1' c2' (by omega) (by omega) t' t2' (by omega) t4' (by omega) Q P R Hf hq hp hrr hh q1 q2 q3 (by omega)
 by_cases u2 : R = Hf
 ·subst u2;by_cases u3 : Q % 2 = 1
  ·rw [if_pos (.inr ⟨rfl, u3⟩)];exact rs3_U2 n hx w h3 hE hM hf E1 E2 M2 c1' c2' (by omega) (by omega) t' t2' (by omega) t4' (by omega) Q P R hq hp hrr hh q1 q3 (by rw [beq_iff_eq]; omega)
  ·rw [if_neg (by omega), Nat.add_zero];exact rs3_U3 n hx w h3 hE hM hf E1 E2 M2 c1' c2' (by omega) (by omega) t' t2' (by omega) t4' (by omega) Q P R hq hp hrr hh q1 q3 (by rw [beq_eq_false_iff_ne]; omega)
 ·rw [if_neg (by omega), Nat.add_zero];exact rs3_U4 n hx w h3 hE hM hf E1 E2 M2 c1' c2' (by omega) (by omega) t' t2' (by omega) t4' (by omega) Q P R Hf hq hp hrr hh q1 q2 q3 (show R < Hf by omega)
theorem rscale_2 {x : Nat} (n : Int) (hx : x < 18446744073709551616) (w : World) (h2 : classI x = 2) (hr : rung x = fB x) (h0 : fB x ≠ 0) (hf : fB x < 4503599627370496) (E1 : -51 ≤ nE (rung x)) (E2 : nE (rung x) ≤ 2046) (M2 : nM (rung x) < 9007199254740992) :
  Calls Tryz.prog 140 #[.float .f64 x, .int .i64 n] w fun e w' => e = .returned (.float .f64 (scaleW (negB x) (nM (rung x)) (nE (rung x) + n))) ∧ w' = w := by
 by_cases c1 : 5000 < n
 ·rw [sw_inf _ _ (by omega)];exact rs2_A n hx w h2 hr h0 hf E1 E2 M2 c1 (by omega)
 have c1' : decide (5000 < n) = false := decide_eq_false c1;by_cases c2 : n < -5000
 ·rw [scale_far M2 (by omega)];exact rs2_B n hx w h2 hr h0 hf E1 E2 M2 c1' c2 (by rw [decide_eq_false_iff_not]; omega) (by rw [decide_eq_false_iff_not]; omega) (by omega)
 have c2' : decide (n < -5000) = false := decide_eq_false c2;by_cases t : 2047 ≤ nE (rung x) + n
 ·rw [sw_inf _ _ t];exact rs2_C1 n hx w h2 hr h0 hf E1 E2 M2 c1' c2' (by omega) (by omega) t
 have t' : decide (2047 ≤ nE (rung x) + n) = false := decide_eq_false t;by_cases t2 : 1 ≤ nE (rung x) + n
 ·rw [sw_mid _ _ t2 (by omega)];exact rs2_C2 n hx w h2 hr h0 hf E1 E2 M2 c1' c2' (by omega) (by omega) t' t2 (by omega)
 have t2' : decide (1 ≤ nE (rung x) + n) = false := decide_eq_false t2;by_cases t4 : 54 < 1 - (nE (rung x) + n)
 ·rw [scale_far M2 (by omega)];exact rs2_C3 n hx w h2 hr h0 hf E1 E2 M2 c1' c2' (by omega) (by omega) t' t2' (by omega) t4
 have t4' : decide (54 < 1 - (nE (rung x) + n)) = false := decide_eq_false t4;obtain ⟨Q, P, R, Hf, hq, hp, hrr, hh, q1, q2, q3, hrhe⟩ := round_numbers (nM (rung x)) (1 - (nE (rung x) + n)).toNat (by omega) (by omega) M2;rw [sw_low _ _ (by omega), hrhe];by_cases u : Hf < R
 ·rw [if_pos (.inl u)];exact rs2_U1 n hx w h2 hr h0 hf E1 E2 M2 c1' c2' (by omega) (by omega) t' t2' (by omega) t4' (by omega) Q P R Hf hq hp hrr hh q1 q2 q3 (by omega)
 by_cases u2 : R = Hf
 ·subst u2;by_cases u3 : Q % 2 = 1
  ·rw [if_pos (.inr ⟨rfl, u3⟩)];exact rs2_U2 n hx w h2 hr h0 hf E1 E2 M2 c1' c2' (by omega) (by omega) t' t2' (by omega) t4' (by omega) Q P R hq hp hrr hh q1 q3 (by rw [beq_iff_eq]; omega)
  ·rw [if_neg (by omega), Nat.add_zero];exact rs2_U3 n hx w h2 hr h0 hf E1 E2 M2 c1' c2' (by omega) (by omega) t' t2' (by omega) t4' (by omega) Q P R hq hp hrr hh q1 q3 (by rw [beq_eq_false_iff_ne]; omega)
 ·rw [if_neg (by omega), Nat.add_zero];exact rs2_U4 n hx w h2 hr h0 hf E1 E2 M2 c1' c2' (by omega) (by omega) t' t2' (by omega) t4' (by omega) Q P R Hf hq hp hrr hh q1 q2 q3 (show R < Hf by omega)
theorem rscale_walk {x : Nat} (n : Int) (hx : x < 18446744073709551616) (w : World) :
  Calls Tryz.prog 140 #[.float .f64 x, .int .i64 n] w fun e w' => e = .returned (.float .f64 (scaleR x n)) ∧ w' = w := by
 obtain ⟨hp, hf⟩ := @rung_parts x;by_cases c3 : classI x = 3
 ·have h := (class_three x).1 c3
  have e : scaleR x n = scaleW (negB x) (nM (rung x)) (nE (rung x) + n) := by
   unfold scaleR nanB;rw [if_neg (by simp; omega), if_neg (by omega)]
  obtain ⟨hE, hM⟩ := nM_parts h.1;have hr := nE_range (r := rung x) (by omega) h.2;rw [e];exact rscale_3 n hx w c3 hE hM hf hr.1 hr.2 (nM_lt (by omega))
 ·by_cases c2 : classI x = 2
  ·have h := (class_two x).1 c2
   have e : scaleR x n = scaleW (negB x) (nM (rung x)) (nE (rung x) + n) := by
    unfold scaleR nanB;rw [if_neg (by simp; omega), if_neg (by omega)]
   have hr := nE_range (r := rung x) (by omega) (by omega);rw [e];exact rscale_2 n hx w c2 (by omega) (by omega) hf hr.1 hr.2 (nM_lt (by omega))
  ·rw [scale_stays c2 c3];exact rscale_same n hx (by simpa using c2) (by simpa using c3) w
end
end Go.Proofs.YtombjgfajbhbbaaGreat
