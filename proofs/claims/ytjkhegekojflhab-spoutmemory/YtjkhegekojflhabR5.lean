/- The contract of the document's answer for Scale: the roads of a subnormal float. -/
import Derived.Test.YtjkhegekojflhabR4
namespace Go.Proofs.Ytjkhegekojflhab
open Ieee Go.RowKit

set_option linter.unusedVariables false in
set_option maxRecDepth 20000 in
set_option maxHeartbeats 1000000 in
theorem rs2_A {x : Nat} (n : Int) (hx : x < 18446744073709551616) (w : World) (h2 : classI x = 2) (hr : rung x = fB x) (h0 : fB x ≠ 0) (hf : fB x < 4503599627370496) (E1 : -51 ≤ nE (rung x)) (E2 : nE (rung x) ≤ 2046) (M2 : nM (rung x) < 9007199254740992)
    (c1 : 5000 < n) (t : 2047 ≤ nE (rung x) + 5000) :
    Calls Try.prog 62 #[.float .f64 x, .int .i64 n] w fun e w' => e = .returned (.float .f64 (Ieee.double.word (negB x) 9218868437227405312)) ∧ w' = w := by
  have M3 : ((nM (rung x) : Nat) : Int) ≤ 9007199254740991 := by omega
  have HF : Hid (fB x < 4503599627370496) := hf
  have F3 : ((fB x : Nat) : Int) ≤ 4503599627370495 := by omega
  have HR : Hid (rung x = fB x) := hr
  clear hf M2 hr
  go_enter Try.func62, Try.ntmps62
  go_wp2_with fail
  refine (rclass_walk hx _).mono ?_
  rintro e w' ⟨rfl, rfl⟩
  go_wp2_with fail
  refine (partsR_walk hx _).mono ?_
  rintro e w' ⟨rfl, rfl⟩
  go_wp2_with fail
  go_loop [6, 7] (fun e m => ∃ j k : Nat, j ≤ 52 ∧ e = .int .i64 (1 - (j : Int)) ∧ m = .int .u64 (k : Int) ∧ k < 9007199254740992 ∧ Hid (k = fB x * 2 ^ j)) (fun e _ => (intOf e + 60).toNat)
  case atStart => exact ⟨0, fB x, by omega, rfl, rfl, by have := HF.out; omega, by show _ = _; rw [Nat.pow_zero, Nat.mul_one]⟩
  case round =>
    obtain ⟨j, k, hj, rfl, rfl, hk, HK⟩ := hrel
    by_cases hlt : k < 4503599627370496
    · have hj2 : j < 52 := loop_short h0 HK.out hlt
      have hlt' : (k : Int) < 4503599627370496 := by omega
      have HL : Hid (k < 4503599627370496) := hlt
      clear hlt
      go_wp2_with fail
      go_round
      case rel => exact ⟨j + 1, k * 2, by omega, by go_num, by go_num, by have := HL.out; omega, by show _ = _; rw [HK.out, Nat.pow_succ, Nat.mul_assoc]⟩
      case measure => simp [intOf]; omega
    obtain ⟨hEj, hMj⟩ := loop_end HR.out h0 HF.out HK.out (by omega) hk
    have hlt' : decide ((k : Int) < 4503599627370496) = false := by rw [decide_eq_false_iff_not]; omega
    subst hMj
    clear HK hlt hk
    go_wp2_with fail
    refine (bits_walk x _).mono ?_
    rintro e w' ⟨rfl, rfl⟩
    go_wp2_with fail
    refine (from_walkI _ _).mono ?_
    rintro e w' ⟨rfl, rfl⟩
    go_wp2_with fail
    go_ret
    exact ⟨ret_float (sign_word hx (by omega)), rfl⟩

set_option linter.unusedVariables false in
set_option maxRecDepth 20000 in
set_option maxHeartbeats 1000000 in
theorem rs2_B {x : Nat} (n : Int) (hx : x < 18446744073709551616) (w : World) (h2 : classI x = 2) (hr : rung x = fB x) (h0 : fB x ≠ 0) (hf : fB x < 4503599627370496) (E1 : -51 ≤ nE (rung x)) (E2 : nE (rung x) ≤ 2046) (M2 : nM (rung x) < 9007199254740992)
    (c1 : decide (5000 < n) = false) (c2 : n < -5000) (t : decide (2047 ≤ nE (rung x) + -5000) = false) (t2 : decide (1 ≤ nE (rung x) + -5000) = false) (t4 : 54 < 1 - (nE (rung x) + -5000)) :
    Calls Try.prog 62 #[.float .f64 x, .int .i64 n] w fun e w' => e = .returned (.float .f64 (Ieee.double.word (negB x) 0)) ∧ w' = w := by
  have M3 : ((nM (rung x) : Nat) : Int) ≤ 9007199254740991 := by omega
  have HF : Hid (fB x < 4503599627370496) := hf
  have F3 : ((fB x : Nat) : Int) ≤ 4503599627370495 := by omega
  have HR : Hid (rung x = fB x) := hr
  clear hf M2 hr
  go_enter Try.func62, Try.ntmps62
  go_wp2_with fail
  refine (rclass_walk hx _).mono ?_
  rintro e w' ⟨rfl, rfl⟩
  go_wp2_with fail
  refine (partsR_walk hx _).mono ?_
  rintro e w' ⟨rfl, rfl⟩
  go_wp2_with fail
  go_loop [6, 7] (fun e m => ∃ j k : Nat, j ≤ 52 ∧ e = .int .i64 (1 - (j : Int)) ∧ m = .int .u64 (k : Int) ∧ k < 9007199254740992 ∧ Hid (k = fB x * 2 ^ j)) (fun e _ => (intOf e + 60).toNat)
  case atStart => exact ⟨0, fB x, by omega, rfl, rfl, by have := HF.out; omega, by show _ = _; rw [Nat.pow_zero, Nat.mul_one]⟩
  case round =>
    obtain ⟨j, k, hj, rfl, rfl, hk, HK⟩ := hrel
    by_cases hlt : k < 4503599627370496
    · have hj2 : j < 52 := loop_short h0 HK.out hlt
      have hlt' : (k : Int) < 4503599627370496 := by omega
      have HL : Hid (k < 4503599627370496) := hlt
      clear hlt
      go_wp2_with fail
      go_round
      case rel => exact ⟨j + 1, k * 2, by omega, by go_num, by go_num, by have := HL.out; omega, by show _ = _; rw [HK.out, Nat.pow_succ, Nat.mul_assoc]⟩
      case measure => simp [intOf]; omega
    obtain ⟨hEj, hMj⟩ := loop_end HR.out h0 HF.out HK.out (by omega) hk
    have hlt' : decide ((k : Int) < 4503599627370496) = false := by rw [decide_eq_false_iff_not]; omega
    subst hMj
    clear HK hlt hk
    go_wp2_with fail
    refine (bits_walk x _).mono ?_
    rintro e w' ⟨rfl, rfl⟩
    go_wp2_with fail
    refine (from_walkI _ _).mono ?_
    rintro e w' ⟨rfl, rfl⟩
    go_wp2_with fail
    go_ret
    exact ⟨ret_float (sign_word hx (by omega)), rfl⟩

set_option linter.unusedVariables false in
set_option maxRecDepth 20000 in
set_option maxHeartbeats 1000000 in
theorem rs2_C1 {x : Nat} (n : Int) (hx : x < 18446744073709551616) (w : World) (h2 : classI x = 2) (hr : rung x = fB x) (h0 : fB x ≠ 0) (hf : fB x < 4503599627370496) (E1 : -51 ≤ nE (rung x)) (E2 : nE (rung x) ≤ 2046) (M2 : nM (rung x) < 9007199254740992)
    (c1 : decide (5000 < n) = false) (c2 : decide (n < -5000) = false) (b1 : -5000 ≤ n) (b2 : n ≤ 5000) (t : 2047 ≤ nE (rung x) + n) :
    Calls Try.prog 62 #[.float .f64 x, .int .i64 n] w fun e w' => e = .returned (.float .f64 (Ieee.double.word (negB x) 9218868437227405312)) ∧ w' = w := by
  have M3 : ((nM (rung x) : Nat) : Int) ≤ 9007199254740991 := by omega
  have HF : Hid (fB x < 4503599627370496) := hf
  have F3 : ((fB x : Nat) : Int) ≤ 4503599627370495 := by omega
  have HR : Hid (rung x = fB x) := hr
  clear hf M2 hr
  go_enter Try.func62, Try.ntmps62
  go_wp2_with fail
  refine (rclass_walk hx _).mono ?_
  rintro e w' ⟨rfl, rfl⟩
  go_wp2_with fail
  refine (partsR_walk hx _).mono ?_
  rintro e w' ⟨rfl, rfl⟩
  go_wp2_with fail
  go_loop [6, 7] (fun e m => ∃ j k : Nat, j ≤ 52 ∧ e = .int .i64 (1 - (j : Int)) ∧ m = .int .u64 (k : Int) ∧ k < 9007199254740992 ∧ Hid (k = fB x * 2 ^ j)) (fun e _ => (intOf e + 60).toNat)
  case atStart => exact ⟨0, fB x, by omega, rfl, rfl, by have := HF.out; omega, by show _ = _; rw [Nat.pow_zero, Nat.mul_one]⟩
  case round =>
    obtain ⟨j, k, hj, rfl, rfl, hk, HK⟩ := hrel
    by_cases hlt : k < 4503599627370496
    · have hj2 : j < 52 := loop_short h0 HK.out hlt
      have hlt' : (k : Int) < 4503599627370496 := by omega
      have HL : Hid (k < 4503599627370496) := hlt
      clear hlt
      go_wp2_with fail
      go_round
      case rel => exact ⟨j + 1, k * 2, by omega, by go_num, by go_num, by have := HL.out; omega, by show _ = _; rw [HK.out, Nat.pow_succ, Nat.mul_assoc]⟩
      case measure => simp [intOf]; omega
    obtain ⟨hEj, hMj⟩ := loop_end HR.out h0 HF.out HK.out (by omega) hk
    have hlt' : decide ((k : Int) < 4503599627370496) = false := by rw [decide_eq_false_iff_not]; omega
    subst hMj
    clear HK hlt hk
    go_wp2_with fail
    refine (bits_walk x _).mono ?_
    rintro e w' ⟨rfl, rfl⟩
    go_wp2_with fail
    refine (from_walkI _ _).mono ?_
    rintro e w' ⟨rfl, rfl⟩
    go_wp2_with fail
    go_ret
    exact ⟨ret_float (sign_word hx (by omega)), rfl⟩

set_option linter.unusedVariables false in
set_option maxRecDepth 20000 in
set_option maxHeartbeats 1000000 in
theorem rs2_C2 {x : Nat} (n : Int) (hx : x < 18446744073709551616) (w : World) (h2 : classI x = 2) (hr : rung x = fB x) (h0 : fB x ≠ 0) (hf : fB x < 4503599627370496) (E1 : -51 ≤ nE (rung x)) (E2 : nE (rung x) ≤ 2046) (M2 : nM (rung x) < 9007199254740992)
    (c1 : decide (5000 < n) = false) (c2 : decide (n < -5000) = false) (b1 : -5000 ≤ n) (b2 : n ≤ 5000) (t : decide (2047 ≤ nE (rung x) + n) = false) (t2 : 1 ≤ nE (rung x) + n) (t3 : nE (rung x) + n ≤ 2046) :
    Calls Try.prog 62 #[.float .f64 x, .int .i64 n] w fun e w' => e = .returned (.float .f64 (Ieee.double.word (negB x) ((nE (rung x) + n - 1).toNat * 4503599627370496 + nM (rung x)))) ∧ w' = w := by
  have M3 : ((nM (rung x) : Nat) : Int) ≤ 9007199254740991 := by omega
  have HF : Hid (fB x < 4503599627370496) := hf
  have F3 : ((fB x : Nat) : Int) ≤ 4503599627370495 := by omega
  have HR : Hid (rung x = fB x) := hr
  clear hf M2 hr
  go_enter Try.func62, Try.ntmps62
  go_wp2_with fail
  refine (rclass_walk hx _).mono ?_
  rintro e w' ⟨rfl, rfl⟩
  go_wp2_with fail
  refine (partsR_walk hx _).mono ?_
  rintro e w' ⟨rfl, rfl⟩
  go_wp2_with fail
  go_loop [6, 7] (fun e m => ∃ j k : Nat, j ≤ 52 ∧ e = .int .i64 (1 - (j : Int)) ∧ m = .int .u64 (k : Int) ∧ k < 9007199254740992 ∧ Hid (k = fB x * 2 ^ j)) (fun e _ => (intOf e + 60).toNat)
  case atStart => exact ⟨0, fB x, by omega, rfl, rfl, by have := HF.out; omega, by show _ = _; rw [Nat.pow_zero, Nat.mul_one]⟩
  case round =>
    obtain ⟨j, k, hj, rfl, rfl, hk, HK⟩ := hrel
    by_cases hlt : k < 4503599627370496
    · have hj2 : j < 52 := loop_short h0 HK.out hlt
      have hlt' : (k : Int) < 4503599627370496 := by omega
      have HL : Hid (k < 4503599627370496) := hlt
      clear hlt
      go_wp2_with fail
      go_round
      case rel => exact ⟨j + 1, k * 2, by omega, by go_num, by go_num, by have := HL.out; omega, by show _ = _; rw [HK.out, Nat.pow_succ, Nat.mul_assoc]⟩
      case measure => simp [intOf]; omega
    obtain ⟨hEj, hMj⟩ := loop_end HR.out h0 HF.out HK.out (by omega) hk
    have hlt' : decide ((k : Int) < 4503599627370496) = false := by rw [decide_eq_false_iff_not]; omega
    subst hMj
    clear HK hlt hk
    go_wp2_with fail
    refine (bits_walk x _).mono ?_
    rintro e w' ⟨rfl, rfl⟩
    go_wp2_with fail
    refine (from_walkI _ _).mono ?_
    rintro e w' ⟨rfl, rfl⟩
    go_wp2_with fail
    go_ret
    exact ⟨ret_float (sign_word hx (by omega)), rfl⟩

set_option linter.unusedVariables false in
set_option maxRecDepth 20000 in
set_option maxHeartbeats 1000000 in
theorem rs2_C3 {x : Nat} (n : Int) (hx : x < 18446744073709551616) (w : World) (h2 : classI x = 2) (hr : rung x = fB x) (h0 : fB x ≠ 0) (hf : fB x < 4503599627370496) (E1 : -51 ≤ nE (rung x)) (E2 : nE (rung x) ≤ 2046) (M2 : nM (rung x) < 9007199254740992)
    (c1 : decide (5000 < n) = false) (c2 : decide (n < -5000) = false) (b1 : -5000 ≤ n) (b2 : n ≤ 5000) (t : decide (2047 ≤ nE (rung x) + n) = false) (t2 : decide (1 ≤ nE (rung x) + n) = false) (t3 : nE (rung x) + n ≤ 0) (t4 : 54 < 1 - (nE (rung x) + n)) :
    Calls Try.prog 62 #[.float .f64 x, .int .i64 n] w fun e w' => e = .returned (.float .f64 (Ieee.double.word (negB x) 0)) ∧ w' = w := by
  have M3 : ((nM (rung x) : Nat) : Int) ≤ 9007199254740991 := by omega
  have HF : Hid (fB x < 4503599627370496) := hf
  have F3 : ((fB x : Nat) : Int) ≤ 4503599627370495 := by omega
  have HR : Hid (rung x = fB x) := hr
  clear hf M2 hr
  go_enter Try.func62, Try.ntmps62
  go_wp2_with fail
  refine (rclass_walk hx _).mono ?_
  rintro e w' ⟨rfl, rfl⟩
  go_wp2_with fail
  refine (partsR_walk hx _).mono ?_
  rintro e w' ⟨rfl, rfl⟩
  go_wp2_with fail
  go_loop [6, 7] (fun e m => ∃ j k : Nat, j ≤ 52 ∧ e = .int .i64 (1 - (j : Int)) ∧ m = .int .u64 (k : Int) ∧ k < 9007199254740992 ∧ Hid (k = fB x * 2 ^ j)) (fun e _ => (intOf e + 60).toNat)
  case atStart => exact ⟨0, fB x, by omega, rfl, rfl, by have := HF.out; omega, by show _ = _; rw [Nat.pow_zero, Nat.mul_one]⟩
  case round =>
    obtain ⟨j, k, hj, rfl, rfl, hk, HK⟩ := hrel
    by_cases hlt : k < 4503599627370496
    · have hj2 : j < 52 := loop_short h0 HK.out hlt
      have hlt' : (k : Int) < 4503599627370496 := by omega
      have HL : Hid (k < 4503599627370496) := hlt
      clear hlt
      go_wp2_with fail
      go_round
      case rel => exact ⟨j + 1, k * 2, by omega, by go_num, by go_num, by have := HL.out; omega, by show _ = _; rw [HK.out, Nat.pow_succ, Nat.mul_assoc]⟩
      case measure => simp [intOf]; omega
    obtain ⟨hEj, hMj⟩ := loop_end HR.out h0 HF.out HK.out (by omega) hk
    have hlt' : decide ((k : Int) < 4503599627370496) = false := by rw [decide_eq_false_iff_not]; omega
    subst hMj
    clear HK hlt hk
    go_wp2_with fail
    refine (bits_walk x _).mono ?_
    rintro e w' ⟨rfl, rfl⟩
    go_wp2_with fail
    refine (from_walkI _ _).mono ?_
    rintro e w' ⟨rfl, rfl⟩
    go_wp2_with fail
    go_ret
    exact ⟨ret_float (sign_word hx (by omega)), rfl⟩

set_option linter.unusedVariables false in
set_option maxRecDepth 20000 in
set_option maxHeartbeats 1000000 in
theorem rs2_U1 {x : Nat} (n : Int) (hx : x < 18446744073709551616) (w : World) (h2 : classI x = 2) (hr : rung x = fB x) (h0 : fB x ≠ 0) (hf : fB x < 4503599627370496) (E1 : -51 ≤ nE (rung x)) (E2 : nE (rung x) ≤ 2046) (M2 : nM (rung x) < 9007199254740992)
    (c1 : decide (5000 < n) = false) (c2 : decide (n < -5000) = false) (b1 : -5000 ≤ n) (b2 : n ≤ 5000) (t : decide (2047 ≤ nE (rung x) + n) = false) (t2 : decide (1 ≤ nE (rung x) + n) = false) (t3 : nE (rung x) + n ≤ 0) (t4 : decide (54 < 1 - (nE (rung x) + n)) = false) (t5 : 1 - (nE (rung x) + n) ≤ 54) (Q P R Hf : Nat) (hq : ((nM (rung x) : Nat) : Int) / 2 ^ (1 - (nE (rung x) + n)).toNat = (Q : Int)) (hp : IntKind.u64.wrap ((Q : Int) * 2 ^ (1 - (nE (rung x) + n)).toNat) = (P : Int)) (hrr : IntKind.u64.wrap (((nM (rung x) : Nat) : Int) - (P : Int)) = (R : Int)) (hh : IntKind.u64.wrap (2 ^ ((1 - (nE (rung x) + n)).toNat - 1)) = (Hf : Int)) (q1 : Q < 9007199254740992) (q2 : R < 18446744073709551616) (q3 : Hf < 18446744073709551616) (u : (Hf : Int) < (R : Int)) :
    Calls Try.prog 62 #[.float .f64 x, .int .i64 n] w fun e w' => e = .returned (.float .f64 (Ieee.double.word (negB x) (Q + 1))) ∧ w' = w := by
  have M3 : ((nM (rung x) : Nat) : Int) ≤ 9007199254740991 := by omega
  have HF : Hid (fB x < 4503599627370496) := hf
  have F3 : ((fB x : Nat) : Int) ≤ 4503599627370495 := by omega
  have HR : Hid (rung x = fB x) := hr
  clear hf M2 hr
  go_enter Try.func62, Try.ntmps62
  go_wp2_with fail
  refine (rclass_walk hx _).mono ?_
  rintro e w' ⟨rfl, rfl⟩
  go_wp2_with fail
  refine (partsR_walk hx _).mono ?_
  rintro e w' ⟨rfl, rfl⟩
  go_wp2_with fail
  go_loop [6, 7] (fun e m => ∃ j k : Nat, j ≤ 52 ∧ e = .int .i64 (1 - (j : Int)) ∧ m = .int .u64 (k : Int) ∧ k < 9007199254740992 ∧ Hid (k = fB x * 2 ^ j)) (fun e _ => (intOf e + 60).toNat)
  case atStart => exact ⟨0, fB x, by omega, rfl, rfl, by have := HF.out; omega, by show _ = _; rw [Nat.pow_zero, Nat.mul_one]⟩
  case round =>
    obtain ⟨j, k, hj, rfl, rfl, hk, HK⟩ := hrel
    by_cases hlt : k < 4503599627370496
    · have hj2 : j < 52 := loop_short h0 HK.out hlt
      have hlt' : (k : Int) < 4503599627370496 := by omega
      have HL : Hid (k < 4503599627370496) := hlt
      clear hlt
      go_wp2_with fail
      go_round
      case rel => exact ⟨j + 1, k * 2, by omega, by go_num, by go_num, by have := HL.out; omega, by show _ = _; rw [HK.out, Nat.pow_succ, Nat.mul_assoc]⟩
      case measure => simp [intOf]; omega
    obtain ⟨hEj, hMj⟩ := loop_end HR.out h0 HF.out HK.out (by omega) hk
    have hlt' : decide ((k : Int) < 4503599627370496) = false := by rw [decide_eq_false_iff_not]; omega
    subst hMj
    clear HK hlt hk
    go_wp2_with fail
    refine (bits_walk x _).mono ?_
    rintro e w' ⟨rfl, rfl⟩
    go_wp2_with fail
    refine (from_walkI _ _).mono ?_
    rintro e w' ⟨rfl, rfl⟩
    go_wp2_with fail
    go_ret
    exact ⟨ret_float (sign_wrap hx (by omega) (by first | rfl | (simp only [IntKind.wrap_u64]; omega))), rfl⟩

set_option linter.unusedVariables false in
set_option maxRecDepth 20000 in
set_option maxHeartbeats 1000000 in
theorem rs2_U2 {x : Nat} (n : Int) (hx : x < 18446744073709551616) (w : World) (h2 : classI x = 2) (hr : rung x = fB x) (h0 : fB x ≠ 0) (hf : fB x < 4503599627370496) (E1 : -51 ≤ nE (rung x)) (E2 : nE (rung x) ≤ 2046) (M2 : nM (rung x) < 9007199254740992)
    (c1 : decide (5000 < n) = false) (c2 : decide (n < -5000) = false) (b1 : -5000 ≤ n) (b2 : n ≤ 5000) (t : decide (2047 ≤ nE (rung x) + n) = false) (t2 : decide (1 ≤ nE (rung x) + n) = false) (t3 : nE (rung x) + n ≤ 0) (t4 : decide (54 < 1 - (nE (rung x) + n)) = false) (t5 : 1 - (nE (rung x) + n) ≤ 54) (Q P Hf : Nat) (hq : ((nM (rung x) : Nat) : Int) / 2 ^ (1 - (nE (rung x) + n)).toNat = (Q : Int)) (hp : IntKind.u64.wrap ((Q : Int) * 2 ^ (1 - (nE (rung x) + n)).toNat) = (P : Int)) (hrr : IntKind.u64.wrap (((nM (rung x) : Nat) : Int) - (P : Int)) = (Hf : Int)) (hh : IntKind.u64.wrap (2 ^ ((1 - (nE (rung x) + n)).toNat - 1)) = (Hf : Int)) (q1 : Q < 9007199254740992) (q3 : Hf < 18446744073709551616) (u3 : ((Q : Int) % 2 == 1) = true) :
    Calls Try.prog 62 #[.float .f64 x, .int .i64 n] w fun e w' => e = .returned (.float .f64 (Ieee.double.word (negB x) (Q + 1))) ∧ w' = w := by
  have M3 : ((nM (rung x) : Nat) : Int) ≤ 9007199254740991 := by omega
  have HF : Hid (fB x < 4503599627370496) := hf
  have F3 : ((fB x : Nat) : Int) ≤ 4503599627370495 := by omega
  have HR : Hid (rung x = fB x) := hr
  clear hf M2 hr
  go_enter Try.func62, Try.ntmps62
  go_wp2_with fail
  refine (rclass_walk hx _).mono ?_
  rintro e w' ⟨rfl, rfl⟩
  go_wp2_with fail
  refine (partsR_walk hx _).mono ?_
  rintro e w' ⟨rfl, rfl⟩
  go_wp2_with fail
  go_loop [6, 7] (fun e m => ∃ j k : Nat, j ≤ 52 ∧ e = .int .i64 (1 - (j : Int)) ∧ m = .int .u64 (k : Int) ∧ k < 9007199254740992 ∧ Hid (k = fB x * 2 ^ j)) (fun e _ => (intOf e + 60).toNat)
  case atStart => exact ⟨0, fB x, by omega, rfl, rfl, by have := HF.out; omega, by show _ = _; rw [Nat.pow_zero, Nat.mul_one]⟩
  case round =>
    obtain ⟨j, k, hj, rfl, rfl, hk, HK⟩ := hrel
    by_cases hlt : k < 4503599627370496
    · have hj2 : j < 52 := loop_short h0 HK.out hlt
      have hlt' : (k : Int) < 4503599627370496 := by omega
      have HL : Hid (k < 4503599627370496) := hlt
      clear hlt
      go_wp2_with fail
      go_round
      case rel => exact ⟨j + 1, k * 2, by omega, by go_num, by go_num, by have := HL.out; omega, by show _ = _; rw [HK.out, Nat.pow_succ, Nat.mul_assoc]⟩
      case measure => simp [intOf]; omega
    obtain ⟨hEj, hMj⟩ := loop_end HR.out h0 HF.out HK.out (by omega) hk
    have hlt' : decide ((k : Int) < 4503599627370496) = false := by rw [decide_eq_false_iff_not]; omega
    subst hMj
    clear HK hlt hk
    go_wp2_with fail
    refine (bits_walk x _).mono ?_
    rintro e w' ⟨rfl, rfl⟩
    go_wp2_with fail
    refine (from_walkI _ _).mono ?_
    rintro e w' ⟨rfl, rfl⟩
    go_wp2_with fail
    go_ret
    exact ⟨ret_float (sign_wrap hx (by omega) (by first | rfl | (simp only [IntKind.wrap_u64]; omega))), rfl⟩

set_option linter.unusedVariables false in
set_option maxRecDepth 20000 in
set_option maxHeartbeats 1000000 in
theorem rs2_U3 {x : Nat} (n : Int) (hx : x < 18446744073709551616) (w : World) (h2 : classI x = 2) (hr : rung x = fB x) (h0 : fB x ≠ 0) (hf : fB x < 4503599627370496) (E1 : -51 ≤ nE (rung x)) (E2 : nE (rung x) ≤ 2046) (M2 : nM (rung x) < 9007199254740992)
    (c1 : decide (5000 < n) = false) (c2 : decide (n < -5000) = false) (b1 : -5000 ≤ n) (b2 : n ≤ 5000) (t : decide (2047 ≤ nE (rung x) + n) = false) (t2 : decide (1 ≤ nE (rung x) + n) = false) (t3 : nE (rung x) + n ≤ 0) (t4 : decide (54 < 1 - (nE (rung x) + n)) = false) (t5 : 1 - (nE (rung x) + n) ≤ 54) (Q P Hf : Nat) (hq : ((nM (rung x) : Nat) : Int) / 2 ^ (1 - (nE (rung x) + n)).toNat = (Q : Int)) (hp : IntKind.u64.wrap ((Q : Int) * 2 ^ (1 - (nE (rung x) + n)).toNat) = (P : Int)) (hrr : IntKind.u64.wrap (((nM (rung x) : Nat) : Int) - (P : Int)) = (Hf : Int)) (hh : IntKind.u64.wrap (2 ^ ((1 - (nE (rung x) + n)).toNat - 1)) = (Hf : Int)) (q1 : Q < 9007199254740992) (q3 : Hf < 18446744073709551616) (u3 : ((Q : Int) % 2 == 1) = false) :
    Calls Try.prog 62 #[.float .f64 x, .int .i64 n] w fun e w' => e = .returned (.float .f64 (Ieee.double.word (negB x) Q)) ∧ w' = w := by
  have M3 : ((nM (rung x) : Nat) : Int) ≤ 9007199254740991 := by omega
  have HF : Hid (fB x < 4503599627370496) := hf
  have F3 : ((fB x : Nat) : Int) ≤ 4503599627370495 := by omega
  have HR : Hid (rung x = fB x) := hr
  clear hf M2 hr
  go_enter Try.func62, Try.ntmps62
  go_wp2_with fail
  refine (rclass_walk hx _).mono ?_
  rintro e w' ⟨rfl, rfl⟩
  go_wp2_with fail
  refine (partsR_walk hx _).mono ?_
  rintro e w' ⟨rfl, rfl⟩
  go_wp2_with fail
  go_loop [6, 7] (fun e m => ∃ j k : Nat, j ≤ 52 ∧ e = .int .i64 (1 - (j : Int)) ∧ m = .int .u64 (k : Int) ∧ k < 9007199254740992 ∧ Hid (k = fB x * 2 ^ j)) (fun e _ => (intOf e + 60).toNat)
  case atStart => exact ⟨0, fB x, by omega, rfl, rfl, by have := HF.out; omega, by show _ = _; rw [Nat.pow_zero, Nat.mul_one]⟩
  case round =>
    obtain ⟨j, k, hj, rfl, rfl, hk, HK⟩ := hrel
    by_cases hlt : k < 4503599627370496
    · have hj2 : j < 52 := loop_short h0 HK.out hlt
      have hlt' : (k : Int) < 4503599627370496 := by omega
      have HL : Hid (k < 4503599627370496) := hlt
      clear hlt
      go_wp2_with fail
      go_round
      case rel => exact ⟨j + 1, k * 2, by omega, by go_num, by go_num, by have := HL.out; omega, by show _ = _; rw [HK.out, Nat.pow_succ, Nat.mul_assoc]⟩
      case measure => simp [intOf]; omega
    obtain ⟨hEj, hMj⟩ := loop_end HR.out h0 HF.out HK.out (by omega) hk
    have hlt' : decide ((k : Int) < 4503599627370496) = false := by rw [decide_eq_false_iff_not]; omega
    subst hMj
    clear HK hlt hk
    go_wp2_with fail
    refine (bits_walk x _).mono ?_
    rintro e w' ⟨rfl, rfl⟩
    go_wp2_with fail
    refine (from_walkI _ _).mono ?_
    rintro e w' ⟨rfl, rfl⟩
    go_wp2_with fail
    go_ret
    exact ⟨ret_float (sign_wrap hx (by omega) (by first | rfl | (simp only [IntKind.wrap_u64]; omega))), rfl⟩

set_option linter.unusedVariables false in
set_option maxRecDepth 20000 in
set_option maxHeartbeats 1000000 in
theorem rs2_U4 {x : Nat} (n : Int) (hx : x < 18446744073709551616) (w : World) (h2 : classI x = 2) (hr : rung x = fB x) (h0 : fB x ≠ 0) (hf : fB x < 4503599627370496) (E1 : -51 ≤ nE (rung x)) (E2 : nE (rung x) ≤ 2046) (M2 : nM (rung x) < 9007199254740992)
    (c1 : decide (5000 < n) = false) (c2 : decide (n < -5000) = false) (b1 : -5000 ≤ n) (b2 : n ≤ 5000) (t : decide (2047 ≤ nE (rung x) + n) = false) (t2 : decide (1 ≤ nE (rung x) + n) = false) (t3 : nE (rung x) + n ≤ 0) (t4 : decide (54 < 1 - (nE (rung x) + n)) = false) (t5 : 1 - (nE (rung x) + n) ≤ 54) (Q P R Hf : Nat) (hq : ((nM (rung x) : Nat) : Int) / 2 ^ (1 - (nE (rung x) + n)).toNat = (Q : Int)) (hp : IntKind.u64.wrap ((Q : Int) * 2 ^ (1 - (nE (rung x) + n)).toNat) = (P : Int)) (hrr : IntKind.u64.wrap (((nM (rung x) : Nat) : Int) - (P : Int)) = (R : Int)) (hh : IntKind.u64.wrap (2 ^ ((1 - (nE (rung x) + n)).toNat - 1)) = (Hf : Int)) (q1 : Q < 9007199254740992) (q2 : R < 18446744073709551616) (q3 : Hf < 18446744073709551616) (U : Hid (R < Hf)) :
    Calls Try.prog 62 #[.float .f64 x, .int .i64 n] w fun e w' => e = .returned (.float .f64 (Ieee.double.word (negB x) Q)) ∧ w' = w := by
  have M3 : ((nM (rung x) : Nat) : Int) ≤ 9007199254740991 := by omega
  have HF : Hid (fB x < 4503599627370496) := hf
  have F3 : ((fB x : Nat) : Int) ≤ 4503599627370495 := by omega
  have HR : Hid (rung x = fB x) := hr
  clear hf M2 hr
  go_enter Try.func62, Try.ntmps62
  go_wp2_with fail
  refine (rclass_walk hx _).mono ?_
  rintro e w' ⟨rfl, rfl⟩
  go_wp2_with fail
  refine (partsR_walk hx _).mono ?_
  rintro e w' ⟨rfl, rfl⟩
  go_wp2_with fail
  go_loop [6, 7] (fun e m => ∃ j k : Nat, j ≤ 52 ∧ e = .int .i64 (1 - (j : Int)) ∧ m = .int .u64 (k : Int) ∧ k < 9007199254740992 ∧ Hid (k = fB x * 2 ^ j)) (fun e _ => (intOf e + 60).toNat)
  case atStart => exact ⟨0, fB x, by omega, rfl, rfl, by have := HF.out; omega, by show _ = _; rw [Nat.pow_zero, Nat.mul_one]⟩
  case round =>
    obtain ⟨j, k, hj, rfl, rfl, hk, HK⟩ := hrel
    by_cases hlt : k < 4503599627370496
    · have hj2 : j < 52 := loop_short h0 HK.out hlt
      have hlt' : (k : Int) < 4503599627370496 := by omega
      have HL : Hid (k < 4503599627370496) := hlt
      clear hlt
      go_wp2_with fail
      go_round
      case rel => exact ⟨j + 1, k * 2, by omega, by go_num, by go_num, by have := HL.out; omega, by show _ = _; rw [HK.out, Nat.pow_succ, Nat.mul_assoc]⟩
      case measure => simp [intOf]; omega
    obtain ⟨hEj, hMj⟩ := loop_end HR.out h0 HF.out HK.out (by omega) hk
    have hlt' : decide ((k : Int) < 4503599627370496) = false := by rw [decide_eq_false_iff_not]; omega
    subst hMj
    clear HK hlt hk
    go_wp2_with fail
    refine (bits_walk x _).mono ?_
    rintro e w' ⟨rfl, rfl⟩
    clear M3 F3 hlt' HF HR h0 hEj h2
    go_wp2_with fail
    all_goals
      first
      | (exfalso; have := U.out; omega)
      | (exfalso; rename_i hq'; have := U.out; rw [beq_iff_eq] at hq'; omega)
      | (exfalso; rename_i hq'; have := U.out; have := hq'.1; rw [beq_iff_eq] at this; omega)
      | (refine (from_walkI _ _).mono ?_; rintro e w' ⟨rfl, rfl⟩; go_wp2_with fail; go_ret; exact ⟨ret_float (sign_wrap hx (by omega) (by first | rfl | (simp only [IntKind.wrap_u64]; omega))), rfl⟩)

end Go.Proofs.Ytjkhegekojflhab
