/- Contracts of the document's answer for Class, Canon, Order, Least and Most. -/
import Derived.Test.YtnppgeokbhecfaaW1
namespace Go.Proofs.Ytnppgeokbhecfaa
open Ieee Go.RowKit

attribute [local go_sem] run_bits run_frombits

theorem bits_walk (x : Nat) (w : World) :
    Calls Try.prog 42 #[.float .f64 x] w fun e w' => e = .returned (.int .u64 x) ∧ w' = w := by
  go_enter Try.func42, Try.ntmps42
  go_wp2
  go_ret
  exact ⟨rfl, rfl⟩
theorem from_walk (x : Nat) (w : World) :
    Calls Try.prog 33 #[.int .u64 x] w fun e w' => e = .returned (.float .f64 x) ∧ w' = w := by
  go_enter Try.func33, Try.ntmps33
  go_wp2
  go_ret
  exact ⟨ret_float (by simp), rfl⟩

/-- The exponent's bits and the fraction. -/
def eB (x : Nat) : Nat := rung x / 4503599627370496
def fB (x : Nat) : Nat := x % 4503599627370496

theorem eB_bits {x : Nat} (hx : x < 18446744073709551616) : bits .and .u64 ((x : Int) / 4503599627370496) 2047 = eB x := by
  have h := bits_and_u64_nat (x / 4503599627370496) 2047 (by omega) (by omega)
  rw [show (2047 : Nat) = 2 ^ 11 - 1 from rfl, Nat.and_two_pow_sub_one_eq_mod] at h
  have e : ((x / 4503599627370496 : Nat) : Int) = (x : Int) / 4503599627370496 := by omega
  rw [e] at h
  rw [show ((2 ^ 11 - 1 : Nat) : Int) = 2047 from rfl] at h
  rw [h]
  unfold eB rung
  omega
theorem fB_bits {x : Nat} (hx : x < 18446744073709551616) : bits .and .u64 (x : Int) 4503599627370495 = fB x := by
  have h := bits_and_u64_nat x 4503599627370495 hx (by omega)
  rw [show (4503599627370495 : Nat) = 2 ^ 52 - 1 from rfl, Nat.and_two_pow_sub_one_eq_mod] at h
  rw [show ((2 ^ 52 - 1 : Nat) : Int) = 4503599627370495 from rfl] at h
  rw [h]
  rfl
theorem eB_le (x : Nat) : eB x ≤ 2047 := by have := rung_lt x; unfold eB; omega

theorem parts_walk {x : Nat} (hx : x < 18446744073709551616) (w : World) :
    Calls Try.prog 47 #[.float .f64 x] w fun e w' => e = .returned (.tuple #[.int .i64 (eB x), .int .u64 (fB x)]) ∧ w' = w := by
  have h1 := eB_bits hx
  have h2 := fB_bits hx
  have h3 := eB_le x
  go_enter Try.func47, Try.ntmps47
  go_wp2_with fail
  refine (bits_walk x _).mono ?_
  rintro e w' ⟨rfl, rfl⟩
  go_wp2_with fail
  go_ret2
  exact ⟨rfl, rfl⟩

theorem rung_parts {x : Nat} : rung x = eB x * 4503599627370496 + fB x ∧ fB x < 4503599627370496 := by
  unfold eB fB rung; omega

theorem rclass_walk {x : Nat} (hx : x < 18446744073709551616) (w : World) :
    Calls Try.prog 48 #[.float .f64 x] w fun e w' => e = .returned (.int .i64 (classI x)) ∧ w' = w := by
  obtain ⟨hp, hf⟩ := @rung_parts x
  have he := eB_le x
  have HP : Hid (rung x = eB x * 4503599627370496 + fB x ∧ fB x < 4503599627370496 ∧ eB x ≤ 2047) := ⟨hp, hf, he⟩
  have cl : ∀ k : Int, ((eB x = 2047 ∧ fB x ≠ 0 ∧ k = 5) ∨ (eB x = 2047 ∧ fB x = 0 ∧ k = 4) ∨ (eB x ≠ 2047 ∧ eB x ≠ 0 ∧ k = 3) ∨ (eB x = 0 ∧ fB x ≠ 0 ∧ k = 2) ∨ (eB x = 0 ∧ fB x = 0 ∧ k = 1)) → classI x = k := by
    intro k hk
    unfold classI nanB
    simp only [decide_eq_true_eq]
    (repeat' split) <;> omega
  have CL : Hid (∀ k : Int, ((eB x = 2047 ∧ fB x ≠ 0 ∧ k = 5) ∨ (eB x = 2047 ∧ fB x = 0 ∧ k = 4) ∨ (eB x ≠ 2047 ∧ eB x ≠ 0 ∧ k = 3) ∨ (eB x = 0 ∧ fB x ≠ 0 ∧ k = 2) ∨ (eB x = 0 ∧ fB x = 0 ∧ k = 1)) → classI x = k) := cl
  clear cl hp hf he
  by_cases c1 : eB x = 2047
  · by_cases c2 : fB x = 0
    · go_enter Try.func48, Try.ntmps48
      go_wp2_with fail
      refine (parts_walk hx _).mono ?_
      rintro e w' ⟨rfl, rfl⟩
      go_wp2_with fail
      go_ret
      exact ⟨ret_int (CL.out _ (by omega)).symm, rfl⟩
    · go_enter Try.func48, Try.ntmps48
      go_wp2_with fail
      refine (parts_walk hx _).mono ?_
      rintro e w' ⟨rfl, rfl⟩
      go_wp2_with fail
      go_ret
      exact ⟨ret_int (CL.out _ (by omega)).symm, rfl⟩
  · by_cases c3 : eB x = 0
    · by_cases c2 : fB x = 0
      · go_enter Try.func48, Try.ntmps48
        go_wp2_with fail
        refine (parts_walk hx _).mono ?_
        rintro e w' ⟨rfl, rfl⟩
        go_wp2_with fail
        go_ret
        exact ⟨ret_int (CL.out _ (by omega)).symm, rfl⟩
      · go_enter Try.func48, Try.ntmps48
        go_wp2_with fail
        refine (parts_walk hx _).mono ?_
        rintro e w' ⟨rfl, rfl⟩
        go_wp2_with fail
        go_ret
        exact ⟨ret_int (CL.out _ (by omega)).symm, rfl⟩
    · go_enter Try.func48, Try.ntmps48
      go_wp2_with fail
      refine (parts_walk hx _).mono ?_
      rintro e w' ⟨rfl, rfl⟩
      go_wp2_with fail
      go_ret
      exact ⟨ret_int (CL.out _ (by omega)).symm, rfl⟩

theorem class_nan (x : Nat) : classI x = 5 ↔ nanB x = true := by
  unfold classI
  cases nanB x
  · simp only [Bool.false_eq_true, if_false, iff_false]; (repeat' split) <;> omega
  · simp
theorem class_not_nan {x : Nat} (h : nanB x = false) : ¬ classI x = 5 := fun k => by rw [(class_nan x).1 k] at h; cases h

theorem rcanon_walk {x : Nat} (hx : x < 18446744073709551616) (w : World) :
    Calls Try.prog 43 #[.float .f64 x] w fun e w' => e = .returned (.float .f64 (canonW x)) ∧ w' = w := by
  cases h : nanB x
  · have hc := class_not_nan h
    go_enter Try.func43, Try.ntmps43
    go_wp2_with fail
    refine (rclass_walk hx _).mono ?_
    rintro e w' ⟨rfl, rfl⟩
    go_wp2_with fail
    go_ret
    exact ⟨ret_float (by unfold canonW; rw [h]; rfl), rfl⟩
  · have hc := (class_nan x).2 h
    go_enter Try.func43, Try.ntmps43
    go_wp2_with fail
    refine (rclass_walk hx _).mono ?_
    rintro e w' ⟨rfl, rfl⟩
    go_wp2_with fail
    refine (from_walk 9221120237041090561 _).mono ?_
    rintro e w' ⟨rfl, rfl⟩
    go_wp2_with fail
    go_ret
    exact ⟨ret_float (by unfold canonW; rw [h]; rfl), rfl⟩

theorem rrank_walk {x : Nat} (hx : x < 18446744073709551616) (w : World) :
    Calls Try.prog 49 #[.float .f64 x] w fun e w' => e = .returned (.int .i64 (rank x)) ∧ w' = w := by
  cases h : nanB x
  · have hc := class_not_nan h
    cases s : negB x
    · have hs : decide (9223372036854775808 ≤ (x : Int)) = false := by have := neg_f s; simp only [decide_eq_false_iff_not]; omega
      go_enter Try.func49, Try.ntmps49
      go_wp2_with fail
      refine (rclass_walk hx _).mono ?_
      rintro e w' ⟨rfl, rfl⟩
      go_wp2_with fail
      refine (bits_walk x _).mono ?_
      rintro e w' ⟨rfl, rfl⟩
      go_wp2_with fail
      go_ret
      exact ⟨ret_int (by have := neg_f s; unfold rank wrap64; rw [h, s]; simp only [Bool.false_eq_true, if_false]; omega), rfl⟩
    · have hs : 9223372036854775808 ≤ (x : Int) := by have := neg_t s; omega
      go_enter Try.func49, Try.ntmps49
      go_wp2_with fail
      refine (rclass_walk hx _).mono ?_
      rintro e w' ⟨rfl, rfl⟩
      go_wp2_with fail
      refine (bits_walk x _).mono ?_
      rintro e w' ⟨rfl, rfl⟩
      go_wp2_with fail
      go_ret
      exact ⟨ret_int (by unfold rank; rw [h, s]; simp), rfl⟩
  · have hc := (class_nan x).2 h
    go_enter Try.func49, Try.ntmps49
    go_wp2_with fail
    refine (rclass_walk hx _).mono ?_
    rintro e w' ⟨rfl, rfl⟩
    go_wp2_with fail
    go_ret
    exact ⟨ret_int (by unfold rank; rw [h]; rfl), rfl⟩

theorem rorder_walk {a b : Nat} (ha : a < 18446744073709551616) (hb : b < 18446744073709551616) (w : World) :
    Calls Try.prog 44 #[.float .f64 a, .float .f64 b] w fun e w' => e = .returned (.int .i64 (ordI a b)) ∧ w' = w := by
  by_cases c1 : rank a < rank b
  · go_enter Try.func44, Try.ntmps44
    go_wp2_with fail
    refine (rrank_walk ha _).mono ?_
    rintro e w' ⟨rfl, rfl⟩
    go_wp2_with fail
    refine (rrank_walk hb _).mono ?_
    rintro e w' ⟨rfl, rfl⟩
    go_wp2_with fail
    go_ret
    exact ⟨ret_int (by unfold ordI; rw [if_pos c1]), rfl⟩
  · by_cases c2 : rank b < rank a
    · go_enter Try.func44, Try.ntmps44
      go_wp2_with fail
      refine (rrank_walk ha _).mono ?_
      rintro e w' ⟨rfl, rfl⟩
      go_wp2_with fail
      refine (rrank_walk hb _).mono ?_
      rintro e w' ⟨rfl, rfl⟩
      go_wp2_with fail
      go_ret
      exact ⟨ret_int (by unfold ordI; rw [if_neg (by omega), if_pos c2]), rfl⟩
    · go_enter Try.func44, Try.ntmps44
      go_wp2_with fail
      refine (rrank_walk ha _).mono ?_
      rintro e w' ⟨rfl, rfl⟩
      go_wp2_with fail
      refine (rrank_walk hb _).mono ?_
      rintro e w' ⟨rfl, rfl⟩
      go_wp2_with fail
      go_ret
      exact ⟨ret_int (by unfold ordI; rw [if_neg (by omega), if_neg (by omega)]), rfl⟩

theorem rleast_walk {a b : Nat} (ha : a < 18446744073709551616) (hb : b < 18446744073709551616) (w : World) :
    Calls Try.prog 35 #[.float .f64 a, .float .f64 b] w fun e w' => e = .returned (.float .f64 (leastW a b)) ∧ w' = w := by
  have hp := @ordI_pos a b
  have HP : Hid (0 < ordI a b ↔ rank b < rank a) := hp
  clear hp
  by_cases h : ordI a b ≤ 0
  · go_enter Try.func35, Try.ntmps35
    go_wp2_with fail
    refine (rorder_walk ha hb _).mono ?_
    rintro e w' ⟨rfl, rfl⟩
    go_wp2_with fail
    refine (rcanon_walk ha _).mono ?_
    rintro e w' ⟨rfl, rfl⟩
    go_wp2_with fail
    go_ret
    exact ⟨ret_float (by unfold leastW; rw [if_pos (by have := HP.out; omega)]), rfl⟩
  · go_enter Try.func35, Try.ntmps35
    go_wp2_with fail
    refine (rorder_walk ha hb _).mono ?_
    rintro e w' ⟨rfl, rfl⟩
    go_wp2_with fail
    refine (rcanon_walk hb _).mono ?_
    rintro e w' ⟨rfl, rfl⟩
    go_wp2_with fail
    go_ret
    exact ⟨ret_float (by unfold leastW; rw [if_neg (by have := HP.out; omega)]), rfl⟩

theorem rmost_walk {a b : Nat} (ha : a < 18446744073709551616) (hb : b < 18446744073709551616) (w : World) :
    Calls Try.prog 36 #[.float .f64 a, .float .f64 b] w fun e w' => e = .returned (.float .f64 (mostW a b)) ∧ w' = w := by
  have hp := @ordI_neg a b
  have HP : Hid (ordI a b < 0 ↔ rank a < rank b) := hp
  clear hp
  by_cases h : 0 ≤ ordI a b
  · go_enter Try.func36, Try.ntmps36
    go_wp2_with fail
    refine (rorder_walk ha hb _).mono ?_
    rintro e w' ⟨rfl, rfl⟩
    go_wp2_with fail
    refine (rcanon_walk ha _).mono ?_
    rintro e w' ⟨rfl, rfl⟩
    go_wp2_with fail
    go_ret
    exact ⟨ret_float (by unfold mostW; rw [if_pos (by have := HP.out; omega)]), rfl⟩
  · go_enter Try.func36, Try.ntmps36
    go_wp2_with fail
    refine (rorder_walk ha hb _).mono ?_
    rintro e w' ⟨rfl, rfl⟩
    go_wp2_with fail
    refine (rcanon_walk hb _).mono ?_
    rintro e w' ⟨rfl, rfl⟩
    go_wp2_with fail
    go_ret
    exact ⟨ret_float (by unfold mostW; rw [if_neg (by have := HP.out; omega)]), rfl⟩

end Go.Proofs.Ytnppgeokbhecfaa
