/- Contracts of the document's answer for Class, Canon, Order, Least and Most. -/
import Derived.Test.YtfcpooihihklaabW1
namespace Go.Proofs.Ytfcpooihihklaab
open Ieee Go.RowKit

attribute [local go_sem] run_bits run_frombits

/-- The exponent's bits and the fraction. -/
def eB (x : Nat) : Nat := rung x / 4503599627370496
def fB (x : Nat) : Nat := x % 4503599627370496

theorem eB_bits {x : Nat} (hx : x < 18446744073709551616) : bits .and .u64 ((x : Int) / 4503599627370496) 2047 = eB x := by
  have h := bits_and_u64_nat (x / 4503599627370496) 2047 (by omega) (by omega)
  rw [show (2047 : Nat) = 2 ^ 11 - 1 from rfl, Nat.and_two_pow_sub_one_eq_mod] at h
  have e : ((x / 4503599627370496 : Nat) : Int) = (x : Int) / 4503599627370496 := by omega
  rw [e] at h
  rw [show ((2 ^ 11 - 1 : Nat) : Int) = 2047 from rfl] at h
  rw [h]
  unfold eB rung
  omega
theorem fB_bits {x : Nat} (hx : x < 18446744073709551616) : bits .and .u64 (x : Int) 4503599627370495 = fB x := by
  have h := bits_and_u64_nat x 4503599627370495 hx (by omega)
  rw [show (4503599627370495 : Nat) = 2 ^ 52 - 1 from rfl, Nat.and_two_pow_sub_one_eq_mod] at h
  rw [show ((2 ^ 52 - 1 : Nat) : Int) = 4503599627370495 from rfl] at h
  rw [h]
  rfl
theorem eB_le (x : Nat) : eB x ≤ 2047 := by have := rung_lt x; unfold eB; omega

theorem rung_parts {x : Nat} : rung x = eB x * 4503599627370496 + fB x ∧ fB x < 4503599627370496 := by
  unfold eB fB rung; omega

theorem class_nan (x : Nat) : classI x = 5 ↔ nanB x = true := by
  unfold classI
  cases nanB x
  · simp only [Bool.false_eq_true, if_false, iff_false]; (repeat' split) <;> omega
  · simp
theorem class_not_nan {x : Nat} (h : nanB x = false) : ¬ classI x = 5 := fun k => by rw [(class_nan x).1 k] at h; cases h

end Go.Proofs.Ytfcpooihihklaab
