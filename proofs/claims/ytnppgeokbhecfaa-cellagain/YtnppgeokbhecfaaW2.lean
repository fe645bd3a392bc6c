/- Contracts of Whole and Floor. -/
import Derived.Test.YtnppgeokbhecfaaW1
import Derived.Test.YtnppgeokbhecfaaFq
namespace Go.Proofs.Ytnppgeokbhecfaa
open Ieee Go.RowKit

theorem order_cases {x y : Nat} {c : Int} (hx : x < 18446744073709551616) (hy : y < 18446744073709551616) (nx : nanB x = false) (ny : nanB y = false) (hc : key y = c) :
    (FloatKind.f64.format.order x y = some .lt ∧ key x < c) ∨ (FloatKind.f64.format.order x y = some .eq ∧ key x = c) ∨ (FloatKind.f64.format.order x y = some .gt ∧ c < key x) := by
  have h : FloatKind.f64.format.order x y = some (cmpI (key x) (key y)) := order_key hx hy nx ny
  rw [h, hc]
  unfold cmpI
  by_cases c1 : key x < c
  · left; rw [if_pos c1]; exact ⟨rfl, c1⟩
  · by_cases c2 : key x = c
    · right; left; rw [if_neg c1, if_pos c2]; exact ⟨rfl, c2⟩
    · right; right; rw [if_neg c1, if_neg c2]; exact ⟨rfl, by omega⟩

/-- The whole part of a finite magnitude. -/
def wn (r : Nat) : Nat := if 1074 ≤ sh r then mag r * 2 ^ (sh r - 1074) else mag r / 2 ^ (1074 - sh r)
def wholeI (x : Nat) : Int := if nanB x then 0 else if 4890909195324358656 ≤ rung x then (if negB x then -9223372036854775808 else 9223372036854775807) else if negB x then -(wn (rung x) : Int) else wn (rung x)

theorem toInt_zero {x : Nat} (hx : x < 18446744073709551616) (h : rung x < 9218868437227405312) :
    (FloatKind.f64.decode x).toInt .zero = some (if negB x then -(wn (rung x) : Int) else wn (rung x)) := by
  unfold FloatKind.decode Datum.toInt
  rw [show FloatKind.f64.format = Ieee.double from rfl, read_num hx h]
  simp only [Datum.integral, cut_zero, signed, Nat.shiftLeft_eq, Nat.pow_zero, Nat.mul_one]
  have e : mag (rung x) * 2 ^ (-1074 + ((sh (rung x) : Nat) : Int)).toNat / 2 ^ (-(-1074 + ((sh (rung x) : Nat) : Int))).toNat = wn (rung x) := by
    unfold wn
    by_cases c : 1074 ≤ sh (rung x)
    · rw [if_pos c, show (-1074 + ((sh (rung x) : Nat) : Int)).toNat = sh (rung x) - 1074 by omega, show (-(-1074 + ((sh (rung x) : Nat) : Int))).toNat = 0 by omega, Nat.pow_zero, Nat.div_one]
    · rw [if_neg c, show (-1074 + ((sh (rung x) : Nat) : Int)).toNat = 0 by omega, show (-(-1074 + ((sh (rung x) : Nat) : Int))).toNat = 1074 - sh (rung x) by omega, Nat.pow_zero, Nat.mul_one]
  rw [e]

theorem wn_lt {r : Nat} (h : r < 4890909195324358656) : wn r < 9223372036854775808 := by
  have hm := mag_lt r
  unfold wn
  split
  · rename_i c
    have h1 : sh r ≤ 1084 := by unfold sh; omega
    have h2 : 2 ^ (sh r - 1074) ≤ 2 ^ 10 := Nat.pow_le_pow_right (by omega) (by omega)
    have h3 : mag r * 2 ^ (sh r - 1074) ≤ mag r * 2 ^ 10 := Nat.mul_le_mul_left _ h2
    omega
  · have := Nat.div_le_self (mag r) (2 ^ (1074 - sh r)); omega
theorem wn_end : wn 4890909195324358656 = 9223372036854775808 := by decide

theorem conv_val {x : Nat} (hx : x < 18446744073709551616) (h : rung x < 4890909195324358656 ∨ (rung x = 4890909195324358656 ∧ negB x = true)) :
    floatToIntVal .f64 x .i64 = some (if negB x then -(wn (rung x) : Int) else wn (rung x)) := by
  unfold floatToIntVal
  rw [toInt_zero hx (by omega)]
  simp only
  rw [if_pos]
  rw [show IntKind.i64.min = -9223372036854775808 from rfl, show IntKind.i64.max = 9223372036854775807 from rfl]
  rcases h with h | ⟨h, hn⟩
  · have := wn_lt h; split <;> omega
  · rw [h, wn_end, hn]; simp

end Go.Proofs.Ytnppgeokbhecfaa
