/- The contract of Floor. -/
import Derived.Test.YtnppgeokbhecfaaW2
import Derived.Deep.Draws
namespace Go.Proofs.Ytnppgeokbhecfaa
open Ieee Go.RowKit

def floorW (x : Nat) : Nat := if nanB x then 9221120237041090561 else Ieee.double.write ((Ieee.double.read x).integral .down)

theorem toIntegral_eq (name : String) (way : Toward) (x : Nat) : Extern.MathFloor.toIntegral name way #[.float .f64 x] =
    (match Ieee.double.read x with
    | .nan s t =>
      if Ieee.double.quiet t = t then pure (.float .f64 x) else do
      let kept ← choose (.extern "math.Floor,Ceil,Trunc,RoundToEven.signallingNaN kept" 2)
      pure (.float .f64 (if kept == 1 then x else Ieee.double.write (.nan s (Ieee.double.quiet t))))
    | d => pure (.float .f64 (Ieee.double.write (d.integral way)))) := rfl

theorem quiet_ne (t : Nat) : Ieee.double.quiet t % 4503599627370496 ≠ 0 := by
  intro h
  have h2 : (Ieee.double.quiet t % 2 ^ 52).testBit 51 = true := by
    rw [Nat.testBit_mod_two_pow]
    unfold Format.quiet
    rw [Nat.testBit_or, show Ieee.double.fractionBits - 1 = 51 from rfl, Nat.testBit_two_pow_self]
    simp
  rw [show (2 ^ 52 : Nat) = 4503599627370496 from rfl, h] at h2
  simp at h2

theorem floorW_nan {x : Nat} (hx : x < 18446744073709551616) (hn : nanB x = false) : nanB (floorW x) = false ∧ floorW x < 18446744073709551616 := by
  have hr := nan_f hn
  unfold floorW
  rw [hn]
  simp only [Bool.false_eq_true, if_false]
  by_cases h : rung x = 9218868437227405312
  · rw [read_inf hx h]
    simp only [Datum.integral, Format.write, ir]
    exact ⟨by unfold nanB; rw [rung_word _ (by omega)]; rfl, word_lt64 _ (by omega)⟩
  · rw [read_num hx (by omega)]
    simp only [Datum.integral, Format.write]
    exact ⟨nearest_nan _ _ _, nearest_lt64 _ _ _⟩

end Go.Proofs.Ytnppgeokbhecfaa
