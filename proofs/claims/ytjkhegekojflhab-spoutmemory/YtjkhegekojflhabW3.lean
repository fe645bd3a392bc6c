/- The contract of Floor. -/
import Derived.Test.YtjkhegekojflhabW2
import Derived.Deep.Draws
namespace Go.Proofs.Ytjkhegekojflhab
open Ieee Go.RowKit

def floorW (x : Nat) : Nat := if nanB x then 9221120237041090561 else Ieee.double.write ((Ieee.double.read x).integral .down)

theorem toIntegral_eq (name : String) (way : Toward) (x : Nat) : Extern.MathFloor.toIntegral name way #[.float .f64 x] =
    (match Ieee.double.read x with
    | .nan s t =>
      if Ieee.double.quiet t = t then pure (.float .f64 x) else do
      let kept ← choose (.extern "math.Floor,Ceil,Trunc,RoundToEven.signallingNaN kept" 2)
      pure (.float .f64 (if kept == 1 then x else Ieee.double.write (.nan s (Ieee.double.quiet t))))
    | d => pure (.float .f64 (Ieee.double.write (d.integral way)))) := rfl

theorem archFloor_num {x : Nat} (hx : x < 18446744073709551616) (hn : nanB x = false) (w : World) :
    (callFunc 76 #[.float .f64 x]).run Try.prog w = .ok (.value (.float .f64 (floorW x))) w := by
  rw [run_callFunc_extern (e := Extern.MathFloor.toIntegral "math.archFloor" .down) Try.func76 (by kernel_rfl) (by kernel_rfl) (by kernel_rfl) (by kernel_rfl)]
  have hr := nan_f hn
  rw [toIntegral_eq]
  unfold floorW
  rw [hn]
  simp only [Bool.false_eq_true, if_false]
  by_cases h : rung x = 9218868437227405312
  · rw [read_inf hx h]; rfl
  · rw [read_num hx (by omega)]; rfl

theorem quiet_ne (t : Nat) : Ieee.double.quiet t % 4503599627370496 ≠ 0 := by
  intro h
  have h2 : (Ieee.double.quiet t % 2 ^ 52).testBit 51 = true := by
    rw [Nat.testBit_mod_two_pow]
    unfold Format.quiet
    rw [Nat.testBit_or, show Ieee.double.fractionBits - 1 = 51 from rfl, Nat.testBit_two_pow_self]
    simp
  rw [show (2 ^ 52 : Nat) = 4503599627370496 from rfl, h] at h2
  simp at h2

theorem archFloor_nan {x : Nat} (hx : x < 18446744073709551616) (hn : nanB x = true) (w : World) :
    ∃ y n, y < 18446744073709551616 ∧ nanB y = true ∧ (callFunc 76 #[.float .f64 x]).run Try.prog w = .ok (.value (.float .f64 y)) (w.drewN n) := by
  rw [run_callFunc_extern (e := Extern.MathFloor.toIntegral "math.archFloor" .down) Try.func76 (by kernel_rfl) (by kernel_rfl) (by kernel_rfl) (by kernel_rfl)]
  have hr := nan_t hn
  rw [toIntegral_eq, read_nan hx hr]
  generalize rung x - 9218868437227405312 = t
  simp only
  by_cases hq : Ieee.double.quiet t = t
  · rw [if_pos hq]
    exact ⟨x, 0, hx, hn, rfl⟩
  · rw [if_neg hq]
    have hb := quiet_ne t
    have hl : Ieee.double.quiet t % 4503599627370496 < 4503599627370496 := Nat.mod_lt _ (by omega)
    have hy : nanB (Ieee.double.write (.nan (negB x) (Ieee.double.quiet t))) = true ∧ Ieee.double.write (.nan (negB x) (Ieee.double.quiet t)) < 18446744073709551616 := by
      unfold Format.write
      simp only [ir, bn]
      refine ⟨?_, word_lt64 _ (by omega)⟩
      unfold nanB
      rw [rung_word _ (by omega)]
      simp; omega
    generalize Ieee.double.write (.nan (negB x) (Ieee.double.quiet t)) = y at hy
    simp only [Sem.run_bind, run_choose_drew]
    split
    · simp only [Result.andThen, Sem.run_pure]
      split
      · exact ⟨x, 0, hx, hn, rfl⟩
      · exact ⟨y, 0, hy.2, hy.1, rfl⟩
    · simp only [Result.andThen, Sem.run_pure]
      split
      · exact ⟨x, 1, hx, hn, rfl⟩
      · exact ⟨y, 1, hy.2, hy.1, rfl⟩

theorem floorW_nan {x : Nat} (hx : x < 18446744073709551616) (hn : nanB x = false) : nanB (floorW x) = false ∧ floorW x < 18446744073709551616 := by
  have hr := nan_f hn
  unfold floorW
  rw [hn]
  simp only [Bool.false_eq_true, if_false]
  by_cases h : rung x = 9218868437227405312
  · rw [read_inf hx h]
    simp only [Datum.integral, Format.write, ir]
    exact ⟨by unfold nanB; rw [rung_word _ (by omega)]; rfl, word_lt64 _ (by omega)⟩
  · rw [read_num hx (by omega)]
    simp only [Datum.integral, Format.write]
    exact ⟨nearest_nan _ _ _, nearest_lt64 _ _ _⟩

theorem mfloor_num {x : Nat} (hx : x < 18446744073709551616) (hn : nanB x = false) (w : World) :
    Calls Try.prog 74 #[.float .f64 x] w fun e w' => e = .returned (.float .f64 (floorW x)) ∧ w' = w := by
  have h := archFloor_num hx hn
  go_enter Try.func74, Try.ntmps74
  go_wp2_with fail
  go_ret
  exact ⟨rfl, rfl⟩

set_option maxRecDepth 8000 in
theorem mfloor_nan {x : Nat} (hx : x < 18446744073709551616) (hn : nanB x = true) (w : World) :
    Calls Try.prog 74 #[.float .f64 x] w fun e w' => ∃ y n, e = .returned (.float .f64 y) ∧ y < 18446744073709551616 ∧ nanB y = true ∧ w' = w.drewN n := by
  obtain ⟨y, n, hy, hny, h⟩ := archFloor_nan hx hn w
  go_enter Try.func74, Try.ntmps74
  go_wp2_with fail
  go_ret
  exact ⟨y, n, rfl, hy, hny, rfl⟩

theorem floor_walk {x : Nat} (hx : x < 18446744073709551616) (w : World) :
    Calls Try.prog 68 #[.float .f64 x] w fun e w' => e = .returned (.float .f64 (floorW x)) ∧ ∃ n, w' = w.drewN n := by
  cases hn : nanB x
  · have hf := floorW_nan hx hn
    go_enter Try.func68, Try.ntmps68
    go_wp2_with fail
    refine (mfloor_num hx hn _).mono ?_
    rintro e w' ⟨rfl, rfl⟩
    go_wp2_with fail
    refine (canon_walk hf.2 _).mono ?_
    rintro e w' ⟨rfl, rfl⟩
    go_wp2_with fail
    go_ret
    exact ⟨ret_float (by unfold canonW; rw [hf.1]; rfl), 0, rfl⟩
  · go_enter Try.func68, Try.ntmps68
    go_wp2_with fail
    refine (mfloor_nan hx hn _).mono ?_
    rintro e w' ⟨y, n, rfl, hy, hny, rfl⟩
    go_wp2_with fail
    refine (canon_walk hy _).mono ?_
    rintro e w' ⟨rfl, rfl⟩
    go_wp2_with fail
    go_ret
    exact ⟨ret_float (by unfold canonW floorW; rw [hny, hn]; rfl), n, rfl⟩

end Go.Proofs.Ytjkhegekojflhab
