/- Contracts of the document's answer for Whole and Floor. -/
import Derived.Test.YtombjgfajbhbbaaGreatB02
set_option maxRecDepth 100000
set_option maxHeartbeats 16000000
namespace Go.Proofs.YtombjgfajbhbbaaGreat
open Go.RowKit
section
open Ieee

def nM (r : Nat) : Nat := if r < 4503599627370496 then r * 2 ^ (52 - r.log2) else mag r
def nE (r : Nat) : Int := if r < 4503599627370496 then (r.log2 : Int) - 51 else ((r / 4503599627370496 : Nat) : Int)
def scaleW (s : Bool) (M : Nat) (e : Int) : Nat :=
 if 2047 ≤ e then Ieee.double.word s 9218868437227405312 else if 1 ≤ e then Ieee.double.word s ((e - 1).toNat * 4503599627370496 + M) else Ieee.double.word s (rhe M (1 - e).toNat)
def scaleR (x : Nat) (n : Int) : Nat :=
 if nanB x then 9221120237041090561 else if rung x = 9218868437227405312 ∨ rung x = 0 then x else scaleW (negB x) (nM (rung x)) (nE (rung x) + n)
theorem log2_sub {r : Nat} (h0 : r ≠ 0) (h : r < 4503599627370496) : r.log2 < 52 := by rw [Nat.log2_lt h0]; exact h
theorem nM_ge {r : Nat} (h0 : r ≠ 0) : 4503599627370496 ≤ nM r := by
 unfold nM; split
 ·rename_i h
  have h1 := Nat.log2_self_le h0;have h2 := log2_sub h0 h;have h3 : 2 ^ r.log2 * 2 ^ (52 - r.log2) ≤ r * 2 ^ (52 - r.log2) := Nat.mul_le_mul_right _ h1;rw [← Nat.pow_add, show r.log2 + (52 - r.log2) = 52 by omega] at h3;exact h3
 ·unfold mag; split <;> omega
theorem nM_lt {r : Nat} (h0 : r ≠ 0) : nM r < 9007199254740992 := by
 unfold nM; split
 ·rename_i h
  have h1 := @Nat.lt_log2_self r;have h2 := log2_sub h0 h;have h3 : r * 2 ^ (52 - r.log2) < 2 ^ (r.log2 + 1) * 2 ^ (52 - r.log2) := Nat.mul_lt_mul_of_pos_right h1 (Nat.two_pow_pos _);rw [← Nat.pow_add, show r.log2 + 1 + (52 - r.log2) = 53 by omega] at h3;exact h3
 ·exact mag_lt r
theorem nE_range {r : Nat} (h0 : r ≠ 0) (h : r < 9218868437227405312) : -51 ≤ nE r ∧ nE r ≤ 2046 := by
 unfold nE; split
 ·rename_i h
  have h2 := log2_sub h0 h; omega
 ·omega
theorem log2_norm {M : Nat} (h1 : 4503599627370496 ≤ M) (h2 : M < 9007199254740992) : M.log2 = 52 := by
 have hne : M ≠ 0 := by omega
 apply Nat.le_antisymm
 ·have : M.log2 < 53 := by rw [Nat.log2_lt hne]; exact h2
  omega
 ·rw [Nat.le_log2 hne]; exact h1
theorem rhe_le (M d : Nat) : rhe M d ≤ M / 2 ^ d + 1 := by unfold rhe; split <;> omega
theorem rhe_small {M d : Nat} (h : 2 * M < 2 ^ d) : rhe M d = 0 := by
 unfold rhe;rw [Nat.div_eq_of_lt (by omega), Nat.mod_eq_of_lt (by omega), if_neg (by omega)]
theorem mag_of {M E : Nat} (h1 : 4503599627370496 ≤ M) (h2 : M < 9007199254740992) (hE : 1 ≤ E) : mag (E * 4503599627370496 + (M - 4503599627370496)) = M ∧ sh (E * 4503599627370496 + (M - 4503599627370496)) = E - 1 := by
 unfold mag sh;constructor
 ·rw [if_neg (by omega)]; omega
 ·omega
theorem nearest_norm (s : Bool) {M E : Nat} (h1 : 4503599627370496 ≤ M) (h2 : M < 9007199254740992) (hE : 1 ≤ E) (hE2 : E ≤ 2046) :
  Ieee.double.nearest s M ((E : Int) - 1075) = Ieee.double.word s (E * 4503599627370496 + (M - 4503599627370496)) := by
 have h := nearest_rung s (r := E * 4503599627370496 + (M - 4503599627370496)) (by omega);obtain ⟨e1, e2⟩ := mag_of h1 h2 hE;rw [e1, e2] at h;rw [← h, show (E : Int) - 1075 = -1074 + ((E - 1 : Nat) : Int) by omega]
theorem nearest_sub (s : Bool) {M : Nat} {e : Int} (h1 : 4503599627370496 ≤ M) (h2 : M < 9007199254740992) (he : e ≤ 0) :
  Ieee.double.nearest s M (e - 1075) = Ieee.double.word s (rhe M (1 - e).toNat) := by
 rw [nearest_eq s (by omega)];have e4 : lastP M (e - 1075) = -1074 := by unfold lastP; rw [log2_norm h1 h2]; omega
 rw [e4, show ((-1074 : Int) + 1074).toNat = 0 from rfl, show (e - 1075 - -1074).toNat = 0 by omega, show (-1074 - (e - 1075)).toNat = (1 - e).toNat by omega, Nat.pow_zero, Nat.mul_one, Nat.zero_mul, Nat.zero_add];have := rhe_le M (1 - e).toNat;have := Nat.div_le_self M (2 ^ (1 - e).toNat);rw [Nat.min_eq_left (by omega)]
theorem word_add (s : Bool) (r : Nat) : Ieee.double.word s r = (if s then 9223372036854775808 else 0) + r := by
 unfold Format.word; rw [sw]; cases s <;> simp
theorem read_word (s : Bool) {r : Nat} (h : r < 9218868437227405312) : Ieee.double.read (Ieee.double.word s r) = .number s (mag r) (-1074 + (sh r : Nat)) := by
 have h1 := rung_word s (r := r) (by omega);rw [read_num (word_lt64 s (by omega)) (by omega), h1, neg_word s (by omega)]
theorem mul_word (s : Bool) {r m : Nat} {p : Int} (hr : r < 9218868437227405312) (hm : Ieee.double.read m = .number false 4503599627370496 p) :
  Ieee.double.mul m (Ieee.double.word s r) = some (Ieee.double.nearest s (mag r) (-1074 + (sh r : Nat) + p + 52)) := by
 unfold Format.mul;rw [read_word s hr, hm];simp only [Datum.product, Option.map_some, Format.write, Bool.false_bne];congr 1;have := nearest_scale s (mag r) (-1074 + (sh r : Nat) + p + 52) 52;rw [← this, Nat.mul_comm, show (2 ^ 52 : Nat) = 4503599627370496 from rfl];congr 1;omega
theorem mul_word' (s : Bool) {r m : Nat} {p : Int} (hr : r < 9218868437227405312) (hm : Ieee.double.read m = .number false 4503599627370496 p) :
  Ieee.double.mul (Ieee.double.word s r) m = some (Ieee.double.nearest s (mag r) (-1074 + (sh r : Nat) + p + 52)) := by
 rw [← mul_word s hr hm];unfold Format.mul;rw [read_word s hr, hm];simp only [Datum.product];rw [Nat.mul_comm, Int.add_comm, Bool.xor_comm]
def nR (r : Nat) : Nat := if r < 4503599627370496 then (r.log2 + 1) * 4503599627370496 + (nM r - 4503599627370496) else r
theorem nR_mag {r : Nat} (h0 : r ≠ 0) : mag (nR r) = nM r := by
 unfold nR; split
 ·exact (mag_of (nM_ge h0) (nM_lt h0) (by omega)).1
 ·unfold nM; rw [if_neg (by assumption)]
def nD (r : Nat) : Int := if r < 4503599627370496 then -52 else 0
theorem nR_exp {r : Nat} (h0 : r ≠ 0) : ((nR r / 4503599627370496 : Nat) : Int) + nD r = nE r := by
 have h1 := nM_ge h0; have h2 := nM_lt h0;unfold nR nE nD; split
 ·have : ((r.log2 + 1) * 4503599627370496 + (nM r - 4503599627370496)) / 4503599627370496 = r.log2 + 1 := by omega
  rw [this]; omega
 ·omega
theorem nR_range {r : Nat} (h0 : r ≠ 0) (h : r < 9218868437227405312) : 4503599627370496 ≤ nR r ∧ nR r < 9218868437227405312 := by
 have h1 := nM_ge h0; have h2 := nM_lt h0;unfold nR; split
 ·rename_i h; have := log2_sub h0 h; omega
 ·omega
theorem read52 : Ieee.double.read 4841369599423283200 = .number false 4503599627370496 0 := by decide
theorem read1 : Ieee.double.read 4607182418800017408 = .number false 4503599627370496 (-52) := by decide
theorem readm53 : Ieee.double.read 4368491638549381120 = .number false 4503599627370496 (-105) := by decide
theorem mul_sub (s : Bool) {r : Nat} (h0 : r ≠ 0) (h : r < 4503599627370496) :
  Ieee.double.mul (Ieee.double.word s r) 4841369599423283200 = some (Ieee.double.word s (nR r)) := by
 rw [mul_word' s (by omega) read52];have e1 : mag r = r := by unfold mag; rw [if_pos h]
 have e2 : sh r = 0 := by unfold sh; omega
 have hl := log2_sub h0 h;have h1 := nM_ge h0; have h2 := nM_lt h0;rw [e1, e2];congr 1;have e3 : nR r = (r.log2 + 1) * 4503599627370496 + (nM r - 4503599627370496) := by unfold nR; rw [if_pos h]
 rw [e3, ← nearest_norm s h1 h2 (by omega) (by omega)];have e4 : nM r = r * 2 ^ (52 - r.log2) := by unfold nM; rw [if_pos h]
 rw [e4, ← nearest_scale s r (-1074 + ((0 : Nat) : Int) + 0 + 52) (52 - r.log2)];congr 1;omega
end
section
open Ieee Go.RowKit

def floorW (x : Nat) : Nat := if nanB x then 9221120237041090561 else Ieee.double.write ((Ieee.double.read x).integral .down)
theorem toIntegral_eq (name : String) (way : Toward) (x : Nat) : Extern.MathFloor.toIntegral name way #[.float .f64 x] =
  (match Ieee.double.read x with
  | .nan s t =>
   if Ieee.double.quiet t = t then pure (.float .f64 x) else do
   let kept ← choose (.extern "math.Floor,Ceil,Trunc,RoundToEven.signallingNaN kept" 2)
   pure (.float .f64 (if kept == 1 then x else Ieee.double.write (.nan s (Ieee.double.quiet t))))
  | d => pure (.float .f64 (Ieee.double.write (d.integral way)))) := rfl
theorem archFloor_num {x : Nat} (hx : x < 18446744073709551616) (hn : nanB x = false) (w : World) :
  (callFunc 198 #[.float .f64 x]).run Tryz.prog w = .ok (.value (.float .f64 (floorW x))) w := by
 rw [run_callFunc_extern (e := Extern.MathFloor.toIntegral "math.archFloor" .down) Tryz.func198 (by kernel_rfl) (by kernel_rfl) (by kernel_rfl) (by kernel_rfl)];have hr := nan_f hn;rw [toIntegral_eq];unfold floorW;rw [hn];simp only [Bool.false_eq_true, if_false];by_cases h : rung x = 9218868437227405312
 ·rw [read_inf hx h]; rfl
 ·rw [read_num hx (by omega)]; rfl
theorem quiet_ne (t : Nat) : Ieee.double.quiet t % 4503599627370496 ≠ 0 := by
 intro h
 have h2 : (Ieee.double.quiet t % 2 ^ 52).testBit 51 = true := by
  rw [Nat.testBit_mod_two_pow];unfold Format.quiet;rw [Nat.testBit_or, show Ieee.double.fractionBits - 1 = 51 from rfl, Nat.testBit_two_pow_self];simp
 rw [show (2 ^ 52 : Nat) = 4503599627370496 from rfl, h] at h2;simp at h2
theorem archFloor_nan {x : Nat} (hx : x < 18446744073709551616) (hn : nanB x = true) (w : World) :
  ∃ y n, y < 18446744073709551616 ∧ nanB y = true ∧ (callFunc 198 #[.float .f64 x]).run Tryz.prog w = .ok (.value (.float .f64 y)) (w.drewN n) := by
 rw [run_callFunc_extern (e := Extern.MathFloor.toIntegral "math.archFloor" .down) Tryz.func198 (by kernel_rfl) (by kernel_rfl) (by kernel_rfl) (by kernel_rfl)];have hr := nan_t hn;rw [toIntegral_eq, read_nan hx hr];generalize rung x - 9218868437227405312 = t;simp only;by_cases hq : Ieee.double.quiet t = t
 ·rw [if_pos hq];exact ⟨x, 0, hx, hn, rfl⟩
 ·rw [if_neg hq];have hb := quiet_ne t;have hl : Ieee.double.quiet t % 4503599627370496 < 4503599627370496 := Nat.mod_lt _ (by omega)
  have hy : nanB (Ieee.double.write (.nan (negB x) (Ieee.double.quiet t))) = true ∧ Ieee.double.write (.nan (negB x) (Ieee.double.quiet t)) < 18446744073709551616 := by
   unfold Format.write;simp only [ir, bn];refine ⟨?_, word_lt64 _ (by omega)⟩;unfold nanB;rw [rung_word _ (by omega)];simp; omega
  generalize Ieee.double.write (.nan (negB x) (Ieee.double.quiet t)) = y at hy;simp only [Sem.run_bind, run_choose_drew]
  split
  ·simp only [Result.andThen, Sem.run_pure]
   split
   ·exact ⟨x, 0, hx, hn, rfl⟩
   ·exact ⟨y, 0, hy.2, hy.1, rfl⟩
  ·simp only [Result.andThen, Sem.run_pure]
   split
   ·exact ⟨x, 1, hx, hn, rfl⟩
   ·exact ⟨y, 1, hy.2, hy.1, rfl⟩
theorem floorW_nan {x : Nat} (hx : x < 18446744073709551616) (hn : nanB x = false) : nanB (floorW x) = false ∧ floorW x < 18446744073709551616 := by
 have hr := nan_f hn;unfold floorW;rw [hn];simp only [Bool.false_eq_true, if_false];by_cases h : rung x = 9218868437227405312
 ·rw [read_inf hx h];simp only [Datum.integral, Format.write, ir];exact ⟨by unfold nanB; rw [rung_word _ (by omega)]; rfl, word_lt64 _ (by omega)⟩
 ·rw [read_num hx (by omega)];simp only [Datum.integral, Format.write];exact ⟨nearest_nan _ _ _, nearest_lt64 _ _ _⟩
theorem mfloor_num {x : Nat} (hx : x < 18446744073709551616) (hn : nanB x = false) (w : World) :
  Calls Tryz.prog 185 #[.float .f64 x] w fun e w' => e = .returned (.float .f64 (floorW x)) ∧ w' = w := by
 have h := archFloor_num hx hn;go_in;go_wp2_with fail;go_ret;exact ⟨rfl, rfl⟩
theorem mfloor_nan {x : Nat} (hx : x < 18446744073709551616) (hn : nanB x = true) (w : World) :
  Calls Tryz.prog 185 #[.float .f64 x] w fun e w' => ∃ y n, e = .returned (.float .f64 y) ∧ y < 18446744073709551616 ∧ nanB y = true ∧ w' = w.drewN n := by
 obtain ⟨y, n, hy, hny, h⟩ := archFloor_nan hx hn w;go_in;go_wp2_with fail;go_ret;exact ⟨y, n, rfl, hy, hny, rfl⟩
theorem floor_walk {x : Nat} (hx : x < 18446744073709551616) (w : World) :
  Calls Tryz.prog 168 #[.float .f64 x] w fun e w' => e = .returned (.float .f64 (floorW x)) ∧ ∃ n, w' = w.drewN n := by
 cases hn : nanB x
 ·have hf := floorW_nan hx hn;go_in;go_wp2_with fail;refine (mfloor_num hx hn _).mono ?_;rintro e w' ⟨rfl, rfl⟩;go_wp2_with fail;refine (canon_walk hf.2 _).mono ?_;rintro e w' ⟨rfl, rfl⟩;go_wp2_with fail;go_ret;exact ⟨ret_float (by unfold canonW; rw [hf.1]; rfl), 0, rfl⟩
 ·go_in;go_wp2_with fail;refine (mfloor_nan hx hn _).mono ?_;rintro e w' ⟨y, n, rfl, hy, hny, rfl⟩;go_wp2_with fail;refine (canon_walk hy _).mono ?_;rintro e w' ⟨rfl, rfl⟩;go_wp2_with fail;go_ret;exact ⟨ret_float (by unfold canonW floorW; rw [hny, hn]; rfl), n, rfl⟩
end
section
open Ieee

def ofW (n : Int) : Nat := Ieee.double.nearest (decide (n < 0)) n.natAbs 0
def pw (n : Nat) : Nat := 2 ^ n
theorem pw_add {n c : Nat} (h : c ≤ n) : pw n = 2 ^ (n - c) * 2 ^ c := by unfold pw; rw [← Nat.pow_add, Nat.sub_add_cancel h]
theorem pw_sub {n c : Nat} (h : n ≤ c) : 2 ^ c = 2 ^ (c - n) * pw n := by unfold pw; rw [← Nat.pow_add, Nat.sub_add_cancel h]
theorem pw_pos (n : Nat) : 0 < pw n := Nat.two_pow_pos _
def UU : Nat := pw 1074
theorem UU_pos : 0 < UU := pw_pos _
theorem UU_low {c : Nat} (h : c ≤ 1074) : UU = 2 ^ (1074 - c) * 2 ^ c := pw_add h
theorem UU_high {c : Nat} (h : 1074 ≤ c) : 2 ^ c = 2 ^ (c - 1074) * UU := pw_sub h
theorem int_word (s : Bool) {M : Nat} (h0 : M ≠ 0) (h : M ≤ 9007199254740992) :
  ∃ r, Ieee.double.nearest s M 0 = Ieee.double.word s r ∧ 4607182418800017408 ≤ r ∧ r ≤ 4845873199050653696 ∧ V r = M * UU := by
 by_cases h1 : M = 9007199254740992
 ·refine ⟨4845873199050653696, ?_, by omega, by omega, ?_⟩
  ·have e1 := nearest_scale s 4503599627370496 1 1;have e2 := nearest_norm s (M := 4503599627370496) (E := 1076) (by omega) (by omega) (by omega) (by omega);rw [show (4503599627370496 * 2 ^ 1 : Nat) = 9007199254740992 from rfl, show (1 : Int) - ((1 : Nat) : Int) = 0 from rfl] at e1;rw [h1, e1];exact e2
  ·rw [h1];unfold V;have hu := UU_high (c := 1075) (by omega);rw [show mag 4845873199050653696 = 4503599627370496 by decide, show sh 4845873199050653696 = 1075 by decide, hu, show (1075 - 1074 : Nat) = 1 from rfl, Nat.pow_one];omega
 ·have hk : M.log2 ≤ 52 := by
   have : M.log2 < 53 := by rw [Nat.log2_lt h0]; omega
   omega
  have l1 := Nat.log2_self_le h0;have l2 := @Nat.lt_log2_self M
  have m1 : 4503599627370496 ≤ M * 2 ^ (52 - M.log2) := by
   have := Nat.mul_le_mul_right (2 ^ (52 - M.log2)) l1;rw [← Nat.pow_add, show M.log2 + (52 - M.log2) = 52 by omega] at this;exact this
  have m2 : M * 2 ^ (52 - M.log2) < 9007199254740992 := by
   have := Nat.mul_lt_mul_of_pos_right l2 (Nat.two_pow_pos (52 - M.log2));rw [← Nat.pow_add, show M.log2 + 1 + (52 - M.log2) = 53 by omega] at this;exact this
  have e2 := nearest_norm s (E := M.log2 + 1023) m1 m2 (by omega) (by omega);have e1 := nearest_scale s M 0 (52 - M.log2);rw [show (0 : Int) - ((52 - M.log2 : Nat) : Int) = ((M.log2 + 1023 : Nat) : Int) - 1075 by omega] at e1;obtain ⟨g1, g2⟩ := mag_of (E := M.log2 + 1023) m1 m2 (by omega);refine ⟨_, e1.symm.trans e2, by omega, by omega, ?_⟩;unfold V;have hu := UU_low (c := M.log2 + 1023 - 1) (by omega);rw [show 1074 - (M.log2 + 1023 - 1) = 52 - M.log2 by omega] at hu;rw [g1, g2, Nat.mul_assoc, ← hu]
theorem wn_V (r : Nat) : wn r = V r / UU := by
 unfold wn V
 split
 ·rename_i c
  rw [UU_high c, ← Nat.mul_assoc, Nat.mul_div_cancel _ UU_pos]
 ·rename_i c
  rw [UU_low (c := sh r) (by omega), Nat.mul_div_mul_right _ _ (Nat.two_pow_pos _)]
def fk (s : Bool) (r : Nat) : Nat := wn r + (if s = true ∧ V r % UU ≠ 0 then 1 else 0)
theorem floor_fk {x : Nat} (hx : x < 18446744073709551616) (h : rung x < 9218868437227405312) :
  floorW x = Ieee.double.nearest (negB x) (fk (negB x) (rung x)) 0 := by
 have hn : nanB x = false := by unfold nanB; simp; omega
 unfold floorW;rw [hn, read_num hx h];simp only [Bool.false_eq_true, if_false, Datum.integral, Format.write, cut_down, Nat.shiftLeft_eq];congr 1;unfold fk wn V;by_cases c : 1074 ≤ sh (rung x)
 ·rw [if_pos c, show (-1074 + ((sh (rung x) : Nat) : Int)).toNat = sh (rung x) - 1074 by omega, show (-(-1074 + ((sh (rung x) : Nat) : Int))).toNat = 0 by omega, Nat.pow_zero, Nat.div_one, Nat.mod_one];congr 1;rw [UU_high (by assumption), ← Nat.mul_assoc, Nat.mul_mod_left]
 ·rw [if_neg c, show (-1074 + ((sh (rung x) : Nat) : Int)).toNat = 0 by omega, show (-(-1074 + ((sh (rung x) : Nat) : Int))).toNat = 1074 - sh (rung x) by omega, Nat.pow_zero, Nat.mul_one];congr 1
  have e : (mag (rung x) * 2 ^ sh (rung x) % UU ≠ 0) ↔ (mag (rung x) % 2 ^ (1074 - sh (rung x)) ≠ 0) := by
   rw [UU_low (c := sh (rung x)) (by omega), Nat.mul_mod_mul_right];have := Nat.two_pow_pos (sh (rung x));constructor
   ·intro h k; apply h; rw [k, Nat.zero_mul]
   ·intro h k;rcases Nat.mul_eq_zero.1 k with k | k
    ·exact h k
    ·omega
  simp only [e]
theorem floor_big {x : Nat} (hx : x < 18446744073709551616) (h : rung x < 9218868437227405312) (hb : 4841369599423283200 ≤ rung x) : floorW x = x := by
 rw [floor_fk hx h];have hs : 1074 ≤ sh (rung x) := by unfold sh; omega
 have e1 : V (rung x) % UU = 0 := by
  unfold V;rw [UU_high (by assumption), ← Nat.mul_assoc, Nat.mul_mod_left]
 have e2 : fk (negB x) (rung x) = mag (rung x) * 2 ^ (sh (rung x) - 1074) := by
  unfold fk; rw [e1]; simp only [ne_eq, not_true_eq_false, and_false, if_false, Nat.add_zero];unfold wn; rw [if_pos hs]
 rw [e2];have e3 := nearest_scale (negB x) (mag (rung x)) (-1074 + (sh (rung x) : Nat)) (sh (rung x) - 1074);rw [show (-1074 : Int) + (sh (rung x) : Nat) - ((sh (rung x) - 1074 : Nat) : Int) = 0 by omega] at e3;rw [e3, nearest_rung _ (by omega), word_self hx]
theorem wn_small {r : Nat} (h : r < 4841369599423283200) : wn r < 4503599627370496 := by
 have hm := mag_lt r;have hs : sh r ≤ 1073 := by unfold sh; omega
 unfold wn;rw [if_neg (by omega)];have : 2 ^ 1 ≤ 2 ^ (1074 - sh r) := Nat.pow_le_pow_right (by omega) (by omega);exact Nat.div_lt_of_lt_mul (by have := Nat.mul_le_mul_right 4503599627370496 this; omega)
theorem fk_small (s : Bool) {r : Nat} (h : r < 4841369599423283200) : fk s r ≤ 4503599627370496 := by
 have := wn_small h;unfold fk; split <;> omega
def rI (M : Nat) : Nat := rung (Ieee.double.nearest false M 0)
theorem nearest_rI (s : Bool) (M : Nat) : Ieee.double.nearest s M 0 = Ieee.double.word s (rI M) := by
 unfold rI;by_cases hM : M = 0
 ·subst hM; rw [nearest_zero, nearest_zero, rung_word false (by omega)]
 ·rw [nearest_eq s hM, nearest_eq false hM, rung_word false (by omega)]
theorem rI_le (M : Nat) : rI M ≤ 9218868437227405312 := by
 have := nan_f (nearest_nan false M 0); exact this
theorem rI_zero : rI 0 = 0 := by unfold rI; rw [nearest_zero]; exact rung_word false (by omega)
theorem of_lt (n : Int) : ofW n < 18446744073709551616 := nearest_lt64 _ _ _
theorem of_nan (n : Int) : nanB (ofW n) = false := nearest_nan _ _ _
theorem of_neg (n : Int) : negB (ofW n) = decide (n < 0) := nearest_neg _ _ _
theorem of_rung (n : Int) : rung (ofW n) = rI n.natAbs := by
 unfold ofW; rw [nearest_rI, rung_word _ (by have := rI_le n.natAbs; omega)]
theorem of_key (n : Int) : key (ofW n) = if n < 0 then -(rI n.natAbs : Int) else rI n.natAbs := by
 unfold key; rw [of_neg, of_rung]; simp only [decide_eq_true_eq]
end
section
open Ieee Go.RowKit

theorem mag_parts {x : Nat} (h : 1 ≤ eB x) : mag (rung x) = fB x + 4503599627370496 ∧ sh (rung x) = eB x - 1 := by
 obtain ⟨hp, hf⟩ := @rung_parts x;unfold mag sh;rw [hp];constructor
 ·rw [if_neg (by omega)]; omega
 ·omega
theorem whole_low {x : Nat} (hn : nanB x = false) (h : eB x < 1023) : wholeI x = 0 := by
 obtain ⟨hp, hf⟩ := @rung_parts x
 have hw : wn (rung x) = 0 := by
  have hs : sh (rung x) ≤ 1021 := by unfold sh; omega
  have hm := mag_lt (rung x);unfold wn;rw [if_neg (by omega)];apply Nat.div_eq_of_lt;have : 2 ^ 53 ≤ 2 ^ (1074 - sh (rung x)) := Nat.pow_le_pow_right (by omega) (by omega);omega
 unfold wholeI;rw [hn, hw, if_neg (by simp), if_neg (by omega)]
 split <;> rfl
theorem whole_mid {x : Nat} (l1 : 1075 ≤ eB x) (l2 : eB x ≤ 1085) : IntKind.u64.wrap (((fB x : Int) + 4503599627370496) * 2 ^ (eB x - 1075)) = (wn (rung x) : Int) ∧ wn (rung x) < 9223372036854775808 := by
 obtain ⟨hm, hsh⟩ := mag_parts (x := x) (by omega);obtain ⟨hp, hf⟩ := @rung_parts x;have hl := wn_lt (r := rung x) (by omega)
 have hw : wn (rung x) = (fB x + 4503599627370496) * 2 ^ (eB x - 1075) := by
  unfold wn; rw [hm, hsh, if_pos (by omega), show eB x - 1 - 1074 = eB x - 1075 by omega]
 refine ⟨?_, hl⟩
 have e : (((fB x + 4503599627370496) * 2 ^ (eB x - 1075) : Nat) : Int) = ((fB x : Int) + 4503599627370496) * 2 ^ (eB x - 1075) := by
  rw [Int.natCast_mul, Int.natCast_add, Int.natCast_pow]; rfl
 rw [← e, ← hw, IntKind.wrap_u64];omega
theorem whole_lo {x : Nat} (l1 : 1023 ≤ eB x) (l2 : eB x ≤ 1074) : ((fB x : Int) + 4503599627370496) / 2 ^ (1075 - eB x) = (wn (rung x) : Int) ∧ wn (rung x) < 9223372036854775808 := by
 obtain ⟨hm, hsh⟩ := mag_parts (x := x) (by omega);obtain ⟨hp, hf⟩ := @rung_parts x;have hl := wn_lt (r := rung x) (by omega)
 have hw : wn (rung x) = (fB x + 4503599627370496) / 2 ^ (1075 - eB x) := by
  unfold wn; rw [hm, hsh, if_neg (by omega), show 1074 - (eB x - 1) = 1075 - eB x by omega]
 refine ⟨?_, hl⟩
 have e : (((fB x + 4503599627370496) / 2 ^ (1075 - eB x) : Nat) : Int) = ((fB x : Int) + 4503599627370496) / 2 ^ (1075 - eB x) := by
  rw [Int.natCast_ediv, Int.natCast_add, Int.natCast_pow]; rfl
 rw [← e, ← hw]
theorem rw_hi_f {x : Nat} (hx : x < 18446744073709551616) (w : World) (hc : (classI x == 5) = false) (g1 : decide ((eB x : Int) < 1023) = false) (c2 : 1086 ≤ (eB x : Int)) (hs : decide (9223372036854775808 ≤ (x : Int)) = false) :
  Calls Tryz.prog 127 #[.float .f64 x] w fun e w' => e = .returned (.int .i64 (9223372036854775807)) ∧ w' = w := by
 go_in;go_wp2_with fail;refine (parts_walk hx _).mono ?_;rintro e w' ⟨rfl, rfl⟩;go_wp2_with fail;refine (bits_walk x _).mono ?_;rintro e w' ⟨rfl, rfl⟩;go_wp2_with fail;refine (rclass_walk hx _).mono ?_;rintro e w' ⟨rfl, rfl⟩;go_wp2_with fail;go_ret;exact ⟨rfl, rfl⟩
theorem rw_hi_t {x : Nat} (hx : x < 18446744073709551616) (w : World) (hc : (classI x == 5) = false) (g1 : decide ((eB x : Int) < 1023) = false) (c2 : 1086 ≤ (eB x : Int)) (hs : 9223372036854775808 ≤ (x : Int)) :
  Calls Tryz.prog 127 #[.float .f64 x] w fun e w' => e = .returned (.int .i64 (-9223372036854775808)) ∧ w' = w := by
 go_in;go_wp2_with fail;refine (parts_walk hx _).mono ?_;rintro e w' ⟨rfl, rfl⟩;go_wp2_with fail;refine (bits_walk x _).mono ?_;rintro e w' ⟨rfl, rfl⟩;go_wp2_with fail;refine (rclass_walk hx _).mono ?_;rintro e w' ⟨rfl, rfl⟩;go_wp2_with fail;go_ret;exact ⟨rfl, rfl⟩
theorem rw_mid_f {x : Nat} (hx : x < 18446744073709551616) (w : World) (hc : (classI x == 5) = false) (g1 : decide ((eB x : Int) < 1023) = false) (hf : fB x < 4503599627370496) (c2 : decide (1086 ≤ (eB x : Int)) = false) (c3 : decide (1075 ≤ (eB x : Int)) = true) (l1 : 1075 ≤ eB x) (l2 : eB x ≤ 1085) (hs : decide (9223372036854775808 ≤ (x : Int)) = false) :
  Calls Tryz.prog 127 #[.float .f64 x] w fun e w' => e = .returned (.int .i64 (wn (rung x))) ∧ w' = w := by
 go_in;go_wp2_with fail;refine (parts_walk hx _).mono ?_;rintro e w' ⟨rfl, rfl⟩;go_wp2_with fail;refine (bits_walk x _).mono ?_;rintro e w' ⟨rfl, rfl⟩;go_wp2_with fail;refine (rclass_walk hx _).mono ?_;rintro e w' ⟨rfl, rfl⟩;go_wp2_with fail;go_ret;exact ⟨ret_int (by obtain ⟨e, k⟩ := whole_mid l1 l2; rw [e]; unfold wrap64; omega), rfl⟩
theorem rw_mid_t {x : Nat} (hx : x < 18446744073709551616) (w : World) (hc : (classI x == 5) = false) (g1 : decide ((eB x : Int) < 1023) = false) (hf : fB x < 4503599627370496) (c2 : decide (1086 ≤ (eB x : Int)) = false) (c3 : decide (1075 ≤ (eB x : Int)) = true) (l1 : 1075 ≤ eB x) (l2 : eB x ≤ 1085) (hs : 9223372036854775808 ≤ (x : Int)) :
  Calls Tryz.prog 127 #[.float .f64 x] w fun e w' => e = .returned (.int .i64 (-(wn (rung x) : Int))) ∧ w' = w := by
 go_in;go_wp2_with fail;refine (parts_walk hx _).mono ?_;rintro e w' ⟨rfl, rfl⟩;go_wp2_with fail;refine (bits_walk x _).mono ?_;rintro e w' ⟨rfl, rfl⟩;go_wp2_with fail;refine (rclass_walk hx _).mono ?_;rintro e w' ⟨rfl, rfl⟩;go_wp2_with fail;go_ret;exact ⟨ret_int (by obtain ⟨e, k⟩ := whole_mid l1 l2; rw [e]; unfold wrap64; omega), rfl⟩
theorem rw_lo_f {x : Nat} (hx : x < 18446744073709551616) (w : World) (hc : (classI x == 5) = false) (g1 : decide ((eB x : Int) < 1023) = false) (hf : fB x < 4503599627370496) (c2 : decide (1086 ≤ (eB x : Int)) = false) (c3 : decide (1075 ≤ (eB x : Int)) = false) (l1 : 1023 ≤ eB x) (l2 : eB x ≤ 1074) (hs : decide (9223372036854775808 ≤ (x : Int)) = false) :
  Calls Tryz.prog 127 #[.float .f64 x] w fun e w' => e = .returned (.int .i64 (wn (rung x))) ∧ w' = w := by
 go_in;go_wp2_with fail;refine (parts_walk hx _).mono ?_;rintro e w' ⟨rfl, rfl⟩;go_wp2_with fail;refine (bits_walk x _).mono ?_;rintro e w' ⟨rfl, rfl⟩;go_wp2_with fail;refine (rclass_walk hx _).mono ?_;rintro e w' ⟨rfl, rfl⟩;go_wp2_with fail;go_ret;exact ⟨ret_int (by obtain ⟨e, k⟩ := whole_lo l1 l2; rw [e]; unfold wrap64; omega), rfl⟩
theorem rw_lo_t {x : Nat} (hx : x < 18446744073709551616) (w : World) (hc : (classI x == 5) = false) (g1 : decide ((eB x : Int) < 1023) = false) (hf : fB x < 4503599627370496) (c2 : decide (1086 ≤ (eB x : Int)) = false) (c3 : decide (1075 ≤ (eB x : Int)) = false) (l1 : 1023 ≤ eB x) (l2 : eB x ≤ 1074) (hs : 9223372036854775808 ≤ (x : Int)) :
  Calls Tryz.prog 127 #[.float .f64 x] w fun e w' => e = .returned (.int .i64 (-(wn (rung x) : Int))) ∧ w' = w := by
 go_in;go_wp2_with fail;refine (parts_walk hx _).mono ?_;rintro e w' ⟨rfl, rfl⟩;go_wp2_with fail;refine (bits_walk x _).mono ?_;rintro e w' ⟨rfl, rfl⟩;go_wp2_with fail;refine (rclass_walk hx _).mono ?_;rintro e w' ⟨rfl, rfl⟩;go_wp2_with fail;go_ret;exact ⟨ret_int (by obtain ⟨e, k⟩ := whole_lo l1 l2; rw [e]; unfold wrap64; omega), rfl⟩
theorem rwhole_walk {x : Nat} (hx : x < 18446744073709551616) (w : World) :
  Calls Tryz.prog 127 #[.float .f64 x] w fun e w' => e = .returned (.int .i64 (wholeI x)) ∧ w' = w := by
 cases hn : nanB x
 ·have hc := class_not_nan hn;have hc' : (classI x == 5) = false := by rw [beq_eq_false_iff_ne]; exact hc
  by_cases c1 : eB x < 1023
  ·have hw := whole_low hn c1;have HW : Hid (wholeI x = 0) := hw;have c1' : (eB x : Int) < 1023 := by omega
   clear hw c1 hc;go_in;go_wp2_with fail;refine (parts_walk hx _).mono ?_;rintro e w' ⟨rfl, rfl⟩;go_wp2_with fail;refine (bits_walk x _).mono ?_;rintro e w' ⟨rfl, rfl⟩;go_wp2_with fail;refine (rclass_walk hx _).mono ?_;rintro e w' ⟨rfl, rfl⟩;go_wp2_with fail;go_ret;exact ⟨ret_int (Eq.symm HW), rfl⟩
  ·have HW : wholeI x = if 1086 ≤ eB x then (if negB x then -9223372036854775808 else 9223372036854775807) else if negB x then -(wn (rung x) : Int) else wn (rung x) := by
    obtain ⟨hp, hf⟩ := @rung_parts x;unfold wholeI;rw [hn, if_neg (by simp)];by_cases c : 1086 ≤ eB x
    ·rw [if_pos c, if_pos (by omega)]
    ·rw [if_neg c, if_neg (by omega)]
   have g1 : decide ((eB x : Int) < 1023) = false := by rw [decide_eq_false_iff_not]; omega
   have hf : fB x < 4503599627370496 := (@rung_parts x).2;rw [HW];by_cases c2 : 1086 ≤ eB x
   ·rw [if_pos c2]
    cases sg : negB x
    ·exact rw_hi_f hx w hc' g1 (by omega) (by have := neg_f sg; rw [decide_eq_false_iff_not]; omega)
    ·exact rw_hi_t hx w hc' g1 (by omega) (by have := neg_t sg; omega)
   ·rw [if_neg c2];have c2' : decide (1086 ≤ (eB x : Int)) = false := by rw [decide_eq_false_iff_not]; omega
    by_cases c3 : 1075 ≤ eB x
    ·have c3' : decide (1075 ≤ (eB x : Int)) = true := by rw [decide_eq_true_eq]; omega
     cases sg : negB x
     ·exact rw_mid_f hx w hc' g1 hf c2' c3' c3 (by omega) (by have := neg_f sg; rw [decide_eq_false_iff_not]; omega)
     ·exact rw_mid_t hx w hc' g1 hf c2' c3' c3 (by omega) (by have := neg_t sg; omega)
    ·have c3' : decide (1075 ≤ (eB x : Int)) = false := by rw [decide_eq_false_iff_not]; omega
     cases sg : negB x
     ·exact rw_lo_f hx w hc' g1 hf c2' c3' (by omega) (by omega) (by have := neg_f sg; rw [decide_eq_false_iff_not]; omega)
     ·exact rw_lo_t hx w hc' g1 hf c2' c3' (by omega) (by omega) (by have := neg_t sg; omega)
 ·have hc := (class_nan x).2 hn;go_in;go_wp2_with fail;refine (parts_walk hx _).mono ?_;rintro e w' ⟨rfl, rfl⟩;go_wp2_with fail;refine (bits_walk x _).mono ?_;rintro e w' ⟨rfl, rfl⟩;go_wp2_with fail;refine (rclass_walk hx _).mono ?_;rintro e w' ⟨rfl, rfl⟩;go_wp2_with fail;go_ret;exact ⟨ret_int (by unfold wholeI; rw [hn]; rfl), rfl⟩
end
end Go.Proofs.YtombjgfajbhbbaaGreat
