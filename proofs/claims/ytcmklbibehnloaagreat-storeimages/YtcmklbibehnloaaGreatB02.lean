/- Short words for the rows of regions that draw. -/
import Derived.Test.YtcmklbibehnloaaGreatB01
import Derived.ProofKit
import Derived.Deep.RegionHeld3
import Derived.Lib.Hide
set_option maxRecDepth 100000
set_option maxHeartbeats 16000000
namespace Go.Proofs.YtcmklbibehnloaaGreat
open Go.RowKit
section
theorem run_bits (x : Nat) (w : World) : (callFunc 212 #[.float .f64 x]).run Tryz.prog w = .ok (.value (.int .u64 x)) w := by
 rw [run_callFunc_extern (e := Extern.MathFloatBits.float64bits) Tryz.func212 (by kernel_rfl) (by kernel_rfl) (by kernel_rfl) (by kernel_rfl)];rfl
theorem run_frombits (x : Int) (w : World) : (callFunc 208 #[.int .u64 x]).run Tryz.prog w = .ok (.value (.float .f64 x.toNat)) w := by
 rw [run_callFunc_extern (e := Extern.MathFloatBits.float64frombits) Tryz.func208 (by kernel_rfl) (by kernel_rfl) (by kernel_rfl) (by kernel_rfl)];rfl
attribute [local go_sem] run_bits run_frombits
theorem ret_int {k : IntKind} {a b : Int} (h : a = b) : Ending.returned (.int k a) = .returned (.int k b) := by rw [h]
theorem ret_bool {a b : Bool} (h : a = b) : Ending.returned (.bool a) = .returned (.bool b) := by rw [h]
theorem ret_float {k : FloatKind} {a b : Nat} (h : a = b) : Ending.returned (.float k a) = .returned (.float k b) := by rw [h]
theorem isNaN_walk {x : Nat} (hx : x < 18446744073709551616) (w : World) :
  Calls Tryz.prog 213 #[.float .f64 x] w fun e w' => e = .returned (.bool (nanB x)) ∧ w' = w := by
 go_in;go_wp2;all_goals (go_ret; exact ⟨ret_bool (order_self hx), rfl⟩)
def flagI (a b : Bool) : Int := if a = b then 0 else if b then -1 else 1
theorem flags_walk (a b : Bool) (w : World) :
  Calls Tryz.prog 243 #[.bool a, .bool b] w fun e w' => e = .returned (.int .i64 (flagI a b)) ∧ w' = w := by
 cases a <;> cases b <;>
 ·go_in;go_wp2;all_goals (go_ret; exact ⟨rfl, rfl⟩)
theorem signbit_walk {x : Nat} (hx : x < 18446744073709551616) (w : World) :
  Calls Tryz.prog 244 #[.float .f64 x] w fun e w' => e = .returned (.bool (negB x)) ∧ w' = w := by
 go_in;go_wp2;all_goals (go_ret; exact ⟨ret_bool (by unfold negB RowKit.wrap64; rw [Bool.eq_iff_iff]; simp; omega), rfl⟩)
theorem canon_walk {x : Nat} (hx : x < 18446744073709551616) (w : World) :
  Calls Tryz.prog 184 #[.float .f64 x] w fun e w' => e = .returned (.float .f64 (canonW x)) ∧ w' = w := by
 cases h : nanB x
 all_goals
  go_in;go_wp2_with (go_at_call 213; refine (isNaN_walk hx _).mono ?_; rintro e w' ⟨rfl, rfl⟩);go_ret;exact ⟨ret_float (by unfold canonW; rw [h]; rfl), rfl⟩
theorem order_walk {a b : Nat} (ha : a < 18446744073709551616) (hb : b < 18446744073709551616) (w : World) :
  Calls Tryz.prog 235 #[.float .f64 a, .float .f64 b] w fun e w' => e = .returned (.int .i64 (ordI a b)) ∧ w' = w := by
 cases h : FloatKind.f64.format.order a b with
 | none =>
  go_in;go_wp2_with fail;refine (isNaN_walk ha _).mono ?_;rintro e w' ⟨rfl, rfl⟩;go_wp2_with fail;refine (isNaN_walk hb _).mono ?_;rintro e w' ⟨rfl, rfl⟩;go_wp2_with fail;refine (flags_walk _ _ _).mono ?_;rintro e w' ⟨rfl, rfl⟩;go_wp2_with fail;go_ret;exact ⟨ret_int (ord_none ha hb h).symm, rfl⟩
 | some o =>
  cases o with
  | lt =>
   go_in;go_wp2_with fail;go_ret;exact ⟨ret_int (ord_lt ha hb h).symm, rfl⟩
  | gt =>
   go_in;go_wp2_with fail;go_ret;exact ⟨ret_int (ord_gt ha hb h).symm, rfl⟩
  | eq =>
   go_in;go_wp2_with fail;refine (signbit_walk ha _).mono ?_;rintro e w' ⟨rfl, rfl⟩;go_wp2_with fail;refine (signbit_walk hb _).mono ?_;rintro e w' ⟨rfl, rfl⟩;go_wp2_with fail;refine (flags_walk _ _ _).mono ?_;rintro e w' ⟨rfl, rfl⟩;go_wp2_with fail;go_ret;exact ⟨ret_int (by rw [ord_eq ha hb h]; unfold flagI; cases negB a <;> cases negB b <;> rfl), rfl⟩
theorem ordI_neg {a b : Nat} : ordI a b < 0 ↔ rank a < rank b := by unfold ordI; split <;> (try split) <;> omega
theorem ordI_pos {a b : Nat} : 0 < ordI a b ↔ rank b < rank a := by unfold ordI; split <;> (try split) <;> omega
theorem canon_lt {x : Nat} (hx : x < 18446744073709551616) : canonW x < 18446744073709551616 := by unfold canonW; split <;> omega
theorem canon_of_rank {a b : Nat} (ha : a < 18446744073709551616) (hb : b < 18446744073709551616) (h : rank a = rank b) : canonW a = canonW b := by
 have ra := rung_of ha; have rb := rung_of hb;have la := rung_lt a; have lb := rung_lt b;unfold rank at h; unfold canonW
 cases na : nanB a <;> cases nb : nanB b <;> rw [na, nb] at h <;> (first | replace na := nan_t na | replace na := nan_f na) <;> (first | replace nb := nan_t nb | replace nb := nan_f nb) <;>
 cases sa : negB a <;> cases sb : negB b <;> (have ga := sa; have gb := sb; simp only [sa, sb, Bool.false_eq_true, if_false, if_true] at h ra rb ⊢) <;> (first | replace ga := neg_t ga | replace ga := neg_f ga) <;> (first | replace gb := neg_t gb | replace gb := neg_f gb) <;> omega
theorem least_walk {a b : Nat} (ha : a < 18446744073709551616) (hb : b < 18446744073709551616) (w : World) :
  Calls Tryz.prog 215 #[.float .f64 a, .float .f64 b] w fun e w' => e = .returned (.float .f64 (leastW a b)) ∧ w' = w := by
 by_cases h : ordI a b < 0
 ·go_in;go_wp2_with fail;refine (order_walk ha hb _).mono ?_;rintro e w' ⟨rfl, rfl⟩;go_wp2_with fail;refine (canon_walk ha _).mono ?_;rintro e w' ⟨rfl, rfl⟩;go_wp2_with fail;go_ret;have := ordI_neg.1 h;exact ⟨ret_float (by unfold leastW; rw [if_pos (by omega)]), rfl⟩
 ·go_in;go_wp2_with fail;refine (order_walk ha hb _).mono ?_;rintro e w' ⟨rfl, rfl⟩;go_wp2_with fail;refine (canon_walk hb _).mono ?_;rintro e w' ⟨rfl, rfl⟩;go_wp2_with fail;go_ret;have h' : ¬ rank a < rank b := fun k => by have := ordI_neg.2 k; omega
  refine ⟨ret_float ?_, rfl⟩;unfold leastW
  split
  ·exact (canon_of_rank ha hb (by omega)).symm
  ·rfl
theorem most_walk {a b : Nat} (ha : a < 18446744073709551616) (hb : b < 18446744073709551616) (w : World) :
  Calls Tryz.prog 216 #[.float .f64 a, .float .f64 b] w fun e w' => e = .returned (.float .f64 (mostW a b)) ∧ w' = w := by
 by_cases h : 0 < ordI a b
 ·go_in;go_wp2_with fail;refine (order_walk ha hb _).mono ?_;rintro e w' ⟨rfl, rfl⟩;go_wp2_with fail;refine (canon_walk ha _).mono ?_;rintro e w' ⟨rfl, rfl⟩;go_wp2_with fail;go_ret;have := ordI_pos.1 h;exact ⟨ret_float (by unfold mostW; rw [if_pos (by omega)]), rfl⟩
 ·go_in;go_wp2_with fail;refine (order_walk ha hb _).mono ?_;rintro e w' ⟨rfl, rfl⟩;go_wp2_with fail;refine (canon_walk hb _).mono ?_;rintro e w' ⟨rfl, rfl⟩;go_wp2_with fail;go_ret;have h' : ¬ rank b < rank a := fun k => by have := ordI_pos.2 k; omega
  refine ⟨ret_float ?_, rfl⟩;unfold mostW
  split
  ·exact (canon_of_rank ha hb (by omega)).symm
  ·rfl
def classI (x : Nat) : Int := if nanB x then 5 else if 9218868437227405312 ≤ rung x then 4 else if 4503599627370496 ≤ rung x then 3 else if 0 < rung x then 2 else 1
end
section
open Ieee
end
section
open Ieee Go.RowKit

def wn (r : Nat) : Nat := if 1074 ≤ sh r then mag r * 2 ^ (sh r - 1074) else mag r / 2 ^ (1074 - sh r)
def wholeI (x : Nat) : Int := if nanB x then 0 else if 4890909195324358656 ≤ rung x then (if negB x then -9223372036854775808 else 9223372036854775807) else if negB x then -(wn (rung x) : Int) else wn (rung x)
theorem wn_lt {r : Nat} (h : r < 4890909195324358656) : wn r < 9223372036854775808 := by
 have hm := mag_lt r;unfold wn
 split
 ·rename_i c
  have h1 : sh r ≤ 1084 := by unfold sh; omega
  have h2 : 2 ^ (sh r - 1074) ≤ 2 ^ 10 := Nat.pow_le_pow_right (by omega) (by omega);have h3 : mag r * 2 ^ (sh r - 1074) ≤ mag r * 2 ^ 10 := Nat.mul_le_mul_left _ h2;omega
 ·have := Nat.div_le_self (mag r) (2 ^ (1074 - sh r)); omega
end
section
open Ieee Go.RowKit

structure Vl where
 h : Bool
 b : Nat
def Vl.ok (v : Vl) : Prop := v.b < 18446744073709551616
def noV : Vl := ⟨false, 0⟩
def knownB (k : Int) : Bool := decide (1 ≤ k) && decide (k ≤ 4)
def wholeU (x : Nat) : Nat := (IntKind.u64.wrap (wholeI x)).toNat
def ofV (k : Int) (x : Nat) : Vl := if k = 1 then ⟨true, 1⟩ else if k = 2 then ⟨true, wholeU x⟩ else if k = 3 ∨ k = 4 then ⟨true, canonW x⟩ else noV
def fitV (k : Int) (v : Vl) : Vl := if v.h = false then noV else if k = 1 ∨ k = 2 then v else if k = 3 ∨ k = 4 then ⟨true, canonW v.b⟩ else noV
def joinV (k : Int) (a b : Vl) : Vl :=
 if a.h = false then b else if b.h = false then a else if k = 3 then ⟨true, leastW a.b b.b⟩ else if k = 4 then ⟨true, mostW a.b b.b⟩ else ⟨true, (a.b + b.b) % 18446744073709551616⟩
def mergeV (k : Int) (a b : Vl) : Vl := joinV k (fitV k a) (fitV k b)
theorem wholeU_eq (x : Nat) : ((wholeU x : Nat) : Int) = IntKind.u64.wrap (wholeI x) := by
 unfold wholeU;rw [IntKind.wrap_u64];omega
theorem noV_ok : noV.ok := by show 0 < 18446744073709551616; omega
theorem fitV_ok (k : Int) {v : Vl} (hv : v.ok) : (fitV k v).ok := by
 unfold fitV
 split
 ·exact noV_ok
 split
 ·exact hv
 split
 ·exact canon_lt hv
 ·exact noV_ok
theorem leastW_lt {a b : Nat} (ha : a < 18446744073709551616) (hb : b < 18446744073709551616) : leastW a b < 18446744073709551616 := by
 unfold leastW
 split
 ·exact canon_lt ha
 ·exact canon_lt hb
theorem mostW_lt {a b : Nat} (ha : a < 18446744073709551616) (hb : b < 18446744073709551616) : mostW a b < 18446744073709551616 := by
 unfold mostW
 split
 ·exact canon_lt ha
 ·exact canon_lt hb
theorem joinV_ok (k : Int) {a b : Vl} (ha : a.ok) (hb : b.ok) : (joinV k a b).ok := by
 unfold joinV
 split
 ·exact hb
 split
 ·exact ha
 split
 ·exact leastW_lt ha hb
 split
 ·exact mostW_lt ha hb
 ·exact Nat.mod_lt _ (by omega)
theorem mergeV_ok (k : Int) {a b : Vl} (ha : a.ok) (hb : b.ok) : (mergeV k a b).ok := joinV_ok k (fitV_ok k ha) (fitV_ok k hb)
theorem canonW_canonW (x : Nat) : canonW (canonW x) = canonW x := by
 unfold canonW
 cases h : nanB x
 ·simp [h]
 ·rw [if_pos rfl, if_pos (by decide)]
theorem canonW_leastW (a b : Nat) : canonW (leastW a b) = leastW a b := by
 unfold leastW
 split <;> exact canonW_canonW _
theorem canonW_mostW (a b : Nat) : canonW (mostW a b) = mostW a b := by
 unfold mostW
 split <;> exact canonW_canonW _
theorem known_kind {k : Int} : knownB k = true ↔ k = 1 ∨ k = 2 ∨ k = 3 ∨ k = 4 := by
 unfold knownB;simp;omega
theorem unknown_kind {k : Int} (h : knownB k = false) : k ≠ 1 ∧ k ≠ 2 ∧ k ≠ 3 ∧ k ≠ 4 := by
 unfold knownB at h;simp at h;omega
end
section
open Ieee Go.RowKit

attribute [local go_sem] run_bits run_frombits
theorem bits_walk (x : Nat) (w : World) :
  Calls Tryz.prog 206 #[.float .f64 x] w fun e w' => e = .returned (.int .u64 x) ∧ w' = w := by
 go_in;go_wp2;go_ret;exact ⟨rfl, rfl⟩
theorem from_walk (x : Nat) (w : World) :
  Calls Tryz.prog 178 #[.int .u64 x] w fun e w' => e = .returned (.float .f64 x) ∧ w' = w := by
 go_in;go_wp2;go_ret;exact ⟨ret_float (by simp), rfl⟩
def eB (x : Nat) : Nat := rung x / 4503599627370496
def fB (x : Nat) : Nat := x % 4503599627370496
theorem eB_bits {x : Nat} (hx : x < 18446744073709551616) : bits .and .u64 ((x : Int) / 4503599627370496) 2047 = eB x := by
 have h := bits_and_u64_nat (x / 4503599627370496) 2047 (by omega) (by omega);rw [show (2047 : Nat) = 2 ^ 11 - 1 from rfl, Nat.and_two_pow_sub_one_eq_mod] at h;have e : ((x / 4503599627370496 : Nat) : Int) = (x : Int) / 4503599627370496 := by omega
 rw [e] at h;rw [show ((2 ^ 11 - 1 : Nat) : Int) = 2047 from rfl] at h;rw [h];unfold eB rung;omega
theorem fB_bits {x : Nat} (hx : x < 18446744073709551616) : bits .and .u64 (x : Int) 4503599627370495 = fB x := by
 have h := bits_and_u64_nat x 4503599627370495 hx (by omega);rw [show (4503599627370495 : Nat) = 2 ^ 52 - 1 from rfl, Nat.and_two_pow_sub_one_eq_mod] at h;rw [show ((2 ^ 52 - 1 : Nat) : Int) = 4503599627370495 from rfl] at h;rw [h];rfl
theorem eB_le (x : Nat) : eB x ≤ 2047 := by have := rung_lt x; unfold eB; omega
theorem parts_walk {x : Nat} (hx : x < 18446744073709551616) (w : World) :
  Calls Tryz.prog 232 #[.float .f64 x] w fun e w' => e = .returned (.tuple #[.int .i64 (eB x), .int .u64 (fB x)]) ∧ w' = w := by
 have h1 := eB_bits hx;have h2 := fB_bits hx;have h3 := eB_le x;go_in;go_wp2_with fail;refine (bits_walk x _).mono ?_;rintro e w' ⟨rfl, rfl⟩;go_wp2_with fail;go_ret2;exact ⟨rfl, rfl⟩
theorem rung_parts {x : Nat} : rung x = eB x * 4503599627370496 + fB x ∧ fB x < 4503599627370496 := by
 unfold eB fB rung; omega
theorem rclass_walk {x : Nat} (hx : x < 18446744073709551616) (w : World) :
  Calls Tryz.prog 233 #[.float .f64 x] w fun e w' => e = .returned (.int .i64 (classI x)) ∧ w' = w := by
 obtain ⟨hp, hf⟩ := @rung_parts x;have he := eB_le x;have HP : Hid (rung x = eB x * 4503599627370496 + fB x ∧ fB x < 4503599627370496 ∧ eB x ≤ 2047) := ⟨hp, hf, he⟩
 have cl : ∀ k : Int, ((eB x = 2047 ∧ fB x ≠ 0 ∧ k = 5) ∨ (eB x = 2047 ∧ fB x = 0 ∧ k = 4) ∨ (eB x ≠ 2047 ∧ eB x ≠ 0 ∧ k = 3) ∨ (eB x = 0 ∧ fB x ≠ 0 ∧ k = 2) ∨ (eB x = 0 ∧ fB x = 0 ∧ k = 1)) → classI x = k := by
  intro k hk;unfold classI nanB;simp only [decide_eq_true_eq]
  (repeat' split) <;> omega
 have CL : Hid (∀ k : Int, ((eB x = 2047 ∧ fB x ≠ 0 ∧ k = 5) ∨ (eB x = 2047 ∧ fB x = 0 ∧ k = 4) ∨ (eB x ≠ 2047 ∧ eB x ≠ 0 ∧ k = 3) ∨ (eB x = 0 ∧ fB x ≠ 0 ∧ k = 2) ∨ (eB x = 0 ∧ fB x = 0 ∧ k = 1)) → classI x = k) := cl;clear cl hp hf he;by_cases c1 : eB x = 2047
 ·by_cases c2 : fB x = 0
  ·go_in;go_wp2_with fail;refine (parts_walk hx _).mono ?_;rintro e w' ⟨rfl, rfl⟩;go_wp2_with fail;go_ret;exact ⟨ret_int (CL.out _ (by omega)).symm, rfl⟩
  ·go_in;go_wp2_with fail;refine (parts_walk hx _).mono ?_;rintro e w' ⟨rfl, rfl⟩;go_wp2_with fail;go_ret;exact ⟨ret_int (CL.out _ (by omega)).symm, rfl⟩
 ·by_cases c3 : eB x = 0
  ·by_cases c2 : fB x = 0
   ·go_in;go_wp2_with fail;refine (parts_walk hx _).mono ?_;rintro e w' ⟨rfl, rfl⟩;go_wp2_with fail;go_ret;exact ⟨ret_int (CL.out _ (by omega)).symm, rfl⟩
   ·go_in;go_wp2_with fail;refine (parts_walk hx _).mono ?_;rintro e w' ⟨rfl, rfl⟩;go_wp2_with fail;go_ret;exact ⟨ret_int (CL.out _ (by omega)).symm, rfl⟩
  ·go_in;go_wp2_with fail;refine (parts_walk hx _).mono ?_;rintro e w' ⟨rfl, rfl⟩;go_wp2_with fail;go_ret;exact ⟨ret_int (CL.out _ (by omega)).symm, rfl⟩
theorem class_nan (x : Nat) : classI x = 5 ↔ nanB x = true := by
 unfold classI
 cases nanB x
 ·simp only [Bool.false_eq_true, if_false, iff_false]; (repeat' split) <;> omega
 ·simp
theorem class_not_nan {x : Nat} (h : nanB x = false) : ¬ classI x = 5 := fun k => by rw [(class_nan x).1 k] at h; cases h
theorem rcanon_walk {x : Nat} (hx : x < 18446744073709551616) (w : World) :
  Calls Tryz.prog 207 #[.float .f64 x] w fun e w' => e = .returned (.float .f64 (canonW x)) ∧ w' = w := by
 cases h : nanB x
 ·have hc := class_not_nan h;go_in;go_wp2_with fail;refine (rclass_walk hx _).mono ?_;rintro e w' ⟨rfl, rfl⟩;go_wp2_with fail;go_ret;exact ⟨ret_float (by unfold canonW; rw [h]; rfl), rfl⟩
 ·have hc := (class_nan x).2 h;go_in;go_wp2_with fail;refine (rclass_walk hx _).mono ?_;rintro e w' ⟨rfl, rfl⟩;go_wp2_with fail;refine (from_walk 9221120237041090561 _).mono ?_;rintro e w' ⟨rfl, rfl⟩;go_wp2_with fail;go_ret;exact ⟨ret_float (by unfold canonW; rw [h]; rfl), rfl⟩
end
section
open Ieee
end
section
open Ieee Go.RowKit
end
section
open Ieee
end
section
open Ieee Go.RowKit

theorem mag_parts {x : Nat} (h : 1 ≤ eB x) : mag (rung x) = fB x + 4503599627370496 ∧ sh (rung x) = eB x - 1 := by
 obtain ⟨hp, hf⟩ := @rung_parts x;unfold mag sh;rw [hp];constructor
 ·rw [if_neg (by omega)]; omega
 ·omega
theorem whole_low {x : Nat} (hn : nanB x = false) (h : eB x < 1023) : wholeI x = 0 := by
 obtain ⟨hp, hf⟩ := @rung_parts x
 have hw : wn (rung x) = 0 := by
  have hs : sh (rung x) ≤ 1021 := by unfold sh; omega
  have hm := mag_lt (rung x);unfold wn;rw [if_neg (by omega)];apply Nat.div_eq_of_lt;have : 2 ^ 53 ≤ 2 ^ (1074 - sh (rung x)) := Nat.pow_le_pow_right (by omega) (by omega);omega
 unfold wholeI;rw [hn, hw, if_neg (by simp), if_neg (by omega)]
 split <;> rfl
theorem whole_mid {x : Nat} (l1 : 1075 ≤ eB x) (l2 : eB x ≤ 1085) : IntKind.u64.wrap (((fB x : Int) + 4503599627370496) * 2 ^ (eB x - 1075)) = (wn (rung x) : Int) ∧ wn (rung x) < 9223372036854775808 := by
 obtain ⟨hm, hsh⟩ := mag_parts (x := x) (by omega);obtain ⟨hp, hf⟩ := @rung_parts x;have hl := wn_lt (r := rung x) (by omega)
 have hw : wn (rung x) = (fB x + 4503599627370496) * 2 ^ (eB x - 1075) := by
  unfold wn; rw [hm, hsh, if_pos (by omega), show eB x - 1 - 1074 = eB x - 1075 by omega]
 refine ⟨?_, hl⟩
 have e : (((fB x + 4503599627370496) * 2 ^ (eB x - 1075) : Nat) : Int) = ((fB x : Int) + 4503599627370496) * 2 ^ (eB x - 1075) := by
  rw [Int.natCast_mul, Int.natCast_add, Int.natCast_pow]; rfl
 rw [← e, ← hw, IntKind.wrap_u64];omega
theorem whole_lo {x : Nat} (l1 : 1023 ≤ eB x) (l2 : eB x ≤ 1074) : ((fB x : Int) + 4503599627370496) / 2 ^ (1075 - eB x) = (wn (rung x) : Int) ∧ wn (rung x) < 9223372036854775808 := by
 obtain ⟨hm, hsh⟩ := mag_parts (x := x) (by omega);obtain ⟨hp, hf⟩ := @rung_parts x;have hl := wn_lt (r := rung x) (by omega)
 have hw : wn (rung x) = (fB x + 4503599627370496) / 2 ^ (1075 - eB x) := by
  unfold wn; rw [hm, hsh, if_neg (by omega), show 1074 - (eB x - 1) = 1075 - eB x by omega]
 refine ⟨?_, hl⟩
 have e : (((fB x + 4503599627370496) / 2 ^ (1075 - eB x) : Nat) : Int) = ((fB x : Int) + 4503599627370496) / 2 ^ (1075 - eB x) := by
  rw [Int.natCast_ediv, Int.natCast_add, Int.natCast_pow]; rfl
 rw [← e, ← hw]
theorem rw_hi_f {x : Nat} (hx : x < 18446744073709551616) (w : World) (hc : (classI x == 5) = false) (g1 : decide ((eB x : Int) < 1023) = false) (c2 : 1086 ≤ (eB x : Int)) (hs : decide (9223372036854775808 ≤ (x : Int)) = false) :
  Calls Tryz.prog 205 #[.float .f64 x] w fun e w' => e = .returned (.int .i64 (9223372036854775807)) ∧ w' = w := by
 go_in;go_wp2_with fail;refine (parts_walk hx _).mono ?_;rintro e w' ⟨rfl, rfl⟩;go_wp2_with fail;refine (bits_walk x _).mono ?_;rintro e w' ⟨rfl, rfl⟩;go_wp2_with fail;refine (rclass_walk hx _).mono ?_;rintro e w' ⟨rfl, rfl⟩;go_wp2_with fail;go_ret;exact ⟨rfl, rfl⟩
theorem rw_hi_t {x : Nat} (hx : x < 18446744073709551616) (w : World) (hc : (classI x == 5) = false) (g1 : decide ((eB x : Int) < 1023) = false) (c2 : 1086 ≤ (eB x : Int)) (hs : 9223372036854775808 ≤ (x : Int)) :
  Calls Tryz.prog 205 #[.float .f64 x] w fun e w' => e = .returned (.int .i64 (-9223372036854775808)) ∧ w' = w := by
 go_in;go_wp2_with fail;refine (parts_walk hx _).mono ?_;rintro e w' ⟨rfl, rfl⟩;go_wp2_with fail;refine (bits_walk x _).mono ?_;rintro e w' ⟨rfl, rfl⟩;go_wp2_with fail;refine (rclass_walk hx _).mono ?_;rintro e w' ⟨rfl, rfl⟩;go_wp2_with fail;go_ret;exact ⟨rfl, rfl⟩
theorem rw_mid_f {x : Nat} (hx : x < 18446744073709551616) (w : World) (hc : (classI x == 5) = false) (g1 : decide ((eB x : Int) < 1023) = false) (hf : fB x < 4503599627370496) (c2 : decide (1086 ≤ (eB x : Int)) = false) (c3 : decide (1075 ≤ (eB x : Int)) = true) (l1 : 1075 ≤ eB x) (l2 : eB x ≤ 1085) (hs : decide (9223372036854775808 ≤ (x : Int)) = false) :
  Calls Tryz.prog 205 #[.float .f64 x] w fun e w' => e = .returned (.int .i64 (wn (rung x))) ∧ w' = w := by
 go_in;go_wp2_with fail;refine (parts_walk hx _).mono ?_;rintro e w' ⟨rfl, rfl⟩;go_wp2_with fail;refine (bits_walk x _).mono ?_;rintro e w' ⟨rfl, rfl⟩;go_wp2_with fail;refine (rclass_walk hx _).mono ?_;rintro e w' ⟨rfl, rfl⟩;go_wp2_with fail;go_ret;exact ⟨ret_int (by obtain ⟨e, k⟩ := whole_mid l1 l2; rw [e]; unfold wrap64; omega), rfl⟩
theorem rw_mid_t {x : Nat} (hx : x < 18446744073709551616) (w : World) (hc : (classI x == 5) = false) (g1 : decide ((eB x : Int) < 1023) = false) (hf : fB x < 4503599627370496) (c2 : decide (1086 ≤ (eB x : Int)) = false) (c3 : decide (1075 ≤ (eB x : Int)) = true) (l1 : 1075 ≤ eB x) (l2 : eB x ≤ 1085) (hs : 9223372036854775808 ≤ (x : Int)) :
  Calls Tryz.prog 205 #[.float .f64 x] w fun e w' => e = .returned (.int .i64 (-(wn (rung x) : Int))) ∧ w' = w := by
 go_in;go_wp2_with fail;refine (parts_walk hx _).mono ?_;rintro e w' ⟨rfl, rfl⟩;go_wp2_with fail;refine (bits_walk x _).mono ?_;rintro e w' ⟨rfl, rfl⟩;go_wp2_with fail;refine (rclass_walk hx _).mono ?_;rintro e w' ⟨rfl, rfl⟩;go_wp2_with fail;go_ret;exact ⟨ret_int (by obtain ⟨e, k⟩ := whole_mid l1 l2; rw [e]; unfold wrap64; omega), rfl⟩
theorem rw_lo_f {x : Nat} (hx : x < 18446744073709551616) (w : World) (hc : (classI x == 5) = false) (g1 : decide ((eB x : Int) < 1023) = false) (hf : fB x < 4503599627370496) (c2 : decide (1086 ≤ (eB x : Int)) = false) (c3 : decide (1075 ≤ (eB x : Int)) = false) (l1 : 1023 ≤ eB x) (l2 : eB x ≤ 1074) (hs : decide (9223372036854775808 ≤ (x : Int)) = false) :
  Calls Tryz.prog 205 #[.float .f64 x] w fun e w' => e = .returned (.int .i64 (wn (rung x))) ∧ w' = w := by
 go_in;go_wp2_with fail;refine (parts_walk hx _).mono ?_;rintro e w' ⟨rfl, rfl⟩;go_wp2_with fail;refine (bits_walk x _).mono ?_;rintro e w' ⟨rfl, rfl⟩;go_wp2_with fail;refine (rclass_walk hx _).mono ?_;rintro e w' ⟨rfl, rfl⟩;go_wp2_with fail;go_ret;exact ⟨ret_int (by obtain ⟨e, k⟩ := whole_lo l1 l2; rw [e]; unfold wrap64; omega), rfl⟩
theorem rw_lo_t {x : Nat} (hx : x < 18446744073709551616) (w : World) (hc : (classI x == 5) = false) (g1 : decide ((eB x : Int) < 1023) = false) (hf : fB x < 4503599627370496) (c2 : decide (1086 ≤ (eB x : Int)) = false) (c3 : decide (1075 ≤ (eB x : Int)) = false) (l1 : 1023 ≤ eB x) (l2 : eB x ≤ 1074) (hs : 9223372036854775808 ≤ (x : Int)) :
  Calls Tryz.prog 205 #[.float .f64 x] w fun e w' => e = .returned (.int .i64 (-(wn (rung x) : Int))) ∧ w' = w := by
 go_in;go_wp2_with fail;refine (parts_walk hx _).mono ?_;rintro e w' ⟨rfl, rfl⟩;go_wp2_with fail;refine (bits_walk x _).mono ?_;rintro e w' ⟨rfl, rfl⟩;go_wp2_with fail;refine (rclass_walk hx _).mono ?_;rintro e w' ⟨rfl, rfl⟩;go_wp2_with fail;go_ret;exact ⟨ret_int (by obtain ⟨e, k⟩ := whole_lo l1 l2; rw [e]; unfold wrap64; omega), rfl⟩
theorem rwhole_walk {x : Nat} (hx : x < 18446744073709551616) (w : World) :
  Calls Tryz.prog 205 #[.float .f64 x] w fun e w' => e = .returned (.int .i64 (wholeI x)) ∧ w' = w := by
 cases hn : nanB x
 ·have hc := class_not_nan hn;have hc' : (classI x == 5) = false := by rw [beq_eq_false_iff_ne]; exact hc
  by_cases c1 : eB x < 1023
  ·have hw := whole_low hn c1;have HW : Hid (wholeI x = 0) := hw;have c1' : (eB x : Int) < 1023 := by omega
   clear hw c1 hc;go_in;go_wp2_with fail;refine (parts_walk hx _).mono ?_;rintro e w' ⟨rfl, rfl⟩;go_wp2_with fail;refine (bits_walk x _).mono ?_;rintro e w' ⟨rfl, rfl⟩;go_wp2_with fail;refine (rclass_walk hx _).mono ?_;rintro e w' ⟨rfl, rfl⟩;go_wp2_with fail;go_ret;exact ⟨ret_int (Eq.symm HW), rfl⟩
  ·have HW : wholeI x = if 1086 ≤ eB x then (if negB x then -9223372036854775808 else 9223372036854775807) else if negB x then -(wn (rung x) : Int) else wn (rung x) := by
    obtain ⟨hp, hf⟩ := @rung_parts x;unfold wholeI;rw [hn, if_neg (by simp)];by_cases c : 1086 ≤ eB x
    ·rw [if_pos c, if_pos (by omega)]
    ·rw [if_neg c, if_neg (by omega)]
   have g1 : decide ((eB x : Int) < 1023) = false := by rw [decide_eq_false_iff_not]; omega
   have hf : fB x < 4503599627370496 := (@rung_parts x).2;rw [HW];by_cases c2 : 1086 ≤ eB x
   ·rw [if_pos c2]
    cases sg : negB x
    ·exact rw_hi_f hx w hc' g1 (by omega) (by have := neg_f sg; rw [decide_eq_false_iff_not]; omega)
    ·exact rw_hi_t hx w hc' g1 (by omega) (by have := neg_t sg; omega)
   ·rw [if_neg c2];have c2' : decide (1086 ≤ (eB x : Int)) = false := by rw [decide_eq_false_iff_not]; omega
    by_cases c3 : 1075 ≤ eB x
    ·have c3' : decide (1075 ≤ (eB x : Int)) = true := by rw [decide_eq_true_eq]; omega
     cases sg : negB x
     ·exact rw_mid_f hx w hc' g1 hf c2' c3' c3 (by omega) (by have := neg_f sg; rw [decide_eq_false_iff_not]; omega)
     ·exact rw_mid_t hx w hc' g1 hf c2' c3' c3 (by omega) (by have := neg_t sg; omega)
    ·have c3' : decide (1075 ≤ (eB x : Int)) = false := by rw [decide_eq_false_iff_not]; omega
     cases sg : negB x
     ·exact rw_lo_f hx w hc' g1 hf c2' c3' (by omega) (by omega) (by have := neg_f sg; rw [decide_eq_false_iff_not]; omega)
     ·exact rw_lo_t hx w hc' g1 hf c2' c3' (by omega) (by omega) (by have := neg_t sg; omega)
 ·have hc := (class_nan x).2 hn;go_in;go_wp2_with fail;refine (parts_walk hx _).mono ?_;rintro e w' ⟨rfl, rfl⟩;go_wp2_with fail;refine (bits_walk x _).mono ?_;rintro e w' ⟨rfl, rfl⟩;go_wp2_with fail;refine (rclass_walk hx _).mono ?_;rintro e w' ⟨rfl, rfl⟩;go_wp2_with fail;go_ret;exact ⟨ret_int (by unfold wholeI; rw [hn]; rfl), rfl⟩
end
section
theorem hidH {p : Prop} (h : p) : Go.RowKit.Hid p := h
theorem zA {α : Type} (l : List α) (i : Nat) (a : α) : l.toArray.setIfInBounds i a = (l.set i a).toArray := List.setIfInBounds_toArray ..
theorem zB {α : Type} (x : α) (l : List α) (a : α) : (x :: l).set 0 a = a :: l := rfl
theorem zC {α : Type} (x : α) (l : List α) (i : Nat) (a : α) : (x :: l).set (i + 1) a = x :: l.set i a := rfl
theorem zz {α : Type} : (∀ (l : List α) (i : Nat) (a : α), l.toArray.setIfInBounds i a = (l.set i a).toArray) ∧ (∀ (x : α) (l : List α) (a : α), (x :: l).set 0 a = a :: l) ∧ ∀ (x : α) (l : List α) (i : Nat) (a : α), (x :: l).set (i + 1) a = x :: l.set i a := ⟨zA, zB, zC⟩
section

variable {P : Program} {md : Region.Mode} {ops : Array Oper} {Q : Exit → Act → World → Prop} {S : World → Prop} {fuel : Nat} {listed : Array Bool} {a : Act} {w : World} {o : Go.Op} {t : TypeId} {p : String} {f : Array Edge} {g : Option (Nat × Bool)}

theorem tvH (i d : Nat) (v : Value) (hi : ops[i]? = some ⟨some d, o, t, p, f, g⟩) (hy : ∀ w, S w → (execOp a.eval ⟨some d, o, t, p, f, g⟩).run P w = .ok (.value v) w) (hS : S w)
    (h : wpAnyH P md ops Q S fuel (listed.setIfInBounds i true) (a.put (some d) v) w)
    (hs : Region.noSelect ops = true := by kernel_rfl) (hf : Region.free md ops listed i = true := by kernel_rfl) (hr : (Region.ready md ops listed).contains i = true := by kernel_rfl)
    (hQ : ∀ c a w, Q (.panic c) (a.put (some d) v) w → Q (.panic c) a w := by exact fun _ _ _ h => h) (hw : Region.wanted ⟨some d, o, t, p, f, g⟩ (yielded ops a.tmps) = true := by rfl) :
    wpAnyH P md ops Q S (fuel + 1) listed a w := wpAnyH_take hi hs hf hr hQ (Or.inl ⟨hw, hy⟩) hS h
theorem tkH (i d : Nat) {v : Value} (hi : ops[i]? = some ⟨some d, o, t, p, f, g⟩) (hS : S w)
    (h : wpAnyH P md ops Q S fuel (listed.setIfInBounds i true) (a.put (some d) v) w)
    (hs : Region.noSelect ops = true := by kernel_rfl) (hf : Region.free md ops listed i = true := by kernel_rfl) (hr : (Region.ready md ops listed).contains i = true := by kernel_rfl)
    (hy : ∀ w, S w → (execOp a.eval ⟨some d, o, t, p, f, g⟩).run P w = .ok (.value v) w := by intro w hSw; (try dsimp only at hSw); go_simp; all_goals (with_reducible rfl))
    (hQ : ∀ c a w, Q (.panic c) (a.put (some d) v) w → Q (.panic c) a w := by exact fun _ _ _ h => h) (hw : Region.wanted ⟨some d, o, t, p, f, g⟩ (yielded ops a.tmps) = true := by rfl) :
    wpAnyH P md ops Q S (fuel + 1) listed a w := wpAnyH_take hi hs hf hr hQ (Or.inl ⟨hw, hy⟩) hS h
theorem tkS (i d : Nat) {v : Value} {a' : Act} (hi : ops[i]? = some ⟨some d, o, t, p, f, g⟩) (hS : S w)
    (h : wpAnyH P md ops Q S fuel (listed.setIfInBounds i true) a' w)
    (hs : Region.noSelect ops = true := by kernel_rfl) (hf : Region.free md ops listed i = true := by kernel_rfl) (hr : (Region.ready md ops listed).contains i = true := by kernel_rfl)
    (hy : ∀ w, S w → (execOp a.eval ⟨some d, o, t, p, f, g⟩).run P w = .ok (.value v) w := by intro w hSw; (try dsimp only at hSw); go_simp; all_goals (with_reducible rfl))
    (ha : a.put (some d) v = a' := by (simp only [Act.put, zA, zB, zC]) <;> rfl)
    (hQ : ∀ c a w, Q (.panic c) (a.put (some d) v) w → Q (.panic c) a w := by exact fun _ _ _ h => h) (hw : Region.wanted ⟨some d, o, t, p, f, g⟩ (yielded ops a.tmps) = true := by rfl) :
    wpAnyH P md ops Q S (fuel + 1) listed a w := wpAnyH_take hi hs hf hr hQ (Or.inl ⟨hw, hy⟩) hS (ha ▸ h)
theorem tuH (i d : Nat) (hi : ops[i]? = some ⟨some d, o, t, p, f, g⟩) (hS : S w)
    (h : wpAnyH P md ops Q S fuel (listed.setIfInBounds i true) (a.put (some d) undef) w)
    (hs : Region.noSelect ops = true := by kernel_rfl) (hf : Region.free md ops listed i = true := by kernel_rfl) (hr : (Region.ready md ops listed).contains i = true := by kernel_rfl)
    (hQ : ∀ c a w, Q (.panic c) (a.put (some d) undef) w → Q (.panic c) a w := by exact fun _ _ _ h => h) (hw : Region.wanted ⟨some d, o, t, p, f, g⟩ (yielded ops a.tmps) = false := by rfl) :
    wpAnyH P md ops Q S (fuel + 1) listed a w := wpAnyH_take hi hs hf hr hQ (Or.inr ⟨hw, rfl⟩) hS h
theorem rdH (i d : Nat) (hi : ops[i]? = some ⟨some d, o, t, p, f, g⟩)
    (h : ∀ K' : Act → World → Prop, Shut (∀ a w, S w → (S w → wpAnyH P md ops Q S fuel (listed.setIfInBounds i true) a w) → K' a w) → if Region.wanted ⟨some d, o, t, p, f, g⟩ (yielded ops a.tmps) = true then Oper.wp P ⟨some d, o, t, p, f, g⟩ a w K' Q else K' (a.put (some d) undef) w)
    (hr : Region.ready md ops listed = [i] := by kernel_rfl) : wpAnyH P md ops Q S (fuel + 1) listed a w := wpAnyH_ready hr (by simp) (AllReadyH.cons hi h AllReadyH.nil)
end
end
end Go.Proofs.YtcmklbibehnloaaGreat
