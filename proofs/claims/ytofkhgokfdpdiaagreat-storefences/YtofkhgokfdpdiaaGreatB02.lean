/- Contracts of Whole and Floor. -/
import Derived.Test.YtofkhgokfdpdiaaGreatChecked
import Derived.Test.YtofkhgokfdpdiaaGreatB01
import Derived.WalkKit
import Derived.ProofKit
set_option maxRecDepth 100000
set_option maxHeartbeats 16000000
namespace Go.Proofs.YtofkhgokfdpdiaaGreat
section
theorem run_bits (x : Nat) (w : World) : (callFunc 185 #[.float .f64 x]).run Tryz.prog w = .ok (.value (.int .u64 x)) w := by
 rw [run_callFunc_extern (e := Extern.MathFloatBits.float64bits) Tryz.func185 (by kernel_rfl) (by kernel_rfl) (by kernel_rfl) (by kernel_rfl)]
 rfl
theorem run_frombits (x : Int) (w : World) : (callFunc 186 #[.int .u64 x]).run Tryz.prog w = .ok (.value (.float .f64 x.toNat)) w := by
 rw [run_callFunc_extern (e := Extern.MathFloatBits.float64frombits) Tryz.func186 (by kernel_rfl) (by kernel_rfl) (by kernel_rfl) (by kernel_rfl)]
 rfl
attribute [local go_sem] run_bits run_frombits
theorem ret_int {k : IntKind} {a b : Int} (h : a = b) : Ending.returned (.int k a) = .returned (.int k b) := by rw [h]
theorem ret_bool {a b : Bool} (h : a = b) : Ending.returned (.bool a) = .returned (.bool b) := by rw [h]
theorem ret_float {k : FloatKind} {a b : Nat} (h : a = b) : Ending.returned (.float k a) = .returned (.float k b) := by rw [h]
theorem isNaN_walk {x : Nat} (hx : x < 18446744073709551616) (w : World) :
  Calls Tryz.prog 184 #[.float .f64 x] w fun e w' => e = .returned (.bool (nanB x)) ∧ w' = w := by
 go_in
 go_wp2
 all_goals (go_ret; exact ⟨ret_bool (order_self hx), rfl⟩)
def flagI (a b : Bool) : Int := if a = b then 0 else if b then -1 else 1
theorem flags_walk (a b : Bool) (w : World) :
  Calls Tryz.prog 296 #[.bool a, .bool b] w fun e w' => e = .returned (.int .i64 (flagI a b)) ∧ w' = w := by
 cases a <;> cases b <;>
 ·go_in
  go_wp2
  all_goals (go_ret; exact ⟨rfl, rfl⟩)
theorem signbit_walk {x : Nat} (hx : x < 18446744073709551616) (w : World) :
  Calls Tryz.prog 297 #[.float .f64 x] w fun e w' => e = .returned (.bool (negB x)) ∧ w' = w := by
 go_in
 go_wp2
 all_goals (go_ret; exact ⟨ret_bool (by unfold negB RowKit.wrap64; rw [Bool.eq_iff_iff]; simp; omega), rfl⟩)
theorem canon_walk {x : Nat} (hx : x < 18446744073709551616) (w : World) :
  Calls Tryz.prog 106 #[.float .f64 x] w fun e w' => e = .returned (.float .f64 (canonW x)) ∧ w' = w := by
 cases h : nanB x
 all_goals
  go_in
  go_wp2_with (go_at_call 184; refine (isNaN_walk hx _).mono ?_; rintro e w' ⟨rfl, rfl⟩)
  go_ret
  exact ⟨ret_float (by unfold canonW; rw [h]; rfl), rfl⟩
theorem order_walk {a b : Nat} (ha : a < 18446744073709551616) (hb : b < 18446744073709551616) (w : World) :
  Calls Tryz.prog 261 #[.float .f64 a, .float .f64 b] w fun e w' => e = .returned (.int .i64 (ordI a b)) ∧ w' = w := by
 cases h : FloatKind.f64.format.order a b with
 | none =>
  go_in
  go_wp2_with fail
  refine (isNaN_walk ha _).mono ?_
  rintro e w' ⟨rfl, rfl⟩
  go_wp2_with fail
  refine (isNaN_walk hb _).mono ?_
  rintro e w' ⟨rfl, rfl⟩
  go_wp2_with fail
  refine (flags_walk _ _ _).mono ?_
  rintro e w' ⟨rfl, rfl⟩
  go_wp2_with fail
  go_ret
  exact ⟨ret_int (ord_none ha hb h).symm, rfl⟩
 | some o =>
  cases o with
  | lt =>
   go_in
   go_wp2_with fail
   go_ret
   exact ⟨ret_int (ord_lt ha hb h).symm, rfl⟩
  | gt =>
   go_in
   go_wp2_with fail
   go_ret
   exact ⟨ret_int (ord_gt ha hb h).symm, rfl⟩
  | eq =>
   go_in
   go_wp2_with fail
   refine (signbit_walk ha _).mono ?_
   rintro e w' ⟨rfl, rfl⟩
   go_wp2_with fail
   refine (signbit_walk hb _).mono ?_
   rintro e w' ⟨rfl, rfl⟩
   go_wp2_with fail
   refine (flags_walk _ _ _).mono ?_
   rintro e w' ⟨rfl, rfl⟩
   go_wp2_with fail
   go_ret
   exact ⟨ret_int (by rw [ord_eq ha hb h]; unfold flagI; cases negB a <;> cases negB b <;> rfl), rfl⟩
theorem ordI_neg {a b : Nat} : ordI a b < 0 ↔ rank a < rank b := by unfold ordI; split <;> (try split) <;> omega
theorem ordI_pos {a b : Nat} : 0 < ordI a b ↔ rank b < rank a := by unfold ordI; split <;> (try split) <;> omega
theorem canon_lt {x : Nat} (hx : x < 18446744073709551616) : canonW x < 18446744073709551616 := by unfold canonW; split <;> omega
theorem canon_of_rank {a b : Nat} (ha : a < 18446744073709551616) (hb : b < 18446744073709551616) (h : rank a = rank b) : canonW a = canonW b := by
 have ra := rung_of ha; have rb := rung_of hb
 have la := rung_lt a; have lb := rung_lt b
 unfold rank at h; unfold canonW
 cases na : nanB a <;> cases nb : nanB b <;> rw [na, nb] at h <;> (first | replace na := nan_t na | replace na := nan_f na) <;> (first | replace nb := nan_t nb | replace nb := nan_f nb) <;>
 cases sa : negB a <;> cases sb : negB b <;> (have ga := sa; have gb := sb; simp only [sa, sb, Bool.false_eq_true, if_false, if_true] at h ra rb ⊢) <;> (first | replace ga := neg_t ga | replace ga := neg_f ga) <;> (first | replace gb := neg_t gb | replace gb := neg_f gb) <;> omega
theorem least_walk {a b : Nat} (ha : a < 18446744073709551616) (hb : b < 18446744073709551616) (w : World) :
  Calls Tryz.prog 220 #[.float .f64 a, .float .f64 b] w fun e w' => e = .returned (.float .f64 (leastW a b)) ∧ w' = w := by
 by_cases h : ordI a b < 0
 ·go_in
  go_wp2_with fail
  refine (order_walk ha hb _).mono ?_
  rintro e w' ⟨rfl, rfl⟩
  go_wp2_with fail
  refine (canon_walk ha _).mono ?_
  rintro e w' ⟨rfl, rfl⟩
  go_wp2_with fail
  go_ret
  have := ordI_neg.1 h
  exact ⟨ret_float (by unfold leastW; rw [if_pos (by omega)]), rfl⟩
 ·go_in
  go_wp2_with fail
  refine (order_walk ha hb _).mono ?_
  rintro e w' ⟨rfl, rfl⟩
  go_wp2_with fail
  refine (canon_walk hb _).mono ?_
  rintro e w' ⟨rfl, rfl⟩
  go_wp2_with fail
  go_ret
  have h' : ¬ rank a < rank b := fun k => by have := ordI_neg.2 k; omega
  refine ⟨ret_float ?_, rfl⟩
  unfold leastW
  split
  ·exact (canon_of_rank ha hb (by omega)).symm
  ·rfl
theorem most_walk {a b : Nat} (ha : a < 18446744073709551616) (hb : b < 18446744073709551616) (w : World) :
  Calls Tryz.prog 222 #[.float .f64 a, .float .f64 b] w fun e w' => e = .returned (.float .f64 (mostW a b)) ∧ w' = w := by
 by_cases h : 0 < ordI a b
 ·go_in
  go_wp2_with fail
  refine (order_walk ha hb _).mono ?_
  rintro e w' ⟨rfl, rfl⟩
  go_wp2_with fail
  refine (canon_walk ha _).mono ?_
  rintro e w' ⟨rfl, rfl⟩
  go_wp2_with fail
  go_ret
  have := ordI_pos.1 h
  exact ⟨ret_float (by unfold mostW; rw [if_pos (by omega)]), rfl⟩
 ·go_in
  go_wp2_with fail
  refine (order_walk ha hb _).mono ?_
  rintro e w' ⟨rfl, rfl⟩
  go_wp2_with fail
  refine (canon_walk hb _).mono ?_
  rintro e w' ⟨rfl, rfl⟩
  go_wp2_with fail
  go_ret
  have h' : ¬ rank b < rank a := fun k => by have := ordI_pos.2 k; omega
  refine ⟨ret_float ?_, rfl⟩
  unfold mostW
  split
  ·exact (canon_of_rank ha hb (by omega)).symm
  ·rfl
theorem of_walk (n : Int) (w : World) :
  Calls Tryz.prog 295 #[.int .i64 n] w fun e w' => e = .returned (.float .f64 (FloatKind.f64.nearest n)) ∧ w' = w := by
 go_in
 go_wp2
 go_ret
 exact ⟨rfl, rfl⟩
theorem abs_bits {x : Nat} (hx : x < 18446744073709551616) : (bits .andNot .u64 (x : Int) 9223372036854775808).toNat = rung x := by
 have h := u64_andNot_nat x 9223372036854775808 hx (by omega)
 rw [show ((9223372036854775808 : Nat) : Int) = 9223372036854775808 from rfl] at h
 rw [h, Int.toNat_natCast]
 exact Nat.and_two_pow_sub_one_eq_mod x 63
theorem abs_walk {x : Nat} (hx : x < 18446744073709551616) (w : World) :
  Calls Tryz.prog 292 #[.float .f64 x] w fun e w' => e = .returned (.float .f64 (rung x)) ∧ w' = w := by
 go_in
 go_wp2
 go_ret
 exact ⟨ret_float (abs_bits hx), rfl⟩
def classI (x : Nat) : Int := if nanB x then 5 else if 9218868437227405312 ≤ rung x then 4 else if 4503599627370496 ≤ rung x then 3 else if 0 < rung x then 2 else 1
theorem key_rung (x : Nat) : key (rung x) = rung x := by
 have := rung_lt x
 have h : rung (rung x) = rung x := by unfold rung; omega
 unfold key
 rw [h]
 have : negB (rung x) = false := by unfold negB; simp; omega
 rw [this]; rfl
theorem nan_rung (x : Nat) : nanB (rung x) = nanB x := by
 have h : rung (rung x) = rung x := by unfold rung; omega
 unfold nanB; rw [h]
theorem order_rung {x c : Nat} (nx : nanB x = false) (hc : c ≤ 9218868437227405312) :
  Ieee.double.order (rung x) c = some (cmpI (rung x) c) := by
 have := rung_lt x
 have hr : rung c = c := by unfold rung; omega
 have nc : nanB c = false := by unfold nanB; simp; omega
 have kc : key c = c := by have := key_rung c; rw [hr] at this; exact this
 rw [order_key (by omega) (by omega) (by rw [nan_rung]; exact nx) nc, key_rung, kc]
theorem class_walk {x : Nat} (hx : x < 18446744073709551616) (w : World) :
  Calls Tryz.prog 257 #[.float .f64 x] w fun e w' => e = .returned (.int .i64 (classI x)) ∧ w' = w := by
 cases hn : nanB x
 ·have h1 : FloatKind.f64.format.order (rung x) 9218868437227405311 = some (cmpI (rung x) (9218868437227405311 : Nat)) := order_rung (c := 9218868437227405311) hn (by omega)
  have h2 : FloatKind.f64.format.order (rung x) 4503599627370496 = some (cmpI (rung x) (4503599627370496 : Nat)) := order_rung (c := 4503599627370496) hn (by omega)
  have h3 : FloatKind.f64.format.order (rung x) 0 = some (cmpI (rung x) (0 : Nat)) := order_rung (c := 0) hn (by omega)
  have hr := nan_f hn
  by_cases c1 : 9218868437227405312 ≤ rung x
  ·rw [show cmpI (rung x) (9218868437227405311 : Nat) = .gt by unfold cmpI; rw [if_neg (by omega), if_neg (by omega)]] at h1
   clear h2 h3
   go_in
   go_wp2_with fail
   refine (abs_walk hx _).mono ?_
   rintro e w' ⟨rfl, rfl⟩
   go_wp2_with fail
   refine (isNaN_walk hx _).mono ?_
   rintro e w' ⟨rfl, rfl⟩
   go_wp2_with fail
   go_ret
   exact ⟨ret_int (by unfold classI; rw [hn]; simp only [Bool.false_eq_true, if_false]; (repeat' split) <;> omega), rfl⟩
  have h1' : FloatKind.f64.format.order (rung x) 9218868437227405311 = some .lt ∨ FloatKind.f64.format.order (rung x) 9218868437227405311 = some .eq := by
   rw [h1]; unfold cmpI
   by_cases c : (rung x : Int) < (9218868437227405311 : Nat)
   ·rw [if_pos c]; exact .inl rfl
   ·rw [if_neg c, if_pos (by omega)]; exact .inr rfl
  clear h1
  by_cases c2 : 4503599627370496 ≤ rung x
  ·have h2' : FloatKind.f64.format.order (rung x) 4503599627370496 = some .gt ∨ FloatKind.f64.format.order (rung x) 4503599627370496 = some .eq := by
    rw [h2]; unfold cmpI
    rw [if_neg (by omega)]
    by_cases c : (rung x : Int) = (4503599627370496 : Nat)
    ·rw [if_pos c]; exact .inr rfl
    ·rw [if_neg c]; exact .inl rfl
   clear h2 h3
   rcases h1' with h1 | h1 <;> rcases h2' with h2 | h2
   all_goals
    go_in
    go_wp2_with fail
    refine (abs_walk hx _).mono ?_
    rintro e w' ⟨rfl, rfl⟩
    go_wp2_with fail
    refine (isNaN_walk hx _).mono ?_
    rintro e w' ⟨rfl, rfl⟩
    go_wp2_with fail
    go_ret
    exact ⟨ret_int (by unfold classI; rw [hn]; simp only [Bool.false_eq_true, if_false]; (repeat' split) <;> omega), rfl⟩
  ·rw [show cmpI (rung x) (4503599627370496 : Nat) = .lt by unfold cmpI; rw [if_pos (by omega)]] at h2
   by_cases c3 : 0 < rung x
   ·rw [show cmpI (rung x) (0 : Nat) = .gt by unfold cmpI; rw [if_neg (by omega), if_neg (by omega)]] at h3
    rcases h1' with h1 | h1
    all_goals
     go_in
     go_wp2_with fail
     refine (abs_walk hx _).mono ?_
     rintro e w' ⟨rfl, rfl⟩
     go_wp2_with fail
     refine (isNaN_walk hx _).mono ?_
     rintro e w' ⟨rfl, rfl⟩
     go_wp2_with fail
     go_ret
     exact ⟨ret_int (by unfold classI; rw [hn]; simp only [Bool.false_eq_true, if_false]; (repeat' split) <;> omega), rfl⟩
   ·rw [show cmpI (rung x) (0 : Nat) = .eq by unfold cmpI; rw [if_neg (by omega), if_pos (by omega)]] at h3
    rcases h1' with h1 | h1
    all_goals
     go_in
     go_wp2_with fail
     refine (abs_walk hx _).mono ?_
     rintro e w' ⟨rfl, rfl⟩
     go_wp2_with fail
     refine (isNaN_walk hx _).mono ?_
     rintro e w' ⟨rfl, rfl⟩
     go_wp2_with fail
     go_ret
     exact ⟨ret_int (by unfold classI; rw [hn]; simp only [Bool.false_eq_true, if_false]; (repeat' split) <;> omega), rfl⟩
 ·go_in
  go_wp2_with fail
  refine (abs_walk hx _).mono ?_
  rintro e w' ⟨rfl, rfl⟩
  go_wp2_with fail
  refine (isNaN_walk hx _).mono ?_
  rintro e w' ⟨rfl, rfl⟩
  go_wp2_with fail
  go_ret
  exact ⟨ret_int (by unfold classI; rw [hn]; rfl), rfl⟩
end
section
open Ieee

def rhe (n d : Nat) : Nat := n / 2 ^ d + (if 2 ^ d < 2 * (n % 2 ^ d) ∨ (2 ^ d = 2 * (n % 2 ^ d) ∧ n / 2 ^ d % 2 = 1) then 1 else 0)
theorem gap_cases (n d : Nat) : (min d (n.log2 + 2) = d) ∨ (n / 2 ^ d = 0 ∧ n % 2 ^ d = n ∧ 2 * n < 2 ^ d ∧ n / 2 ^ min d (n.log2 + 2) = 0 ∧ n % 2 ^ min d (n.log2 + 2) = n ∧ 2 * n < 2 ^ min d (n.log2 + 2)) := by
 by_cases h : d ≤ n.log2 + 2
 ·left; omega
 ·right
  have e : min d (n.log2 + 2) = n.log2 + 2 := by omega
  rw [e]
  have h1 : n < 2 ^ (n.log2 + 1) := Nat.lt_log2_self
  have h2 : 2 ^ (n.log2 + 2) = 2 * 2 ^ (n.log2 + 1) := by rw [Nat.pow_succ (m := n.log2 + 1)]; omega
  have h3 : 2 ^ (n.log2 + 2) ≤ 2 ^ d := Nat.pow_le_pow_right (by omega) (by omega)
  refine ⟨Nat.div_eq_of_lt (by omega), Nat.mod_eq_of_lt (by omega), by omega, Nat.div_eq_of_lt (by omega), Nat.mod_eq_of_lt (by omega), by omega⟩
theorem cut_even (s : Bool) (n d : Nat) : Toward.even.cut s n d = rhe n d := by
 unfold Toward.cut rhe
 simp only [Nat.one_shiftLeft]
 rcases gap_cases n d with h | ⟨h1, h2, h3, h4, h5, h6⟩
 ·rw [h]
  congr 1
  by_cases c : 2 ^ d < 2 * (n % 2 ^ d) ∨ 2 ^ d = 2 * (n % 2 ^ d) ∧ n / 2 ^ d % 2 = 1
  ·rw [if_pos c]
   have : (decide (2 ^ d < 2 * (n % 2 ^ d)) || 2 ^ d == 2 * (n % 2 ^ d) && n / 2 ^ d % 2 == 1) = true := by simpa using c
   rw [this]; rfl
  ·rw [if_neg c]
   have : (decide (2 ^ d < 2 * (n % 2 ^ d)) || 2 ^ d == 2 * (n % 2 ^ d) && n / 2 ^ d % 2 == 1) = false := by
    rw [Bool.eq_false_iff]; intro hh; apply c; simpa using hh
   rw [this]; rfl
 ·rw [h1, h2, h4, h5, if_neg (by omega)]
  have : (decide (2 ^ min d (n.log2 + 2) < 2 * n) || 2 ^ min d (n.log2 + 2) == 2 * n && 0 % 2 == 1) = false := by
   simp; omega
  rw [this]; rfl
theorem cut_zero (s : Bool) (n d : Nat) : Toward.zero.cut s n d = n / 2 ^ d := by
 unfold Toward.cut
 simp only [Nat.one_shiftLeft]
 rcases gap_cases n d with h | ⟨h1, h2, h3, h4, h5, h6⟩
 ·rw [h]; rfl
 ·rw [h1, h4]; rfl
theorem rhe_zero (n : Nat) : rhe n 0 = n := by unfold rhe; simp; omega
theorem rhe_scale (n c d : Nat) : rhe (n * 2 ^ c) (d + c) = rhe n d := by
 have hc := Nat.two_pow_pos c
 unfold rhe
 rw [Nat.pow_add, Nat.mul_div_mul_right _ _ hc, Nat.mul_mod_mul_right]
 congr 1
 have e1 : 2 ^ d * 2 ^ c < 2 * (n % 2 ^ d * 2 ^ c) ↔ 2 ^ d < 2 * (n % 2 ^ d) := by
  rw [← Nat.mul_assoc]; exact Nat.mul_lt_mul_right hc
 have e2 : 2 ^ d * 2 ^ c = 2 * (n % 2 ^ d * 2 ^ c) ↔ 2 ^ d = 2 * (n % 2 ^ d) := by
  rw [← Nat.mul_assoc]; exact Nat.mul_left_inj (by omega)
 simp only [e1, e2]
theorem rhe_exact (n c d : Nat) (h : d ≤ c) : rhe (n * 2 ^ c) d = n * 2 ^ (c - d) := by
 have := rhe_scale (n * 2 ^ (c - d)) d 0
 rw [Nat.mul_assoc, ← Nat.pow_add, Nat.sub_add_cancel h, Nat.zero_add, rhe_zero] at this
 exact this
theorem log2_scale {M : Nat} (hM : M ≠ 0) (c : Nat) : (M * 2 ^ c).log2 = M.log2 + c := by
 have h1 := Nat.log2_self_le hM
 have h2 := @Nat.lt_log2_self M
 have hne : M * 2 ^ c ≠ 0 := Nat.mul_ne_zero hM (Nat.ne_of_gt (Nat.two_pow_pos c))
 apply Nat.le_antisymm
 ·have : (M * 2 ^ c).log2 < M.log2 + c + 1 := by
   rw [Nat.log2_lt hne]
   have := Nat.mul_lt_mul_of_pos_right h2 (Nat.two_pow_pos c)
   rw [← Nat.pow_add] at this
   rw [show M.log2 + c + 1 = M.log2 + 1 + c by omega]; exact this
  omega
 ·rw [Nat.le_log2 hne, Nat.pow_add]
  exact Nat.mul_le_mul_right _ h1
def lastP (M : Nat) (P : Int) : Int := max (P + (M.log2 : Int) - 52) (-1074)
theorem nearest_eq (s : Bool) {M : Nat} (hM : M ≠ 0) (P : Int) :
  Ieee.double.nearest s M P = Ieee.double.word s (min ((lastP M P + 1074).toNat * 4503599627370496 + rhe (M * 2 ^ (P - lastP M P).toNat) (lastP M P - P).toNat) 9218868437227405312) := by
 unfold Format.nearest
 rw [if_neg hM]
 simp only [lp, bn, ir, cut_even, Nat.shiftLeft_eq]
 rw [show ((Ieee.double.fractionBits : Nat) : Int) = 52 from rfl]
 unfold lastP
 rw [show ∀ a : Int, a - -1074 = a + 1074 from fun a => by omega]
theorem nearest_zero (s : Bool) (P : Int) : Ieee.double.nearest s 0 P = Ieee.double.word s 0 := by
 unfold Format.nearest; rw [if_pos rfl]
theorem nearest_scale (s : Bool) (M : Nat) (P : Int) (c : Nat) : Ieee.double.nearest s (M * 2 ^ c) (P - c) = Ieee.double.nearest s M P := by
 by_cases hM : M = 0
 ·subst hM; rw [Nat.zero_mul, nearest_zero, nearest_zero]
 have hne : M * 2 ^ c ≠ 0 := Nat.mul_ne_zero hM (Nat.ne_of_gt (Nat.two_pow_pos c))
 rw [nearest_eq s hne, nearest_eq s hM]
 have hl : lastP (M * 2 ^ c) (P - c) = lastP M P := by
  unfold lastP; rw [log2_scale hM]; omega
 rw [hl]
 congr 3
 generalize lastP M P = L
 by_cases h : P ≤ L
 ·rw [show (P - c - L).toNat = 0 by omega, show (P - L).toNat = 0 by omega, show (L - (P - c)).toNat = (L - P).toNat + c by omega]
  rw [Nat.pow_zero, Nat.mul_one, Nat.mul_one, rhe_scale]
 ·rw [show (L - P).toNat = 0 by omega, rhe_zero]
  by_cases h2 : L ≤ P - c
  ·rw [show (L - (P - c)).toNat = 0 by omega, rhe_zero, Nat.mul_assoc, ← Nat.pow_add]
   congr 2; omega
  ·rw [show (P - c - L).toNat = 0 by omega, Nat.pow_zero, Nat.mul_one, rhe_exact _ _ _ (by omega)]
   congr 2; omega
theorem word_lt64 (s : Bool) {r : Nat} (h : r < 9223372036854775808) : Ieee.double.word s r < 18446744073709551616 := by
 unfold Format.word; rw [sw]; split <;> omega
theorem rung_word (s : Bool) {r : Nat} (h : r < 9223372036854775808) : rung (Ieee.double.word s r) = r := by
 unfold Format.word rung; rw [sw]; split <;> omega
theorem neg_word (s : Bool) {r : Nat} (h : r < 9223372036854775808) : negB (Ieee.double.word s r) = s := by
 unfold Format.word negB; rw [sw]; cases s <;> simp <;> omega
theorem word_self {x : Nat} (hx : x < 18446744073709551616) : Ieee.double.word (negB x) (rung x) = x := by
 have := rung_of hx
 unfold Format.word; rw [sw, this]
 cases h : negB x
 ·rfl
 ·have := neg_t h; simp; omega
theorem mag_ne {r : Nat} (h : r ≠ 0) : mag r ≠ 0 := by unfold mag; split <;> omega
theorem log2_mag {r : Nat} (h : 4503599627370496 ≤ r) : (mag r).log2 = 52 := by
 have h1 : 4503599627370496 ≤ mag r := by unfold mag; split <;> omega
 have h2 := mag_lt r
 have hne : mag r ≠ 0 := by omega
 apply Nat.le_antisymm
 ·have : (mag r).log2 < 53 := by rw [Nat.log2_lt hne]; exact h2
  omega
 ·rw [Nat.le_log2 hne]; exact h1
theorem nearest_rung (s : Bool) {r : Nat} (h : r ≤ 9218868437227405312) : Ieee.double.nearest s (mag r) (-1074 + (sh r : Nat)) = Ieee.double.word s r := by
 by_cases h0 : r = 0
 ·subst h0; exact nearest_zero s _
 rw [nearest_eq s (mag_ne h0)]
 by_cases h1 : r < 4503599627370496
 ·have e1 : sh r = 0 := by unfold sh; omega
  have e2 : mag r = r := by unfold mag; rw [if_pos h1]
  have e3 : r.log2 < 52 := by rw [Nat.log2_lt h0]; exact h1
  have e4 : lastP r (-1074 + (0 : Nat)) = -1074 := by unfold lastP; omega
  rw [e1, e2, e4]
  simp only [Int.natCast_zero, Int.add_zero, Int.sub_self, Int.toNat_zero, Nat.pow_zero, Nat.mul_one, rhe_zero]
  rw [show ((-1074 : Int) + 1074).toNat = 0 from rfl, Nat.zero_mul, Nat.zero_add, Nat.min_eq_left h]
 ·have e3 := log2_mag (r := r) (by omega)
  have e4 : lastP (mag r) (-1074 + (sh r : Nat)) = -1074 + (sh r : Nat) := by unfold lastP; rw [e3]; omega
  rw [e4]
  simp only [Int.sub_self, Int.toNat_zero, Nat.pow_zero, Nat.mul_one, rhe_zero]
  rw [show ((-1074 : Int) + (sh r : Nat) + 1074).toNat = sh r by omega]
  congr 1
  have : sh r * 4503599627370496 + mag r = r := by
   unfold sh mag; rw [if_neg h1]; omega
  rw [this, Nat.min_eq_left h]
theorem nearest_nan (s : Bool) (M : Nat) (P : Int) : nanB (Ieee.double.nearest s M P) = false := by
 by_cases hM : M = 0
 ·subst hM; rw [nearest_zero]; unfold nanB; rw [rung_word s (by omega)]; rfl
 ·rw [nearest_eq s hM]; unfold nanB; rw [rung_word s (by omega)]; simp; omega
theorem nearest_neg (s : Bool) (M : Nat) (P : Int) : negB (Ieee.double.nearest s M P) = s := by
 by_cases hM : M = 0
 ·subst hM; rw [nearest_zero]; exact neg_word s (by omega)
 ·rw [nearest_eq s hM]; exact neg_word s (by omega)
theorem nearest_lt64 (s : Bool) (M : Nat) (P : Int) : Ieee.double.nearest s M P < 18446744073709551616 := Ieee.double.nearest_lt s M P
end
section
open Ieee Go.RowKit

theorem order_cases {x y : Nat} {c : Int} (hx : x < 18446744073709551616) (hy : y < 18446744073709551616) (nx : nanB x = false) (ny : nanB y = false) (hc : key y = c) :
  (FloatKind.f64.format.order x y = some .lt ∧ key x < c) ∨ (FloatKind.f64.format.order x y = some .eq ∧ key x = c) ∨ (FloatKind.f64.format.order x y = some .gt ∧ c < key x) := by
 have h : FloatKind.f64.format.order x y = some (cmpI (key x) (key y)) := order_key hx hy nx ny
 rw [h, hc]
 unfold cmpI
 by_cases c1 : key x < c
 ·left; rw [if_pos c1]; exact ⟨rfl, c1⟩
 ·by_cases c2 : key x = c
  ·right; left; rw [if_neg c1, if_pos c2]; exact ⟨rfl, c2⟩
  ·right; right; rw [if_neg c1, if_neg c2]; exact ⟨rfl, by omega⟩
def wn (r : Nat) : Nat := if 1074 ≤ sh r then mag r * 2 ^ (sh r - 1074) else mag r / 2 ^ (1074 - sh r)
def wholeI (x : Nat) : Int := if nanB x then 0 else if 4890909195324358656 ≤ rung x then (if negB x then -9223372036854775808 else 9223372036854775807) else if negB x then -(wn (rung x) : Int) else wn (rung x)
theorem toInt_zero {x : Nat} (hx : x < 18446744073709551616) (h : rung x < 9218868437227405312) :
  (FloatKind.f64.decode x).toInt .zero = some (if negB x then -(wn (rung x) : Int) else wn (rung x)) := by
 unfold FloatKind.decode Datum.toInt
 rw [show FloatKind.f64.format = Ieee.double from rfl, read_num hx h]
 simp only [Datum.integral, cut_zero, signed, Nat.shiftLeft_eq, Nat.pow_zero, Nat.mul_one]
 have e : mag (rung x) * 2 ^ (-1074 + ((sh (rung x) : Nat) : Int)).toNat / 2 ^ (-(-1074 + ((sh (rung x) : Nat) : Int))).toNat = wn (rung x) := by
  unfold wn
  by_cases c : 1074 ≤ sh (rung x)
  ·rw [if_pos c, show (-1074 + ((sh (rung x) : Nat) : Int)).toNat = sh (rung x) - 1074 by omega, show (-(-1074 + ((sh (rung x) : Nat) : Int))).toNat = 0 by omega, Nat.pow_zero, Nat.div_one]
  ·rw [if_neg c, show (-1074 + ((sh (rung x) : Nat) : Int)).toNat = 0 by omega, show (-(-1074 + ((sh (rung x) : Nat) : Int))).toNat = 1074 - sh (rung x) by omega, Nat.pow_zero, Nat.mul_one]
 rw [e]
theorem wn_lt {r : Nat} (h : r < 4890909195324358656) : wn r < 9223372036854775808 := by
 have hm := mag_lt r
 unfold wn
 split
 ·rename_i c
  have h1 : sh r ≤ 1084 := by unfold sh; omega
  have h2 : 2 ^ (sh r - 1074) ≤ 2 ^ 10 := Nat.pow_le_pow_right (by omega) (by omega)
  have h3 : mag r * 2 ^ (sh r - 1074) ≤ mag r * 2 ^ 10 := Nat.mul_le_mul_left _ h2
  omega
 ·have := Nat.div_le_self (mag r) (2 ^ (1074 - sh r)); omega
theorem wn_end : wn 4890909195324358656 = 9223372036854775808 := by decide
theorem conv_val {x : Nat} (hx : x < 18446744073709551616) (h : rung x < 4890909195324358656 ∨ (rung x = 4890909195324358656 ∧ negB x = true)) :
  floatToIntVal .f64 x .i64 = some (if negB x then -(wn (rung x) : Int) else wn (rung x)) := by
 unfold floatToIntVal
 rw [toInt_zero hx (by omega)]
 simp only
 rw [if_pos]
 rw [show IntKind.i64.min = -9223372036854775808 from rfl, show IntKind.i64.max = 9223372036854775807 from rfl]
 rcases h with h | ⟨h, hn⟩
 ·have := wn_lt h; split <;> omega
 ·rw [h, wn_end, hn]; simp
theorem whole_walk {x : Nat} (hx : x < 18446744073709551616) (w : World) :
  Calls Tryz.prog 104 #[.float .f64 x] w fun e w' => e = .returned (.int .i64 (wholeI x)) ∧ w' = w := by
 cases hn : nanB x
 ·have big : Hid (4890909195324358656 ≤ key x → wholeI x = 9223372036854775807) := by
   intro c1
   unfold wholeI; rw [hn]
   unfold key at c1
   cases hs : negB x <;> rw [hs] at c1 <;> simp only [Bool.false_eq_true, if_false, if_true] at c1 ⊢
   ·rw [if_pos (by omega)]
   ·omega
  have low : Hid (key x < -4890909195324358656 → wholeI x = -9223372036854775808) := by
   intro c2
   unfold wholeI; rw [hn]
   unfold key at c2
   cases hs : negB x <;> rw [hs] at c2 <;> simp only [Bool.false_eq_true, if_false, if_true] at c2 ⊢
   ·omega
   ·rw [if_pos (by omega)]
  have mid : Hid (key x < 4890909195324358656 → -4890909195324358656 ≤ key x → ∀ w : World, (convert 79 2 (.float .f64 x)).run Tryz.prog w = .ok (.int .i64 (wholeI x)) w) := by
   intro c1 c2
   have hk : rung x < 4890909195324358656 ∨ (rung x = 4890909195324358656 ∧ negB x = true) := by
    unfold key at c1 c2
    cases hs : negB x <;> rw [hs] at c1 c2 <;> simp only [Bool.false_eq_true, if_false, if_true] at c1 c2 ⊢
    ·left; omega
    ·by_cases c : rung x = 4890909195324358656
     ·right; exact ⟨c, trivial⟩
     ·left; omega
   have hv := conv_val hx hk
   have hw : wholeI x = if negB x then -(wn (rung x) : Int) else wn (rung x) := by
    unfold wholeI; rw [hn]
    simp only [Bool.false_eq_true, if_false]
    rcases hk with hk | ⟨hk, hs⟩
    ·rw [if_neg (by omega)]
    ·rw [if_pos (by omega), hs, hk, wn_end]; rfl
   rw [← hw] at hv
   exact fun w => run_convert_float_int w 79 2 .f64 .i64 x _ (by rw [Tryz.underlying79]; rfl) Tryz.underlying2 hv
  rcases order_cases (y := 4890909195324358656) hx (by omega) hn (by decide) (c := 4890909195324358656) (by decide) with ⟨h1, k1⟩ | ⟨h1, k1⟩ | ⟨h1, k1⟩
  ·rcases order_cases (y := 14114281232179134464) hx (by omega) hn (by decide) (c := -4890909195324358656) (by decide) with ⟨h2, k2⟩ | ⟨h2, k2⟩ | ⟨h2, k2⟩
   ·clear k1
    go_in
    go_wp2_with fail
    refine (isNaN_walk hx _).mono ?_
    rintro e w' ⟨rfl, rfl⟩
    go_wp2_with fail
    go_ret
    exact ⟨ret_int (low k2).symm, rfl⟩
   ·have hr := mid k1 (by omega)
    clear k1 k2
    go_in
    go_wp2_with fail
    refine (isNaN_walk hx _).mono ?_
    rintro e w' ⟨rfl, rfl⟩
    go_wp2_with fail
    go_ret
    exact ⟨rfl, rfl⟩
   ·have hr := mid k1 (by omega)
    clear k1 k2
    go_in
    go_wp2_with fail
    refine (isNaN_walk hx _).mono ?_
    rintro e w' ⟨rfl, rfl⟩
    go_wp2_with fail
    go_ret
    exact ⟨rfl, rfl⟩
  ·have k := big (by omega)
   have K : Hid (wholeI x = 9223372036854775807) := k
   clear k k1
   go_in
   go_wp2_with fail
   refine (isNaN_walk hx _).mono ?_
   rintro e w' ⟨rfl, rfl⟩
   go_wp2_with fail
   go_ret
   exact ⟨ret_int (Eq.symm K), rfl⟩
  ·have k := big (by omega)
   have K : Hid (wholeI x = 9223372036854775807) := k
   clear k k1
   go_in
   go_wp2_with fail
   refine (isNaN_walk hx _).mono ?_
   rintro e w' ⟨rfl, rfl⟩
   go_wp2_with fail
   go_ret
   exact ⟨ret_int (Eq.symm K), rfl⟩
 ·go_in
  go_wp2_with fail
  refine (isNaN_walk hx _).mono ?_
  rintro e w' ⟨rfl, rfl⟩
  go_wp2_with fail
  go_ret
  exact ⟨ret_int (by unfold wholeI; rw [hn]; rfl), rfl⟩
end
end Go.Proofs.YtofkhgokfdpdiaaGreat
