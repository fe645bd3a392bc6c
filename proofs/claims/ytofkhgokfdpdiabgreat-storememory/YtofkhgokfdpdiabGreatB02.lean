/- Short words for the rows of regions that draw. -/
import Derived.Test.YtofkhgokfdpdiabGreatChecked
import Derived.Test.YtofkhgokfdpdiabGreatB01
import Derived.WalkKit
import Derived.ProofKit
import Derived.Deep.Draws
import Derived.Deep.RegionHeld3
import Derived.Lib.Hide
set_option maxRecDepth 100000
set_option maxHeartbeats 16000000
namespace Go.Proofs.YtofkhgokfdpdiabGreat
section
theorem run_bits (x : Nat) (w : World) : (callFunc 147 #[.float .f64 x]).run Tryz.prog w = .ok (.value (.int .u64 x)) w := by
 rw [run_callFunc_extern (e := Extern.MathFloatBits.float64bits) Tryz.func147 (by kernel_rfl) (by kernel_rfl) (by kernel_rfl) (by kernel_rfl)]
 rfl
theorem run_frombits (x : Int) (w : World) : (callFunc 140 #[.int .u64 x]).run Tryz.prog w = .ok (.value (.float .f64 x.toNat)) w := by
 rw [run_callFunc_extern (e := Extern.MathFloatBits.float64frombits) Tryz.func140 (by kernel_rfl) (by kernel_rfl) (by kernel_rfl) (by kernel_rfl)]
 rfl
attribute [local go_sem] run_bits run_frombits
theorem ret_int {k : IntKind} {a b : Int} (h : a = b) : Ending.returned (.int k a) = .returned (.int k b) := by rw [h]
theorem ret_bool {a b : Bool} (h : a = b) : Ending.returned (.bool a) = .returned (.bool b) := by rw [h]
theorem ret_float {k : FloatKind} {a b : Nat} (h : a = b) : Ending.returned (.float k a) = .returned (.float k b) := by rw [h]
theorem isNaN_walk {x : Nat} (hx : x < 18446744073709551616) (w : World) :
  Calls Tryz.prog 139 #[.float .f64 x] w fun e w' => e = .returned (.bool (nanB x)) ∧ w' = w := by
 go_in
 go_wp2
 all_goals (go_ret; exact ⟨ret_bool (order_self hx), rfl⟩)
def flagI (a b : Bool) : Int := if a = b then 0 else if b then -1 else 1
theorem flags_walk (a b : Bool) (w : World) :
  Calls Tryz.prog 203 #[.bool a, .bool b] w fun e w' => e = .returned (.int .i64 (flagI a b)) ∧ w' = w := by
 cases a <;> cases b <;>
 ·go_in
  go_wp2
  all_goals (go_ret; exact ⟨rfl, rfl⟩)
theorem signbit_walk {x : Nat} (hx : x < 18446744073709551616) (w : World) :
  Calls Tryz.prog 204 #[.float .f64 x] w fun e w' => e = .returned (.bool (negB x)) ∧ w' = w := by
 go_in
 go_wp2
 all_goals (go_ret; exact ⟨ret_bool (by unfold negB RowKit.wrap64; rw [Bool.eq_iff_iff]; simp; omega), rfl⟩)
theorem canon_walk {x : Nat} (hx : x < 18446744073709551616) (w : World) :
  Calls Tryz.prog 97 #[.float .f64 x] w fun e w' => e = .returned (.float .f64 (canonW x)) ∧ w' = w := by
 cases h : nanB x
 all_goals
  go_in
  go_wp2_with (go_at_call 139; refine (isNaN_walk hx _).mono ?_; rintro e w' ⟨rfl, rfl⟩)
  go_ret
  exact ⟨ret_float (by unfold canonW; rw [h]; rfl), rfl⟩
theorem order_walk {a b : Nat} (ha : a < 18446744073709551616) (hb : b < 18446744073709551616) (w : World) :
  Calls Tryz.prog 181 #[.float .f64 a, .float .f64 b] w fun e w' => e = .returned (.int .i64 (ordI a b)) ∧ w' = w := by
 cases h : FloatKind.f64.format.order a b with
 | none =>
  go_in
  go_wp2_with fail
  refine (isNaN_walk ha _).mono ?_
  rintro e w' ⟨rfl, rfl⟩
  go_wp2_with fail
  refine (isNaN_walk hb _).mono ?_
  rintro e w' ⟨rfl, rfl⟩
  go_wp2_with fail
  refine (flags_walk _ _ _).mono ?_
  rintro e w' ⟨rfl, rfl⟩
  go_wp2_with fail
  go_ret
  exact ⟨ret_int (ord_none ha hb h).symm, rfl⟩
 | some o =>
  cases o with
  | lt =>
   go_in
   go_wp2_with fail
   go_ret
   exact ⟨ret_int (ord_lt ha hb h).symm, rfl⟩
  | gt =>
   go_in
   go_wp2_with fail
   go_ret
   exact ⟨ret_int (ord_gt ha hb h).symm, rfl⟩
  | eq =>
   go_in
   go_wp2_with fail
   refine (signbit_walk ha _).mono ?_
   rintro e w' ⟨rfl, rfl⟩
   go_wp2_with fail
   refine (signbit_walk hb _).mono ?_
   rintro e w' ⟨rfl, rfl⟩
   go_wp2_with fail
   refine (flags_walk _ _ _).mono ?_
   rintro e w' ⟨rfl, rfl⟩
   go_wp2_with fail
   go_ret
   exact ⟨ret_int (by rw [ord_eq ha hb h]; unfold flagI; cases negB a <;> cases negB b <;> rfl), rfl⟩
theorem ordI_neg {a b : Nat} : ordI a b < 0 ↔ rank a < rank b := by unfold ordI; split <;> (try split) <;> omega
theorem ordI_pos {a b : Nat} : 0 < ordI a b ↔ rank b < rank a := by unfold ordI; split <;> (try split) <;> omega
theorem canon_lt {x : Nat} (hx : x < 18446744073709551616) : canonW x < 18446744073709551616 := by unfold canonW; split <;> omega
theorem canon_of_rank {a b : Nat} (ha : a < 18446744073709551616) (hb : b < 18446744073709551616) (h : rank a = rank b) : canonW a = canonW b := by
 have ra := rung_of ha; have rb := rung_of hb
 have la := rung_lt a; have lb := rung_lt b
 unfold rank at h; unfold canonW
 cases na : nanB a <;> cases nb : nanB b <;> rw [na, nb] at h <;> (first | replace na := nan_t na | replace na := nan_f na) <;> (first | replace nb := nan_t nb | replace nb := nan_f nb) <;>
 cases sa : negB a <;> cases sb : negB b <;> (have ga := sa; have gb := sb; simp only [sa, sb, Bool.false_eq_true, if_false, if_true] at h ra rb ⊢) <;> (first | replace ga := neg_t ga | replace ga := neg_f ga) <;> (first | replace gb := neg_t gb | replace gb := neg_f gb) <;> omega
theorem least_walk {a b : Nat} (ha : a < 18446744073709551616) (hb : b < 18446744073709551616) (w : World) :
  Calls Tryz.prog 145 #[.float .f64 a, .float .f64 b] w fun e w' => e = .returned (.float .f64 (leastW a b)) ∧ w' = w := by
 by_cases h : ordI a b < 0
 ·go_in
  go_wp2_with fail
  refine (order_walk ha hb _).mono ?_
  rintro e w' ⟨rfl, rfl⟩
  go_wp2_with fail
  refine (canon_walk ha _).mono ?_
  rintro e w' ⟨rfl, rfl⟩
  go_wp2_with fail
  go_ret
  have := ordI_neg.1 h
  exact ⟨ret_float (by unfold leastW; rw [if_pos (by omega)]), rfl⟩
 ·go_in
  go_wp2_with fail
  refine (order_walk ha hb _).mono ?_
  rintro e w' ⟨rfl, rfl⟩
  go_wp2_with fail
  refine (canon_walk hb _).mono ?_
  rintro e w' ⟨rfl, rfl⟩
  go_wp2_with fail
  go_ret
  have h' : ¬ rank a < rank b := fun k => by have := ordI_neg.2 k; omega
  refine ⟨ret_float ?_, rfl⟩
  unfold leastW
  split
  ·exact (canon_of_rank ha hb (by omega)).symm
  ·rfl
theorem most_walk {a b : Nat} (ha : a < 18446744073709551616) (hb : b < 18446744073709551616) (w : World) :
  Calls Tryz.prog 146 #[.float .f64 a, .float .f64 b] w fun e w' => e = .returned (.float .f64 (mostW a b)) ∧ w' = w := by
 by_cases h : 0 < ordI a b
 ·go_in
  go_wp2_with fail
  refine (order_walk ha hb _).mono ?_
  rintro e w' ⟨rfl, rfl⟩
  go_wp2_with fail
  refine (canon_walk ha _).mono ?_
  rintro e w' ⟨rfl, rfl⟩
  go_wp2_with fail
  go_ret
  have := ordI_pos.1 h
  exact ⟨ret_float (by unfold mostW; rw [if_pos (by omega)]), rfl⟩
 ·go_in
  go_wp2_with fail
  refine (order_walk ha hb _).mono ?_
  rintro e w' ⟨rfl, rfl⟩
  go_wp2_with fail
  refine (canon_walk hb _).mono ?_
  rintro e w' ⟨rfl, rfl⟩
  go_wp2_with fail
  go_ret
  have h' : ¬ rank b < rank a := fun k => by have := ordI_pos.2 k; omega
  refine ⟨ret_float ?_, rfl⟩
  unfold mostW
  split
  ·exact (canon_of_rank ha hb (by omega)).symm
  ·rfl
end
section
open Ieee

def rhe (n d : Nat) : Nat := n / 2 ^ d + (if 2 ^ d < 2 * (n % 2 ^ d) ∨ (2 ^ d = 2 * (n % 2 ^ d) ∧ n / 2 ^ d % 2 = 1) then 1 else 0)
theorem gap_cases (n d : Nat) : (min d (n.log2 + 2) = d) ∨ (n / 2 ^ d = 0 ∧ n % 2 ^ d = n ∧ 2 * n < 2 ^ d ∧ n / 2 ^ min d (n.log2 + 2) = 0 ∧ n % 2 ^ min d (n.log2 + 2) = n ∧ 2 * n < 2 ^ min d (n.log2 + 2)) := by
 by_cases h : d ≤ n.log2 + 2
 ·left; omega
 ·right
  have e : min d (n.log2 + 2) = n.log2 + 2 := by omega
  rw [e]
  have h1 : n < 2 ^ (n.log2 + 1) := Nat.lt_log2_self
  have h2 : 2 ^ (n.log2 + 2) = 2 * 2 ^ (n.log2 + 1) := by rw [Nat.pow_succ (m := n.log2 + 1)]; omega
  have h3 : 2 ^ (n.log2 + 2) ≤ 2 ^ d := Nat.pow_le_pow_right (by omega) (by omega)
  refine ⟨Nat.div_eq_of_lt (by omega), Nat.mod_eq_of_lt (by omega), by omega, Nat.div_eq_of_lt (by omega), Nat.mod_eq_of_lt (by omega), by omega⟩
theorem cut_even (s : Bool) (n d : Nat) : Toward.even.cut s n d = rhe n d := by
 unfold Toward.cut rhe
 simp only [Nat.one_shiftLeft]
 rcases gap_cases n d with h | ⟨h1, h2, h3, h4, h5, h6⟩
 ·rw [h]
  congr 1
  by_cases c : 2 ^ d < 2 * (n % 2 ^ d) ∨ 2 ^ d = 2 * (n % 2 ^ d) ∧ n / 2 ^ d % 2 = 1
  ·rw [if_pos c]
   have : (decide (2 ^ d < 2 * (n % 2 ^ d)) || 2 ^ d == 2 * (n % 2 ^ d) && n / 2 ^ d % 2 == 1) = true := by simpa using c
   rw [this]; rfl
  ·rw [if_neg c]
   have : (decide (2 ^ d < 2 * (n % 2 ^ d)) || 2 ^ d == 2 * (n % 2 ^ d) && n / 2 ^ d % 2 == 1) = false := by
    rw [Bool.eq_false_iff]; intro hh; apply c; simpa using hh
   rw [this]; rfl
 ·rw [h1, h2, h4, h5, if_neg (by omega)]
  have : (decide (2 ^ min d (n.log2 + 2) < 2 * n) || 2 ^ min d (n.log2 + 2) == 2 * n && 0 % 2 == 1) = false := by
   simp; omega
  rw [this]; rfl
theorem cut_zero (s : Bool) (n d : Nat) : Toward.zero.cut s n d = n / 2 ^ d := by
 unfold Toward.cut
 simp only [Nat.one_shiftLeft]
 rcases gap_cases n d with h | ⟨h1, h2, h3, h4, h5, h6⟩
 ·rw [h]; rfl
 ·rw [h1, h4]; rfl
def lastP (M : Nat) (P : Int) : Int := max (P + (M.log2 : Int) - 52) (-1074)
theorem nearest_eq (s : Bool) {M : Nat} (hM : M ≠ 0) (P : Int) :
  Ieee.double.nearest s M P = Ieee.double.word s (min ((lastP M P + 1074).toNat * 4503599627370496 + rhe (M * 2 ^ (P - lastP M P).toNat) (lastP M P - P).toNat) 9218868437227405312) := by
 unfold Format.nearest
 rw [if_neg hM]
 simp only [lp, bn, ir, cut_even, Nat.shiftLeft_eq]
 rw [show ((Ieee.double.fractionBits : Nat) : Int) = 52 from rfl]
 unfold lastP
 rw [show ∀ a : Int, a - -1074 = a + 1074 from fun a => by omega]
theorem nearest_zero (s : Bool) (P : Int) : Ieee.double.nearest s 0 P = Ieee.double.word s 0 := by
 unfold Format.nearest; rw [if_pos rfl]
theorem word_lt64 (s : Bool) {r : Nat} (h : r < 9223372036854775808) : Ieee.double.word s r < 18446744073709551616 := by
 unfold Format.word; rw [sw]; split <;> omega
theorem rung_word (s : Bool) {r : Nat} (h : r < 9223372036854775808) : rung (Ieee.double.word s r) = r := by
 unfold Format.word rung; rw [sw]; split <;> omega
theorem neg_word (s : Bool) {r : Nat} (h : r < 9223372036854775808) : negB (Ieee.double.word s r) = s := by
 unfold Format.word negB; rw [sw]; cases s <;> simp <;> omega
theorem mag_ne {r : Nat} (h : r ≠ 0) : mag r ≠ 0 := by unfold mag; split <;> omega
theorem nearest_nan (s : Bool) (M : Nat) (P : Int) : nanB (Ieee.double.nearest s M P) = false := by
 by_cases hM : M = 0
 ·subst hM; rw [nearest_zero]; unfold nanB; rw [rung_word s (by omega)]; rfl
 ·rw [nearest_eq s hM]; unfold nanB; rw [rung_word s (by omega)]; simp; omega
theorem nearest_neg (s : Bool) (M : Nat) (P : Int) : negB (Ieee.double.nearest s M P) = s := by
 by_cases hM : M = 0
 ·subst hM; rw [nearest_zero]; exact neg_word s (by omega)
 ·rw [nearest_eq s hM]; exact neg_word s (by omega)
theorem nearest_lt64 (s : Bool) (M : Nat) (P : Int) : Ieee.double.nearest s M P < 18446744073709551616 := Ieee.double.nearest_lt s M P
end
section
open Ieee Go.RowKit

theorem order_cases {x y : Nat} {c : Int} (hx : x < 18446744073709551616) (hy : y < 18446744073709551616) (nx : nanB x = false) (ny : nanB y = false) (hc : key y = c) :
  (FloatKind.f64.format.order x y = some .lt ∧ key x < c) ∨ (FloatKind.f64.format.order x y = some .eq ∧ key x = c) ∨ (FloatKind.f64.format.order x y = some .gt ∧ c < key x) := by
 have h : FloatKind.f64.format.order x y = some (cmpI (key x) (key y)) := order_key hx hy nx ny
 rw [h, hc]
 unfold cmpI
 by_cases c1 : key x < c
 ·left; rw [if_pos c1]; exact ⟨rfl, c1⟩
 ·by_cases c2 : key x = c
  ·right; left; rw [if_neg c1, if_pos c2]; exact ⟨rfl, c2⟩
  ·right; right; rw [if_neg c1, if_neg c2]; exact ⟨rfl, by omega⟩
def wn (r : Nat) : Nat := if 1074 ≤ sh r then mag r * 2 ^ (sh r - 1074) else mag r / 2 ^ (1074 - sh r)
def wholeI (x : Nat) : Int := if nanB x then 0 else if 4890909195324358656 ≤ rung x then (if negB x then -9223372036854775808 else 9223372036854775807) else if negB x then -(wn (rung x) : Int) else wn (rung x)
theorem toInt_zero {x : Nat} (hx : x < 18446744073709551616) (h : rung x < 9218868437227405312) :
  (FloatKind.f64.decode x).toInt .zero = some (if negB x then -(wn (rung x) : Int) else wn (rung x)) := by
 unfold FloatKind.decode Datum.toInt
 rw [show FloatKind.f64.format = Ieee.double from rfl, read_num hx h]
 simp only [Datum.integral, cut_zero, signed, Nat.shiftLeft_eq, Nat.pow_zero, Nat.mul_one]
 have e : mag (rung x) * 2 ^ (-1074 + ((sh (rung x) : Nat) : Int)).toNat / 2 ^ (-(-1074 + ((sh (rung x) : Nat) : Int))).toNat = wn (rung x) := by
  unfold wn
  by_cases c : 1074 ≤ sh (rung x)
  ·rw [if_pos c, show (-1074 + ((sh (rung x) : Nat) : Int)).toNat = sh (rung x) - 1074 by omega, show (-(-1074 + ((sh (rung x) : Nat) : Int))).toNat = 0 by omega, Nat.pow_zero, Nat.div_one]
  ·rw [if_neg c, show (-1074 + ((sh (rung x) : Nat) : Int)).toNat = 0 by omega, show (-(-1074 + ((sh (rung x) : Nat) : Int))).toNat = 1074 - sh (rung x) by omega, Nat.pow_zero, Nat.mul_one]
 rw [e]
theorem wn_lt {r : Nat} (h : r < 4890909195324358656) : wn r < 9223372036854775808 := by
 have hm := mag_lt r
 unfold wn
 split
 ·rename_i c
  have h1 : sh r ≤ 1084 := by unfold sh; omega
  have h2 : 2 ^ (sh r - 1074) ≤ 2 ^ 10 := Nat.pow_le_pow_right (by omega) (by omega)
  have h3 : mag r * 2 ^ (sh r - 1074) ≤ mag r * 2 ^ 10 := Nat.mul_le_mul_left _ h2
  omega
 ·have := Nat.div_le_self (mag r) (2 ^ (1074 - sh r)); omega
theorem wn_end : wn 4890909195324358656 = 9223372036854775808 := by decide
theorem conv_val {x : Nat} (hx : x < 18446744073709551616) (h : rung x < 4890909195324358656 ∨ (rung x = 4890909195324358656 ∧ negB x = true)) :
  floatToIntVal .f64 x .i64 = some (if negB x then -(wn (rung x) : Int) else wn (rung x)) := by
 unfold floatToIntVal
 rw [toInt_zero hx (by omega)]
 simp only
 rw [if_pos]
 rw [show IntKind.i64.min = -9223372036854775808 from rfl, show IntKind.i64.max = 9223372036854775807 from rfl]
 rcases h with h | ⟨h, hn⟩
 ·have := wn_lt h; split <;> omega
 ·rw [h, wn_end, hn]; simp
theorem whole_walk {x : Nat} (hx : x < 18446744073709551616) (w : World) :
  Calls Tryz.prog 100 #[.float .f64 x] w fun e w' => e = .returned (.int .i64 (wholeI x)) ∧ w' = w := by
 cases hn : nanB x
 ·have big : Hid (4890909195324358656 ≤ key x → wholeI x = 9223372036854775807) := by
   intro c1
   unfold wholeI; rw [hn]
   unfold key at c1
   cases hs : negB x <;> rw [hs] at c1 <;> simp only [Bool.false_eq_true, if_false, if_true] at c1 ⊢
   ·rw [if_pos (by omega)]
   ·omega
  have low : Hid (key x < -4890909195324358656 → wholeI x = -9223372036854775808) := by
   intro c2
   unfold wholeI; rw [hn]
   unfold key at c2
   cases hs : negB x <;> rw [hs] at c2 <;> simp only [Bool.false_eq_true, if_false, if_true] at c2 ⊢
   ·omega
   ·rw [if_pos (by omega)]
  have mid : Hid (key x < 4890909195324358656 → -4890909195324358656 ≤ key x → ∀ w : World, (convert 34 2 (.float .f64 x)).run Tryz.prog w = .ok (.int .i64 (wholeI x)) w) := by
   intro c1 c2
   have hk : rung x < 4890909195324358656 ∨ (rung x = 4890909195324358656 ∧ negB x = true) := by
    unfold key at c1 c2
    cases hs : negB x <;> rw [hs] at c1 c2 <;> simp only [Bool.false_eq_true, if_false, if_true] at c1 c2 ⊢
    ·left; omega
    ·by_cases c : rung x = 4890909195324358656
     ·right; exact ⟨c, trivial⟩
     ·left; omega
   have hv := conv_val hx hk
   have hw : wholeI x = if negB x then -(wn (rung x) : Int) else wn (rung x) := by
    unfold wholeI; rw [hn]
    simp only [Bool.false_eq_true, if_false]
    rcases hk with hk | ⟨hk, hs⟩
    ·rw [if_neg (by omega)]
    ·rw [if_pos (by omega), hs, hk, wn_end]; rfl
   rw [← hw] at hv
   exact fun w => run_convert_float_int w 34 2 .f64 .i64 x _ (by rw [Tryz.underlying34]; rfl) Tryz.underlying2 hv
  rcases order_cases (y := 4890909195324358656) hx (by omega) hn (by decide) (c := 4890909195324358656) (by decide) with ⟨h1, k1⟩ | ⟨h1, k1⟩ | ⟨h1, k1⟩
  ·rcases order_cases (y := 14114281232179134464) hx (by omega) hn (by decide) (c := -4890909195324358656) (by decide) with ⟨h2, k2⟩ | ⟨h2, k2⟩ | ⟨h2, k2⟩
   ·clear k1
    go_in
    go_wp2_with fail
    refine (isNaN_walk hx _).mono ?_
    rintro e w' ⟨rfl, rfl⟩
    go_wp2_with fail
    go_ret
    exact ⟨ret_int (low k2).symm, rfl⟩
   ·have hr := mid k1 (by omega)
    clear k1 k2
    go_in
    go_wp2_with fail
    refine (isNaN_walk hx _).mono ?_
    rintro e w' ⟨rfl, rfl⟩
    go_wp2_with fail
    go_ret
    exact ⟨rfl, rfl⟩
   ·have hr := mid k1 (by omega)
    clear k1 k2
    go_in
    go_wp2_with fail
    refine (isNaN_walk hx _).mono ?_
    rintro e w' ⟨rfl, rfl⟩
    go_wp2_with fail
    go_ret
    exact ⟨rfl, rfl⟩
  ·have k := big (by omega)
   have K : Hid (wholeI x = 9223372036854775807) := k
   clear k k1
   go_in
   go_wp2_with fail
   refine (isNaN_walk hx _).mono ?_
   rintro e w' ⟨rfl, rfl⟩
   go_wp2_with fail
   go_ret
   exact ⟨ret_int (Eq.symm K), rfl⟩
  ·have k := big (by omega)
   have K : Hid (wholeI x = 9223372036854775807) := k
   clear k k1
   go_in
   go_wp2_with fail
   refine (isNaN_walk hx _).mono ?_
   rintro e w' ⟨rfl, rfl⟩
   go_wp2_with fail
   go_ret
   exact ⟨ret_int (Eq.symm K), rfl⟩
 ·go_in
  go_wp2_with fail
  refine (isNaN_walk hx _).mono ?_
  rintro e w' ⟨rfl, rfl⟩
  go_wp2_with fail
  go_ret
  exact ⟨ret_int (by unfold wholeI; rw [hn]; rfl), rfl⟩
end
section
open Ieee Go.RowKit

structure Vl where
 h : Bool
 b : Nat
def Vl.ok (v : Vl) : Prop := v.b < 18446744073709551616
def noV : Vl := ⟨false, 0⟩
def knownB (k : Int) : Bool := decide (1 ≤ k) && decide (k ≤ 4)
def wholeU (x : Nat) : Nat := (IntKind.u64.wrap (wholeI x)).toNat
def ofV (k : Int) (x : Nat) : Vl := if k = 1 then ⟨true, 1⟩ else if k = 2 then ⟨true, wholeU x⟩ else if k = 3 ∨ k = 4 then ⟨true, canonW x⟩ else noV
def fitV (k : Int) (v : Vl) : Vl := if v.h = false then noV else if k = 1 ∨ k = 2 then v else if k = 3 ∨ k = 4 then ⟨true, canonW v.b⟩ else noV
def joinV (k : Int) (a b : Vl) : Vl :=
 if a.h = false then b else if b.h = false then a else if k = 3 then ⟨true, leastW a.b b.b⟩ else if k = 4 then ⟨true, mostW a.b b.b⟩ else ⟨true, (a.b + b.b) % 18446744073709551616⟩
def mergeV (k : Int) (a b : Vl) : Vl := joinV k (fitV k a) (fitV k b)
theorem wholeU_lt (x : Nat) : wholeU x < 18446744073709551616 := by
 unfold wholeU
 rw [IntKind.wrap_u64]
 omega
theorem wholeU_eq (x : Nat) : ((wholeU x : Nat) : Int) = IntKind.u64.wrap (wholeI x) := by
 unfold wholeU
 rw [IntKind.wrap_u64]
 omega
theorem noV_ok : noV.ok := by show 0 < 18446744073709551616; omega
theorem ofV_ok (k : Int) {x : Nat} (hx : x < 18446744073709551616) : (ofV k x).ok := by
 unfold ofV
 split
 ·show 1 < 18446744073709551616; omega
 split
 ·exact wholeU_lt x
 split
 ·exact canon_lt hx
 ·exact noV_ok
theorem fitV_ok (k : Int) {v : Vl} (hv : v.ok) : (fitV k v).ok := by
 unfold fitV
 split
 ·exact noV_ok
 split
 ·exact hv
 split
 ·exact canon_lt hv
 ·exact noV_ok
theorem leastW_lt {a b : Nat} (ha : a < 18446744073709551616) (hb : b < 18446744073709551616) : leastW a b < 18446744073709551616 := by
 unfold leastW
 split
 ·exact canon_lt ha
 ·exact canon_lt hb
theorem mostW_lt {a b : Nat} (ha : a < 18446744073709551616) (hb : b < 18446744073709551616) : mostW a b < 18446744073709551616 := by
 unfold mostW
 split
 ·exact canon_lt ha
 ·exact canon_lt hb
theorem joinV_ok (k : Int) {a b : Vl} (ha : a.ok) (hb : b.ok) : (joinV k a b).ok := by
 unfold joinV
 split
 ·exact hb
 split
 ·exact ha
 split
 ·exact leastW_lt ha hb
 split
 ·exact mostW_lt ha hb
 ·exact Nat.mod_lt _ (by omega)
theorem mergeV_ok (k : Int) {a b : Vl} (ha : a.ok) (hb : b.ok) : (mergeV k a b).ok := joinV_ok k (fitV_ok k ha) (fitV_ok k hb)
theorem canonW_canonW (x : Nat) : canonW (canonW x) = canonW x := by
 unfold canonW
 cases h : nanB x
 ·simp [h]
 ·rw [if_pos rfl, if_pos (by decide)]
theorem canonW_leastW (a b : Nat) : canonW (leastW a b) = leastW a b := by
 unfold leastW
 split <;> exact canonW_canonW _
theorem canonW_mostW (a b : Nat) : canonW (mostW a b) = mostW a b := by
 unfold mostW
 split <;> exact canonW_canonW _
theorem known_kind {k : Int} : knownB k = true ↔ k = 1 ∨ k = 2 ∨ k = 3 ∨ k = 4 := by
 unfold knownB
 simp
 omega
theorem unknown_kind {k : Int} (h : knownB k = false) : k ≠ 1 ∧ k ≠ 2 ∧ k ≠ 3 ∧ k ≠ 4 := by
 unfold knownB at h
 simp at h
 omega
end
section
open Ieee Go.RowKit

attribute [local go_sem] run_bits run_frombits
end
section
open Ieee

def nM (r : Nat) : Nat := if r < 4503599627370496 then r * 2 ^ (52 - r.log2) else mag r
def nE (r : Nat) : Int := if r < 4503599627370496 then (r.log2 : Int) - 51 else ((r / 4503599627370496 : Nat) : Int)
def scaleW (s : Bool) (M : Nat) (e : Int) : Nat :=
 if 2047 ≤ e then Ieee.double.word s 9218868437227405312 else if 1 ≤ e then Ieee.double.word s ((e - 1).toNat * 4503599627370496 + M) else Ieee.double.word s (rhe M (1 - e).toNat)
def scaleR (x : Nat) (n : Int) : Nat :=
 if nanB x then 9221120237041090561 else if rung x = 9218868437227405312 ∨ rung x = 0 then x else scaleW (negB x) (nM (rung x)) (nE (rung x) + n)
theorem log2_sub {r : Nat} (h0 : r ≠ 0) (h : r < 4503599627370496) : r.log2 < 52 := by rw [Nat.log2_lt h0]; exact h
theorem nM_lt {r : Nat} (h0 : r ≠ 0) : nM r < 9007199254740992 := by
 unfold nM; split
 ·rename_i h
  have h1 := @Nat.lt_log2_self r
  have h2 := log2_sub h0 h
  have h3 : r * 2 ^ (52 - r.log2) < 2 ^ (r.log2 + 1) * 2 ^ (52 - r.log2) := Nat.mul_lt_mul_of_pos_right h1 (Nat.two_pow_pos _)
  rw [← Nat.pow_add, show r.log2 + 1 + (52 - r.log2) = 53 by omega] at h3
  exact h3
 ·exact mag_lt r
theorem rhe_le (M d : Nat) : rhe M d ≤ M / 2 ^ d + 1 := by unfold rhe; split <;> omega
def nD (r : Nat) : Int := if r < 4503599627370496 then -52 else 0
end
section
open Ieee Go.RowKit

def floorW (x : Nat) : Nat := if nanB x then 9221120237041090561 else Ieee.double.write ((Ieee.double.read x).integral .down)
theorem toIntegral_eq (name : String) (way : Toward) (x : Nat) : Extern.MathFloor.toIntegral name way #[.float .f64 x] =
  (match Ieee.double.read x with
  | .nan s t =>
   if Ieee.double.quiet t = t then pure (.float .f64 x) else do
   let kept ← choose (.extern "math.Floor,Ceil,Trunc,RoundToEven.signallingNaN kept" 2)
   pure (.float .f64 (if kept == 1 then x else Ieee.double.write (.nan s (Ieee.double.quiet t))))
  | d => pure (.float .f64 (Ieee.double.write (d.integral way)))) := rfl
theorem archFloor_num {x : Nat} (hx : x < 18446744073709551616) (hn : nanB x = false) (w : World) :
  (callFunc 210 #[.float .f64 x]).run Tryz.prog w = .ok (.value (.float .f64 (floorW x))) w := by
 rw [run_callFunc_extern (e := Extern.MathFloor.toIntegral "math.archFloor" .down) Tryz.func210 (by kernel_rfl) (by kernel_rfl) (by kernel_rfl) (by kernel_rfl)]
 have hr := nan_f hn
 rw [toIntegral_eq]
 unfold floorW
 rw [hn]
 simp only [Bool.false_eq_true, if_false]
 by_cases h : rung x = 9218868437227405312
 ·rw [read_inf hx h]; rfl
 ·rw [read_num hx (by omega)]; rfl
theorem floorW_nan {x : Nat} (hx : x < 18446744073709551616) (hn : nanB x = false) : nanB (floorW x) = false ∧ floorW x < 18446744073709551616 := by
 have hr := nan_f hn
 unfold floorW
 rw [hn]
 simp only [Bool.false_eq_true, if_false]
 by_cases h : rung x = 9218868437227405312
 ·rw [read_inf hx h]
  simp only [Datum.integral, Format.write, ir]
  exact ⟨by unfold nanB; rw [rung_word _ (by omega)]; rfl, word_lt64 _ (by omega)⟩
 ·rw [read_num hx (by omega)]
  simp only [Datum.integral, Format.write]
  exact ⟨nearest_nan _ _ _, nearest_lt64 _ _ _⟩
end
section
open Ieee

def ofW (n : Int) : Nat := Ieee.double.nearest (decide (n < 0)) n.natAbs 0
def pw (n : Nat) : Nat := 2 ^ n
def UU : Nat := pw 1074
def fk (s : Bool) (r : Nat) : Nat := wn r + (if s = true ∧ V r % UU ≠ 0 then 1 else 0)
def rI (M : Nat) : Nat := rung (Ieee.double.nearest false M 0)
theorem of_lt (n : Int) : ofW n < 18446744073709551616 := nearest_lt64 _ _ _
end
section
open Ieee Go.RowKit
end
section
theorem hidH {p : Prop} (h : p) : Go.RowKit.Hid p := h
theorem zA {α : Type} (l : List α) (i : Nat) (a : α) : l.toArray.setIfInBounds i a = (l.set i a).toArray := List.setIfInBounds_toArray ..
theorem zB {α : Type} (x : α) (l : List α) (a : α) : (x :: l).set 0 a = a :: l := rfl
theorem zC {α : Type} (x : α) (l : List α) (i : Nat) (a : α) : (x :: l).set (i + 1) a = x :: l.set i a := rfl
section

variable {P : Program} {md : Region.Mode} {ops : Array Oper} {Q : Exit → Act → World → Prop} {S : World → Prop} {fuel : Nat} {listed : Array Bool} {a : Act} {w : World} {o : Go.Op} {t : TypeId} {p : String} {f : Array Edge} {g : Option (Nat × Bool)}

theorem tvH (i d : Nat) (v : Value) (hi : ops[i]? = some ⟨some d, o, t, p, f, g⟩) (hy : ∀ w, S w → (execOp a.eval ⟨some d, o, t, p, f, g⟩).run P w = .ok (.value v) w) (hS : S w)
    (h : wpAnyH P md ops Q S fuel (listed.setIfInBounds i true) (a.put (some d) v) w)
    (hs : Region.noSelect ops = true := by kernel_rfl) (hf : Region.free md ops listed i = true := by kernel_rfl) (hr : (Region.ready md ops listed).contains i = true := by kernel_rfl)
    (hQ : ∀ c a w, Q (.panic c) (a.put (some d) v) w → Q (.panic c) a w := by exact fun _ _ _ h => h) (hw : Region.wanted ⟨some d, o, t, p, f, g⟩ (yielded ops a.tmps) = true := by rfl) :
    wpAnyH P md ops Q S (fuel + 1) listed a w := wpAnyH_take hi hs hf hr hQ (Or.inl ⟨hw, hy⟩) hS h
theorem tkH (i d : Nat) {v : Value} (hi : ops[i]? = some ⟨some d, o, t, p, f, g⟩) (hS : S w)
    (h : wpAnyH P md ops Q S fuel (listed.setIfInBounds i true) (a.put (some d) v) w)
    (hs : Region.noSelect ops = true := by kernel_rfl) (hf : Region.free md ops listed i = true := by kernel_rfl) (hr : (Region.ready md ops listed).contains i = true := by kernel_rfl)
    (hy : ∀ w, S w → (execOp a.eval ⟨some d, o, t, p, f, g⟩).run P w = .ok (.value v) w := by intro w hSw; (try dsimp only at hSw); go_simp; all_goals (with_reducible rfl))
    (hQ : ∀ c a w, Q (.panic c) (a.put (some d) v) w → Q (.panic c) a w := by exact fun _ _ _ h => h) (hw : Region.wanted ⟨some d, o, t, p, f, g⟩ (yielded ops a.tmps) = true := by rfl) :
    wpAnyH P md ops Q S (fuel + 1) listed a w := wpAnyH_take hi hs hf hr hQ (Or.inl ⟨hw, hy⟩) hS h
theorem tkS (i d : Nat) {v : Value} {a' : Act} (hi : ops[i]? = some ⟨some d, o, t, p, f, g⟩) (hS : S w)
    (h : wpAnyH P md ops Q S fuel (listed.setIfInBounds i true) a' w)
    (hs : Region.noSelect ops = true := by kernel_rfl) (hf : Region.free md ops listed i = true := by kernel_rfl) (hr : (Region.ready md ops listed).contains i = true := by kernel_rfl)
    (hy : ∀ w, S w → (execOp a.eval ⟨some d, o, t, p, f, g⟩).run P w = .ok (.value v) w := by intro w hSw; (try dsimp only at hSw); go_simp; all_goals (with_reducible rfl))
    (ha : a.put (some d) v = a' := by (simp only [Act.put, zA, zB, zC]) <;> rfl)
    (hQ : ∀ c a w, Q (.panic c) (a.put (some d) v) w → Q (.panic c) a w := by exact fun _ _ _ h => h) (hw : Region.wanted ⟨some d, o, t, p, f, g⟩ (yielded ops a.tmps) = true := by rfl) :
    wpAnyH P md ops Q S (fuel + 1) listed a w := wpAnyH_take hi hs hf hr hQ (Or.inl ⟨hw, hy⟩) hS (ha ▸ h)
theorem tuH (i d : Nat) (hi : ops[i]? = some ⟨some d, o, t, p, f, g⟩) (hS : S w)
    (h : wpAnyH P md ops Q S fuel (listed.setIfInBounds i true) (a.put (some d) undef) w)
    (hs : Region.noSelect ops = true := by kernel_rfl) (hf : Region.free md ops listed i = true := by kernel_rfl) (hr : (Region.ready md ops listed).contains i = true := by kernel_rfl)
    (hQ : ∀ c a w, Q (.panic c) (a.put (some d) undef) w → Q (.panic c) a w := by exact fun _ _ _ h => h) (hw : Region.wanted ⟨some d, o, t, p, f, g⟩ (yielded ops a.tmps) = false := by rfl) :
    wpAnyH P md ops Q S (fuel + 1) listed a w := wpAnyH_take hi hs hf hr hQ (Or.inr ⟨hw, rfl⟩) hS h
theorem rdH (i d : Nat) (hi : ops[i]? = some ⟨some d, o, t, p, f, g⟩)
    (h : ∀ K' : Act → World → Prop, Shut (∀ a w, S w → (S w → wpAnyH P md ops Q S fuel (listed.setIfInBounds i true) a w) → K' a w) → if Region.wanted ⟨some d, o, t, p, f, g⟩ (yielded ops a.tmps) = true then Oper.wp P ⟨some d, o, t, p, f, g⟩ a w K' Q else K' (a.put (some d) undef) w)
    (hr : Region.ready md ops listed = [i] := by kernel_rfl) : wpAnyH P md ops Q S (fuel + 1) listed a w := wpAnyH_ready hr (by simp) (AllReadyH.cons hi h AllReadyH.nil)
end
end
end Go.Proofs.YtofkhgokfdpdiabGreat
