/- Contracts of the document's answer for Class, Canon, Order, Least and Most. -/
import Derived.Test.YtombjgfajbhbbaaGreatB01
set_option maxRecDepth 100000
set_option maxHeartbeats 16000000
namespace Go.Proofs.YtombjgfajbhbbaaGreat
open Go.RowKit
section
open Ieee

def rhe (n d : Nat) : Nat := n / 2 ^ d + (if 2 ^ d < 2 * (n % 2 ^ d) ∨ (2 ^ d = 2 * (n % 2 ^ d) ∧ n / 2 ^ d % 2 = 1) then 1 else 0)
theorem gap_cases (n d : Nat) : (min d (n.log2 + 2) = d) ∨ (n / 2 ^ d = 0 ∧ n % 2 ^ d = n ∧ 2 * n < 2 ^ d ∧ n / 2 ^ min d (n.log2 + 2) = 0 ∧ n % 2 ^ min d (n.log2 + 2) = n ∧ 2 * n < 2 ^ min d (n.log2 + 2)) := by
 by_cases h : d ≤ n.log2 + 2
 ·left; omega
 ·right;have e : min d (n.log2 + 2) = n.log2 + 2 := by omega
  rw [e];have h1 : n < 2 ^ (n.log2 + 1) := Nat.lt_log2_self;have h2 : 2 ^ (n.log2 + 2) = 2 * 2 ^ (n.log2 + 1) := by rw [Nat.pow_succ (m := n.log2 + 1)]; omega
  have h3 : 2 ^ (n.log2 + 2) ≤ 2 ^ d := Nat.pow_le_pow_right (by omega) (by omega);refine ⟨Nat.div_eq_of_lt (by omega), Nat.mod_eq_of_lt (by omega), by omega, Nat.div_eq_of_lt (by omega), Nat.mod_eq_of_lt (by omega), by omega⟩
theorem cut_even (s : Bool) (n d : Nat) : Toward.even.cut s n d = rhe n d := by
 unfold Toward.cut rhe;simp only [Nat.one_shiftLeft];rcases gap_cases n d with h | ⟨h1, h2, h3, h4, h5, h6⟩
 ·rw [h];congr 1;by_cases c : 2 ^ d < 2 * (n % 2 ^ d) ∨ 2 ^ d = 2 * (n % 2 ^ d) ∧ n / 2 ^ d % 2 = 1
  ·rw [if_pos c];have : (decide (2 ^ d < 2 * (n % 2 ^ d)) || 2 ^ d == 2 * (n % 2 ^ d) && n / 2 ^ d % 2 == 1) = true := by simpa using c
   rw [this]; rfl
  ·rw [if_neg c]
   have : (decide (2 ^ d < 2 * (n % 2 ^ d)) || 2 ^ d == 2 * (n % 2 ^ d) && n / 2 ^ d % 2 == 1) = false := by
    rw [Bool.eq_false_iff]; intro hh; apply c; simpa using hh
   rw [this]; rfl
 ·rw [h1, h2, h4, h5, if_neg (by omega)]
  have : (decide (2 ^ min d (n.log2 + 2) < 2 * n) || 2 ^ min d (n.log2 + 2) == 2 * n && 0 % 2 == 1) = false := by
   simp; omega
  rw [this]; rfl
theorem cut_zero (s : Bool) (n d : Nat) : Toward.zero.cut s n d = n / 2 ^ d := by
 unfold Toward.cut;simp only [Nat.one_shiftLeft];rcases gap_cases n d with h | ⟨h1, h2, h3, h4, h5, h6⟩
 ·rw [h]; rfl
 ·rw [h1, h4]; rfl
theorem cut_down (s : Bool) (n d : Nat) : Toward.down.cut s n d = n / 2 ^ d + (if s = true ∧ n % 2 ^ d ≠ 0 then 1 else 0) := by
 unfold Toward.cut;simp only [Nat.one_shiftLeft]
 have key : ∀ a b : Nat, a + (s && b != 0).toNat = a + (if s = true ∧ b ≠ 0 then 1 else 0) := by
  intro a b;congr 1
  cases s
  ·simp
  ·by_cases hb : b = 0 <;> simp [hb]
 rcases gap_cases n d with h | ⟨h1, h2, h3, h4, h5, h6⟩
 ·rw [h]; exact key _ _
 ·rw [h1, h2, h4, h5]; exact key _ _
theorem rhe_zero (n : Nat) : rhe n 0 = n := by unfold rhe; simp; omega
theorem rhe_scale (n c d : Nat) : rhe (n * 2 ^ c) (d + c) = rhe n d := by
 have hc := Nat.two_pow_pos c;unfold rhe;rw [Nat.pow_add, Nat.mul_div_mul_right _ _ hc, Nat.mul_mod_mul_right];congr 1
 have e1 : 2 ^ d * 2 ^ c < 2 * (n % 2 ^ d * 2 ^ c) ↔ 2 ^ d < 2 * (n % 2 ^ d) := by
  rw [← Nat.mul_assoc]; exact Nat.mul_lt_mul_right hc
 have e2 : 2 ^ d * 2 ^ c = 2 * (n % 2 ^ d * 2 ^ c) ↔ 2 ^ d = 2 * (n % 2 ^ d) := by
  rw [← Nat.mul_assoc]; exact Nat.mul_left_inj (by omega)
 simp only [e1, e2]
theorem rhe_exact (n c d : Nat) (h : d ≤ c) : rhe (n * 2 ^ c) d = n * 2 ^ (c - d) := by
 have := rhe_scale (n * 2 ^ (c - d)) d 0;rw [Nat.mul_assoc, ← Nat.pow_add, Nat.sub_add_cancel h, Nat.zero_add, rhe_zero] at this;exact this
theorem log2_scale {M : Nat} (hM : M ≠ 0) (c : Nat) : (M * 2 ^ c).log2 = M.log2 + c := by
 have h1 := Nat.log2_self_le hM;have h2 := @Nat.lt_log2_self M;have hne : M * 2 ^ c ≠ 0 := Nat.mul_ne_zero hM (Nat.ne_of_gt (Nat.two_pow_pos c));apply Nat.le_antisymm
 ·have : (M * 2 ^ c).log2 < M.log2 + c + 1 := by
   rw [Nat.log2_lt hne];have := Nat.mul_lt_mul_of_pos_right h2 (Nat.two_pow_pos c);rw [← Nat.pow_add] at this;rw [show M.log2 + c + 1 = M.log2 + 1 + c by omega]; exact this
  omega
 ·rw [Nat.le_log2 hne, Nat.pow_add];exact Nat.mul_le_mul_right _ h1
def lastP (M : Nat) (P : Int) : Int := max (P + (M.log2 : Int) - 52) (-1074)
theorem nearest_eq (s : Bool) {M : Nat} (hM : M ≠ 0) (P : Int) :
  Ieee.double.nearest s M P = Ieee.double.word s (min ((lastP M P + 1074).toNat * 4503599627370496 + rhe (M * 2 ^ (P - lastP M P).toNat) (lastP M P - P).toNat) 9218868437227405312) := by
 unfold Format.nearest;rw [if_neg hM];simp only [lp, bn, ir, cut_even, Nat.shiftLeft_eq];rw [show ((Ieee.double.fractionBits : Nat) : Int) = 52 from rfl];unfold lastP;rw [show ∀ a : Int, a - -1074 = a + 1074 from fun a => by omega]
theorem nearest_zero (s : Bool) (P : Int) : Ieee.double.nearest s 0 P = Ieee.double.word s 0 := by
 unfold Format.nearest; rw [if_pos rfl]
theorem nearest_scale (s : Bool) (M : Nat) (P : Int) (c : Nat) : Ieee.double.nearest s (M * 2 ^ c) (P - c) = Ieee.double.nearest s M P := by
 by_cases hM : M = 0
 ·subst hM; rw [Nat.zero_mul, nearest_zero, nearest_zero]
 have hne : M * 2 ^ c ≠ 0 := Nat.mul_ne_zero hM (Nat.ne_of_gt (Nat.two_pow_pos c));rw [nearest_eq s hne, nearest_eq s hM]
 have hl : lastP (M * 2 ^ c) (P - c) = lastP M P := by
  unfold lastP; rw [log2_scale hM]; omega
 rw [hl];congr 3;generalize lastP M P = L;by_cases h : P ≤ L
 ·rw [show (P - c - L).toNat = 0 by omega, show (P - L).toNat = 0 by omega, show (L - (P - c)).toNat = (L - P).toNat + c by omega];rw [Nat.pow_zero, Nat.mul_one, Nat.mul_one, rhe_scale]
 ·rw [show (L - P).toNat = 0 by omega, rhe_zero];by_cases h2 : L ≤ P - c
  ·rw [show (L - (P - c)).toNat = 0 by omega, rhe_zero, Nat.mul_assoc, ← Nat.pow_add];congr 2; omega
  ·rw [show (P - c - L).toNat = 0 by omega, Nat.pow_zero, Nat.mul_one, rhe_exact _ _ _ (by omega)];congr 2; omega
theorem word_lt64 (s : Bool) {r : Nat} (h : r < 9223372036854775808) : Ieee.double.word s r < 18446744073709551616 := by
 unfold Format.word; rw [sw]; split <;> omega
theorem rung_word (s : Bool) {r : Nat} (h : r < 9223372036854775808) : rung (Ieee.double.word s r) = r := by
 unfold Format.word rung; rw [sw]; split <;> omega
theorem neg_word (s : Bool) {r : Nat} (h : r < 9223372036854775808) : negB (Ieee.double.word s r) = s := by
 unfold Format.word negB; rw [sw]; cases s <;> simp <;> omega
theorem word_self {x : Nat} (hx : x < 18446744073709551616) : Ieee.double.word (negB x) (rung x) = x := by
 have := rung_of hx;unfold Format.word; rw [sw, this]
 cases h : negB x
 ·rfl
 ·have := neg_t h; simp; omega
theorem mag_ne {r : Nat} (h : r ≠ 0) : mag r ≠ 0 := by unfold mag; split <;> omega
theorem log2_mag {r : Nat} (h : 4503599627370496 ≤ r) : (mag r).log2 = 52 := by
 have h1 : 4503599627370496 ≤ mag r := by unfold mag; split <;> omega
 have h2 := mag_lt r;have hne : mag r ≠ 0 := by omega
 apply Nat.le_antisymm
 ·have : (mag r).log2 < 53 := by rw [Nat.log2_lt hne]; exact h2
  omega
 ·rw [Nat.le_log2 hne]; exact h1
theorem nearest_rung (s : Bool) {r : Nat} (h : r ≤ 9218868437227405312) : Ieee.double.nearest s (mag r) (-1074 + (sh r : Nat)) = Ieee.double.word s r := by
 by_cases h0 : r = 0
 ·subst h0; exact nearest_zero s _
 rw [nearest_eq s (mag_ne h0)];by_cases h1 : r < 4503599627370496
 ·have e1 : sh r = 0 := by unfold sh; omega
  have e2 : mag r = r := by unfold mag; rw [if_pos h1]
  have e3 : r.log2 < 52 := by rw [Nat.log2_lt h0]; exact h1
  have e4 : lastP r (-1074 + (0 : Nat)) = -1074 := by unfold lastP; omega
  rw [e1, e2, e4];simp only [Int.natCast_zero, Int.add_zero, Int.sub_self, Int.toNat_zero, Nat.pow_zero, Nat.mul_one, rhe_zero];rw [show ((-1074 : Int) + 1074).toNat = 0 from rfl, Nat.zero_mul, Nat.zero_add, Nat.min_eq_left h]
 ·have e3 := log2_mag (r := r) (by omega);have e4 : lastP (mag r) (-1074 + (sh r : Nat)) = -1074 + (sh r : Nat) := by unfold lastP; rw [e3]; omega
  rw [e4];simp only [Int.sub_self, Int.toNat_zero, Nat.pow_zero, Nat.mul_one, rhe_zero];rw [show ((-1074 : Int) + (sh r : Nat) + 1074).toNat = sh r by omega];congr 1
  have : sh r * 4503599627370496 + mag r = r := by
   unfold sh mag; rw [if_neg h1]; omega
  rw [this, Nat.min_eq_left h]
theorem nearest_nan (s : Bool) (M : Nat) (P : Int) : nanB (Ieee.double.nearest s M P) = false := by
 by_cases hM : M = 0
 ·subst hM; rw [nearest_zero]; unfold nanB; rw [rung_word s (by omega)]; rfl
 ·rw [nearest_eq s hM]; unfold nanB; rw [rung_word s (by omega)]; simp; omega
theorem nearest_neg (s : Bool) (M : Nat) (P : Int) : negB (Ieee.double.nearest s M P) = s := by
 by_cases hM : M = 0
 ·subst hM; rw [nearest_zero]; exact neg_word s (by omega)
 ·rw [nearest_eq s hM]; exact neg_word s (by omega)
theorem nearest_lt64 (s : Bool) (M : Nat) (P : Int) : Ieee.double.nearest s M P < 18446744073709551616 := Ieee.double.nearest_lt s M P
end
section
open Ieee Go.RowKit

theorem order_cases {x y : Nat} {c : Int} (hx : x < 18446744073709551616) (hy : y < 18446744073709551616) (nx : nanB x = false) (ny : nanB y = false) (hc : key y = c) :
  (FloatKind.f64.format.order x y = some .lt ∧ key x < c) ∨ (FloatKind.f64.format.order x y = some .eq ∧ key x = c) ∨ (FloatKind.f64.format.order x y = some .gt ∧ c < key x) := by
 have h : FloatKind.f64.format.order x y = some (cmpI (key x) (key y)) := order_key hx hy nx ny;rw [h, hc];unfold cmpI;by_cases c1 : key x < c
 ·left; rw [if_pos c1]; exact ⟨rfl, c1⟩
 ·by_cases c2 : key x = c
  ·right; left; rw [if_neg c1, if_pos c2]; exact ⟨rfl, c2⟩
  ·right; right; rw [if_neg c1, if_neg c2]; exact ⟨rfl, by omega⟩
def wn (r : Nat) : Nat := if 1074 ≤ sh r then mag r * 2 ^ (sh r - 1074) else mag r / 2 ^ (1074 - sh r)
def wholeI (x : Nat) : Int := if nanB x then 0 else if 4890909195324358656 ≤ rung x then (if negB x then -9223372036854775808 else 9223372036854775807) else if negB x then -(wn (rung x) : Int) else wn (rung x)
theorem toInt_zero {x : Nat} (hx : x < 18446744073709551616) (h : rung x < 9218868437227405312) :
  (FloatKind.f64.decode x).toInt .zero = some (if negB x then -(wn (rung x) : Int) else wn (rung x)) := by
 unfold FloatKind.decode Datum.toInt;rw [show FloatKind.f64.format = Ieee.double from rfl, read_num hx h];simp only [Datum.integral, cut_zero, signed, Nat.shiftLeft_eq, Nat.pow_zero, Nat.mul_one]
 have e : mag (rung x) * 2 ^ (-1074 + ((sh (rung x) : Nat) : Int)).toNat / 2 ^ (-(-1074 + ((sh (rung x) : Nat) : Int))).toNat = wn (rung x) := by
  unfold wn;by_cases c : 1074 ≤ sh (rung x)
  ·rw [if_pos c, show (-1074 + ((sh (rung x) : Nat) : Int)).toNat = sh (rung x) - 1074 by omega, show (-(-1074 + ((sh (rung x) : Nat) : Int))).toNat = 0 by omega, Nat.pow_zero, Nat.div_one]
  ·rw [if_neg c, show (-1074 + ((sh (rung x) : Nat) : Int)).toNat = 0 by omega, show (-(-1074 + ((sh (rung x) : Nat) : Int))).toNat = 1074 - sh (rung x) by omega, Nat.pow_zero, Nat.mul_one]
 rw [e]
theorem wn_lt {r : Nat} (h : r < 4890909195324358656) : wn r < 9223372036854775808 := by
 have hm := mag_lt r;unfold wn
 split
 ·rename_i c
  have h1 : sh r ≤ 1084 := by unfold sh; omega
  have h2 : 2 ^ (sh r - 1074) ≤ 2 ^ 10 := Nat.pow_le_pow_right (by omega) (by omega);have h3 : mag r * 2 ^ (sh r - 1074) ≤ mag r * 2 ^ 10 := Nat.mul_le_mul_left _ h2;omega
 ·have := Nat.div_le_self (mag r) (2 ^ (1074 - sh r)); omega
theorem wn_end : wn 4890909195324358656 = 9223372036854775808 := by decide
theorem conv_val {x : Nat} (hx : x < 18446744073709551616) (h : rung x < 4890909195324358656 ∨ (rung x = 4890909195324358656 ∧ negB x = true)) :
  floatToIntVal .f64 x .i64 = some (if negB x then -(wn (rung x) : Int) else wn (rung x)) := by
 unfold floatToIntVal;rw [toInt_zero hx (by omega)];simp only;rw [if_pos];rw [show IntKind.i64.min = -9223372036854775808 from rfl, show IntKind.i64.max = 9223372036854775807 from rfl];rcases h with h | ⟨h, hn⟩
 ·have := wn_lt h; split <;> omega
 ·rw [h, wn_end, hn]; simp
theorem whole_walk {x : Nat} (hx : x < 18446744073709551616) (w : World) :
  Calls Tryz.prog 158 #[.float .f64 x] w fun e w' => e = .returned (.int .i64 (wholeI x)) ∧ w' = w := by
 cases hn : nanB x
 ·have big : Hid (4890909195324358656 ≤ key x → wholeI x = 9223372036854775807) := by
   intro c1;unfold wholeI; rw [hn];unfold key at c1
   cases hs : negB x <;> rw [hs] at c1 <;> simp only [Bool.false_eq_true, if_false, if_true] at c1 ⊢
   ·rw [if_pos (by omega)]
   ·omega
  have low : Hid (key x < -4890909195324358656 → wholeI x = -9223372036854775808) := by
   intro c2;unfold wholeI; rw [hn];unfold key at c2
   cases hs : negB x <;> rw [hs] at c2 <;> simp only [Bool.false_eq_true, if_false, if_true] at c2 ⊢
   ·omega
   ·rw [if_pos (by omega)]
  have mid : Hid (key x < 4890909195324358656 → -4890909195324358656 ≤ key x → ∀ w : World, (convert 41 2 (.float .f64 x)).run Tryz.prog w = .ok (.int .i64 (wholeI x)) w) := by
   intro c1 c2
   have hk : rung x < 4890909195324358656 ∨ (rung x = 4890909195324358656 ∧ negB x = true) := by
    unfold key at c1 c2
    cases hs : negB x <;> rw [hs] at c1 c2 <;> simp only [Bool.false_eq_true, if_false, if_true] at c1 c2 ⊢
    ·left; omega
    ·by_cases c : rung x = 4890909195324358656
     ·right; exact ⟨c, trivial⟩
     ·left; omega
   have hv := conv_val hx hk
   have hw : wholeI x = if negB x then -(wn (rung x) : Int) else wn (rung x) := by
    unfold wholeI; rw [hn];simp only [Bool.false_eq_true, if_false];rcases hk with hk | ⟨hk, hs⟩
    ·rw [if_neg (by omega)]
    ·rw [if_pos (by omega), hs, hk, wn_end]; rfl
   rw [← hw] at hv;exact fun w => run_convert_float_int w 41 2 .f64 .i64 x _ (by rw [Tryz.underlying41]; rfl) Tryz.underlying2 hv
  rcases order_cases (y := 4890909195324358656) hx (by omega) hn (by decide) (c := 4890909195324358656) (by decide) with ⟨h1, k1⟩ | ⟨h1, k1⟩ | ⟨h1, k1⟩
  ·rcases order_cases (y := 14114281232179134464) hx (by omega) hn (by decide) (c := -4890909195324358656) (by decide) with ⟨h2, k2⟩ | ⟨h2, k2⟩ | ⟨h2, k2⟩
   ·clear k1;go_in;go_wp2_with fail;refine (isNaN_walk hx _).mono ?_;rintro e w' ⟨rfl, rfl⟩;go_wp2_with fail;go_ret;exact ⟨ret_int (low k2).symm, rfl⟩
   ·have hr := mid k1 (by omega);clear k1 k2;go_in;go_wp2_with fail;refine (isNaN_walk hx _).mono ?_;rintro e w' ⟨rfl, rfl⟩;go_wp2_with fail;go_ret;exact ⟨rfl, rfl⟩
   ·have hr := mid k1 (by omega);clear k1 k2;go_in;go_wp2_with fail;refine (isNaN_walk hx _).mono ?_;rintro e w' ⟨rfl, rfl⟩;go_wp2_with fail;go_ret;exact ⟨rfl, rfl⟩
  ·have k := big (by omega);have K : Hid (wholeI x = 9223372036854775807) := k;clear k k1;go_in;go_wp2_with fail;refine (isNaN_walk hx _).mono ?_;rintro e w' ⟨rfl, rfl⟩;go_wp2_with fail;go_ret;exact ⟨ret_int (Eq.symm K), rfl⟩
  ·have k := big (by omega);have K : Hid (wholeI x = 9223372036854775807) := k;clear k k1;go_in;go_wp2_with fail;refine (isNaN_walk hx _).mono ?_;rintro e w' ⟨rfl, rfl⟩;go_wp2_with fail;go_ret;exact ⟨ret_int (Eq.symm K), rfl⟩
 ·go_in;go_wp2_with fail;refine (isNaN_walk hx _).mono ?_;rintro e w' ⟨rfl, rfl⟩;go_wp2_with fail;go_ret;exact ⟨ret_int (by unfold wholeI; rw [hn]; rfl), rfl⟩
end
section
open Ieee Go.RowKit

structure Vl where
 h : Bool
 b : Nat
def Vl.ok (v : Vl) : Prop := v.b < 18446744073709551616
def noV : Vl := ⟨false, 0⟩
def knownB (k : Int) : Bool := decide (1 ≤ k) && decide (k ≤ 4)
def wholeU (x : Nat) : Nat := (IntKind.u64.wrap (wholeI x)).toNat
def ofV (k : Int) (x : Nat) : Vl := if k = 1 then ⟨true, 1⟩ else if k = 2 then ⟨true, wholeU x⟩ else if k = 3 ∨ k = 4 then ⟨true, canonW x⟩ else noV
def fitV (k : Int) (v : Vl) : Vl := if v.h = false then noV else if k = 1 ∨ k = 2 then v else if k = 3 ∨ k = 4 then ⟨true, canonW v.b⟩ else noV
def joinV (k : Int) (a b : Vl) : Vl :=
 if a.h = false then b else if b.h = false then a else if k = 3 then ⟨true, leastW a.b b.b⟩ else if k = 4 then ⟨true, mostW a.b b.b⟩ else ⟨true, (a.b + b.b) % 18446744073709551616⟩
def mergeV (k : Int) (a b : Vl) : Vl := joinV k (fitV k a) (fitV k b)
theorem wholeU_lt (x : Nat) : wholeU x < 18446744073709551616 := by
 unfold wholeU;rw [IntKind.wrap_u64];omega
theorem wholeU_eq (x : Nat) : ((wholeU x : Nat) : Int) = IntKind.u64.wrap (wholeI x) := by
 unfold wholeU;rw [IntKind.wrap_u64];omega
theorem noV_ok : noV.ok := by show 0 < 18446744073709551616; omega
theorem ofV_ok (k : Int) {x : Nat} (hx : x < 18446744073709551616) : (ofV k x).ok := by
 unfold ofV
 split
 ·show 1 < 18446744073709551616; omega
 split
 ·exact wholeU_lt x
 split
 ·exact canon_lt hx
 ·exact noV_ok
theorem fitV_ok (k : Int) {v : Vl} (hv : v.ok) : (fitV k v).ok := by
 unfold fitV
 split
 ·exact noV_ok
 split
 ·exact hv
 split
 ·exact canon_lt hv
 ·exact noV_ok
theorem leastW_lt {a b : Nat} (ha : a < 18446744073709551616) (hb : b < 18446744073709551616) : leastW a b < 18446744073709551616 := by
 unfold leastW
 split
 ·exact canon_lt ha
 ·exact canon_lt hb
theorem mostW_lt {a b : Nat} (ha : a < 18446744073709551616) (hb : b < 18446744073709551616) : mostW a b < 18446744073709551616 := by
 unfold mostW
 split
 ·exact canon_lt ha
 ·exact canon_lt hb
theorem joinV_ok (k : Int) {a b : Vl} (ha : a.ok) (hb : b.ok) : (joinV k a b).ok := by
 unfold joinV
 split
 ·exact hb
 split
 ·exact ha
 split
 ·exact leastW_lt ha hb
 split
 ·exact mostW_lt ha hb
 ·exact Nat.mod_lt _ (by omega)
theorem mergeV_ok (k : Int) {a b : Vl} (ha : a.ok) (hb : b.ok) : (mergeV k a b).ok := joinV_ok k (fitV_ok k ha) (fitV_ok k hb)
theorem canonW_canonW (x : Nat) : canonW (canonW x) = canonW x := by
 unfold canonW
 cases h : nanB x
 ·simp [h]
 ·rw [if_pos rfl, if_pos (by decide)]
theorem canonW_leastW (a b : Nat) : canonW (leastW a b) = leastW a b := by
 unfold leastW
 split <;> exact canonW_canonW _
theorem canonW_mostW (a b : Nat) : canonW (mostW a b) = mostW a b := by
 unfold mostW
 split <;> exact canonW_canonW _
theorem known_kind {k : Int} : knownB k = true ↔ k = 1 ∨ k = 2 ∨ k = 3 ∨ k = 4 := by
 unfold knownB;simp;omega
theorem unknown_kind {k : Int} (h : knownB k = false) : k ≠ 1 ∧ k ≠ 2 ∧ k ≠ 3 ∧ k ≠ 4 := by
 unfold knownB at h;simp at h;omega
end
section
open Ieee Go.RowKit

attribute [local go_sem] run_bits run_frombits
theorem bits_walk (x : Nat) (w : World) :
  Calls Tryz.prog 128 #[.float .f64 x] w fun e w' => e = .returned (.int .u64 x) ∧ w' = w := by
 go_in;go_wp2;go_ret;exact ⟨rfl, rfl⟩
theorem from_walk (x : Nat) (w : World) :
  Calls Tryz.prog 136 #[.int .u64 x] w fun e w' => e = .returned (.float .f64 x) ∧ w' = w := by
 go_in;go_wp2;go_ret;exact ⟨ret_float (by simp), rfl⟩
def eB (x : Nat) : Nat := rung x / 4503599627370496
def fB (x : Nat) : Nat := x % 4503599627370496
theorem eB_bits {x : Nat} (hx : x < 18446744073709551616) : bits .and .u64 ((x : Int) / 4503599627370496) 2047 = eB x := by
 have h := bits_and_u64_nat (x / 4503599627370496) 2047 (by omega) (by omega);rw [show (2047 : Nat) = 2 ^ 11 - 1 from rfl, Nat.and_two_pow_sub_one_eq_mod] at h;have e : ((x / 4503599627370496 : Nat) : Int) = (x : Int) / 4503599627370496 := by omega
 rw [e] at h;rw [show ((2 ^ 11 - 1 : Nat) : Int) = 2047 from rfl] at h;rw [h];unfold eB rung;omega
theorem fB_bits {x : Nat} (hx : x < 18446744073709551616) : bits .and .u64 (x : Int) 4503599627370495 = fB x := by
 have h := bits_and_u64_nat x 4503599627370495 hx (by omega);rw [show (4503599627370495 : Nat) = 2 ^ 52 - 1 from rfl, Nat.and_two_pow_sub_one_eq_mod] at h;rw [show ((2 ^ 52 - 1 : Nat) : Int) = 4503599627370495 from rfl] at h;rw [h];rfl
theorem eB_le (x : Nat) : eB x ≤ 2047 := by have := rung_lt x; unfold eB; omega
theorem parts_walk {x : Nat} (hx : x < 18446744073709551616) (w : World) :
  Calls Tryz.prog 165 #[.float .f64 x] w fun e w' => e = .returned (.tuple #[.int .i64 (eB x), .int .u64 (fB x)]) ∧ w' = w := by
 have h1 := eB_bits hx;have h2 := fB_bits hx;have h3 := eB_le x;go_in;go_wp2_with fail;refine (bits_walk x _).mono ?_;rintro e w' ⟨rfl, rfl⟩;go_wp2_with fail;go_ret2;exact ⟨rfl, rfl⟩
theorem rung_parts {x : Nat} : rung x = eB x * 4503599627370496 + fB x ∧ fB x < 4503599627370496 := by
 unfold eB fB rung; omega
theorem rclass_walk {x : Nat} (hx : x < 18446744073709551616) (w : World) :
  Calls Tryz.prog 135 #[.float .f64 x] w fun e w' => e = .returned (.int .i64 (classI x)) ∧ w' = w := by
 obtain ⟨hp, hf⟩ := @rung_parts x;have he := eB_le x;have HP : Hid (rung x = eB x * 4503599627370496 + fB x ∧ fB x < 4503599627370496 ∧ eB x ≤ 2047) := ⟨hp, hf, he⟩
 have cl : ∀ k : Int, ((eB x = 2047 ∧ fB x ≠ 0 ∧ k = 5) ∨ (eB x = 2047 ∧ fB x = 0 ∧ k = 4) ∨ (eB x ≠ 2047 ∧ eB x ≠ 0 ∧ k = 3) ∨ (eB x = 0 ∧ fB x ≠ 0 ∧ k = 2) ∨ (eB x = 0 ∧ fB x = 0 ∧ k = 1)) → classI x = k := by
  intro k hk;unfold classI nanB;simp only [decide_eq_true_eq]
  (repeat' split) <;> omega
 have CL : Hid (∀ k : Int, ((eB x = 2047 ∧ fB x ≠ 0 ∧ k = 5) ∨ (eB x = 2047 ∧ fB x = 0 ∧ k = 4) ∨ (eB x ≠ 2047 ∧ eB x ≠ 0 ∧ k = 3) ∨ (eB x = 0 ∧ fB x ≠ 0 ∧ k = 2) ∨ (eB x = 0 ∧ fB x = 0 ∧ k = 1)) → classI x = k) := cl;clear cl hp hf he;by_cases c1 : eB x = 2047
 ·by_cases c2 : fB x = 0
  ·go_in;go_wp2_with fail;refine (parts_walk hx _).mono ?_;rintro e w' ⟨rfl, rfl⟩;go_wp2_with fail;go_ret;exact ⟨ret_int (CL.out _ (by omega)).symm, rfl⟩
  ·go_in;go_wp2_with fail;refine (parts_walk hx _).mono ?_;rintro e w' ⟨rfl, rfl⟩;go_wp2_with fail;go_ret;exact ⟨ret_int (CL.out _ (by omega)).symm, rfl⟩
 ·by_cases c3 : eB x = 0
  ·by_cases c2 : fB x = 0
   ·go_in;go_wp2_with fail;refine (parts_walk hx _).mono ?_;rintro e w' ⟨rfl, rfl⟩;go_wp2_with fail;go_ret;exact ⟨ret_int (CL.out _ (by omega)).symm, rfl⟩
   ·go_in;go_wp2_with fail;refine (parts_walk hx _).mono ?_;rintro e w' ⟨rfl, rfl⟩;go_wp2_with fail;go_ret;exact ⟨ret_int (CL.out _ (by omega)).symm, rfl⟩
  ·go_in;go_wp2_with fail;refine (parts_walk hx _).mono ?_;rintro e w' ⟨rfl, rfl⟩;go_wp2_with fail;go_ret;exact ⟨ret_int (CL.out _ (by omega)).symm, rfl⟩
theorem class_nan (x : Nat) : classI x = 5 ↔ nanB x = true := by
 unfold classI
 cases nanB x
 ·simp only [Bool.false_eq_true, if_false, iff_false]; (repeat' split) <;> omega
 ·simp
theorem class_not_nan {x : Nat} (h : nanB x = false) : ¬ classI x = 5 := fun k => by rw [(class_nan x).1 k] at h; cases h
theorem rcanon_walk {x : Nat} (hx : x < 18446744073709551616) (w : World) :
  Calls Tryz.prog 110 #[.float .f64 x] w fun e w' => e = .returned (.float .f64 (canonW x)) ∧ w' = w := by
 cases h : nanB x
 ·have hc := class_not_nan h;go_in;go_wp2_with fail;refine (rclass_walk hx _).mono ?_;rintro e w' ⟨rfl, rfl⟩;go_wp2_with fail;go_ret;exact ⟨ret_float (by unfold canonW; rw [h]; rfl), rfl⟩
 ·have hc := (class_nan x).2 h;go_in;go_wp2_with fail;refine (rclass_walk hx _).mono ?_;rintro e w' ⟨rfl, rfl⟩;go_wp2_with fail;refine (from_walk 9221120237041090561 _).mono ?_;rintro e w' ⟨rfl, rfl⟩;go_wp2_with fail;go_ret;exact ⟨ret_float (by unfold canonW; rw [h]; rfl), rfl⟩
theorem rrank_walk {x : Nat} (hx : x < 18446744073709551616) (w : World) :
  Calls Tryz.prog 197 #[.float .f64 x] w fun e w' => e = .returned (.int .i64 (rank x)) ∧ w' = w := by
 cases h : nanB x
 ·have hc := class_not_nan h
  cases s : negB x
  ·have hs : decide (9223372036854775808 ≤ (x : Int)) = false := by have := neg_f s; simp only [decide_eq_false_iff_not]; omega
   go_in;go_wp2_with fail;refine (rclass_walk hx _).mono ?_;rintro e w' ⟨rfl, rfl⟩;go_wp2_with fail;refine (bits_walk x _).mono ?_;rintro e w' ⟨rfl, rfl⟩;go_wp2_with fail;go_ret;exact ⟨ret_int (by have := neg_f s; unfold rank wrap64; rw [h, s]; simp only [Bool.false_eq_true, if_false]; omega), rfl⟩
  ·have hs : 9223372036854775808 ≤ (x : Int) := by have := neg_t s; omega
   go_in;go_wp2_with fail;refine (rclass_walk hx _).mono ?_;rintro e w' ⟨rfl, rfl⟩;go_wp2_with fail;refine (bits_walk x _).mono ?_;rintro e w' ⟨rfl, rfl⟩;go_wp2_with fail;go_ret;exact ⟨ret_int (by unfold rank; rw [h, s]; simp), rfl⟩
 ·have hc := (class_nan x).2 h;go_in;go_wp2_with fail;refine (rclass_walk hx _).mono ?_;rintro e w' ⟨rfl, rfl⟩;go_wp2_with fail;go_ret;exact ⟨ret_int (by unfold rank; rw [h]; rfl), rfl⟩
theorem rorder_walk {a b : Nat} (ha : a < 18446744073709551616) (hb : b < 18446744073709551616) (w : World) :
  Calls Tryz.prog 184 #[.float .f64 a, .float .f64 b] w fun e w' => e = .returned (.int .i64 (ordI a b)) ∧ w' = w := by
 by_cases c1 : rank a < rank b
 ·go_in;go_wp2_with fail;refine (rrank_walk ha _).mono ?_;rintro e w' ⟨rfl, rfl⟩;go_wp2_with fail;refine (rrank_walk hb _).mono ?_;rintro e w' ⟨rfl, rfl⟩;go_wp2_with fail;go_ret;exact ⟨ret_int (by unfold ordI; rw [if_pos c1]), rfl⟩
 ·by_cases c2 : rank b < rank a
  ·go_in;go_wp2_with fail;refine (rrank_walk ha _).mono ?_;rintro e w' ⟨rfl, rfl⟩;go_wp2_with fail;refine (rrank_walk hb _).mono ?_;rintro e w' ⟨rfl, rfl⟩;go_wp2_with fail;go_ret;exact ⟨ret_int (by unfold ordI; rw [if_neg (by omega), if_pos c2]), rfl⟩
  ·go_in;go_wp2_with fail;refine (rrank_walk ha _).mono ?_;rintro e w' ⟨rfl, rfl⟩;go_wp2_with fail;refine (rrank_walk hb _).mono ?_;rintro e w' ⟨rfl, rfl⟩;go_wp2_with fail;go_ret;exact ⟨ret_int (by unfold ordI; rw [if_neg (by omega), if_neg (by omega)]), rfl⟩
theorem rleast_walk {a b : Nat} (ha : a < 18446744073709551616) (hb : b < 18446744073709551616) (w : World) :
  Calls Tryz.prog 163 #[.float .f64 a, .float .f64 b] w fun e w' => e = .returned (.float .f64 (leastW a b)) ∧ w' = w := by
 have hp := @ordI_pos a b;have HP : Hid (0 < ordI a b ↔ rank b < rank a) := hp;clear hp;by_cases h : ordI a b ≤ 0
 ·go_in;go_wp2_with fail;refine (rorder_walk ha hb _).mono ?_;rintro e w' ⟨rfl, rfl⟩;go_wp2_with fail;refine (rcanon_walk ha _).mono ?_;rintro e w' ⟨rfl, rfl⟩;go_wp2_with fail;go_ret;exact ⟨ret_float (by unfold leastW; rw [if_pos (by have := HP.out; omega)]), rfl⟩
 ·go_in;go_wp2_with fail;refine (rorder_walk ha hb _).mono ?_;rintro e w' ⟨rfl, rfl⟩;go_wp2_with fail;refine (rcanon_walk hb _).mono ?_;rintro e w' ⟨rfl, rfl⟩;go_wp2_with fail;go_ret;exact ⟨ret_float (by unfold leastW; rw [if_neg (by have := HP.out; omega)]), rfl⟩
theorem rmost_walk {a b : Nat} (ha : a < 18446744073709551616) (hb : b < 18446744073709551616) (w : World) :
  Calls Tryz.prog 164 #[.float .f64 a, .float .f64 b] w fun e w' => e = .returned (.float .f64 (mostW a b)) ∧ w' = w := by
 have hp := @ordI_neg a b;have HP : Hid (ordI a b < 0 ↔ rank a < rank b) := hp;clear hp;by_cases h : 0 ≤ ordI a b
 ·go_in;go_wp2_with fail;refine (rorder_walk ha hb _).mono ?_;rintro e w' ⟨rfl, rfl⟩;go_wp2_with fail;refine (rcanon_walk ha _).mono ?_;rintro e w' ⟨rfl, rfl⟩;go_wp2_with fail;go_ret;exact ⟨ret_float (by unfold mostW; rw [if_pos (by have := HP.out; omega)]), rfl⟩
 ·go_in;go_wp2_with fail;refine (rorder_walk ha hb _).mono ?_;rintro e w' ⟨rfl, rfl⟩;go_wp2_with fail;refine (rcanon_walk hb _).mono ?_;rintro e w' ⟨rfl, rfl⟩;go_wp2_with fail;go_ret;exact ⟨ret_float (by unfold mostW; rw [if_neg (by have := HP.out; omega)]), rfl⟩
end
end Go.Proofs.YtombjgfajbhbbaaGreat
