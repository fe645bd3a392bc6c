/- Contracts of the document's answer for Whole and Floor. -/
import Derived.Test.YtopjedgknbbgkaaGreatM00
import Derived.WalkKit
import Derived.ProofKit
import Derived.Deep.Draws
namespace Go.Proofs.YtopjedgknbbgkaaGreat

open Ieee



/-- n / 2^d to the nearest whole number, between two to the even one. -/
def rhe (n d : Nat) : Nat := n / 2 ^ d + (if 2 ^ d < 2 * (n % 2 ^ d) ∨ (2 ^ d = 2 * (n % 2 ^ d) ∧ n / 2 ^ d % 2 = 1) then 1 else 0)


theorem gap_cases (n d : Nat) : (min d (n.log2 + 2) = d) ∨ (n / 2 ^ d = 0 ∧ n % 2 ^ d = n ∧ 2 * n < 2 ^ d ∧ n / 2 ^ min d (n.log2 + 2) = 0 ∧ n % 2 ^ min d (n.log2 + 2) = n ∧ 2 * n < 2 ^ min d (n.log2 + 2)) := by
  by_cases h : d ≤ n.log2 + 2
  · left; omega
  · right
    have e : min d (n.log2 + 2) = n.log2 + 2 := by omega
    rw [e]
    have h1 : n < 2 ^ (n.log2 + 1) := Nat.lt_log2_self
    have h2 : 2 ^ (n.log2 + 2) = 2 * 2 ^ (n.log2 + 1) := by rw [Nat.pow_succ (m := n.log2 + 1)]; omega
    have h3 : 2 ^ (n.log2 + 2) ≤ 2 ^ d := Nat.pow_le_pow_right (by omega) (by omega)
    refine ⟨Nat.div_eq_of_lt (by omega), Nat.mod_eq_of_lt (by omega), by omega, Nat.div_eq_of_lt (by omega), Nat.mod_eq_of_lt (by omega), by omega⟩


theorem cut_even (s : Bool) (n d : Nat) : Toward.even.cut s n d = rhe n d := by
  unfold Toward.cut rhe
  simp only [Nat.one_shiftLeft]
  rcases gap_cases n d with h | ⟨h1, h2, h3, h4, h5, h6⟩
  · rw [h]
    congr 1
    by_cases c : 2 ^ d < 2 * (n % 2 ^ d) ∨ 2 ^ d = 2 * (n % 2 ^ d) ∧ n / 2 ^ d % 2 = 1
    · rw [if_pos c]
      have : (decide (2 ^ d < 2 * (n % 2 ^ d)) || 2 ^ d == 2 * (n % 2 ^ d) && n / 2 ^ d % 2 == 1) = true := by simpa using c
      rw [this]; rfl
    · rw [if_neg c]
      have : (decide (2 ^ d < 2 * (n % 2 ^ d)) || 2 ^ d == 2 * (n % 2 ^ d) && n / 2 ^ d % 2 == 1) = false := by
        rw [Bool.eq_false_iff]; intro hh; apply c; simpa using hh
      rw [this]; rfl
  · rw [h1, h2, h4, h5, if_neg (by omega)]
    have : (decide (2 ^ min d (n.log2 + 2) < 2 * n) || 2 ^ min d (n.log2 + 2) == 2 * n && 0 % 2 == 1) = false := by
      simp; omega
    rw [this]; rfl


theorem cut_zero (s : Bool) (n d : Nat) : Toward.zero.cut s n d = n / 2 ^ d := by
  unfold Toward.cut
  simp only [Nat.one_shiftLeft]
  rcases gap_cases n d with h | ⟨h1, h2, h3, h4, h5, h6⟩
  · rw [h]; rfl
  · rw [h1, h4]; rfl


theorem cut_down (s : Bool) (n d : Nat) : Toward.down.cut s n d = n / 2 ^ d + (if s = true ∧ n % 2 ^ d ≠ 0 then 1 else 0) := by
  unfold Toward.cut
  simp only [Nat.one_shiftLeft]
  have key : ∀ a b : Nat, a + (s && b != 0).toNat = a + (if s = true ∧ b ≠ 0 then 1 else 0) := by
    intro a b
    congr 1
    cases s
    · simp
    · by_cases hb : b = 0 <;> simp [hb]
  rcases gap_cases n d with h | ⟨h1, h2, h3, h4, h5, h6⟩
  · rw [h]; exact key _ _
  · rw [h1, h2, h4, h5]; exact key _ _


theorem rhe_zero (n : Nat) : rhe n 0 = n := by unfold rhe; simp; omega
theorem rhe_scale (n c d : Nat) : rhe (n * 2 ^ c) (d + c) = rhe n d := by
  have hc := Nat.two_pow_pos c
  unfold rhe
  rw [Nat.pow_add, Nat.mul_div_mul_right _ _ hc, Nat.mul_mod_mul_right]
  congr 1
  have e1 : 2 ^ d * 2 ^ c < 2 * (n % 2 ^ d * 2 ^ c) ↔ 2 ^ d < 2 * (n % 2 ^ d) := by
    rw [← Nat.mul_assoc]; exact Nat.mul_lt_mul_right hc
  have e2 : 2 ^ d * 2 ^ c = 2 * (n % 2 ^ d * 2 ^ c) ↔ 2 ^ d = 2 * (n % 2 ^ d) := by
    rw [← Nat.mul_assoc]; exact Nat.mul_left_inj (by omega)
  simp only [e1, e2]
theorem rhe_exact (n c d : Nat) (h : d ≤ c) : rhe (n * 2 ^ c) d = n * 2 ^ (c - d) := by
  have := rhe_scale (n * 2 ^ (c - d)) d 0
  rw [Nat.mul_assoc, ← Nat.pow_add, Nat.sub_add_cancel h, Nat.zero_add, rhe_zero] at this
  exact this


theorem log2_scale {M : Nat} (hM : M ≠ 0) (c : Nat) : (M * 2 ^ c).log2 = M.log2 + c := by
  have h1 := Nat.log2_self_le hM
  have h2 := @Nat.lt_log2_self M
  have hne : M * 2 ^ c ≠ 0 := Nat.mul_ne_zero hM (Nat.ne_of_gt (Nat.two_pow_pos c))
  apply Nat.le_antisymm
  · have : (M * 2 ^ c).log2 < M.log2 + c + 1 := by
      rw [Nat.log2_lt hne]
      have := Nat.mul_lt_mul_of_pos_right h2 (Nat.two_pow_pos c)
      rw [← Nat.pow_add] at this
      rw [show M.log2 + c + 1 = M.log2 + 1 + c by omega]; exact this
    omega
  · rw [Nat.le_log2 hne, Nat.pow_add]
    exact Nat.mul_le_mul_right _ h1


/-- The place of the last digit that is kept. -/
def lastP (M : Nat) (P : Int) : Int := max (P + (M.log2 : Int) - 52) (-1074)


theorem nearest_eq (s : Bool) {M : Nat} (hM : M ≠ 0) (P : Int) :
    Ieee.double.nearest s M P = Ieee.double.word s (min ((lastP M P + 1074).toNat * 4503599627370496 + rhe (M * 2 ^ (P - lastP M P).toNat) (lastP M P - P).toNat) 9218868437227405312) := by
  unfold Format.nearest
  rw [if_neg hM]
  simp only [lp, bn, ir, cut_even, Nat.shiftLeft_eq]
  rw [show ((Ieee.double.fractionBits : Nat) : Int) = 52 from rfl]
  unfold lastP
  rw [show ∀ a : Int, a - -1074 = a + 1074 from fun a => by omega]


theorem nearest_zero (s : Bool) (P : Int) : Ieee.double.nearest s 0 P = Ieee.double.word s 0 := by
  unfold Format.nearest; rw [if_pos rfl]


theorem nearest_scale (s : Bool) (M : Nat) (P : Int) (c : Nat) : Ieee.double.nearest s (M * 2 ^ c) (P - c) = Ieee.double.nearest s M P := by
  by_cases hM : M = 0
  · subst hM; rw [Nat.zero_mul, nearest_zero, nearest_zero]
  have hne : M * 2 ^ c ≠ 0 := Nat.mul_ne_zero hM (Nat.ne_of_gt (Nat.two_pow_pos c))
  rw [nearest_eq s hne, nearest_eq s hM]
  have hl : lastP (M * 2 ^ c) (P - c) = lastP M P := by
    unfold lastP; rw [log2_scale hM]; omega
  rw [hl]
  congr 3
  generalize lastP M P = L
  by_cases h : P ≤ L
  · rw [show (P - c - L).toNat = 0 by omega, show (P - L).toNat = 0 by omega, show (L - (P - c)).toNat = (L - P).toNat + c by omega]
    rw [Nat.pow_zero, Nat.mul_one, Nat.mul_one, rhe_scale]
  · rw [show (L - P).toNat = 0 by omega, rhe_zero]
    by_cases h2 : L ≤ P - c
    · rw [show (L - (P - c)).toNat = 0 by omega, rhe_zero, Nat.mul_assoc, ← Nat.pow_add]
      congr 2; omega
    · rw [show (P - c - L).toNat = 0 by omega, Nat.pow_zero, Nat.mul_one, rhe_exact _ _ _ (by omega)]
      congr 2; omega


theorem word_lt64 (s : Bool) {r : Nat} (h : r < 9223372036854775808) : Ieee.double.word s r < 18446744073709551616 := by
  unfold Format.word; rw [sw]; split <;> omega
theorem rung_word (s : Bool) {r : Nat} (h : r < 9223372036854775808) : rung (Ieee.double.word s r) = r := by
  unfold Format.word rung; rw [sw]; split <;> omega
theorem neg_word (s : Bool) {r : Nat} (h : r < 9223372036854775808) : negB (Ieee.double.word s r) = s := by
  unfold Format.word negB; rw [sw]; cases s <;> simp <;> omega
theorem word_self {x : Nat} (hx : x < 18446744073709551616) : Ieee.double.word (negB x) (rung x) = x := by
  have := rung_of hx
  unfold Format.word; rw [sw, this]
  cases h : negB x
  · rfl
  · have := neg_t h; simp; omega


theorem mag_ne {r : Nat} (h : r ≠ 0) : mag r ≠ 0 := by unfold mag; split <;> omega
theorem log2_mag {r : Nat} (h : 4503599627370496 ≤ r) : (mag r).log2 = 52 := by
  have h1 : 4503599627370496 ≤ mag r := by unfold mag; split <;> omega
  have h2 := mag_lt r
  have hne : mag r ≠ 0 := by omega
  apply Nat.le_antisymm
  · have : (mag r).log2 < 53 := by rw [Nat.log2_lt hne]; exact h2
    omega
  · rw [Nat.le_log2 hne]; exact h1


/-- Of a word's own number 'nearest' gives that word. -/
theorem nearest_rung (s : Bool) {r : Nat} (h : r ≤ 9218868437227405312) : Ieee.double.nearest s (mag r) (-1074 + (sh r : Nat)) = Ieee.double.word s r := by
  by_cases h0 : r = 0
  · subst h0; exact nearest_zero s _
  rw [nearest_eq s (mag_ne h0)]
  by_cases h1 : r < 4503599627370496
  · have e1 : sh r = 0 := by unfold sh; omega
    have e2 : mag r = r := by unfold mag; rw [if_pos h1]
    have e3 : r.log2 < 52 := by rw [Nat.log2_lt h0]; exact h1
    have e4 : lastP r (-1074 + (0 : Nat)) = -1074 := by unfold lastP; omega
    rw [e1, e2, e4]
    simp only [Int.natCast_zero, Int.add_zero, Int.sub_self, Int.toNat_zero, Nat.pow_zero, Nat.mul_one, rhe_zero]
    rw [show ((-1074 : Int) + 1074).toNat = 0 from rfl, Nat.zero_mul, Nat.zero_add, Nat.min_eq_left h]
  · have e3 := log2_mag (r := r) (by omega)
    have e4 : lastP (mag r) (-1074 + (sh r : Nat)) = -1074 + (sh r : Nat) := by unfold lastP; rw [e3]; omega
    rw [e4]
    simp only [Int.sub_self, Int.toNat_zero, Nat.pow_zero, Nat.mul_one, rhe_zero]
    rw [show ((-1074 : Int) + (sh r : Nat) + 1074).toNat = sh r by omega]
    congr 1
    have : sh r * 4503599627370496 + mag r = r := by
      unfold sh mag; rw [if_neg h1]; omega
    rw [this, Nat.min_eq_left h]


theorem nearest_nan (s : Bool) (M : Nat) (P : Int) : nanB (Ieee.double.nearest s M P) = false := by
  by_cases hM : M = 0
  · subst hM; rw [nearest_zero]; unfold nanB; rw [rung_word s (by omega)]; rfl
  · rw [nearest_eq s hM]; unfold nanB; rw [rung_word s (by omega)]; simp; omega
theorem nearest_neg (s : Bool) (M : Nat) (P : Int) : negB (Ieee.double.nearest s M P) = s := by
  by_cases hM : M = 0
  · subst hM; rw [nearest_zero]; exact neg_word s (by omega)
  · rw [nearest_eq s hM]; exact neg_word s (by omega)
theorem nearest_lt64 (s : Bool) (M : Nat) (P : Int) : Ieee.double.nearest s M P < 18446744073709551616 := Ieee.double.nearest_lt s M P


end Go.Proofs.YtopjedgknbbgkaaGreat

namespace Go.Proofs.YtopjedgknbbgkaaGreat

open Ieee Go.RowKit



theorem order_cases {x y : Nat} {c : Int} (hx : x < 18446744073709551616) (hy : y < 18446744073709551616) (nx : nanB x = false) (ny : nanB y = false) (hc : key y = c) :
    (FloatKind.f64.format.order x y = some .lt ∧ key x < c) ∨ (FloatKind.f64.format.order x y = some .eq ∧ key x = c) ∨ (FloatKind.f64.format.order x y = some .gt ∧ c < key x) := by
  have h : FloatKind.f64.format.order x y = some (cmpI (key x) (key y)) := order_key hx hy nx ny
  rw [h, hc]
  unfold cmpI
  by_cases c1 : key x < c
  · left; rw [if_pos c1]; exact ⟨rfl, c1⟩
  · by_cases c2 : key x = c
    · right; left; rw [if_neg c1, if_pos c2]; exact ⟨rfl, c2⟩
    · right; right; rw [if_neg c1, if_neg c2]; exact ⟨rfl, by omega⟩


/-- The whole part of a finite magnitude. -/
def wn (r : Nat) : Nat := if 1074 ≤ sh r then mag r * 2 ^ (sh r - 1074) else mag r / 2 ^ (1074 - sh r)
def wholeI (x : Nat) : Int := if nanB x then 0 else if 4890909195324358656 ≤ rung x then (if negB x then -9223372036854775808 else 9223372036854775807) else if negB x then -(wn (rung x) : Int) else wn (rung x)


theorem toInt_zero {x : Nat} (hx : x < 18446744073709551616) (h : rung x < 9218868437227405312) :
    (FloatKind.f64.decode x).toInt .zero = some (if negB x then -(wn (rung x) : Int) else wn (rung x)) := by
  unfold FloatKind.decode Datum.toInt
  rw [show FloatKind.f64.format = Ieee.double from rfl, read_num hx h]
  simp only [Datum.integral, cut_zero, signed, Nat.shiftLeft_eq, Nat.pow_zero, Nat.mul_one]
  have e : mag (rung x) * 2 ^ (-1074 + ((sh (rung x) : Nat) : Int)).toNat / 2 ^ (-(-1074 + ((sh (rung x) : Nat) : Int))).toNat = wn (rung x) := by
    unfold wn
    by_cases c : 1074 ≤ sh (rung x)
    · rw [if_pos c, show (-1074 + ((sh (rung x) : Nat) : Int)).toNat = sh (rung x) - 1074 by omega, show (-(-1074 + ((sh (rung x) : Nat) : Int))).toNat = 0 by omega, Nat.pow_zero, Nat.div_one]
    · rw [if_neg c, show (-1074 + ((sh (rung x) : Nat) : Int)).toNat = 0 by omega, show (-(-1074 + ((sh (rung x) : Nat) : Int))).toNat = 1074 - sh (rung x) by omega, Nat.pow_zero, Nat.mul_one]
  rw [e]


theorem wn_lt {r : Nat} (h : r < 4890909195324358656) : wn r < 9223372036854775808 := by
  have hm := mag_lt r
  unfold wn
  split
  · rename_i c
    have h1 : sh r ≤ 1084 := by unfold sh; omega
    have h2 : 2 ^ (sh r - 1074) ≤ 2 ^ 10 := Nat.pow_le_pow_right (by omega) (by omega)
    have h3 : mag r * 2 ^ (sh r - 1074) ≤ mag r * 2 ^ 10 := Nat.mul_le_mul_left _ h2
    omega
  · have := Nat.div_le_self (mag r) (2 ^ (1074 - sh r)); omega
theorem wn_end : wn 4890909195324358656 = 9223372036854775808 := by decide


theorem conv_val {x : Nat} (hx : x < 18446744073709551616) (h : rung x < 4890909195324358656 ∨ (rung x = 4890909195324358656 ∧ negB x = true)) :
    floatToIntVal .f64 x .i64 = some (if negB x then -(wn (rung x) : Int) else wn (rung x)) := by
  unfold floatToIntVal
  rw [toInt_zero hx (by omega)]
  simp only
  rw [if_pos]
  rw [show IntKind.i64.min = -9223372036854775808 from rfl, show IntKind.i64.max = 9223372036854775807 from rfl]
  rcases h with h | ⟨h, hn⟩
  · have := wn_lt h; split <;> omega
  · rw [h, wn_end, hn]; simp




theorem key_le (x : Nat) : key x ≤ rung x := by unfold key; split <;> omega
theorem whole_walk {x : Nat} (hx : x < 18446744073709551616) (w : World) :
    Calls Tryz.prog 80 #[.float .f64 x] w fun e w' => e = .returned (.int .i64 (wholeI x)) ∧ w' = w := by
  cases hn : nanB x
  · have big : Hid (4890909195324358656 ≤ key x → wholeI x = 9223372036854775807) := by
      intro c1
      unfold wholeI; rw [hn]
      unfold key at c1
      cases hs : negB x <;> rw [hs] at c1 <;> simp only [Bool.false_eq_true, if_false, if_true] at c1 ⊢
      · rw [if_pos (by omega)]
      · omega
    have low : Hid (key x < -4890909195324358656 → wholeI x = -9223372036854775808) := by
      intro c2
      unfold wholeI; rw [hn]
      unfold key at c2
      cases hs : negB x <;> rw [hs] at c2 <;> simp only [Bool.false_eq_true, if_false, if_true] at c2 ⊢
      · omega
      · rw [if_pos (by omega)]
    have mid : Hid (key x < 4890909195324358656 → -4890909195324358656 ≤ key x → ∀ w : World, (convert 51 2 (.float .f64 x)).run Tryz.prog w = .ok (.int .i64 (wholeI x)) w) := by
      intro c1 c2
      have hk : rung x < 4890909195324358656 ∨ (rung x = 4890909195324358656 ∧ negB x = true) := by
        unfold key at c1 c2
        cases hs : negB x <;> rw [hs] at c1 c2 <;> simp only [Bool.false_eq_true, if_false, if_true] at c1 c2 ⊢
        · left; omega
        · by_cases c : rung x = 4890909195324358656
          · right; exact ⟨c, trivial⟩
          · left; omega
      have hv := conv_val hx hk
      have hw : wholeI x = if negB x then -(wn (rung x) : Int) else wn (rung x) := by
        unfold wholeI; rw [hn]
        simp only [Bool.false_eq_true, if_false]
        rcases hk with hk | ⟨hk, hs⟩
        · rw [if_neg (by omega)]
        · rw [if_pos (by omega), hs, hk, wn_end]; rfl
      rw [← hw] at hv
      exact fun w => run_convert_float_int w 51 2 .f64 .i64 x _ (by rw [Tryz.underlying51]; rfl) Tryz.underlying2 hv
    rcases order_cases (y := 4890909195324358656) hx (by omega) hn (by decide) (c := 4890909195324358656) (by decide) with ⟨h1, k1⟩ | ⟨h1, k1⟩ | ⟨h1, k1⟩
    · rcases order_cases (y := 14114281232179134464) hx (by omega) hn (by decide) (c := -4890909195324358656) (by decide) with ⟨h2, k2⟩ | ⟨h2, k2⟩ | ⟨h2, k2⟩
      · clear k1
        go_enter Tryz.func80, Tryz.ntmps80
        go_wp2_with fail
        refine (isNaN_walk hx _).mono ?_
        rintro e w' ⟨rfl, rfl⟩
        go_wp2_with fail
        go_ret
        exact ⟨ret_int (low k2).symm, rfl⟩
      · have hr := mid k1 (by omega)
        clear k1 k2
        go_enter Tryz.func80, Tryz.ntmps80
        go_wp2_with fail
        refine (isNaN_walk hx _).mono ?_
        rintro e w' ⟨rfl, rfl⟩
        go_wp2_with fail
        go_ret
        exact ⟨rfl, rfl⟩
      · have hr := mid k1 (by omega)
        clear k1 k2
        go_enter Tryz.func80, Tryz.ntmps80
        go_wp2_with fail
        refine (isNaN_walk hx _).mono ?_
        rintro e w' ⟨rfl, rfl⟩
        go_wp2_with fail
        go_ret
        exact ⟨rfl, rfl⟩
    · have k := big (by omega)
      have K : Hid (wholeI x = 9223372036854775807) := k
      clear k k1
      go_enter Tryz.func80, Tryz.ntmps80
      go_wp2_with fail
      refine (isNaN_walk hx _).mono ?_
      rintro e w' ⟨rfl, rfl⟩
      go_wp2_with fail
      go_ret
      exact ⟨ret_int (Eq.symm K), rfl⟩
    · have k := big (by omega)
      have K : Hid (wholeI x = 9223372036854775807) := k
      clear k k1
      go_enter Tryz.func80, Tryz.ntmps80
      go_wp2_with fail
      refine (isNaN_walk hx _).mono ?_
      rintro e w' ⟨rfl, rfl⟩
      go_wp2_with fail
      go_ret
      exact ⟨ret_int (Eq.symm K), rfl⟩
  · go_enter Tryz.func80, Tryz.ntmps80
    go_wp2_with fail
    refine (isNaN_walk hx _).mono ?_
    rintro e w' ⟨rfl, rfl⟩
    go_wp2_with fail
    go_ret
    exact ⟨ret_int (by unfold wholeI; rw [hn]; rfl), rfl⟩


end Go.Proofs.YtopjedgknbbgkaaGreat

namespace Go.Proofs.YtopjedgknbbgkaaGreat

open Ieee Go.RowKit



/-- A value: whether there is one, and its bits. -/
structure Vl where
  h : Bool
  b : Nat


def Vl.ok (v : Vl) : Prop := v.b < 18446744073709551616


def noV : Vl := ⟨false, 0⟩


def knownB (k : Int) : Bool := decide (1 ≤ k) && decide (k ≤ 4)


def wholeU (x : Nat) : Nat := (IntKind.u64.wrap (wholeI x)).toNat


def ofV (k : Int) (x : Nat) : Vl := if k = 1 then ⟨true, 1⟩ else if k = 2 then ⟨true, wholeU x⟩ else if k = 3 ∨ k = 4 then ⟨true, canonW x⟩ else noV


def fitV (k : Int) (v : Vl) : Vl := if v.h = false then noV else if k = 1 ∨ k = 2 then v else if k = 3 ∨ k = 4 then ⟨true, canonW v.b⟩ else noV


/-- Two fit values put together. -/
def joinV (k : Int) (a b : Vl) : Vl :=
  if a.h = false then b else if b.h = false then a else if k = 3 then ⟨true, leastW a.b b.b⟩ else if k = 4 then ⟨true, mostW a.b b.b⟩ else ⟨true, (a.b + b.b) % 18446744073709551616⟩


def mergeV (k : Int) (a b : Vl) : Vl := joinV k (fitV k a) (fitV k b)


theorem wholeU_lt (x : Nat) : wholeU x < 18446744073709551616 := by
  unfold wholeU
  rw [IntKind.wrap_u64]
  omega


theorem wholeU_eq (x : Nat) : ((wholeU x : Nat) : Int) = IntKind.u64.wrap (wholeI x) := by
  unfold wholeU
  rw [IntKind.wrap_u64]
  omega


theorem noV_ok : noV.ok := by show 0 < 18446744073709551616; omega


theorem ofV_ok (k : Int) {x : Nat} (hx : x < 18446744073709551616) : (ofV k x).ok := by
  unfold ofV
  split
  · show 1 < 18446744073709551616; omega
  split
  · exact wholeU_lt x
  split
  · exact canon_lt hx
  · exact noV_ok


theorem fitV_ok (k : Int) {v : Vl} (hv : v.ok) : (fitV k v).ok := by
  unfold fitV
  split
  · exact noV_ok
  split
  · exact hv
  split
  · exact canon_lt hv
  · exact noV_ok


theorem leastW_lt {a b : Nat} (ha : a < 18446744073709551616) (hb : b < 18446744073709551616) : leastW a b < 18446744073709551616 := by
  unfold leastW
  split
  · exact canon_lt ha
  · exact canon_lt hb


theorem mostW_lt {a b : Nat} (ha : a < 18446744073709551616) (hb : b < 18446744073709551616) : mostW a b < 18446744073709551616 := by
  unfold mostW
  split
  · exact canon_lt ha
  · exact canon_lt hb


theorem joinV_ok (k : Int) {a b : Vl} (ha : a.ok) (hb : b.ok) : (joinV k a b).ok := by
  unfold joinV
  split
  · exact hb
  split
  · exact ha
  split
  · exact leastW_lt ha hb
  split
  · exact mostW_lt ha hb
  · exact Nat.mod_lt _ (by omega)


theorem mergeV_ok (k : Int) {a b : Vl} (ha : a.ok) (hb : b.ok) : (mergeV k a b).ok := joinV_ok k (fitV_ok k ha) (fitV_ok k hb)


theorem canonW_canonW (x : Nat) : canonW (canonW x) = canonW x := by
  unfold canonW
  cases h : nanB x
  · simp [h]
  · rw [if_pos rfl, if_pos (by decide)]


theorem canonW_leastW (a b : Nat) : canonW (leastW a b) = leastW a b := by
  unfold leastW
  split <;> exact canonW_canonW _


theorem canonW_mostW (a b : Nat) : canonW (mostW a b) = mostW a b := by
  unfold mostW
  split <;> exact canonW_canonW _


theorem known_kind {k : Int} : knownB k = true ↔ k = 1 ∨ k = 2 ∨ k = 3 ∨ k = 4 := by
  unfold knownB
  simp
  omega


theorem unknown_kind {k : Int} (h : knownB k = false) : k ≠ 1 ∧ k ≠ 2 ∧ k ≠ 3 ∧ k ≠ 4 := by
  unfold knownB at h
  simp at h
  omega
end Go.Proofs.YtopjedgknbbgkaaGreat

namespace Go.Proofs.YtopjedgknbbgkaaGreat

open Ieee Go.RowKit



attribute [local go_sem] run_bits run_frombits




/-- The exponent's bits and the fraction. -/
def eB (x : Nat) : Nat := rung x / 4503599627370496
def fB (x : Nat) : Nat := x % 4503599627370496


theorem eB_bits {x : Nat} (hx : x < 18446744073709551616) : bits .and .u64 ((x : Int) / 4503599627370496) 2047 = eB x := by
  have h := bits_and_u64_nat (x / 4503599627370496) 2047 (by omega) (by omega)
  rw [show (2047 : Nat) = 2 ^ 11 - 1 from rfl, Nat.and_two_pow_sub_one_eq_mod] at h
  have e : ((x / 4503599627370496 : Nat) : Int) = (x : Int) / 4503599627370496 := by omega
  rw [e] at h
  rw [show ((2 ^ 11 - 1 : Nat) : Int) = 2047 from rfl] at h
  rw [h]
  unfold eB rung
  omega
theorem fB_bits {x : Nat} (hx : x < 18446744073709551616) : bits .and .u64 (x : Int) 4503599627370495 = fB x := by
  have h := bits_and_u64_nat x 4503599627370495 hx (by omega)
  rw [show (4503599627370495 : Nat) = 2 ^ 52 - 1 from rfl, Nat.and_two_pow_sub_one_eq_mod] at h
  rw [show ((2 ^ 52 - 1 : Nat) : Int) = 4503599627370495 from rfl] at h
  rw [h]
  rfl
theorem eB_le (x : Nat) : eB x ≤ 2047 := by have := rung_lt x; unfold eB; omega




theorem rung_parts {x : Nat} : rung x = eB x * 4503599627370496 + fB x ∧ fB x < 4503599627370496 := by
  unfold eB fB rung; omega




theorem class_nan (x : Nat) : classI x = 5 ↔ nanB x = true := by
  unfold classI
  cases nanB x
  · simp only [Bool.false_eq_true, if_false, iff_false]; (repeat' split) <;> omega
  · simp
theorem class_not_nan {x : Nat} (h : nanB x = false) : ¬ classI x = 5 := fun k => by rw [(class_nan x).1 k] at h; cases h












end Go.Proofs.YtopjedgknbbgkaaGreat

namespace Go.Proofs.YtopjedgknbbgkaaGreat

open Ieee



/-- A magnitude that is not nought as 'nM * 2 ^ (nE - 1075)', nM of 53 bits. -/
def nM (r : Nat) : Nat := if r < 4503599627370496 then r * 2 ^ (52 - r.log2) else mag r
def nE (r : Nat) : Int := if r < 4503599627370496 then (r.log2 : Int) - 51 else ((r / 4503599627370496 : Nat) : Int)
/-- The word of 'M * 2 ^ (e - 1075)', M of 53 bits, rounded once. -/
def scaleW (s : Bool) (M : Nat) (e : Int) : Nat :=
  if 2047 ≤ e then Ieee.double.word s 9218868437227405312 else if 1 ≤ e then Ieee.double.word s ((e - 1).toNat * 4503599627370496 + M) else Ieee.double.word s (rhe M (1 - e).toNat)
def scaleR (x : Nat) (n : Int) : Nat :=
  if nanB x then 9221120237041090561 else if rung x = 9218868437227405312 ∨ rung x = 0 then x else scaleW (negB x) (nM (rung x)) (nE (rung x) + n)


theorem log2_sub {r : Nat} (h0 : r ≠ 0) (h : r < 4503599627370496) : r.log2 < 52 := by rw [Nat.log2_lt h0]; exact h
theorem nM_ge {r : Nat} (h0 : r ≠ 0) : 4503599627370496 ≤ nM r := by
  unfold nM; split
  · rename_i h
    have h1 := Nat.log2_self_le h0
    have h2 := log2_sub h0 h
    have h3 : 2 ^ r.log2 * 2 ^ (52 - r.log2) ≤ r * 2 ^ (52 - r.log2) := Nat.mul_le_mul_right _ h1
    rw [← Nat.pow_add, show r.log2 + (52 - r.log2) = 52 by omega] at h3
    exact h3
  · unfold mag; split <;> omega
theorem nM_lt {r : Nat} (h0 : r ≠ 0) : nM r < 9007199254740992 := by
  unfold nM; split
  · rename_i h
    have h1 := @Nat.lt_log2_self r
    have h2 := log2_sub h0 h
    have h3 : r * 2 ^ (52 - r.log2) < 2 ^ (r.log2 + 1) * 2 ^ (52 - r.log2) := Nat.mul_lt_mul_of_pos_right h1 (Nat.two_pow_pos _)
    rw [← Nat.pow_add, show r.log2 + 1 + (52 - r.log2) = 53 by omega] at h3
    exact h3
  · exact mag_lt r
theorem nE_range {r : Nat} (h0 : r ≠ 0) (h : r < 9218868437227405312) : -51 ≤ nE r ∧ nE r ≤ 2046 := by
  unfold nE; split
  · rename_i h
    have h2 := log2_sub h0 h; omega
  · omega


theorem log2_norm {M : Nat} (h1 : 4503599627370496 ≤ M) (h2 : M < 9007199254740992) : M.log2 = 52 := by
  have hne : M ≠ 0 := by omega
  apply Nat.le_antisymm
  · have : M.log2 < 53 := by rw [Nat.log2_lt hne]; exact h2
    omega
  · rw [Nat.le_log2 hne]; exact h1


theorem rhe_le (M d : Nat) : rhe M d ≤ M / 2 ^ d + 1 := by unfold rhe; split <;> omega
theorem rhe_small {M d : Nat} (h : 2 * M < 2 ^ d) : rhe M d = 0 := by
  unfold rhe
  rw [Nat.div_eq_of_lt (by omega), Nat.mod_eq_of_lt (by omega), if_neg (by omega)]


/-- The magnitude with fraction M of 53 bits and exponent's bits E. -/
theorem mag_of {M E : Nat} (h1 : 4503599627370496 ≤ M) (h2 : M < 9007199254740992) (hE : 1 ≤ E) : mag (E * 4503599627370496 + (M - 4503599627370496)) = M ∧ sh (E * 4503599627370496 + (M - 4503599627370496)) = E - 1 := by
  unfold mag sh
  constructor
  · rw [if_neg (by omega)]; omega
  · omega


theorem nearest_norm (s : Bool) {M E : Nat} (h1 : 4503599627370496 ≤ M) (h2 : M < 9007199254740992) (hE : 1 ≤ E) (hE2 : E ≤ 2046) :
    Ieee.double.nearest s M ((E : Int) - 1075) = Ieee.double.word s (E * 4503599627370496 + (M - 4503599627370496)) := by
  have h := nearest_rung s (r := E * 4503599627370496 + (M - 4503599627370496)) (by omega)
  obtain ⟨e1, e2⟩ := mag_of h1 h2 hE
  rw [e1, e2] at h
  rw [← h, show (E : Int) - 1075 = -1074 + ((E - 1 : Nat) : Int) by omega]


theorem nearest_sub (s : Bool) {M : Nat} {e : Int} (h1 : 4503599627370496 ≤ M) (h2 : M < 9007199254740992) (he : e ≤ 0) :
    Ieee.double.nearest s M (e - 1075) = Ieee.double.word s (rhe M (1 - e).toNat) := by
  rw [nearest_eq s (by omega)]
  have e4 : lastP M (e - 1075) = -1074 := by unfold lastP; rw [log2_norm h1 h2]; omega
  rw [e4, show ((-1074 : Int) + 1074).toNat = 0 from rfl, show (e - 1075 - -1074).toNat = 0 by omega, show (-1074 - (e - 1075)).toNat = (1 - e).toNat by omega, Nat.pow_zero, Nat.mul_one, Nat.zero_mul, Nat.zero_add]
  have := rhe_le M (1 - e).toNat
  have := Nat.div_le_self M (2 ^ (1 - e).toNat)
  rw [Nat.min_eq_left (by omega)]


theorem word_add (s : Bool) (r : Nat) : Ieee.double.word s r = (if s then 9223372036854775808 else 0) + r := by
  unfold Format.word; rw [sw]; cases s <;> simp


theorem read_word (s : Bool) {r : Nat} (h : r < 9218868437227405312) : Ieee.double.read (Ieee.double.word s r) = .number s (mag r) (-1074 + (sh r : Nat)) := by
  have h1 := rung_word s (r := r) (by omega)
  rw [read_num (word_lt64 s (by omega)) (by omega), h1, neg_word s (by omega)]


/-- A product with a power of two. -/
theorem mul_word (s : Bool) {r m : Nat} {p : Int} (hr : r < 9218868437227405312) (hm : Ieee.double.read m = .number false 4503599627370496 p) :
    Ieee.double.mul m (Ieee.double.word s r) = some (Ieee.double.nearest s (mag r) (-1074 + (sh r : Nat) + p + 52)) := by
  unfold Format.mul
  rw [read_word s hr, hm]
  simp only [Datum.product, Option.map_some, Format.write, Bool.false_bne]
  congr 1
  have := nearest_scale s (mag r) (-1074 + (sh r : Nat) + p + 52) 52
  rw [← this, Nat.mul_comm, show (2 ^ 52 : Nat) = 4503599627370496 from rfl]
  congr 1
  omega


theorem mul_word' (s : Bool) {r m : Nat} {p : Int} (hr : r < 9218868437227405312) (hm : Ieee.double.read m = .number false 4503599627370496 p) :
    Ieee.double.mul (Ieee.double.word s r) m = some (Ieee.double.nearest s (mag r) (-1074 + (sh r : Nat) + p + 52)) := by
  rw [← mul_word s hr hm]
  unfold Format.mul
  rw [read_word s hr, hm]
  simp only [Datum.product]
  rw [Nat.mul_comm, Int.add_comm, Bool.xor_comm]


/-- The word that a subnormal one times 2^52 is. -/
def nR (r : Nat) : Nat := if r < 4503599627370496 then (r.log2 + 1) * 4503599627370496 + (nM r - 4503599627370496) else r
theorem nR_mag {r : Nat} (h0 : r ≠ 0) : mag (nR r) = nM r := by
  unfold nR; split
  · exact (mag_of (nM_ge h0) (nM_lt h0) (by omega)).1
  · unfold nM; rw [if_neg (by assumption)]
def nD (r : Nat) : Int := if r < 4503599627370496 then -52 else 0
theorem nR_exp {r : Nat} (h0 : r ≠ 0) : ((nR r / 4503599627370496 : Nat) : Int) + nD r = nE r := by
  have h1 := nM_ge h0; have h2 := nM_lt h0
  unfold nR nE nD; split
  · have : ((r.log2 + 1) * 4503599627370496 + (nM r - 4503599627370496)) / 4503599627370496 = r.log2 + 1 := by omega
    rw [this]; omega
  · omega
theorem nR_range {r : Nat} (h0 : r ≠ 0) (h : r < 9218868437227405312) : 4503599627370496 ≤ nR r ∧ nR r < 9218868437227405312 := by
  have h1 := nM_ge h0; have h2 := nM_lt h0
  unfold nR; split
  · rename_i h; have := log2_sub h0 h; omega
  · omega


theorem read52 : Ieee.double.read 4841369599423283200 = .number false 4503599627370496 0 := by decide
theorem read1 : Ieee.double.read 4607182418800017408 = .number false 4503599627370496 (-52) := by decide
theorem readm53 : Ieee.double.read 4368491638549381120 = .number false 4503599627370496 (-105) := by decide


theorem mul_sub (s : Bool) {r : Nat} (h0 : r ≠ 0) (h : r < 4503599627370496) :
    Ieee.double.mul (Ieee.double.word s r) 4841369599423283200 = some (Ieee.double.word s (nR r)) := by
  rw [mul_word' s (by omega) read52]
  have e1 : mag r = r := by unfold mag; rw [if_pos h]
  have e2 : sh r = 0 := by unfold sh; omega
  have hl := log2_sub h0 h
  have h1 := nM_ge h0; have h2 := nM_lt h0
  rw [e1, e2]
  congr 1
  have e3 : nR r = (r.log2 + 1) * 4503599627370496 + (nM r - 4503599627370496) := by unfold nR; rw [if_pos h]
  rw [e3, ← nearest_norm s h1 h2 (by omega) (by omega)]
  have e4 : nM r = r * 2 ^ (52 - r.log2) := by unfold nM; rw [if_pos h]
  rw [e4, ← nearest_scale s r (-1074 + ((0 : Nat) : Int) + 0 + 52) (52 - r.log2)]
  congr 1
  omega


end Go.Proofs.YtopjedgknbbgkaaGreat

namespace Go.Proofs.YtopjedgknbbgkaaGreat

open Ieee Go.RowKit



def floorW (x : Nat) : Nat := if nanB x then 9221120237041090561 else Ieee.double.write ((Ieee.double.read x).integral .down)


theorem toIntegral_eq (name : String) (way : Toward) (x : Nat) : Extern.MathFloor.toIntegral name way #[.float .f64 x] =
    (match Ieee.double.read x with
    | .nan s t =>
      if Ieee.double.quiet t = t then pure (.float .f64 x) else do
      let kept ← choose (.extern "math.Floor,Ceil,Trunc,RoundToEven.signallingNaN kept" 2)
      pure (.float .f64 (if kept == 1 then x else Ieee.double.write (.nan s (Ieee.double.quiet t))))
    | d => pure (.float .f64 (Ieee.double.write (d.integral way)))) := rfl


theorem archFloor_num {x : Nat} (hx : x < 18446744073709551616) (hn : nanB x = false) (w : World) :
    (callFunc 145 #[.float .f64 x]).run Tryz.prog w = .ok (.value (.float .f64 (floorW x))) w := by
  rw [run_callFunc_extern (e := Extern.MathFloor.toIntegral "math.archFloor" .down) Tryz.func145 (by kernel_rfl) (by kernel_rfl) (by kernel_rfl) (by kernel_rfl)]
  have hr := nan_f hn
  rw [toIntegral_eq]
  unfold floorW
  rw [hn]
  simp only [Bool.false_eq_true, if_false]
  by_cases h : rung x = 9218868437227405312
  · rw [read_inf hx h]; rfl
  · rw [read_num hx (by omega)]; rfl


theorem quiet_ne (t : Nat) : Ieee.double.quiet t % 4503599627370496 ≠ 0 := by
  intro h
  have h2 : (Ieee.double.quiet t % 2 ^ 52).testBit 51 = true := by
    rw [Nat.testBit_mod_two_pow]
    unfold Format.quiet
    rw [Nat.testBit_or, show Ieee.double.fractionBits - 1 = 51 from rfl, Nat.testBit_two_pow_self]
    simp
  rw [show (2 ^ 52 : Nat) = 4503599627370496 from rfl, h] at h2
  simp at h2


theorem archFloor_nan {x : Nat} (hx : x < 18446744073709551616) (hn : nanB x = true) (w : World) :
    ∃ y n, y < 18446744073709551616 ∧ nanB y = true ∧ (callFunc 145 #[.float .f64 x]).run Tryz.prog w = .ok (.value (.float .f64 y)) (w.drewN n) := by
  rw [run_callFunc_extern (e := Extern.MathFloor.toIntegral "math.archFloor" .down) Tryz.func145 (by kernel_rfl) (by kernel_rfl) (by kernel_rfl) (by kernel_rfl)]
  have hr := nan_t hn
  rw [toIntegral_eq, read_nan hx hr]
  generalize rung x - 9218868437227405312 = t
  simp only
  by_cases hq : Ieee.double.quiet t = t
  · rw [if_pos hq]
    exact ⟨x, 0, hx, hn, rfl⟩
  · rw [if_neg hq]
    have hb := quiet_ne t
    have hl : Ieee.double.quiet t % 4503599627370496 < 4503599627370496 := Nat.mod_lt _ (by omega)
    have hy : nanB (Ieee.double.write (.nan (negB x) (Ieee.double.quiet t))) = true ∧ Ieee.double.write (.nan (negB x) (Ieee.double.quiet t)) < 18446744073709551616 := by
      unfold Format.write
      simp only [ir, bn]
      refine ⟨?_, word_lt64 _ (by omega)⟩
      unfold nanB
      rw [rung_word _ (by omega)]
      simp; omega
    generalize Ieee.double.write (.nan (negB x) (Ieee.double.quiet t)) = y at hy
    simp only [Sem.run_bind, run_choose_drew]
    split
    · simp only [Result.andThen, Sem.run_pure]
      split
      · exact ⟨x, 0, hx, hn, rfl⟩
      · exact ⟨y, 0, hy.2, hy.1, rfl⟩
    · simp only [Result.andThen, Sem.run_pure]
      split
      · exact ⟨x, 1, hx, hn, rfl⟩
      · exact ⟨y, 1, hy.2, hy.1, rfl⟩


theorem floorW_nan {x : Nat} (hx : x < 18446744073709551616) (hn : nanB x = false) : nanB (floorW x) = false ∧ floorW x < 18446744073709551616 := by
  have hr := nan_f hn
  unfold floorW
  rw [hn]
  simp only [Bool.false_eq_true, if_false]
  by_cases h : rung x = 9218868437227405312
  · rw [read_inf hx h]
    simp only [Datum.integral, Format.write, ir]
    exact ⟨by unfold nanB; rw [rung_word _ (by omega)]; rfl, word_lt64 _ (by omega)⟩
  · rw [read_num hx (by omega)]
    simp only [Datum.integral, Format.write]
    exact ⟨nearest_nan _ _ _, nearest_lt64 _ _ _⟩


theorem mfloor_num {x : Nat} (hx : x < 18446744073709551616) (hn : nanB x = false) (w : World) :
    Calls Tryz.prog 132 #[.float .f64 x] w fun e w' => e = .returned (.float .f64 (floorW x)) ∧ w' = w := by
  have h := archFloor_num hx hn
  go_enter Tryz.func132, Tryz.ntmps132
  go_wp2_with fail
  go_ret
  exact ⟨rfl, rfl⟩


set_option maxRecDepth 8000 in
theorem mfloor_nan {x : Nat} (hx : x < 18446744073709551616) (hn : nanB x = true) (w : World) :
    Calls Tryz.prog 132 #[.float .f64 x] w fun e w' => ∃ y n, e = .returned (.float .f64 y) ∧ y < 18446744073709551616 ∧ nanB y = true ∧ w' = w.drewN n := by
  obtain ⟨y, n, hy, hny, h⟩ := archFloor_nan hx hn w
  go_enter Tryz.func132, Tryz.ntmps132
  go_wp2_with fail
  go_ret
  exact ⟨y, n, rfl, hy, hny, rfl⟩


theorem floor_walk {x : Nat} (hx : x < 18446744073709551616) (w : World) :
    Calls Tryz.prog 109 #[.float .f64 x] w fun e w' => e = .returned (.float .f64 (floorW x)) ∧ ∃ n, w' = w.drewN n := by
  cases hn : nanB x
  · have hf := floorW_nan hx hn
    go_enter Tryz.func109, Tryz.ntmps109
    go_wp2_with fail
    refine (mfloor_num hx hn _).mono ?_
    rintro e w' ⟨rfl, rfl⟩
    go_wp2_with fail
    refine (canon_walk hf.2 _).mono ?_
    rintro e w' ⟨rfl, rfl⟩
    go_wp2_with fail
    go_ret
    exact ⟨ret_float (by unfold canonW; rw [hf.1]; rfl), 0, rfl⟩
  · go_enter Tryz.func109, Tryz.ntmps109
    go_wp2_with fail
    refine (mfloor_nan hx hn _).mono ?_
    rintro e w' ⟨y, n, rfl, hy, hny, rfl⟩
    go_wp2_with fail
    refine (canon_walk hy _).mono ?_
    rintro e w' ⟨rfl, rfl⟩
    go_wp2_with fail
    go_ret
    exact ⟨ret_float (by unfold canonW floorW; rw [hny, hn]; rfl), n, rfl⟩


end Go.Proofs.YtopjedgknbbgkaaGreat

namespace Go.Proofs.YtopjedgknbbgkaaGreat

open Ieee



/-- The float nearest to a whole number. -/
def ofW (n : Int) : Nat := Ieee.double.nearest (decide (n < 0)) n.natAbs 0
theorem nearest_of (n : Int) : FloatKind.f64.nearest n = ofW n := rfl


def pw (n : Nat) : Nat := 2 ^ n
theorem pw_add {n c : Nat} (h : c ≤ n) : pw n = 2 ^ (n - c) * 2 ^ c := by unfold pw; rw [← Nat.pow_add, Nat.sub_add_cancel h]
theorem pw_sub {n c : Nat} (h : n ≤ c) : 2 ^ c = 2 ^ (c - n) * pw n := by unfold pw; rw [← Nat.pow_add, Nat.sub_add_cancel h]
theorem pw_pos (n : Nat) : 0 < pw n := Nat.two_pow_pos _
/-- How many of the least steps make 1. -/
def UU : Nat := pw 1074
theorem UU_pos : 0 < UU := pw_pos _
theorem UU_low {c : Nat} (h : c ≤ 1074) : UU = 2 ^ (1074 - c) * 2 ^ c := pw_add h
theorem UU_high {c : Nat} (h : 1074 ≤ c) : 2 ^ c = 2 ^ (c - 1074) * UU := pw_sub h


theorem int_word (s : Bool) {M : Nat} (h0 : M ≠ 0) (h : M ≤ 9007199254740992) :
    ∃ r, Ieee.double.nearest s M 0 = Ieee.double.word s r ∧ 4607182418800017408 ≤ r ∧ r ≤ 4845873199050653696 ∧ V r = M * UU := by
  by_cases h1 : M = 9007199254740992
  · refine ⟨4845873199050653696, ?_, by omega, by omega, ?_⟩
    · have e1 := nearest_scale s 4503599627370496 1 1
      have e2 := nearest_norm s (M := 4503599627370496) (E := 1076) (by omega) (by omega) (by omega) (by omega)
      rw [show (4503599627370496 * 2 ^ 1 : Nat) = 9007199254740992 from rfl, show (1 : Int) - ((1 : Nat) : Int) = 0 from rfl] at e1
      rw [h1, e1]
      exact e2
    · rw [h1]
      unfold V
      have hu := UU_high (c := 1075) (by omega)
      rw [show mag 4845873199050653696 = 4503599627370496 by decide, show sh 4845873199050653696 = 1075 by decide, hu, show (1075 - 1074 : Nat) = 1 from rfl, Nat.pow_one]
      omega
  · have hk : M.log2 ≤ 52 := by
      have : M.log2 < 53 := by rw [Nat.log2_lt h0]; omega
      omega
    have l1 := Nat.log2_self_le h0
    have l2 := @Nat.lt_log2_self M
    have m1 : 4503599627370496 ≤ M * 2 ^ (52 - M.log2) := by
      have := Nat.mul_le_mul_right (2 ^ (52 - M.log2)) l1
      rw [← Nat.pow_add, show M.log2 + (52 - M.log2) = 52 by omega] at this
      exact this
    have m2 : M * 2 ^ (52 - M.log2) < 9007199254740992 := by
      have := Nat.mul_lt_mul_of_pos_right l2 (Nat.two_pow_pos (52 - M.log2))
      rw [← Nat.pow_add, show M.log2 + 1 + (52 - M.log2) = 53 by omega] at this
      exact this
    have e2 := nearest_norm s (E := M.log2 + 1023) m1 m2 (by omega) (by omega)
    have e1 := nearest_scale s M 0 (52 - M.log2)
    rw [show (0 : Int) - ((52 - M.log2 : Nat) : Int) = ((M.log2 + 1023 : Nat) : Int) - 1075 by omega] at e1
    obtain ⟨g1, g2⟩ := mag_of (E := M.log2 + 1023) m1 m2 (by omega)
    refine ⟨_, e1.symm.trans e2, by omega, by omega, ?_⟩
    unfold V
    have hu := UU_low (c := M.log2 + 1023 - 1) (by omega)
    rw [show 1074 - (M.log2 + 1023 - 1) = 52 - M.log2 by omega] at hu
    rw [g1, g2, Nat.mul_assoc, ← hu]


theorem wn_V (r : Nat) : wn r = V r / UU := by
  unfold wn V
  split
  · rename_i c
    rw [UU_high c, ← Nat.mul_assoc, Nat.mul_div_cancel _ UU_pos]
  · rename_i c
    rw [UU_low (c := sh r) (by omega), Nat.mul_div_mul_right _ _ (Nat.two_pow_pos _)]


/-- The magnitude of the floor of a number of sign s and magnitude r. -/
def fk (s : Bool) (r : Nat) : Nat := wn r + (if s = true ∧ V r % UU ≠ 0 then 1 else 0)


theorem floor_fk {x : Nat} (hx : x < 18446744073709551616) (h : rung x < 9218868437227405312) :
    floorW x = Ieee.double.nearest (negB x) (fk (negB x) (rung x)) 0 := by
  have hn : nanB x = false := by unfold nanB; simp; omega
  unfold floorW
  rw [hn, read_num hx h]
  simp only [Bool.false_eq_true, if_false, Datum.integral, Format.write, cut_down, Nat.shiftLeft_eq]
  congr 1
  unfold fk wn V
  by_cases c : 1074 ≤ sh (rung x)
  · rw [if_pos c, show (-1074 + ((sh (rung x) : Nat) : Int)).toNat = sh (rung x) - 1074 by omega, show (-(-1074 + ((sh (rung x) : Nat) : Int))).toNat = 0 by omega, Nat.pow_zero, Nat.div_one, Nat.mod_one]
    congr 1
    rw [UU_high (by assumption), ← Nat.mul_assoc, Nat.mul_mod_left]
  · rw [if_neg c, show (-1074 + ((sh (rung x) : Nat) : Int)).toNat = 0 by omega, show (-(-1074 + ((sh (rung x) : Nat) : Int))).toNat = 1074 - sh (rung x) by omega, Nat.pow_zero, Nat.mul_one]
    congr 1
    have e : (mag (rung x) * 2 ^ sh (rung x) % UU ≠ 0) ↔ (mag (rung x) % 2 ^ (1074 - sh (rung x)) ≠ 0) := by
      rw [UU_low (c := sh (rung x)) (by omega), Nat.mul_mod_mul_right]
      have := Nat.two_pow_pos (sh (rung x))
      constructor
      · intro h k; apply h; rw [k, Nat.zero_mul]
      · intro h k
        rcases Nat.mul_eq_zero.1 k with k | k
        · exact h k
        · omega
    simp only [e]


/-- Floats from 2^52 on are whole. -/
theorem floor_big {x : Nat} (hx : x < 18446744073709551616) (h : rung x < 9218868437227405312) (hb : 4841369599423283200 ≤ rung x) : floorW x = x := by
  rw [floor_fk hx h]
  have hs : 1074 ≤ sh (rung x) := by unfold sh; omega
  have e1 : V (rung x) % UU = 0 := by
    unfold V
    rw [UU_high (by assumption), ← Nat.mul_assoc, Nat.mul_mod_left]
  have e2 : fk (negB x) (rung x) = mag (rung x) * 2 ^ (sh (rung x) - 1074) := by
    unfold fk; rw [e1]; simp only [ne_eq, not_true_eq_false, and_false, if_false, Nat.add_zero]
    unfold wn; rw [if_pos hs]
  rw [e2]
  have e3 := nearest_scale (negB x) (mag (rung x)) (-1074 + (sh (rung x) : Nat)) (sh (rung x) - 1074)
  rw [show (-1074 : Int) + (sh (rung x) : Nat) - ((sh (rung x) - 1074 : Nat) : Int) = 0 by omega] at e3
  rw [e3, nearest_rung _ (by omega), word_self hx]


theorem wn_small {r : Nat} (h : r < 4841369599423283200) : wn r < 4503599627370496 := by
  have hm := mag_lt r
  have hs : sh r ≤ 1073 := by unfold sh; omega
  unfold wn
  rw [if_neg (by omega)]
  have : 2 ^ 1 ≤ 2 ^ (1074 - sh r) := Nat.pow_le_pow_right (by omega) (by omega)
  exact Nat.div_lt_of_lt_mul (by have := Nat.mul_le_mul_right 4503599627370496 this; omega)
theorem fk_small (s : Bool) {r : Nat} (h : r < 4841369599423283200) : fk s r ≤ 4503599627370496 := by
  have := wn_small h
  unfold fk; split <;> omega


theorem rhe_mono {a b : Nat} (d : Nat) (h : a ≤ b) : rhe a d ≤ rhe b d := by
  have hq : a / 2 ^ d ≤ b / 2 ^ d := Nat.div_le_div_right h
  have ea := Nat.div_add_mod a (2 ^ d)
  have eb := Nat.div_add_mod b (2 ^ d)
  unfold rhe
  by_cases e : a / 2 ^ d = b / 2 ^ d
  · rw [e] at ea
    have hr : a % 2 ^ d ≤ b % 2 ^ d := by omega
    rw [e]
    by_cases c : 2 ^ d < 2 * (a % 2 ^ d) ∨ 2 ^ d = 2 * (a % 2 ^ d) ∧ b / 2 ^ d % 2 = 1
    · rw [if_pos c, if_pos (by omega)]; exact Nat.le_refl _
    · rw [if_neg c]; omega
  · have := @rhe_le a d
    unfold rhe at this
    omega


/-- The rung of a whole number's float. -/
def rI (M : Nat) : Nat := rung (Ieee.double.nearest false M 0)
theorem nearest_rI (s : Bool) (M : Nat) : Ieee.double.nearest s M 0 = Ieee.double.word s (rI M) := by
  unfold rI
  by_cases hM : M = 0
  · subst hM; rw [nearest_zero, nearest_zero, rung_word false (by omega)]
  · rw [nearest_eq s hM, nearest_eq false hM, rung_word false (by omega)]
theorem rI_le (M : Nat) : rI M ≤ 9218868437227405312 := by
  have := nan_f (nearest_nan false M 0); exact this


theorem rI_eq {M : Nat} (h0 : M ≠ 0) (h : M ≤ 9223372036854775808) : ∃ kept, rI M = (M.log2 + 1022) * 4503599627370496 + kept ∧ 4503599627370496 ≤ kept ∧ kept ≤ 9007199254740992 ∧ kept = rhe (M * 2 ^ (52 - M.log2)) (M.log2 - 52) := by
  have hk : M.log2 ≤ 63 := by
    have : M.log2 < 64 := by rw [Nat.log2_lt h0]; omega
    omega
  have l1 := Nat.log2_self_le h0
  have l2 := @Nat.lt_log2_self M
  have e4 : lastP M 0 = (M.log2 : Int) - 52 := by unfold lastP; omega
  have hb : 4503599627370496 ≤ rhe (M * 2 ^ (52 - M.log2)) (M.log2 - 52) ∧ rhe (M * 2 ^ (52 - M.log2)) (M.log2 - 52) ≤ 9007199254740992 := by
    by_cases c : M.log2 ≤ 52
    · rw [show M.log2 - 52 = 0 by omega, rhe_zero]
      have a1 := Nat.mul_le_mul_right (2 ^ (52 - M.log2)) l1
      have a2 := Nat.mul_lt_mul_of_pos_right l2 (Nat.two_pow_pos (52 - M.log2))
      rw [← Nat.pow_add] at a1 a2
      rw [show M.log2 + (52 - M.log2) = 52 by omega] at a1
      rw [show M.log2 + 1 + (52 - M.log2) = 53 by omega] at a2
      exact ⟨a1, Nat.le_of_lt a2⟩
    · rw [show 52 - M.log2 = 0 by omega, Nat.pow_zero, Nat.mul_one]
      have p : (2 : Nat) ^ M.log2 = 4503599627370496 * 2 ^ (M.log2 - 52) := by
        rw [show (4503599627370496 : Nat) = 2 ^ 52 from rfl, ← Nat.pow_add]; congr 1; omega
      have p1 : (2 : Nat) ^ (M.log2 + 1) = 9007199254740992 * 2 ^ (M.log2 - 52) := by
        rw [show (9007199254740992 : Nat) = 2 ^ 53 from rfl, ← Nat.pow_add]; congr 1; omega
      have q1 : 4503599627370496 ≤ M / 2 ^ (M.log2 - 52) := by
        rw [Nat.le_div_iff_mul_le (Nat.two_pow_pos _)]; omega
      have q2 : M / 2 ^ (M.log2 - 52) < 9007199254740992 := by
        rw [Nat.div_lt_iff_lt_mul (Nat.two_pow_pos _)]; omega
      have := rhe_le M (M.log2 - 52)
      constructor
      · unfold rhe; omega
      · omega
  refine ⟨_, ?_, hb.1, hb.2, rfl⟩
  unfold rI
  rw [nearest_eq false h0, e4, show ((M.log2 : Int) - 52 + 1074).toNat = M.log2 + 1022 by omega, show ((0 : Int) - ((M.log2 : Int) - 52)).toNat = 52 - M.log2 by omega, show ((M.log2 : Int) - 52 - 0).toNat = M.log2 - 52 by omega]
  rw [rung_word false (by omega), Nat.min_eq_left (by omega)]


theorem rI_zero : rI 0 = 0 := by unfold rI; rw [nearest_zero]; exact rung_word false (by omega)
theorem rI_pos {M : Nat} (h0 : M ≠ 0) (h : M ≤ 9223372036854775808) : 0 < rI M := by
  obtain ⟨k, e, k1, _⟩ := rI_eq h0 h; omega
theorem rI_mono {a b : Nat} (h : a ≤ b) (hb : b ≤ 9223372036854775808) : rI a ≤ rI b := by
  by_cases h0 : a = 0
  · subst h0; rw [rI_zero]; omega
  obtain ⟨k, e, k1, k2, k3⟩ := rI_eq h0 (by omega)
  obtain ⟨k', e', k1', k2', k3'⟩ := rI_eq (M := b) (by omega) hb
  have hl : a.log2 ≤ b.log2 := by
    rw [Nat.le_log2 (by omega)]; have := Nat.log2_self_le h0; omega
  by_cases c : a.log2 = b.log2
  · rw [e, e', c]
    have : k ≤ k' := by
      rw [k3, k3', c]
      exact rhe_mono _ (Nat.mul_le_mul_right _ h)
    omega
  · rw [e, e']
    clear k3 k3' e e' h hb h0
    generalize a.log2 = x at *
    generalize b.log2 = y at *
    omega


theorem of_lt (n : Int) : ofW n < 18446744073709551616 := nearest_lt64 _ _ _
theorem of_nan (n : Int) : nanB (ofW n) = false := nearest_nan _ _ _
theorem of_neg (n : Int) : negB (ofW n) = decide (n < 0) := nearest_neg _ _ _
theorem of_rung (n : Int) : rung (ofW n) = rI n.natAbs := by
  unfold ofW; rw [nearest_rI, rung_word _ (by have := rI_le n.natAbs; omega)]
theorem of_key (n : Int) : key (ofW n) = if n < 0 then -(rI n.natAbs : Int) else rI n.natAbs := by
  unfold key; rw [of_neg, of_rung]; simp only [decide_eq_true_eq]
theorem of_key_mono {n m : Int} (h : n ≤ m) (h1 : -9223372036854775808 ≤ n) (h2 : m ≤ 9223372036854775807) : key (ofW n) ≤ key (ofW m) := by
  rw [of_key, of_key]
  by_cases c1 : n < 0
  · rw [if_pos c1]
    by_cases c2 : m < 0
    · rw [if_pos c2]
      have := rI_mono (a := m.natAbs) (b := n.natAbs) (by omega) (by omega); omega
    · rw [if_neg c2]; omega
  · rw [if_neg c1, if_neg (by omega)]
    have := rI_mono (a := n.natAbs) (b := m.natAbs) (by omega) (by omega); omega
theorem of_key_pos {n : Int} (h1 : -9223372036854775808 ≤ n) (h2 : n ≤ 9223372036854775807) : (0 < key (ofW n) ↔ 0 < n) ∧ (key (ofW n) < 0 ↔ n < 0) := by
  rw [of_key]
  by_cases c1 : n < 0
  · rw [if_pos c1]
    have := rI_pos (M := n.natAbs) (by omega) (by omega); omega
  · rw [if_neg c1]
    by_cases c2 : n = 0
    · subst c2; rw [show rI (0 : Int).natAbs = 0 from rI_zero]; omega
    · have := rI_pos (M := n.natAbs) (by omega) (by omega); omega


/-- Whole numbers of at most 2^53 in size are themselves again. -/
theorem of_exact {n : Int} (h : n.natAbs ≤ 9007199254740992) : wholeI (ofW n) = n ∧ floorW (ofW n) = ofW n := by
  by_cases c : n = 0
  · subst c
    have e0 : ofW 0 = 0 := nearest_zero false 0
    have v0 : V 0 = 0 := by decide
    have w0 : wn 0 = 0 := by rw [wn_V, v0, Nat.zero_div]
    have r0 : rung 0 = 0 := rfl
    rw [e0]
    constructor
    · unfold wholeI; rw [r0, w0]; rfl
    · rw [floor_fk (by omega) (by omega), r0]; unfold fk; rw [w0, v0]; exact nearest_zero false 0
  obtain ⟨r, e, r1, r2, hv⟩ := int_word (decide (n < 0)) (M := n.natAbs) (by omega) h
  have e' : ofW n = Ieee.double.word (decide (n < 0)) r := e
  have hr : rung (ofW n) = r := by rw [e']; exact rung_word _ (by omega)
  have hw : wn r = n.natAbs := by rw [wn_V, hv, Nat.mul_div_cancel _ UU_pos]
  constructor
  · unfold wholeI
    rw [of_nan, hr, of_neg, hw, if_neg (by simp), if_neg (by omega)]
    simp only [decide_eq_true_eq]; split <;> omega
  · rw [floor_fk (of_lt n) (by omega), of_neg, hr]
    unfold fk
    rw [hw, hv, Nat.mul_mod_left]
    simp only [ne_eq, not_true_eq_false, and_false, if_false, Nat.add_zero]
    rfl


end Go.Proofs.YtopjedgknbbgkaaGreat

namespace Go.Proofs.YtopjedgknbbgkaaGreat

open Ieee Go.RowKit



theorem mag_parts {x : Nat} (h : 1 ≤ eB x) : mag (rung x) = fB x + 4503599627370496 ∧ sh (rung x) = eB x - 1 := by
  obtain ⟨hp, hf⟩ := @rung_parts x
  unfold mag sh
  rw [hp]
  constructor
  · rw [if_neg (by omega)]; omega
  · omega


theorem whole_low {x : Nat} (hn : nanB x = false) (h : eB x < 1023) : wholeI x = 0 := by
  obtain ⟨hp, hf⟩ := @rung_parts x
  have hw : wn (rung x) = 0 := by
    have hs : sh (rung x) ≤ 1021 := by unfold sh; omega
    have hm := mag_lt (rung x)
    unfold wn
    rw [if_neg (by omega)]
    apply Nat.div_eq_of_lt
    have : 2 ^ 53 ≤ 2 ^ (1074 - sh (rung x)) := Nat.pow_le_pow_right (by omega) (by omega)
    omega
  unfold wholeI
  rw [hn, hw, if_neg (by simp), if_neg (by omega)]
  split <;> rfl


theorem whole_mid {x : Nat} (l1 : 1075 ≤ eB x) (l2 : eB x ≤ 1085) : IntKind.u64.wrap (((fB x : Int) + 4503599627370496) * 2 ^ (eB x - 1075)) = (wn (rung x) : Int) ∧ wn (rung x) < 9223372036854775808 := by
  obtain ⟨hm, hsh⟩ := mag_parts (x := x) (by omega)
  obtain ⟨hp, hf⟩ := @rung_parts x
  have hl := wn_lt (r := rung x) (by omega)
  have hw : wn (rung x) = (fB x + 4503599627370496) * 2 ^ (eB x - 1075) := by
    unfold wn; rw [hm, hsh, if_pos (by omega), show eB x - 1 - 1074 = eB x - 1075 by omega]
  refine ⟨?_, hl⟩
  have e : (((fB x + 4503599627370496) * 2 ^ (eB x - 1075) : Nat) : Int) = ((fB x : Int) + 4503599627370496) * 2 ^ (eB x - 1075) := by
    rw [Int.natCast_mul, Int.natCast_add, Int.natCast_pow]; rfl
  rw [← e, ← hw, IntKind.wrap_u64]
  omega
theorem whole_lo {x : Nat} (l1 : 1023 ≤ eB x) (l2 : eB x ≤ 1074) : ((fB x : Int) + 4503599627370496) / 2 ^ (1075 - eB x) = (wn (rung x) : Int) ∧ wn (rung x) < 9223372036854775808 := by
  obtain ⟨hm, hsh⟩ := mag_parts (x := x) (by omega)
  obtain ⟨hp, hf⟩ := @rung_parts x
  have hl := wn_lt (r := rung x) (by omega)
  have hw : wn (rung x) = (fB x + 4503599627370496) / 2 ^ (1075 - eB x) := by
    unfold wn; rw [hm, hsh, if_neg (by omega), show 1074 - (eB x - 1) = 1075 - eB x by omega]
  refine ⟨?_, hl⟩
  have e : (((fB x + 4503599627370496) / 2 ^ (1075 - eB x) : Nat) : Int) = ((fB x : Int) + 4503599627370496) / 2 ^ (1075 - eB x) := by
    rw [Int.natCast_ediv, Int.natCast_add, Int.natCast_pow]; rfl
  rw [← e, ← hw]
















end Go.Proofs.YtopjedgknbbgkaaGreat
