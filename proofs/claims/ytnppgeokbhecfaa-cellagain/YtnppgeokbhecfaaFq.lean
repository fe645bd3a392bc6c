/- Rounding to a word of binary64, over whole numbers: what 'nearest' gives depends on the number alone, and of a number that is a word's it gives that word. Plain mathematics over the model's floats; no program. -/
import Derived.Test.YtnppgeokbhecfaaFp
namespace Go.Proofs.Ytnppgeokbhecfaa
open Ieee

/-- n / 2^d to the nearest whole number, between two to the even one. -/
def rhe (n d : Nat) : Nat := n / 2 ^ d + (if 2 ^ d < 2 * (n % 2 ^ d) ∨ (2 ^ d = 2 * (n % 2 ^ d) ∧ n / 2 ^ d % 2 = 1) then 1 else 0)

theorem gap_cases (n d : Nat) : (min d (n.log2 + 2) = d) ∨ (n / 2 ^ d = 0 ∧ n % 2 ^ d = n ∧ 2 * n < 2 ^ d ∧ n / 2 ^ min d (n.log2 + 2) = 0 ∧ n % 2 ^ min d (n.log2 + 2) = n ∧ 2 * n < 2 ^ min d (n.log2 + 2)) := by
  by_cases h : d ≤ n.log2 + 2
  · left; omega
  · right
    have e : min d (n.log2 + 2) = n.log2 + 2 := by omega
    rw [e]
    have h1 : n < 2 ^ (n.log2 + 1) := Nat.lt_log2_self
    have h2 : 2 ^ (n.log2 + 2) = 2 * 2 ^ (n.log2 + 1) := by rw [Nat.pow_succ (m := n.log2 + 1)]; omega
    have h3 : 2 ^ (n.log2 + 2) ≤ 2 ^ d := Nat.pow_le_pow_right (by omega) (by omega)
    refine ⟨Nat.div_eq_of_lt (by omega), Nat.mod_eq_of_lt (by omega), by omega, Nat.div_eq_of_lt (by omega), Nat.mod_eq_of_lt (by omega), by omega⟩

theorem cut_even (s : Bool) (n d : Nat) : Toward.even.cut s n d = rhe n d := by
  unfold Toward.cut rhe
  simp only [Nat.one_shiftLeft]
  rcases gap_cases n d with h | ⟨h1, h2, h3, h4, h5, h6⟩
  · rw [h]
    congr 1
    by_cases c : 2 ^ d < 2 * (n % 2 ^ d) ∨ 2 ^ d = 2 * (n % 2 ^ d) ∧ n / 2 ^ d % 2 = 1
    · rw [if_pos c]
      have : (decide (2 ^ d < 2 * (n % 2 ^ d)) || 2 ^ d == 2 * (n % 2 ^ d) && n / 2 ^ d % 2 == 1) = true := by simpa using c
      rw [this]; rfl
    · rw [if_neg c]
      have : (decide (2 ^ d < 2 * (n % 2 ^ d)) || 2 ^ d == 2 * (n % 2 ^ d) && n / 2 ^ d % 2 == 1) = false := by
        rw [Bool.eq_false_iff]; intro hh; apply c; simpa using hh
      rw [this]; rfl
  · rw [h1, h2, h4, h5, if_neg (by omega)]
    have : (decide (2 ^ min d (n.log2 + 2) < 2 * n) || 2 ^ min d (n.log2 + 2) == 2 * n && 0 % 2 == 1) = false := by
      simp; omega
    rw [this]; rfl

theorem cut_zero (s : Bool) (n d : Nat) : Toward.zero.cut s n d = n / 2 ^ d := by
  unfold Toward.cut
  simp only [Nat.one_shiftLeft]
  rcases gap_cases n d with h | ⟨h1, h2, h3, h4, h5, h6⟩
  · rw [h]; rfl
  · rw [h1, h4]; rfl

theorem cut_down (s : Bool) (n d : Nat) : Toward.down.cut s n d = n / 2 ^ d + (if s = true ∧ n % 2 ^ d ≠ 0 then 1 else 0) := by
  unfold Toward.cut
  simp only [Nat.one_shiftLeft]
  have key : ∀ a b : Nat, a + (s && b != 0).toNat = a + (if s = true ∧ b ≠ 0 then 1 else 0) := by
    intro a b
    congr 1
    cases s
    · simp
    · by_cases hb : b = 0 <;> simp [hb]
  rcases gap_cases n d with h | ⟨h1, h2, h3, h4, h5, h6⟩
  · rw [h]; exact key _ _
  · rw [h1, h2, h4, h5]; exact key _ _

theorem rhe_zero (n : Nat) : rhe n 0 = n := by unfold rhe; simp; omega
theorem rhe_scale (n c d : Nat) : rhe (n * 2 ^ c) (d + c) = rhe n d := by
  have hc := Nat.two_pow_pos c
  unfold rhe
  rw [Nat.pow_add, Nat.mul_div_mul_right _ _ hc, Nat.mul_mod_mul_right]
  congr 1
  have e1 : 2 ^ d * 2 ^ c < 2 * (n % 2 ^ d * 2 ^ c) ↔ 2 ^ d < 2 * (n % 2 ^ d) := by
    rw [← Nat.mul_assoc]; exact Nat.mul_lt_mul_right hc
  have e2 : 2 ^ d * 2 ^ c = 2 * (n % 2 ^ d * 2 ^ c) ↔ 2 ^ d = 2 * (n % 2 ^ d) := by
    rw [← Nat.mul_assoc]; exact Nat.mul_left_inj (by omega)
  simp only [e1, e2]
theorem rhe_exact (n c d : Nat) (h : d ≤ c) : rhe (n * 2 ^ c) d = n * 2 ^ (c - d) := by
  have := rhe_scale (n * 2 ^ (c - d)) d 0
  rw [Nat.mul_assoc, ← Nat.pow_add, Nat.sub_add_cancel h, Nat.zero_add, rhe_zero] at this
  exact this

theorem log2_scale {M : Nat} (hM : M ≠ 0) (c : Nat) : (M * 2 ^ c).log2 = M.log2 + c := by
  have h1 := Nat.log2_self_le hM
  have h2 := @Nat.lt_log2_self M
  have hne : M * 2 ^ c ≠ 0 := Nat.mul_ne_zero hM (Nat.ne_of_gt (Nat.two_pow_pos c))
  apply Nat.le_antisymm
  · have : (M * 2 ^ c).log2 < M.log2 + c + 1 := by
      rw [Nat.log2_lt hne]
      have := Nat.mul_lt_mul_of_pos_right h2 (Nat.two_pow_pos c)
      rw [← Nat.pow_add] at this
      rw [show M.log2 + c + 1 = M.log2 + 1 + c by omega]; exact this
    omega
  · rw [Nat.le_log2 hne, Nat.pow_add]
    exact Nat.mul_le_mul_right _ h1

/-- The place of the last digit that is kept. -/
def lastP (M : Nat) (P : Int) : Int := max (P + (M.log2 : Int) - 52) (-1074)

theorem nearest_eq (s : Bool) {M : Nat} (hM : M ≠ 0) (P : Int) :
    Ieee.double.nearest s M P = Ieee.double.word s (min ((lastP M P + 1074).toNat * 4503599627370496 + rhe (M * 2 ^ (P - lastP M P).toNat) (lastP M P - P).toNat) 9218868437227405312) := by
  unfold Format.nearest
  rw [if_neg hM]
  simp only [lp, bn, ir, cut_even, Nat.shiftLeft_eq]
  rw [show ((Ieee.double.fractionBits : Nat) : Int) = 52 from rfl]
  unfold lastP
  rw [show ∀ a : Int, a - -1074 = a + 1074 from fun a => by omega]

theorem nearest_zero (s : Bool) (P : Int) : Ieee.double.nearest s 0 P = Ieee.double.word s 0 := by
  unfold Format.nearest; rw [if_pos rfl]

theorem nearest_scale (s : Bool) (M : Nat) (P : Int) (c : Nat) : Ieee.double.nearest s (M * 2 ^ c) (P - c) = Ieee.double.nearest s M P := by
  by_cases hM : M = 0
  · subst hM; rw [Nat.zero_mul, nearest_zero, nearest_zero]
  have hne : M * 2 ^ c ≠ 0 := Nat.mul_ne_zero hM (Nat.ne_of_gt (Nat.two_pow_pos c))
  rw [nearest_eq s hne, nearest_eq s hM]
  have hl : lastP (M * 2 ^ c) (P - c) = lastP M P := by
    unfold lastP; rw [log2_scale hM]; omega
  rw [hl]
  congr 3
  generalize lastP M P = L
  by_cases h : P ≤ L
  · rw [show (P - c - L).toNat = 0 by omega, show (P - L).toNat = 0 by omega, show (L - (P - c)).toNat = (L - P).toNat + c by omega]
    rw [Nat.pow_zero, Nat.mul_one, Nat.mul_one, rhe_scale]
  · rw [show (L - P).toNat = 0 by omega, rhe_zero]
    by_cases h2 : L ≤ P - c
    · rw [show (L - (P - c)).toNat = 0 by omega, rhe_zero, Nat.mul_assoc, ← Nat.pow_add]
      congr 2; omega
    · rw [show (P - c - L).toNat = 0 by omega, Nat.pow_zero, Nat.mul_one, rhe_exact _ _ _ (by omega)]
      congr 2; omega

theorem word_lt64 (s : Bool) {r : Nat} (h : r < 9223372036854775808) : Ieee.double.word s r < 18446744073709551616 := by
  unfold Format.word; rw [sw]; split <;> omega
theorem rung_word (s : Bool) {r : Nat} (h : r < 9223372036854775808) : rung (Ieee.double.word s r) = r := by
  unfold Format.word rung; rw [sw]; split <;> omega
theorem neg_word (s : Bool) {r : Nat} (h : r < 9223372036854775808) : negB (Ieee.double.word s r) = s := by
  unfold Format.word negB; rw [sw]; cases s <;> simp <;> omega
theorem word_self {x : Nat} (hx : x < 18446744073709551616) : Ieee.double.word (negB x) (rung x) = x := by
  have := rung_of hx
  unfold Format.word; rw [sw, this]
  cases h : negB x
  · rfl
  · have := neg_t h; simp; omega

theorem mag_ne {r : Nat} (h : r ≠ 0) : mag r ≠ 0 := by unfold mag; split <;> omega
theorem log2_mag {r : Nat} (h : 4503599627370496 ≤ r) : (mag r).log2 = 52 := by
  have h1 : 4503599627370496 ≤ mag r := by unfold mag; split <;> omega
  have h2 := mag_lt r
  have hne : mag r ≠ 0 := by omega
  apply Nat.le_antisymm
  · have : (mag r).log2 < 53 := by rw [Nat.log2_lt hne]; exact h2
    omega
  · rw [Nat.le_log2 hne]; exact h1

/-- Of a word's own number 'nearest' gives that word. -/
theorem nearest_rung (s : Bool) {r : Nat} (h : r ≤ 9218868437227405312) : Ieee.double.nearest s (mag r) (-1074 + (sh r : Nat)) = Ieee.double.word s r := by
  by_cases h0 : r = 0
  · subst h0; exact nearest_zero s _
  rw [nearest_eq s (mag_ne h0)]
  by_cases h1 : r < 4503599627370496
  · have e1 : sh r = 0 := by unfold sh; omega
    have e2 : mag r = r := by unfold mag; rw [if_pos h1]
    have e3 : r.log2 < 52 := by rw [Nat.log2_lt h0]; exact h1
    have e4 : lastP r (-1074 + (0 : Nat)) = -1074 := by unfold lastP; omega
    rw [e1, e2, e4]
    simp only [Int.natCast_zero, Int.add_zero, Int.sub_self, Int.toNat_zero, Nat.pow_zero, Nat.mul_one, rhe_zero]
    rw [show ((-1074 : Int) + 1074).toNat = 0 from rfl, Nat.zero_mul, Nat.zero_add, Nat.min_eq_left h]
  · have e3 := log2_mag (r := r) (by omega)
    have e4 : lastP (mag r) (-1074 + (sh r : Nat)) = -1074 + (sh r : Nat) := by unfold lastP; rw [e3]; omega
    rw [e4]
    simp only [Int.sub_self, Int.toNat_zero, Nat.pow_zero, Nat.mul_one, rhe_zero]
    rw [show ((-1074 : Int) + (sh r : Nat) + 1074).toNat = sh r by omega]
    congr 1
    have : sh r * 4503599627370496 + mag r = r := by
      unfold sh mag; rw [if_neg h1]; omega
    rw [this, Nat.min_eq_left h]

theorem nearest_nan (s : Bool) (M : Nat) (P : Int) : nanB (Ieee.double.nearest s M P) = false := by
  by_cases hM : M = 0
  · subst hM; rw [nearest_zero]; unfold nanB; rw [rung_word s (by omega)]; rfl
  · rw [nearest_eq s hM]; unfold nanB; rw [rung_word s (by omega)]; simp; omega
theorem nearest_neg (s : Bool) (M : Nat) (P : Int) : negB (Ieee.double.nearest s M P) = s := by
  by_cases hM : M = 0
  · subst hM; rw [nearest_zero]; exact neg_word s (by omega)
  · rw [nearest_eq s hM]; exact neg_word s (by omega)
theorem nearest_lt64 (s : Bool) (M : Nat) (P : Int) : Ieee.double.nearest s M P < 18446744073709551616 := Ieee.double.nearest_lt s M P

end Go.Proofs.Ytnppgeokbhecfaa
