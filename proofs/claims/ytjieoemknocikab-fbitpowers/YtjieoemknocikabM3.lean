/- FbitPowers: the mathematics of powers up and down, and the roads put together. -/
import Derived.Test.YtjieoemknocikabM1
namespace Go.Proofs.Ytjieoemknocikab
open Ieee Go.RowKit

/-- The rung of a scaled magnitude. -/
def scG (M : Nat) (e : Int) : Nat := if 2047 ≤ e then 9218868437227405312 else if 1 ≤ e then (e - 1).toNat * 4503599627370496 + M else rhe M (1 - e).toNat
theorem scaleW_scG (s : Bool) (M : Nat) (e : Int) : scaleW s M e = Ieee.double.word s (scG M e) := by
  unfold scaleW scG; (repeat' split) <;> rfl
theorem scG_le {M : Nat} (h2 : M < 9007199254740992) (e : Int) : scG M e ≤ 9218868437227405312 := by
  unfold scG
  split
  · omega
  · split
    · omega
    · have := rhe_le M (1 - e).toNat
      have := Nat.div_le_self M (2 ^ (1 - e).toNat)
      omega

theorem scaleW_nearest (s : Bool) {M : Nat} (h1 : 4503599627370496 ≤ M) (h2 : M < 9007199254740992) (e : Int) : scaleW s M e = Ieee.double.nearest s M (e - 1075) := by
  by_cases c1 : e ≤ 0
  · rw [nearest_sub s h1 h2 c1]; unfold scaleW; rw [if_neg (by omega), if_neg (by omega)]
  · by_cases c2 : e ≤ 2046
    · have := nearest_norm s h1 h2 (E := e.toNat) (by omega) (by omega)
      rw [show (e.toNat : Int) - 1075 = e - 1075 by omega] at this
      rw [this]; unfold scaleW
      rw [if_neg (by omega), if_pos (by omega), show (e - 1).toNat * 4503599627370496 + M = e.toNat * 4503599627370496 + (M - 4503599627370496) by omega]
    · rw [nearest_eq s (by omega)]
      have e4 : lastP M (e - 1075) = e - 1075 := by unfold lastP; rw [log2_norm h1 h2]; omega
      rw [e4, Int.sub_self, Int.toNat_zero, Nat.pow_zero, Nat.mul_one, rhe_zero]
      have hm : (e - 1075 + 1074).toNat * 4503599627370496 + M ≥ 9218868437227405312 := by
        have : 2046 * 4503599627370496 ≤ (e - 1075 + 1074).toNat * 4503599627370496 := Nat.mul_le_mul_right _ (by omega)
        omega
      rw [Nat.min_eq_right hm]
      unfold scaleW; rw [if_pos (by omega)]

/-- The number of a magnitude, made normal. -/
theorem nearest_made (s : Bool) {r : Nat} (h0 : r ≠ 0) (j : Int) : Ieee.double.nearest s (mag r) (-1074 + (sh r : Nat) + j) = Ieee.double.nearest s (nM r) (nE r + j - 1075) := by
  by_cases h : r < 4503599627370496
  · have hl := log2_sub h0 h
    have e1 : mag r = r := by unfold mag; rw [if_pos h]
    have e2 : sh r = 0 := by unfold sh; omega
    have e3 : nM r = r * 2 ^ (52 - r.log2) := by unfold nM; rw [if_pos h]
    have e4 : nE r = (r.log2 : Int) - 51 := by unfold nE; rw [if_pos h]
    rw [e1, e2, e3, e4]
    have := nearest_scale s r (-1074 + ((0 : Nat) : Int) + j) (52 - r.log2)
    rw [← this, show (-1074 : Int) + ((0 : Nat) : Int) + j - ((52 - r.log2 : Nat) : Int) = (r.log2 : Int) - 51 + j - 1075 by omega]
  · have e3 : nM r = mag r := by unfold nM; rw [if_neg h]
    have e4 : nE r = ((r / 4503599627370496 : Nat) : Int) := by unfold nE; rw [if_neg h]
    have e5 : ((sh r : Nat) : Int) = ((r / 4503599627370496 : Nat) : Int) - 1 := by unfold sh; omega
    rw [e3, e4, e5, show (-1074 : Int) + (((r / 4503599627370496 : Nat) : Int) - 1) + j = ((r / 4503599627370496 : Nat) : Int) + j - 1075 by omega]

theorem scale_zero {x : Nat} (hx : x < 18446744073709551616) (h0 : rung x ≠ 0) (hi : rung x < 9218868437227405312) : scaleW (negB x) (nM (rung x)) (nE (rung x)) = x := by
  rw [scaleW_nearest _ (nM_ge h0) (nM_lt h0)]
  have := nearest_made (negB x) h0 0
  rw [Int.add_zero, Int.add_zero, nearest_rung _ (by omega), word_self hx] at this
  exact this.symm

theorem add_self {x : Nat} (hx : x < 18446744073709551616) (hi : rung x < 9218868437227405312) :
    FloatKind.f64.format.add x x = some (Ieee.double.nearest (negB x) (mag (rung x)) (-1074 + (sh (rung x) : Nat) + 1)) := by
  show Ieee.double.add x x = _
  unfold Format.add
  rw [read_num hx hi]
  generalize negB x = s
  generalize mag (rung x) = m
  generalize (-1074 + (sh (rung x) : Int)) = p
  simp only [Datum.sum, Option.map_some, Format.write, Int.min_self, Int.sub_self, Int.toNat_zero]
  congr 1
  have e : signed s m 0 + signed s m 0 = if s then -((m * 2 : Nat) : Int) else ((m * 2 : Nat) : Int) := by
    rw [signed_of]; cases s <;> simp <;> omega
  rw [e]
  have hs : (if (if s = true then -((m * 2 : Nat) : Int) else ((m * 2 : Nat) : Int)) = 0 then s && s else decide ((if s = true then -((m * 2 : Nat) : Int) else ((m * 2 : Nat) : Int)) < 0)) = s ∨ m = 0 := by
    by_cases z : m = 0
    · exact .inr z
    · left
      cases s
      · simp; omega
      · simp; omega
  have hab : (if s = true then -((m * 2 : Nat) : Int) else ((m * 2 : Nat) : Int)).natAbs = m * 2 := by split <;> omega
  rw [hab]
  have h3 := nearest_scale s m (p + 1) 1
  rw [Nat.pow_one, show p + 1 - ((1 : Nat) : Int) = p by omega] at h3
  rcases hs with hs | hz
  · rw [hs, h3]
  · rw [hz, Nat.zero_mul, nearest_zero, nearest_zero]
    cases s <;> rfl

theorem add_inf {x : Nat} (hx : x < 18446744073709551616) (h : rung x = 9218868437227405312) : FloatKind.f64.format.add x x = some x := by
  show Ieee.double.add x x = some x
  unfold Format.add
  rw [read_inf hx h]
  simp only [Datum.sum, if_true, Option.map_some, Format.write, ir]
  rw [← h, word_self hx]
theorem add_nan {x : Nat} (hx : x < 18446744073709551616) (h : nanB x = true) : FloatKind.f64.format.add x x = none := by
  show Ieee.double.add x x = none
  unfold Format.add
  rw [read_nan hx (nan_t h)]; rfl

theorem negW_word {x : Nat} (hx : x < 18446744073709551616) : negW x = Ieee.double.word (!negB x) (rung x) := by
  have hl := rung_lt x
  have e : negW x = x ^^^ 2 ^ 63 := rfl
  have hw : x = Ieee.double.word (negB x) (rung x) := (word_self hx).symm
  have h63 : (rung x).testBit 63 = false := Nat.testBit_lt_two_pow hl
  have h1 : 2 ^ 63 + rung x = 2 ^ 63 ||| rung x := by
    have := Nat.two_pow_add_eq_or_of_lt (i := 63) hl 1
    rw [Nat.mul_one] at this; exact this
  rw [e]
  generalize negB x = s at *
  generalize rung x = r at *
  subst hw
  rw [word_add, word_add, show (9223372036854775808 : Nat) = 2 ^ 63 from rfl]
  apply Nat.eq_of_testBit_eq
  intro i
  cases s
  · simp only [Bool.false_eq_true, if_false, Nat.zero_add, Bool.not_false, if_true]
    rw [h1, Nat.testBit_xor, Nat.testBit_or, Nat.testBit_two_pow]
    by_cases hi : 63 = i
    · subst hi; rw [h63]; simp
    · rw [decide_eq_false hi]; simp
  · simp only [if_true, Bool.not_true, Bool.false_eq_true, if_false, Nat.zero_add]
    rw [h1, Nat.testBit_xor, Nat.testBit_or, Nat.testBit_two_pow]
    by_cases hi : 63 = i
    · subst hi; rw [h63]; simp
    · rw [decide_eq_false hi]; simp
theorem negW_props {x : Nat} (hx : x < 18446744073709551616) : negW x < 18446744073709551616 ∧ rung (negW x) = rung x ∧ negB (negW x) = !negB x := by
  have hl := rung_lt x
  rw [negW_word hx]
  exact ⟨word_lt64 _ hl, rung_word _ hl, neg_word _ hl⟩
theorem negW_of_word (s : Bool) {r : Nat} (h : r < 9223372036854775808) : negW (Ieee.double.word s r) = Ieee.double.word (!s) r := by
  rw [negW_word (word_lt64 s h), neg_word s h, rung_word s h]

theorem scaleR_num {x : Nat} (n : Int) (hn : nanB x = false) (h0 : rung x ≠ 0) (hi : rung x ≠ 9218868437227405312) : scaleR x n = Ieee.double.word (negB x) (scG (nM (rung x)) (nE (rung x) + n)) := by
  unfold scaleR
  rw [hn, if_neg (by simp), if_neg (by omega), scaleW_scG]
theorem scaleR_stay {x : Nat} (n : Int) (hn : nanB x = false) (h : rung x = 9218868437227405312 ∨ rung x = 0) : scaleR x n = x := by
  unfold scaleR
  rw [hn, if_neg (by simp), if_pos h]
theorem scaleR_neg {x : Nat} (n : Int) (hx : x < 18446744073709551616) (hn : nanB x = false) : scaleR (negW x) n = negW (scaleR x n) := by
  obtain ⟨p1, p2, p3⟩ := negW_props hx
  have hn' : nanB (negW x) = false := by unfold nanB at *; rw [p2]; exact hn
  by_cases h : rung x = 9218868437227405312 ∨ rung x = 0
  · rw [scaleR_stay n hn h, scaleR_stay n hn' (by rw [p2]; exact h)]
  · have h0 : rung x ≠ 0 := fun k => h (.inr k)
    have hi : rung x ≠ 9218868437227405312 := fun k => h (.inl k)
    have hg := scG_le (nM_lt h0) (nE (rung x) + n)
    rw [scaleR_num n hn h0 hi, scaleR_num n hn' (by rw [p2]; exact h0) (by rw [p2]; exact hi), p2, p3, negW_of_word _ (by omega)]
theorem scaleR_told {x : Nat} (n : Int) (hn : nanB x = false) : nanB (scaleR x n) = false := by
  by_cases h : rung x = 9218868437227405312 ∨ rung x = 0
  · rw [scaleR_stay n hn h]; exact hn
  · have h0 : rung x ≠ 0 := fun k => h (.inr k)
    have hi : rung x ≠ 9218868437227405312 := fun k => h (.inl k)
    have hg := scG_le (nM_lt h0) (nE (rung x) + n)
    rw [scaleR_num n hn h0 hi]
    unfold nanB; rw [rung_word _ (by omega)]; simp; omega

theorem class3 (x : Nat) : classI x = 3 ↔ 4503599627370496 ≤ rung x ∧ rung x < 9218868437227405312 := by
  unfold classI nanB
  simp only [decide_eq_true_eq]
  (repeat' split) <;> omega

/-- Powers up and as many down. -/
theorem scale_back {x : Nat} {n : Int} (hx : x < 18446744073709551616) (c3 : classI x = 3) (c4 : classI (scaleR x n) = 3) (c5 : classI (scaleR (scaleR x n) (-1)) = 3) : scaleR (scaleR x n) (-n) = x := by
  rw [class3] at c3 c4 c5
  have hn : nanB x = false := by unfold nanB; simp; omega
  have h0 : rung x ≠ 0 := by omega
  have hi : rung x ≠ 9218868437227405312 := by omega
  have hy := scaleR_num n hn h0 hi
  have M1 := nM_ge h0
  have M2 := nM_lt h0
  have hg := scG_le M2 (nE (rung x) + n)
  have hnY := scaleR_told n hn
  have rY : rung (scaleR x n) = scG (nM (rung x)) (nE (rung x) + n) := by rw [hy]; exact rung_word _ (by omega)
  have sY : negB (scaleR x n) = negB x := by rw [hy]; exact neg_word _ (by omega)
  rw [rY] at c4
  by_cases e1 : 1 ≤ nE (rung x) + n
  · have e2 : ¬ 2047 ≤ nE (rung x) + n := by
      intro k
      unfold scG at c4; rw [if_pos k] at c4; omega
    have hG : scG (nM (rung x)) (nE (rung x) + n) = (nE (rung x) + n - 1).toNat * 4503599627370496 + nM (rung x) := by unfold scG; rw [if_neg e2, if_pos e1]
    have g1 : nM (scG (nM (rung x)) (nE (rung x) + n)) = nM (rung x) := by
      rw [hG]; generalize nM (rung x) = M at *
      unfold nM mag; rw [if_neg (by omega), if_neg (by omega)]; omega
    have g2 : nE (scG (nM (rung x)) (nE (rung x) + n)) = nE (rung x) + n := by
      rw [hG]; generalize nM (rung x) = M at *
      generalize nE (rung x) = E at *
      unfold nE; rw [if_neg (by omega)]; omega
    rw [scaleR_num (-n) hnY (by rw [rY]; omega) (by rw [rY]; omega), rY, sY, g1, g2, show nE (rung x) + n + -n = nE (rung x) by omega, ← scaleW_scG]
    exact scale_zero hx h0 (by omega)
  · exfalso
    have hG : scG (nM (rung x)) (nE (rung x) + n) = rhe (nM (rung x)) (1 - (nE (rung x) + n)).toNat := by unfold scG; rw [if_neg (by omega), if_neg e1]
    have h1 := rhe_le (nM (rung x)) (1 - (nE (rung x) + n)).toNat
    have h2 : nM (rung x) / 2 ^ (1 - (nE (rung x) + n)).toNat ≤ nM (rung x) / 2 := by
      apply Nat.div_le_div_left _ (by omega)
      have : 2 ^ 1 ≤ 2 ^ (1 - (nE (rung x) + n)).toNat := Nat.pow_le_pow_right (by omega) (by omega)
      omega
    have h3 : scG (nM (rung x)) (nE (rung x) + n) = 4503599627370496 := by rw [hG] at c4 ⊢; omega
    have h5 : scaleR (scaleR x n) (-1) = Ieee.double.word (negB x) 2251799813685248 := by
      rw [scaleR_num (-1) hnY (by rw [rY]; omega) (by rw [rY]; omega), rY, sY, h3]
      have t1 : nM 4503599627370496 = 4503599627370496 := by unfold nM mag; rw [if_neg (by omega), if_neg (by omega)]
      have t2 : nE 4503599627370496 = 1 := by unfold nE; rw [if_neg (by omega)]; rfl
      have t3 : scG 4503599627370496 (1 + -1) = 2251799813685248 := by
        unfold scG; rw [if_neg (by omega), if_neg (by omega)]
        have := rhe_exact 1 52 1 (by omega)
        exact this
      rw [t1, t2, t3]
    rw [h5, rung_word _ (by omega)] at c5
    omega

theorem nz_order {x : Nat} (hx : x < 18446744073709551616) (hn : nanB x = false) (h0 : rung x ≠ 0) : FloatKind.f64.format.order x 0 = some .lt ∨ FloatKind.f64.format.order x 0 = some .gt := by
  have hk : key x ≠ 0 := by unfold key; split <;> omega
  rcases order_cases (y := 0) hx (by omega) hn (by decide) (c := 0) (by decide) with ⟨h1, k1⟩ | ⟨h1, k1⟩ | ⟨h1, k1⟩
  · exact .inl h1
  · exact absurd k1 hk
  · exact .inr h1
theorem self_eq {x : Nat} (hx : x < 18446744073709551616) (hn : nanB x = false) : FloatKind.f64.format.order x x = some .eq := by
  rcases order_cases hx hx hn hn rfl with ⟨o, k⟩ | ⟨o, k⟩ | ⟨o, k⟩
  · omega
  · exact o
  · omega

theorem nan_order0 : FloatKind.f64.format.order 9221120237041090561 9221120237041090561 = none := order_nan_left (by omega) (by decide)
theorem powers_nan {x : Nat} {n : Int} (hx : x < 18446744073709551616) (n1 : -32768 ≤ n) (n2 : n ≤ 32767) (hn : nanB x = true) (w : World) :
    Calls Try.prog 3 #[.float .f64 x, .int .i16 n] w fun e w' => e = .returned (.bool true) ∧ ∃ n, w' = w.drewN n := by
  have q : ∀ m, scaleR x m = 9221120237041090561 := fun m => by unfold scaleR; rw [hn]; rfl
  have hc : canonW x = 9221120237041090561 := by unfold canonW; rw [hn]; rfl
  have c3 : (classI x == 3) = false := by
    rw [beq_eq_false_iff_ne]; intro k
    have := (class3 x).1 k
    have := nan_t hn
    omega
  have o1 : FloatKind.f64.format.order x x = none := order_nan_left hx hn
  have o2 : FloatKind.f64.format.order x 0 = none := order_nan_left hx hn
  exact pw_nan n n1 n2 hx w o1 (add_nan hx hn) (q 0) hc (q 1) (q n) (negW_props hx).1 nan_order0 o2 c3

theorem add_zero_self {x : Nat} (hx : x < 18446744073709551616) (h : rung x = 0) : FloatKind.f64.format.add x x = some x := by
  have h1 := add_self hx (by omega)
  have h2 : Ieee.double.nearest (negB x) (mag (rung x)) (-1074 + (sh (rung x) : Nat) + 1) = x := by
    have hm : mag (rung x) = 0 := by unfold mag; rw [if_pos (by omega)]; exact h
    rw [hm, nearest_zero]
    have := word_self hx
    rw [h] at this; exact this
  rw [h2] at h1; exact h1

theorem powers_stay {x : Nat} {n : Int} (hx : x < 18446744073709551616) (n1 : -32768 ≤ n) (n2 : n ≤ 32767) (hn : nanB x = false) (h : rung x = 9218868437227405312 ∨ rung x = 0) (w : World) :
    Calls Try.prog 3 #[.float .f64 x, .int .i16 n] w fun e w' => e = .returned (.bool true) ∧ ∃ n, w' = w.drewN n := by
  have hX := (negW_props hx).1
  have sx := self_eq hx hn
  have hz := scaleR_neg n hx hn
  have hcx : canonW x = x := by unfold canonW; rw [hn]; rfl
  have yy := self_eq (scaleR_lt n hx) (scaleR_told n hn)
  have s0 : scaleR x 0 = canonW x := by rw [scaleR_stay 0 hn h, hcx]
  have s1 : scaleR x 1 = canonW x := by rw [scaleR_stay 1 hn h, hcx]
  have ha : FloatKind.f64.format.add x x = some x := by
    rcases h with h | h
    · exact add_inf hx h
    · exact add_zero_self hx h
  have c3 : (classI x == 3) = false := by
    rw [beq_eq_false_iff_ne]; intro k
    have := (class3 x).1 k; omega
  by_cases z : rung x = 0
  · have ox0 : FloatKind.f64.format.order x 0 = some .eq := by
      rcases order_cases (y := 0) hx (by omega) hn (by decide) (c := 0) (by decide) with ⟨h1, k1⟩ | ⟨h1, k1⟩ | ⟨h1, k1⟩
      · unfold key at k1; rw [z] at k1; split at k1 <;> omega
      · exact h1
      · unfold key at k1; rw [z] at k1; split at k1 <;> omega
    exact pw_zero n n1 n2 hx w sx hx ha s0 s1 hX hz (scaleR_stay n hn h) ox0 c3
  · rcases nz_order hx hn z with o | o
    · exact pw_other_lt n n1 n2 hx w sx hx ha s0 s1 hX hz yy o c3
    · exact pw_other_gt n n1 n2 hx w sx hx ha s0 s1 hX hz yy o c3

theorem scale_one {x : Nat} (hn : nanB x = false) (h0 : rung x ≠ 0) (hi : rung x ≠ 9218868437227405312) :
    scaleR x 1 = canonW (Ieee.double.nearest (negB x) (mag (rung x)) (-1074 + (sh (rung x) : Nat) + 1)) := by
  have hc : canonW (Ieee.double.nearest (negB x) (mag (rung x)) (-1074 + (sh (rung x) : Nat) + 1)) = Ieee.double.nearest (negB x) (mag (rung x)) (-1074 + (sh (rung x) : Nat) + 1) := by
    unfold canonW; rw [nearest_nan, if_neg (by simp)]
  rw [hc, nearest_made _ h0, scaleR_num 1 hn h0 hi, ← scaleW_scG]
  exact scaleW_nearest _ (nM_ge h0) (nM_lt h0) _
theorem scale_none {x : Nat} (hx : x < 18446744073709551616) (hn : nanB x = false) (h0 : rung x ≠ 0) (hi : rung x ≠ 9218868437227405312) : scaleR x 0 = canonW x := by
  have hcx : canonW x = x := by unfold canonW; rw [hn]; rfl
  have hl := nan_f hn
  rw [hcx, scaleR_num 0 hn h0 hi, Int.add_zero, ← scaleW_scG]
  exact scale_zero hx h0 (by omega)

theorem powers_num {x : Nat} {n : Int} (hx : x < 18446744073709551616) (n1 : -32768 ≤ n) (n2 : n ≤ 32767) (hn : nanB x = false) (h0 : rung x ≠ 0) (hi : rung x ≠ 9218868437227405312) (w : World) :
    Calls Try.prog 3 #[.float .f64 x, .int .i16 n] w fun e w' => e = .returned (.bool true) ∧ ∃ n, w' = w.drewN n := by
  have hX := (negW_props hx).1
  have hl := nan_f hn
  have sx := self_eq hx hn
  have hz := scaleR_neg n hx hn
  have yy := self_eq (scaleR_lt n hx) (scaleR_told n hn)
  have s0 := scale_none hx hn h0 hi
  have ha := add_self hx (by omega)
  have s1 := scale_one hn h0 hi
  have hA := nearest_lt64 (negB x) (mag (rung x)) (-1074 + (sh (rung x) : Nat) + 1)
  have hzo := nz_order hx hn h0
  generalize Ieee.double.nearest (negB x) (mag (rung x)) (-1074 + (sh (rung x) : Nat) + 1) = A at *
  by_cases c3 : classI x = 3
  · by_cases c4 : classI (scaleR x n) = 3
    · by_cases c5 : classI (scaleR (scaleR x n) (-1)) = 3
      · have hb := scale_back hx c3 c4 c5
        exact pw_nc n n1 n2 hx w sx hA ha s0 s1 hX hz c3 c4 c5 hb
      · have c5' : (classI (scaleR (scaleR x n) (-1)) == 3) = false := by rw [beq_eq_false_iff_ne]; exact c5
        rcases hzo with o | o
        · exact pw_nb_lt n n1 n2 hx w sx hA ha s0 s1 hX hz yy o c3 c4 c5'
        · exact pw_nb_gt n n1 n2 hx w sx hA ha s0 s1 hX hz yy o c3 c4 c5'
    · have c4' : (classI (scaleR x n) == 3) = false := by rw [beq_eq_false_iff_ne]; exact c4
      rcases hzo with o | o
      · exact pw_na_lt n n1 n2 hx w sx hA ha s0 s1 hX hz yy o c3 c4'
      · exact pw_na_gt n n1 n2 hx w sx hA ha s0 s1 hX hz yy o c3 c4'
  · have c3' : (classI x == 3) = false := by rw [beq_eq_false_iff_ne]; exact c3
    rcases hzo with o | o
    · exact pw_other_lt n n1 n2 hx w sx hA ha s0 s1 hX hz yy o c3'
    · exact pw_other_gt n n1 n2 hx w sx hA ha s0 s1 hX hz yy o c3'

theorem powers_walk {x : Nat} {n : Int} (hx : x < 18446744073709551616) (n1 : -32768 ≤ n) (n2 : n ≤ 32767) (w : World) :
    Calls Try.prog 3 #[.float .f64 x, .int .i16 n] w fun e w' => e = .returned (.bool true) ∧ ∃ n, w' = w.drewN n := by
  cases hn : nanB x
  · by_cases h0 : rung x = 0
    · exact powers_stay hx n1 n2 hn (.inr h0) w
    · by_cases hi : rung x = 9218868437227405312
      · exact powers_stay hx n1 n2 hn (.inl hi) w
      · exact powers_num hx n1 n2 hn h0 hi w
  · exact powers_nan hx n1 n2 hn w

theorem i16_wf {n : Int} (h : (Lit.int .i16 n).wf = true) : -32768 ≤ n ∧ n ≤ 32767 := by
  have := h
  simp only [Lit.wf, Bool.and_eq_true, decide_eq_true_eq] at this
  exact this
theorem powers_row {x : Nat} {n : Int} (hx : x < 18446744073709551616) (w1 : (Lit.int .i16 n).wf = true) (w : World) :
    Calls Try.prog 3 #[.float .f64 x, .int .i16 n] w fun e w' => e = .returned (.bool true) ∧ ∃ n, w' = w.drewN n :=
  powers_walk hx (i16_wf w1).1 (i16_wf w1).2 w

end Go.Proofs.Ytjieoemknocikab
